import Derived.Test.YtikijkpklneihaaCVOn
namespace Go.Proofs.Ytikijkpklneihaa
open Go.RowKit
set_option linter.unusedVariables false
set_option linter.unusedSimpArgs false

/-- in the midst of spare -/
structure SprI (w W : World) (x : V) (b lo B : Nat) : Prop where
  a : W.heap[w.heap.size]? = some (Obj.cells #[.int .i64 x.k, .int .i64 x.n, .slice (some ⟨b, 0, none⟩) x.l.length (x.l.length + 1)] 24)
  sp : SpV W lo B x (some ⟨b, 0, none⟩) (x.l.length + 1)
  bel : Below w.heap.size w W
theorem SprI.next {w W W' : World} {x : V} {b lo B : Nat} (h : SprI w W x b lo B) (hB : B ≤ w.heap.size) (hb : Below W.heap.size W W') : SprI w W' x b lo B :=
  ⟨keep_h hb h.a, SpV.mid ⟨fun b o _ h2 => hb.cell (p := ⟨b, o, none⟩) (Nat.lt_of_lt_of_le h2 (Nat.le_trans hB h.bel.size))⟩ _ h.sp, h.bel.trans (hb.mono h.bel.size)⟩

set_option maxRecDepth 100000 in
set_option maxHeartbeats 4000000 in
theorem spare_rec (N : Nat) (ih : ∀ (x : V), x.sz < N → ∀ (w : World) (lo B : Nat) (p : Option Addr) (c : Nat), SpV w lo B x p c → B ≤ w.heap.size → x.sz ≤ 65536 → Calls Try.prog 13 #[.agg #[.int .i64 x.k, .int .i64 x.n, .slice p x.l.length c]] w (fun e w' => e = .returned (.bool true) ∧ Below w.heap.size w w'))
    (w : World) (lo B : Nat) (x : V) (p : Option Addr) (c : Nat) (hv : SpV w lo B x p c) (hB : B ≤ w.heap.size) (hN : x.sz ≤ N) (h65 : x.sz ≤ 65536) : Calls Try.prog 13 #[.agg #[.int .i64 x.k, .int .i64 x.n, .slice p x.l.length c]] w (fun e w' => e = .returned (.bool true) ∧ Below w.heap.size w w') := by
  obtain ⟨b, rfl, rfl, h3, h4, h5, h6⟩ := SpV.iff.1 hv
  have hlen := szs_len x.l
  have hsz := V.sz_eq x
  obtain ⟨W0, hW0⟩ : ∃ W0, w.alloc (Obj.cells #[.int .i64 x.k, .int .i64 x.n, .slice (some ⟨b, 0, none⟩) x.l.length (x.l.length + 1)] 24) = W0 := ⟨_, rfl⟩
  have ha0 : W0.heap[w.heap.size]? = some (Obj.cells #[.int .i64 x.k, .int .i64 x.n, .slice (some ⟨b, 0, none⟩) x.l.length (x.l.length + 1)] 24) := by rw [← hW0]; exact World.alloc_heap_new _ _
  have hb0 : Below w.heap.size w W0 := by rw [← hW0]; exact below1 _ _
  obtain ⟨c0, c1, c2, f0, f1, f2, cl⟩ := c3 ha0
  have m0 : W0.cell? ⟨b, x.l.length * 3, none⟩ = some (.int .i64 (-99)) := by rw [hb0.cell (p := ⟨b, x.l.length * 3, none⟩) (by show b < _; omega)]; exact h5
  have HS0 : Bx (SprI w W0 x b lo B) := ⟨⟨ha0, SpV.mid ⟨fun b o _ h2 => hb0.cell (p := ⟨b, o, none⟩) (Nat.lt_of_lt_of_le h2 hB)⟩ _ hv, hb0⟩⟩
  have HIH : Bx _ := ⟨ih⟩
  clear hv h5 h6 ih ha0 hb0
  go_enter Try.func13, Try.ntmps13
  go_wp2
  clear c0 c1 c2 f0 f1 f2 cl m0 hW0
  go_loopg [4] x.l.length (fun q v wr => ∃ i : Nat, q = x.l.length - i ∧ i ≤ x.l.length ∧ v = .int .i64 i ∧ Bx (SprI w wr x b lo B))
  case atStart => exact ⟨0, by simp, by omega, rfl, HS0⟩
  case round =>
    obtain ⟨i, hq, hil, rfl, HS⟩ := hrel
    clear HS0
    obtain ⟨r0, r1, r2, g0, g1, g2, rl⟩ := c3 HS.out.a
    by_cases hlt : i < x.l.length
    · obtain ⟨b', hb', _, _, hbB, _, h6⟩ := SpV.iff.1 HS.out.sp
      cases hb'
      have q := h6.get i hlt
      rw [Nat.zero_add] at q
      obtain ⟨q1, qc, d2, hq1⟩ := q.c2
      have d0 := q.c0
      have d1 := q.c1
      have HC : Bx _ := ⟨HIH.out x.l[i] (by have h9 := szs_mem (List.getElem_mem hlt); omega) wr lo B q1 qc hq1 (Nat.le_trans hB HS.out.bel.size) (by have h9 := szs_mem (List.getElem_mem hlt); omega)⟩
      clear hq1 q h6
      go_wp2_with (first | (go_at_call 13; refine Calls.mono HC.out ?_; rintro e w4 ⟨rfl, hb4⟩; have HN : Bx _ := ⟨HS.out.next hB hb4⟩; clear HC))
      go_roundg (x.l.length - (i + 1))
      case measure => omega
      case rel => exact ⟨i + 1, rfl, by omega, by simp, HN⟩
    · have hie : i = x.l.length := by omega
      subst hie
      go_wp2
      go_ret
      exact ⟨rfl, HS.out.bel⟩
/-- spare: what is behind each list is as it was -/
theorem spare_any (w : World) (lo B : Nat) (x : V) (p : Option Addr) (c : Nat) (hv : SpV w lo B x p c) (hB : B ≤ w.heap.size) (h65 : x.sz ≤ 65536) : Calls Try.prog 13 #[.agg #[.int .i64 x.k, .int .i64 x.n, .slice p x.l.length c]] w (fun e w' => e = .returned (.bool true) ∧ Below w.heap.size w w') := by
  have key : ∀ N : Nat, ∀ (x : V), x.sz ≤ N → ∀ (w : World) (lo B : Nat) (p : Option Addr) (c : Nat), SpV w lo B x p c → B ≤ w.heap.size → x.sz ≤ 65536 → Calls Try.prog 13 #[.agg #[.int .i64 x.k, .int .i64 x.n, .slice p x.l.length c]] w (fun e w' => e = .returned (.bool true) ∧ Below w.heap.size w w') := by
    intro N
    induction N with
    | zero => intro x h; have := x.sz_pos; omega
    | succ N ih => intro x h w lo B p c hv hB h65; exact spare_rec (N + 1) (fun x' h' => ih x' (by omega)) w lo B x p c hv hB h h65
  exact key x.sz x (Nat.le_refl _) w lo B p c hv hB h65
end Go.Proofs.Ytikijkpklneihaa
