import Derived.Test.YtikijkpklneihaaCVRo
import Derived.Test.YtikijkpklneihaaCVFi
import Derived.Test.YtikijkpklneihaaCVOb
import Derived.Test.YtikijkpklneihaaCVOw
import Derived.Test.YtikijkpklneihaaCVPt
import Derived.Deep.RegionHeld3
namespace Go.Proofs.Ytikijkpklneihaa
open Go.RowKit
set_option linter.unusedVariables false
set_option linter.unusedSimpArgs false

/-! ### the reference's own: a row, each kid in blocks of its own between two numbers -/
theorem Mid.refl (lo B : Nat) (w : World) : Mid lo B w w := ⟨fun _ _ _ _ => rfl⟩
theorem Mid.trans {lo B : Nat} {w w1 w2 : World} (h : Mid lo B w w1) (g : Mid lo B w1 w2) : Mid lo B w w2 := ⟨fun b o h1 h2 => (g.cell b o h1 h2).trans (h.cell b o h1 h2)⟩
theorem Mid.narrow {lo lo' B B' : Nat} {w w' : World} (h : Mid lo B w w') (h1 : lo ≤ lo') (h2 : B' ≤ B) : Mid lo' B' w w' := ⟨fun b o a1 a2 => h.cell b o (by omega) (by omega)⟩
theorem Mid.blocks {lo B : Nat} {w w' : World} (h : ∀ b, lo ≤ b → b < B → w'.heap[b]? = w.heap[b]?) : Mid lo B w w' := ⟨fun b o h1 h2 => by simp [World.cell?, h b h1 h2]⟩
def RowK (W : World) (S : Nat) (ov : Value) (i : Nat) (cs : List Value) (l : List V) : Prop :=
  ∀ j (h : j < l.length), j < i → ∃ q c a b, cs[j * 3]? = some (.int .i64 l[j].k) ∧ cs[j * 3 + 1]? = some (.int .i64 l[j].n) ∧ cs[j * 3 + 2]? = some (.slice q l[j].l.length c) ∧ I64 l[j].k ∧ I64 l[j].n ∧ S ≤ a ∧ b ≤ W.heap.size ∧ (∀ y, ov.ownBlock = some y → y < a ∨ b ≤ y) ∧ ∀ W', Mid a b W W' → SlV W' b q c l[j].l
structure ROw (w : World) (x : V) (w' : World) (g cap : Nat) : Prop where
  bel : Below w.heap.size w w'
  ex : ∃ cs, w'.ownsRow w.heap.size 24 3 (.slice (some ⟨g, 0, none⟩) x.l.length cap) x.l.length cs ∧ RowK w' w.heap.size (.slice (some ⟨g, 0, none⟩) x.l.length cap) x.l.length cs x.l
theorem RowK.slv {W : World} {S g cap n : Nat} {l : List V} {cs : List Value} (ho : W.ownsRow S 24 3 (.slice (some ⟨g, 0, none⟩) l.length cap) l.length cs) (hk : RowK W S (.slice (some ⟨g, 0, none⟩) l.length cap) l.length cs l) : ∀ W', Mid S W.heap.size W W' → SlV W' W.heap.size (some ⟨g, 0, none⟩) cap l := fun W' hm => by
  rcases ho.2 with ⟨e, _⟩ | ⟨g', cap', cur, e, h1, h2, h3, h4, h5, h6⟩
  · cases e
  · simp only [Value.slice.injEq, Option.some.injEq, Addr.mk.injEq, and_true, true_and] at e
    obtain ⟨rfl, rfl⟩ := e
    have hgl := heap_lt h2
    refine ⟨h3, h4, .inr ⟨g, 0, rfl, hgl, AtVs.of_get fun i hi => ?_⟩⟩
    obtain ⟨q, c, a, b, a1, a2, a3, a4, a5, a6, a7, a8, a9⟩ := hk i hi hi
    have hc : ∀ (o : Nat) u, cs[o]? = some u → W'.cell? ⟨g, o, none⟩ = some u := fun o u hu => by
      have hol := (List.getElem?_eq_some_iff.1 hu).1
      have hln := ho.1
      rw [hm.cell _ _ h1 hgl]
      refine cell_blk h2 ?_
      rw [← h6, List.getElem?_take_of_lt (by omega), Array.getElem?_toList] at hu
      exact hu
    have e0 : 0 + 3 * i = i * 3 := by omega
    rw [e0]
    exact ⟨hc _ _ a1, hc _ _ a2, a4, a5, q, c, hc _ _ a3, (a9 W' (hm.narrow a6 a7)).up a7⟩
theorem ROw.slv {w w' : World} {x : V} {g cap : Nat} (h : ROw w x w' g cap) : ∀ W', Mid w.heap.size w'.heap.size w' W' → SlV W' w'.heap.size (some ⟨g, 0, none⟩) cap x.l := by
  obtain ⟨cs, h1, h2⟩ := h.ex
  exact RowK.slv (n := 0) h1 h2
/-- own in the midst -/
structure ROi (w wr : World) (B : Nat) (x : V) (p : Option Addr) (c : Nat) (ov : Value) (i : Nat) : Prop where
  one : OneB w wr B x p c
  z : wr.heap[w.heap.size + 1]? = some z3
  row : ∃ cs, wr.ownsRow (w.heap.size + 2) 24 3 ov i cs ∧ RowK wr (w.heap.size + 2) ov i cs x.l
  sh : ∃ g cap, ov = .slice (some ⟨g, 0, none⟩) i cap
theorem ROi.step {w wr w2 W : World} {B : Nat} {x : V} {p : Option Addr} {c : Nat} {ov : Value} {i g cap : Nat} (h : ROi w wr B x p c ov i) (hB : B ≤ w.heap.size) (hi : i < x.l.length) (hl : x.l.length ≤ 1000000) (hk : I64 x.l[i].k) (hn : I64 x.l[i].n) (hr : ROw wr x.l[i] w2 g cap) (hb : Below w2.heap.size w2 W) :
    ∃ v' W3, (∀ ty, (Builtin.append_ #[22, 22] ty #[ov, .slice (some ⟨W.heap.size, 0, none⟩) 1 1]).run Try.prog (W.alloc (.cells #[.int .i64 x.l[i].k, .int .i64 x.l[i].n, .slice (some ⟨g, 0, none⟩) x.l[i].l.length cap] 24)) = .ok v' W3) ∧ ROi w W3 B x p c v' (i + 1) := by
  obtain ⟨cs, o1, o2⟩ := h.row
  obtain ⟨i0, hi0, hz0, hz1, hz2⟩ := info_parts infoVl
  have hbW : Below wr.heap.size wr W := hr.bel.trans (hb.mono hr.bel.size)
  have hsz := h.one.bel.size
  have hs2 := hr.bel.size
  have hsW := hb.size
  have hwr2 : w.heap.size + 2 ≤ wr.heap.size := by have := heap_lt h.z; omega
  have oW := own_new o1 hbW
  obtain ⟨g', c', W3, r1, r2, r3, _, r5⟩ := app1 Try.underlying22 hi0 hz0 hz1 hz2 rfl (by decide) W (w.heap.size + 2) ov i cs oW #[.int .i64 x.l[i].k, .int .i64 x.l[i].n, .slice (some ⟨g, 0, none⟩) x.l[i].l.length cap] rfl (by simp [Value.oneCell']) (by unfold maxLen; omega) (by omega) (by omega)
  have hovl : ∀ y, ov.ownBlock = some y → w.heap.size + 2 ≤ y ∧ y < wr.heap.size := fun y hy => owns_block o1 hy
  have hlow : ∀ b, b < w.heap.size + 2 → W3.heap[b]? = wr.heap[b]? := fun b hb' => (r3.block b (by omega) fun e => by have := hovl b e.symm; omega).trans (hbW.block b (by omega))
  have hg' : ∀ y, (Value.slice (some ⟨g', 0, none⟩) (i + 1) c').ownBlock = some y → ov.ownBlock = some y ∨ W.heap.size ≤ y := fun y hy => by
    obtain rfl : g' = y := by simpa [Value.ownBlock] using hy
    exact r5
  have hz3 := r3.size
  refine ⟨_, W3, r1, ⟨⟨(hlow _ (by omega)).trans h.one.a, h.one.va.lo (Lo.blocks fun b hb' => hlow b (by omega)), h.one.bel.trans (((hbW.mono hsz).grown r3 (by omega) fun k e => by have := hovl k e; omega))⟩, (hlow _ (by omega)).trans h.z, ⟨_, r2, fun j hj hji => ?_⟩, ⟨_, _, rfl⟩⟩⟩
  have hcl := o1.1
  by_cases e : j = i
  · subst e
    refine ⟨some ⟨g, 0, none⟩, cap, wr.heap.size, w2.heap.size, ?_, ?_, ?_, hk, hn, by omega, by omega, fun y hy => ?_, fun W' hm => ?_⟩
    · rw [List.getElem?_append_right (by omega), hcl, Nat.sub_self]; rfl
    · rw [List.getElem?_append_right (by omega), hcl, Nat.add_sub_cancel_left]; rfl
    · rw [List.getElem?_append_right (by omega), hcl, Nat.add_sub_cancel_left]; rfl
    · rcases hg' y hy with h1 | h1
      · exact .inl (hovl y h1).2
      · exact .inr (by omega)
    · exact hr.slv W' (Mid.trans (Mid.blocks fun b h1 h2 => (r3.block b (by omega) fun e => by have := hovl b e.symm; omega).trans (hb.block b h2)) hm)
  · obtain ⟨q, c2, a, b, a1, a2, a3, a4, a5, a6, a7, a8, a9⟩ := o2 j hj (by omega)
    refine ⟨q, c2, a, b, by rw [List.getElem?_append_left (by omega)]; exact a1, by rw [List.getElem?_append_left (by omega)]; exact a2, by rw [List.getElem?_append_left (by omega)]; exact a3, a4, a5, a6, by omega, fun y hy => ?_, fun W' hm => a9 W' (Mid.trans (Mid.blocks fun y h1 h2 => (r3.block y (by omega) fun e => by
      have := a8 y e.symm
      omega).trans (hbW.block y (by omega))) hm)⟩
    rcases hg' y hy with h1 | h1
    · exact a8 y h1
    · exact .inr (by omega)
def ROp (w : World) (x : V) (e : Ending) (w' : World) : Prop := ∃ g cap, e = .returned (.agg #[.int .i64 x.k, .int .i64 x.n, .slice (some ⟨g, 0, none⟩) x.l.length cap]) ∧ ROw w x w' g cap
/-- done: the row is put in -/
theorem ROi.fin {w wr W5 : World} {B : Nat} {x : V} {p : Option Addr} {c : Nat} {ov : Value} (h : ROi w wr B x p c ov x.l.length) (hs : W5.heap.size = wr.heap.size) (hh : W5.os = wr.os ∧ W5.tape = wr.tape ∧ W5.output = wr.output) (hb : ∀ b, b ≠ w.heap.size → b ≠ w.heap.size + 1 → W5.heap[b]? = wr.heap[b]?) (hw : ∀ b, b < w.heap.size → W5.heap[b]? = wr.heap[b]?) {g cap : Nat} (hov : ov = .slice (some ⟨g, 0, none⟩) x.l.length cap) : ROw w x W5 g cap := by
  obtain ⟨cs, o1, o2⟩ := h.row
  subst hov
  have hwr2 : w.heap.size + 2 ≤ wr.heap.size := by have := heap_lt h.z; omega
  have hbe := h.one.bel
  refine ⟨⟨hh.1.trans hbe.os, hh.2.1.trans hbe.tape, hh.2.2.trans hbe.output, by have := hbe.size; omega, fun b hb' => (hw b hb').trans (hbe.block b hb')⟩, cs, own_low (own_same o1 fun y o hy ho => ?_) (by omega), fun j hj hji => ?_⟩
  · have := own_base o1 y hy
    rw [hb y (by omega) (by omega)]
    exact ho
  · obtain ⟨q, c2, a, b, a1, a2, a3, a4, a5, a6, a7, a8, a9⟩ := o2 j hj hji
    exact ⟨q, c2, a, b, a1, a2, a3, a4, a5, by omega, by omega, a8, fun W' hm => a9 W' (Mid.trans (Mid.blocks fun y h1 h2 => hb y (by omega) (by omega)) hm)⟩
set_option maxRecDepth 100000 in
set_option maxHeartbeats 4000000 in
theorem rown_rec (N : Nat) (ih : ∀ (x : V), x.sz < N → ∀ (w : World) (B : Nat) (v : Value), IsV w B v x → B ≤ w.heap.size → x.sz ≤ 1000000 → Calls Try.prog 23 #[v] w (ROp w x))
    (w : World) (B : Nat) (v : Value) (x : V) (hv : IsV w B v x) (hB : B ≤ w.heap.size) (hN : x.sz ≤ N) (h65 : x.sz ≤ 1000000) : Calls Try.prog 23 #[v] w (ROp w x) := by
  obtain ⟨⟨p, c, rfl, h1⟩, h2, h3⟩ := hv
  have hlen := szs_len x.l
  have hsz := V.sz_eq x
  have hlc : x.l.length ≤ c := h1.1
  have hcm : c ≤ maxLen := h1.2.1
  unfold maxLen at hcm
  obtain ⟨W0, hW0⟩ : ∃ W0, (w.alloc (Obj.cells #[.int .i64 x.k, .int .i64 x.n, .slice p x.l.length c] 24)).alloc z3 = W0 := ⟨_, rfl⟩
  have hz0 : W0.heap.size = w.heap.size + 2 := by rw [← hW0]; simp
  have ha0 : W0.heap[w.heap.size]? = some (Obj.cells #[.int .i64 x.k, .int .i64 x.n, .slice p x.l.length c] 24) := by rw [← hW0]; exact (Below.heap_alloc _ _ _ (by simp)).trans (World.alloc_heap_new _ _)
  have ha1 : W0.heap[w.heap.size + 1]? = some z3 := by rw [← hW0]; exact alloc_at _ _ _
  have hb0 : Below w.heap.size w W0 := by rw [← hW0]; exact two_new _ _ _
  obtain ⟨c0, c1, c2, f0, f1, f2, cl⟩ := c3 ha0
  obtain ⟨W1, hW1⟩ : ∃ W1, W0.alloc (.cells #[] 24) = W1 := ⟨_, rfl⟩
  have hb1 : Below W0.heap.size W0 W1 := by rw [← hW1]; exact below1 _ _
  have HS0 : Bx (ROi w W1 B x p c (.slice (some ⟨w.heap.size + 2, 0, none⟩) 0 0) 0) := ⟨⟨⟨keep_h hb1 ha0, h1.lo (Lo.of ((hb0.trans (hb1.mono hb0.size)).mono hB)), hb0.trans (hb1.mono hb0.size)⟩, keep_h hb1 ha1, ⟨[], ⟨rfl, .inr ⟨w.heap.size + 2, 0, #[], rfl, Nat.le_refl _, by rw [← hz0, ← hW1]; exact World.alloc_heap_new _ _, Nat.le_refl _, by simp [maxLen], rfl, rfl⟩⟩, fun j hj hi => by omega⟩, ⟨_, _, rfl⟩⟩⟩
  have HIH : Bx _ := ⟨ih⟩
  have HZ0 : Bx (W0.heap.size = w.heap.size + 2) := ⟨hz0⟩
  clear h1 h2 h3 ih hb0 hb1 ha0 ha1
  go_enter Try.func23, Try.ntmps23
  go_wp2
  clear c0 c1 c2 f0 f1 f2 cl hW0 hW1 HZ0 hz0
  go_loopg [3, 4] x.l.length (fun q v3 v4 wr => ∃ (i : Nat) (ov : Value), q = x.l.length - i ∧ i ≤ x.l.length ∧ v4 = .int .i64 i ∧ ov = v3 ∧ Bx (ROi w wr B x p c ov i))
  case atStart => exact ⟨0, _, by simp, by omega, rfl, rfl, HS0⟩
  case round =>
    obtain ⟨i, ov, hq, hil, rfl, rfl, HS⟩ := hrel
    clear HS0
    obtain ⟨r0, r1, r2, g0, g1, g2, rl⟩ := c3 HS.out.one.a
    by_cases hlt : i < x.l.length
    · obtain ⟨b, o, q1, qc, rfl, hbB, d0, d1, d2, hq1, dk, dn⟩ := HS.out.one.va.at3 i hlt
      have HC : Bx _ := ⟨HIH.out x.l[i] (by have h9 := szs_mem (List.getElem_mem hlt); omega) wr B _ ⟨⟨q1, qc, rfl, hq1⟩, dk, dn⟩ (Nat.le_trans hB HS.out.one.bel.size) (by have h9 := szs_mem (List.getElem_mem hlt); omega)⟩
      have HN : Bx (∀ w2 g cap, ROw wr x.l[i] w2 g cap → ∃ v' W3, (∀ ty, (Builtin.append_ #[22, 22] ty #[ov, .slice (some ⟨w2.heap.size + 1, 0, none⟩) 1 1]).run Try.prog ((w2.alloc (.cells #[.int .i64 x.l[i].k, .int .i64 x.l[i].n, .slice (some ⟨g, 0, none⟩) x.l[i].l.length cap] 24)).alloc (.cells #[.int .i64 x.l[i].k, .int .i64 x.l[i].n, .slice (some ⟨g, 0, none⟩) x.l[i].l.length cap] 24)) = .ok v' W3) ∧ ROi w W3 B x (some ⟨b, o, none⟩) c v' (i + 1)) := ⟨fun w2 g cap hr => by
        have := HS.out.step hB hlt (by omega) dk dn hr (below1 w2 (.cells #[.int .i64 x.l[i].k, .int .i64 x.l[i].n, .slice (some ⟨g, 0, none⟩) x.l[i].l.length cap] 24))
        rwa [World.size_alloc] at this⟩
      clear hq1 dk dn HS
      go_wp2_with (first
        | (go_at_call 23; refine Calls.mono HC.out ?_; rintro e w4 ⟨g, cap, rfl, hr⟩; obtain ⟨v', W3, hrun, hR⟩ := HN.out w4 g cap hr; have HR : Bx _ := ⟨hR⟩; clear hr hR HN HC)
        | (at_builtin; refine wpList_appI rfl (.tmp 20) (.tmp 22) 22 rfl rfl rfl hrun ?_; clear hrun))
      go_roundg (x.l.length - (i + 1))
      case measure => omega
      case rel => exact ⟨i + 1, v', rfl, by omega, by simp, rfl, HR⟩
    · have hie : i = x.l.length := by omega
      subst hie
      obtain ⟨z0, z1, z2, y0, y1, y2, zl⟩ := c3 HS.out.z
      obtain ⟨cs, o1, _⟩ := HS.out.row
      obtain ⟨g, cap, rfl⟩ := HS.out.sh
      have HF : Bx _ := ⟨fun W5 a b d e => HS.out.fin (W5 := W5) a b d e (g := g) (cap := cap) rfl⟩
      go_wp2
      refine bodyPost_ret (v := .agg #[.int .i64 x.k, .int .i64 x.n, .slice (some ⟨g, 0, none⟩) x.l.length cap]) (by simp [results, Try.results23, go_sem, z0, z1, z2, zl]) rfl ⟨_, _, rfl, ?_⟩
      refine HF.out _ (by simp [World.size_setCell]) ⟨rfl, rfl, rfl⟩ (fun b h1 h2 => ?_) (fun b h1 => ?_)
      · rw [set3_other _ _ _ h2, Below.heap_setCell _ _ _ _ h1]
      · rw [set3_other _ _ _ (by omega), Below.heap_setCell _ _ _ _ (by show b ≠ w.heap.size; omega)]
/-- the reference's own -/
theorem rown_any (w : World) (B : Nat) (v : Value) (x : V) (hv : IsV w B v x) (hB : B ≤ w.heap.size) (h65 : x.sz ≤ 1000000) : Calls Try.prog 23 #[v] w (ROp w x) := by
  have key : ∀ N : Nat, ∀ (x : V), x.sz ≤ N → ∀ (w : World) (B : Nat) (v : Value), IsV w B v x → B ≤ w.heap.size → x.sz ≤ 1000000 → Calls Try.prog 23 #[v] w (ROp w x) := by
    intro N
    induction N with
    | zero => intro x h; have := x.sz_pos; omega
    | succ N ih => intro x h w B v hv hB h65; exact rown_rec (N + 1) (fun x' h' => ih x' (by omega)) w B v x hv hB h h65
  exact key x.sz x (Nat.le_refl _) w B v hv hB h65
end Go.Proofs.Ytikijkpklneihaa
namespace Go.Proofs.Ytikijkpklneihaa
open Go.RowKit
set_option linter.unusedVariables false
set_option linter.unusedSimpArgs false

set_option maxRecDepth 100000 in
set_option maxHeartbeats 2000000 in
/-- the reference's goes -/
theorem rgoes_any (w : World) (B : Nat) (v : Value) (x : V) (k : Int) (hv : IsV w B v x) : Calls Try.prog 24 #[v, .int .i64 k] w fun e w' => e = .returned (.bool (goesI x k)) ∧ Below w.heap.size w w' := by
  obtain ⟨⟨p, c, rfl, h1⟩, _, _⟩ := hv
  have hlc : x.l.length ≤ c := h1.1
  have hcm : c ≤ maxLen := h1.2.1
  unfold maxLen at hcm
  have hb := below1 w (.cells #[.int .i64 x.k, .int .i64 x.n, .slice p x.l.length c] 24)
  have HB : Bx _ := ⟨hb⟩
  have HG : Bx (goesI x k = (((x.k == 3) || (x.k == 4)) && (decide (0 ≤ k) && decide (k < (x.l.length : Int))))) := ⟨rfl⟩
  clear h1 hb
  generalize goesI x k = G at *
  generalize x.k = xk at *
  generalize x.l.length = xl at *
  cases h3 : (xk == 3) <;> cases h4 : (xk == 4) <;> cases h0 : decide (0 ≤ k) <;> cases hl : decide (k < (xl : Int))
  all_goals
    rw [h3, h4, h0, hl] at HG
    have e : G = _ := HG.out
    subst e
    clear HG
    have h0' : (k ≥ 0) = (0 ≤ k) := rfl
    first | have q0 : 0 ≤ k := of_decide_eq_true h0 | have q0 : ¬ (0 ≤ k) := of_decide_eq_false h0
    first | have ql : k < (xl : Int) := of_decide_eq_true hl | have ql : ¬ (k < (xl : Int)) := of_decide_eq_false hl
    first
      | (exfalso; omega)
      | (go_enter Try.func24, Try.ntmps24
         go_wp2
         go_ret
         exact ⟨rfl, HB.out⟩)
/-- the rest of a path -/
theorem Pth.tail {W : World} {B : Nat} {p : Option Addr} {pc : Nat} {k : Int} {ks : List Int} (h : Pth W B p pc (k :: ks)) : ∃ b o, p = some ⟨b, o, none⟩ ∧ b < B ∧ W.cell? ⟨b, o, none⟩ = some (.int .i64 k) ∧ I64 k ∧ Pth W B (if pc = 1 then some ⟨b, o, none⟩ else some ⟨b, o + 1, none⟩) (pc - 1) ks := by
  obtain ⟨b, o, e, hb, h1, h2⟩ := h.at_ 0 (by simp)
  have hl := h.len
  have hm := h.max
  simp only [List.length_cons] at hl
  refine ⟨b, o, e, hb, by simpa using h1, by simpa using h2, by omega, by omega, fun i hi => ?_⟩
  obtain ⟨b', o', e', hb', g1, g2⟩ := h.at_ (i + 1) (by simp; omega)
  rw [e] at e'
  simp only [Option.some.injEq, Addr.mk.injEq, and_true] at e'
  obtain ⟨rfl, rfl⟩ := e'
  refine ⟨b, o + 1, by rw [if_neg (by omega)], hb, ?_, by simpa using g2⟩
  rw [show o + 1 + i = o + (i + 1) by omega]
  simpa using g1
theorem set3_cell {W : World} {A b o : Nat} {v : Value} (x y z : Value) (h : W.cell? ⟨b, o, none⟩ = some v) (hb : b ≠ A) : (((W.setCell ⟨A, 0, none⟩ x).setCell ⟨A, 1, none⟩ y).setCell ⟨A, 2, none⟩ z).cell? ⟨b, o, none⟩ = some v := (World.cell?_of_block (a := ⟨b, o, none⟩) (set3_other x y z hb)).trans h
/-- what Part and With answer -/
def RPp (w : World) (z : Option V) (e : Ending) (w' : World) : Prop := Below w.heap.size w w' ∧ ((z = none ∧ e = .returned (.tuple #[pv 0 0, .bool false])) ∨ ∃ y u, z = some y ∧ e = .returned (.tuple #[u, .bool true]) ∧ ∀ W', Mid w.heap.size w'.heap.size w' W' → IsV W' w'.heap.size u y)
theorem RPp.shape {w w' : World} {z : Option V} {e : Ending} (h : RPp w z e w') : ∃ (u0 u1 : Int) (p : Option Addr) (n c : Nat) (ok : Bool), e = .returned (.tuple #[.agg #[.int .i64 u0, .int .i64 u1, .slice p n c], .bool ok]) := by
  rcases h.2 with ⟨_, e1⟩ | ⟨y, u, _, e1, e2⟩
  · exact ⟨0, 0, none, 0, 0, false, e1⟩
  · obtain ⟨⟨p, c, e3, _⟩, _, _⟩ := e2 w' (Mid.refl _ _ _)
    exact ⟨_, _, p, _, c, true, by rw [e1, e3]⟩
theorem ROp.isv {w w' : World} {x : V} {g cap : Nat} (h : ROw w x w' g cap) (hk : I64 x.k) (hn : I64 x.n) : IsV w' w'.heap.size (.agg #[.int .i64 x.k, .int .i64 x.n, .slice (some ⟨g, 0, none⟩) x.l.length cap]) x := ⟨⟨_, _, rfl, h.slv w' (Mid.refl _ _ _)⟩, hk, hn⟩
set_option maxRecDepth 100000 in
set_option maxHeartbeats 4000000 in
theorem rPart_any : ∀ (ks : List Int) (w : World) (B : Nat) (v : Value) (x : V) (pp : Option Addr) (pc : Nat), IsV w B v x → Pth w B pp pc ks → B ≤ w.heap.size → x.sz ≤ 1000000 →
    Calls Try.prog 9 #[v, .slice pp ks.length pc] w (RPp w (findV x ks))
  | [], w, B, v, x, pp, pc, hv, hp, hB, hx => by
    obtain ⟨⟨p, cap, rfl, h1⟩, h2, h3⟩ := hv
    obtain ⟨W0, hW0⟩ : ∃ W0, (w.alloc (Obj.cells #[.int .i64 x.k, .int .i64 x.n, .slice p x.l.length cap] 24)).alloc z3 = W0 := ⟨_, rfl⟩
    have hz0 : W0.heap.size = w.heap.size + 2 := by rw [← hW0]; simp
    have ha0 : W0.heap[w.heap.size]? = some (Obj.cells #[.int .i64 x.k, .int .i64 x.n, .slice p x.l.length cap] 24) := by rw [← hW0]; exact (Below.heap_alloc _ _ _ (by simp)).trans (World.alloc_heap_new _ _)
    have ha1 : W0.heap[w.heap.size + 1]? = some z3 := by rw [← hW0]; exact alloc_at _ _ _
    have hb0 : Below w.heap.size w W0 := by rw [← hW0]; exact two_new _ _ _
    obtain ⟨c0, c1, c2, f0, f1, f2, cl⟩ := c3 ha0
    have HC : Bx _ := ⟨rown_any W0 B (.agg #[.int .i64 x.k, .int .i64 x.n, .slice p x.l.length cap]) x ⟨⟨p, cap, rfl, h1.lo (Lo.of (hb0.mono hB))⟩, h2, h3⟩ (by omega) hx⟩
    have HB0 : Bx _ := ⟨hb0⟩
    have HA1 : Bx (W0.heap[w.heap.size + 1]? = some z3 ∧ W0.heap.size = w.heap.size + 2) := ⟨ha1, hz0⟩
    have HK : Bx (I64 x.k ∧ I64 x.n) := ⟨h2, h3⟩
    rw [show (findV x []) = some x from rfl]
    clear h1 h2 h3 hp hb0 ha0 ha1 hz0
    rw [show ([] : List Int).length = 0 from rfl]
    go_enter Try.func9, Try.ntmps9
    go_wp2_with (first
      | (go_at_call 23; refine Calls.mono HC.out ?_; rintro e w2 ⟨g, gc, rfl, hr⟩; have hr1 : w2.heap[w.heap.size + 1]? = some z3 := (hr.bel.block _ (by have := HA1.out.2; omega)).trans HA1.out.1; obtain ⟨r0, r1, r2, s0, s1, s2, hAl⟩ := c3 hr1; have HR : Bx _ := ⟨hr⟩; clear hr hr1))
    refine bodyPost_ret (v := .tuple #[.agg #[.int .i64 x.k, .int .i64 x.n, .slice (some ⟨g, 0, none⟩) x.l.length gc], .bool true]) (by simp [results, Try.results9, go_sem, r0, r1, r2, hAl]) rfl ⟨below3 (HB0.out.trans (HR.out.bel.mono HB0.out.size)) (by omega) _ _ _, .inr ⟨x, _, rfl, rfl, fun W' hm => ⟨⟨_, _, rfl, ?_⟩, HK.out.1, HK.out.2⟩⟩⟩
    have hz := HA1.out.2
    simp only [World.size_setCell] at hm ⊢
    exact HR.out.slv _ (Mid.trans (Mid.blocks fun b q1 q2 => set3_other _ _ _ (by omega)) (hm.narrow (by omega) (Nat.le_refl _)))
  | k :: ks, w, B, v, x, pp, pc, hv, hp, hB, hx => by
    obtain ⟨b, o, rfl, hbB, p0, pk, ht⟩ := hp.tail
    have hpl := hp.len
    have hpm := hp.max
    unfold maxLen at hpm
    obtain ⟨⟨p, cap, rfl, h1⟩, h2, h3⟩ := hv
    obtain ⟨W0, hW0⟩ : ∃ W0, (w.alloc (Obj.cells #[.int .i64 x.k, .int .i64 x.n, .slice p x.l.length cap] 24)).alloc z3 = W0 := ⟨_, rfl⟩
    have hz0 : W0.heap.size = w.heap.size + 2 := by rw [← hW0]; simp
    have ha0 : W0.heap[w.heap.size]? = some (Obj.cells #[.int .i64 x.k, .int .i64 x.n, .slice p x.l.length cap] 24) := by rw [← hW0]; exact (Below.heap_alloc _ _ _ (by simp)).trans (World.alloc_heap_new _ _)
    have ha1 : W0.heap[w.heap.size + 1]? = some z3 := by rw [← hW0]; exact alloc_at _ _ _
    have hb0 : Below w.heap.size w W0 := by rw [← hW0]; exact two_new _ _ _
    obtain ⟨c0, c1, c2, f0, f1, f2, cl⟩ := c3 ha0
    have hLo : Lo B w W0 := Lo.of (hb0.mono hB)
    have HG : Bx _ := ⟨rgoes_any W0.drew B (.agg #[.int .i64 x.k, .int .i64 x.n, .slice p x.l.length cap]) x k ⟨⟨p, cap, rfl, h1.lo (Lo.of (hb0.mono hB).drew)⟩, h2, h3⟩⟩
    have hp0 : W0.cell? ⟨b, o, none⟩ = some (.int .i64 k) := by rw [hLo.cell _ _ hbB]; exact p0
    have HZ0 : Bx (W0.heap.size = w.heap.size + 2) := ⟨hz0⟩
    have hbw : b < w.heap.size := by omega
    have hw1z : w.heap.size + 1 < W0.heap.size := by omega
    have HW : Bx (∀ Y, Below W0.heap.size W0 Y → Y.cell? ⟨w.heap.size, 0, none⟩ = some (.int .i64 x.k) ∧ Y.cell? ⟨w.heap.size, 1, none⟩ = some (.int .i64 x.n) ∧ Y.cell? ⟨w.heap.size, 2, none⟩ = some (.slice p x.l.length cap) ∧ Y.cell? ⟨b, o, none⟩ = some (.int .i64 k) ∧ Y.heap[w.heap.size + 1]? = some z3) := ⟨fun Y hY => by
      have e := (hY.block _ cl).trans ha0
      exact ⟨cell_blk e rfl, cell_blk e rfl, cell_blk e rfl, (hY.cell (p := ⟨b, o, none⟩) (by show b < W0.heap.size; omega)).trans hp0, (hY.block _ hw1z).trans ha1⟩⟩
    have HB0 : Bx _ := ⟨hb0⟩
    have hbr : Below W0.heap.size W0 W0 := Below.refl _ _
    cases hg : goesI x k with
    | false =>
      rw [hg] at HG
      have HF : Bx (findV x (k :: ks) = none) := ⟨by simp [findV, hg]⟩
      clear h1 h2 h3 ht hg p0 hb0 ha0 ha1 hLo hp
      go_enter Try.func9, Try.ntmps9
      go_wp2_with fail
      go_region_held3 (fun Y => Y.cell? ⟨w.heap.size, 0, none⟩ = some (.int .i64 x.k) ∧ Y.cell? ⟨w.heap.size, 1, none⟩ = some (.int .i64 x.n) ∧ Y.cell? ⟨w.heap.size, 2, none⟩ = some (.slice p x.l.length cap) ∧ Y.cell? ⟨b, o, none⟩ = some (.int .i64 k))
        (first | exact ⟨c0, c1, c2, hp0⟩ | exact HC4.out | go_keep)
        (first
          | (go_at_call 24; refine Calls.mono HG.out ?_; rintro e w4 ⟨rfl, hb4⟩; have HB4 : Bx (Below W0.heap.size W0 w4) := ⟨hbr.drew.trans (hb4.mono (Nat.le_refl _))⟩; obtain ⟨j0, j1, j2, j3, j4⟩ := HW.out w4 HB4.out; have HC4 : Bx _ := ⟨(⟨j0, j1, j2, j3⟩ : _ ∧ _ ∧ _ ∧ _)⟩; obtain ⟨r0, r1, r2, s0, s1, s2, hAl⟩ := c3 j4; clear hb4 j0 j1 j2 j3 j4))
      clear HC4 HW c0 c1 c2 f0 f1 f2 cl hp0 HG
      go_wp2
      refine bodyPost_ret (v := .tuple #[pv 0 0, .bool false]) (by simp [results, Try.results9, go_sem, r0, r1, r2, hAl]) rfl ⟨below3 (HB0.out.trans (HB4.out.mono HB0.out.size)) (by omega) _ _ _, .inl ⟨HF.out, rfl⟩⟩
    | true =>
      rw [hg] at HG
      obtain ⟨q0, ql⟩ := goes_lt hg
      obtain ⟨j, rfl⟩ : ∃ j : Nat, k = j := ⟨k.toNat, by omega⟩
      have hj : j < x.l.length := by omega
      obtain ⟨b', o', r, rc, rfl, hb', d0, d1, d2, hR, e1, e2⟩ := h1.at3 j hj
      have hjI : (j : Int) < (x.l.length : Int) := by omega
      have hxl : x.l.length ≤ cap := h1.1
      have hxm : cap ≤ maxLen := h1.2.1
      unfold maxLen at hxm
      have HF : Bx (findV x ((j : Int) :: ks) = findV x.l[j] ks) := ⟨by simp [findV, hg, List.getD, List.getElem?_eq_getElem hj]⟩
      have HE : Bx (∀ Y, Below W0.heap.size W0 Y → Y.cell? ⟨b', o' + j * 3, none⟩ = some (.int .i64 x.l[j].k) ∧ Y.cell? ⟨b', o' + j * 3 + 1, none⟩ = some (.int .i64 x.l[j].n) ∧ Y.cell? ⟨b', o' + j * 3 + 2, none⟩ = some (.slice r x.l[j].l.length rc)) := ⟨fun Y hY => by
        have hL : Lo B w Y := Lo.of ((hb0.trans (hY.mono hb0.size)).mono hB)
        exact ⟨by rw [hL.cell _ _ hb']; exact d0, by rw [hL.cell _ _ hb']; exact d1, by rw [hL.cell _ _ hb']; exact d2⟩⟩
      obtain ⟨pa, hpa⟩ : ∃ pa, (if pc = 1 then some (⟨b, o, none⟩ : Addr) else some ⟨b, o + 1, none⟩) = pa := ⟨_, rfl⟩
      rw [hpa] at ht
      have HIH : Bx (∀ Y, Below W0.heap.size W0 Y → Calls Try.prog 9 #[.agg #[.int .i64 x.l[j].k, .int .i64 x.l[j].n, .slice r x.l[j].l.length rc], .slice pa ks.length (pc - 1)] Y (RPp Y (findV x.l[j] ks))) := ⟨fun Y hY => by
        have hL : Lo B w Y := Lo.of ((hb0.trans (hY.mono hb0.size)).mono hB)
        exact rPart_any ks Y B _ x.l[j] pa (pc - 1) ⟨⟨r, rc, rfl, hR.lo hL⟩, e1, e2⟩ (ht.lo hL) (by have := hY.size; omega) (by have := szs_mem (List.getElem_mem hj); have := V.sz_eq x; omega)⟩
      clear h1 h2 h3 ht hg p0 hb0 ha0 ha1 hLo hp d0 d1 d2 hR e1 e2
      generalize x.l[j].k = yk at *
      generalize x.l[j].n = yn at *
      generalize x.l[j].l.length = yl at *
      generalize findV x.l[j] ks = z at *
      go_enter Try.func9, Try.ntmps9
      go_wp2_with fail
      go_region_held3 (fun Y => Y.cell? ⟨w.heap.size, 0, none⟩ = some (.int .i64 x.k) ∧ Y.cell? ⟨w.heap.size, 1, none⟩ = some (.int .i64 x.n) ∧ Y.cell? ⟨w.heap.size, 2, none⟩ = some (.slice (some ⟨b', o', none⟩) x.l.length cap) ∧ Y.cell? ⟨b, o, none⟩ = some (.int .i64 j))
        (first | exact ⟨c0, c1, c2, hp0⟩ | exact HC4.out | go_keep)
        (first
          | (go_at_call 24; refine Calls.mono HG.out ?_; rintro e w4 ⟨rfl, hb4⟩; have HB4 : Bx (Below W0.heap.size W0 w4) := ⟨hbr.drew.trans (hb4.mono (Nat.le_refl _))⟩; obtain ⟨j0, j1, j2, j3, j4⟩ := HW.out w4 HB4.out; have HC4 : Bx _ := ⟨(⟨j0, j1, j2, j3⟩ : _ ∧ _ ∧ _ ∧ _)⟩; have HJ4 : Bx _ := ⟨j4⟩; clear hb4 j0 j1 j2 j3 j4))
      obtain ⟨k0, k1, k2, k3⟩ := HC4.out
      obtain ⟨g0, g1, g2⟩ := HE.out w4 HB4.out
      obtain ⟨r0, r1, r2, s0, s1, s2, hAl⟩ := c3 HJ4.out
      have hbne : b ≠ w.heap.size + 1 := by omega
      have hbHH : w.heap.size ≠ w.heap.size + 1 := by omega
      have hbne' : b' ≠ w.heap.size + 1 := by omega
      have hb4r : Below w4.heap.size w4 w4 := Below.refl _ _
      have HN : Bx (∀ Y, Below w4.heap.size w4 Y → Below W0.heap.size W0 Y) := ⟨fun Y hY => HB4.out.trans (hY.mono HB4.out.size)⟩
      have HEND : Bx (∀ e X, RPp w4.drew z e X → ∀ (u0 u1 : Int) (p : Option Addr) (n c : Nat) (ok : Bool), e = .returned (.tuple #[.agg #[.int .i64 u0, .int .i64 u1, .slice p n c], .bool ok]) → RPp w z e (((X.setCell ⟨w.heap.size + 1, 0, none⟩ (.int .i64 u0)).setCell ⟨w.heap.size + 1, 1, none⟩ (.int .i64 u1)).setCell ⟨w.heap.size + 1, 2, none⟩ (.slice p n c))) := ⟨fun e X hP u0 u1 p n c ok he => by
        have hX : Below W0.heap.size W0 X := HN.out X (hb4r.drew.trans hP.1)
        have hs4 := HB4.out.size
        refine ⟨below3 (HB0.out.trans (hX.mono HB0.out.size)) (by omega) _ _ _, ?_⟩
        rcases hP.2 with ⟨e1, e2⟩ | ⟨y, u, e1, e2, e3⟩
        · exact .inl ⟨e1, e2⟩
        · refine .inr ⟨y, u, e1, e2, fun W' hm => ?_⟩
          simp only [World.size_setCell] at hm ⊢
          have hw4 : W0.heap.size ≤ w4.drew.heap.size := hs4
          exact e3 W' (Mid.trans (Mid.blocks fun b q1 q2 => set3_other _ _ _ (by omega)) (hm.narrow (by omega) (Nat.le_refl _)))⟩
      clear HC4 HG c0 c1 c2 f0 f1 f2 cl hp0
      rw [← HF.out] at *
      have hk1 : (1 : Int) ≤ (ks.length : Int) + 1 := by omega
      have hk2 : (1 : Int) ≤ ((ks.length + 1 : Nat) : Int) := by omega
      have hpc1 : ks.length + 1 ≤ pc := hpl
      go_wp2_with fail
      go_region_held3 (fun Y => Y.cell? ⟨w.heap.size, 2, none⟩ = some (.slice (some ⟨b', o', none⟩) x.l.length cap) ∧ Y.cell? ⟨b, o, none⟩ = some (.int .i64 j) ∧ Y.cell? ⟨b', o' + j * 3, none⟩ = some (.int .i64 yk) ∧ Y.cell? ⟨b', o' + j * 3 + 1, none⟩ = some (.int .i64 yn) ∧ Y.cell? ⟨b', o' + j * 3 + 2, none⟩ = some (.slice r yl rc))
        (first | exact ⟨k2, k3, g0, g1, g2⟩ | exact HC5.out | exact HC6.out | go_keep)
        (first
          | (go_at_call 9; refine Calls.mono (HIH.out _ (HN.out _ hb4r.drew)) ?_; rintro e w5 hP5; obtain ⟨u0, u1, up, un, uc, ok, he⟩ := hP5.shape; have HP5 : Bx _ := ⟨HEND.out e w5 hP5 u0 u1 up un uc ok he⟩; have HB5 : Bx (Below w4.heap.size w4 w5) := ⟨hb4r.drew.trans hP5.1⟩; obtain ⟨j0, j1, j2, j3, j4⟩ := HW.out w5 (HN.out _ HB5.out); obtain ⟨l0, l1, l2⟩ := HE.out w5 (HN.out _ HB5.out); have HC5 : Bx _ := ⟨(⟨j2, j3, l0, l1, l2⟩ : _ ∧ _ ∧ _ ∧ _ ∧ _)⟩; have HC6 : Bx _ := ⟨(⟨set3_cell (.int .i64 u0) (.int .i64 u1) (.slice up un uc) j2 hbHH, set3_cell (.int .i64 u0) (.int .i64 u1) (.slice up un uc) j3 hbne, set3_cell (.int .i64 u0) (.int .i64 u1) (.slice up un uc) l0 hbne', set3_cell (.int .i64 u0) (.int .i64 u1) (.slice up un uc) l1 hbne', set3_cell (.int .i64 u0) (.int .i64 u1) (.slice up un uc) l2 hbne'⟩ : _ ∧ _ ∧ _ ∧ _ ∧ _)⟩; subst he; obtain ⟨m0, m1, m2, n0, n1, n2, hAm⟩ := c3 j4; have HR6 : Bx _ := ⟨set3 (a := .int .i64 u0) (b := .int .i64 u1) (c := .slice up un uc) j4⟩; clear hP5 j0 j1 j2 j3 j4 l0 l1 l2))
      clear HC5 HC6 m0 m1 m2 n0 n1 n2 hAm HIH HEND HE HW HN k0 k1 k2 k3 g0 g1 g2 r0 r1 r2 s0 s1 s2 hAl HJ4
      generalize (((w5.setCell ⟨w.heap.size + 1, 0, none⟩ (.int .i64 u0)).setCell ⟨w.heap.size + 1, 1, none⟩ (.int .i64 u1)).setCell ⟨w.heap.size + 1, 2, none⟩ (.slice up un uc)) = W9 at *
      obtain ⟨r0, r1, r2, s0, s1, s2, hAl⟩ := c3 HR6.out
      have HP9 : Bx _ := ⟨HP5.out⟩
      clear HR6 HP5
      go_wp2
      exact bodyPost_ret (v := .tuple #[.agg #[.int .i64 u0, .int .i64 u1, .slice up un uc], .bool ok]) (by simp [results, Try.results9, go_sem, r0, r1, r2, hAl]) rfl HP9.out
end Go.Proofs.Ytikijkpklneihaa
