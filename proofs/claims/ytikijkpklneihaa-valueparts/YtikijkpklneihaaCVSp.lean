import Derived.Test.YtikijkpklneihaaCVGt
import Derived.Test.YtikijkpklneihaaCVP
import Derived.Deep.QuietTactic
import Derived.Test.YtikijkpklneihaaCVKp
import Derived.Test.YtikijkpklneihaaCVSx
import Derived.Test.YtikijkpklneihaaCVDp
import Derived.Test.YtikijkpklneihaaCVQe
namespace Go.Proofs.Ytikijkpklneihaa
open Go.RowKit
set_option linter.unusedVariables false
set_option linter.unusedSimpArgs false

/-- in the midst of spare -/
structure SprI (w W : World) (x : V) (b lo B : Nat) : Prop where
  a : W.heap[w.heap.size]? = some (Obj.cells #[.int .i64 x.k, .int .i64 x.n, .slice (some ⟨b, 0, none⟩) x.l.length (x.l.length + 1)] 24)
  sp : SpV W lo B x (some ⟨b, 0, none⟩) (x.l.length + 1)
  bel : Below w.heap.size w W
theorem SprI.next {w W W' : World} {x : V} {b lo B : Nat} (h : SprI w W x b lo B) (hB : B ≤ w.heap.size) (hb : Below W.heap.size W W') : SprI w W' x b lo B :=
  ⟨keep_h hb h.a, SpV.mid ⟨fun b o _ h2 => hb.cell (p := ⟨b, o, none⟩) (Nat.lt_of_lt_of_le h2 (Nat.le_trans hB h.bel.size))⟩ _ h.sp, h.bel.trans (hb.mono h.bel.size)⟩

set_option maxRecDepth 100000 in
set_option maxHeartbeats 4000000 in
theorem spare_rec (N : Nat) (ih : ∀ (x : V), x.sz < N → ∀ (w : World) (lo B : Nat) (p : Option Addr) (c : Nat), SpV w lo B x p c → B ≤ w.heap.size → x.sz ≤ 65536 → Calls Try.prog 13 #[.agg #[.int .i64 x.k, .int .i64 x.n, .slice p x.l.length c]] w (fun e w' => e = .returned (.bool true) ∧ Below w.heap.size w w'))
    (w : World) (lo B : Nat) (x : V) (p : Option Addr) (c : Nat) (hv : SpV w lo B x p c) (hB : B ≤ w.heap.size) (hN : x.sz ≤ N) (h65 : x.sz ≤ 65536) : Calls Try.prog 13 #[.agg #[.int .i64 x.k, .int .i64 x.n, .slice p x.l.length c]] w (fun e w' => e = .returned (.bool true) ∧ Below w.heap.size w w') := by
  obtain ⟨b, rfl, rfl, h3, h4, h5, h6⟩ := SpV.iff.1 hv
  have hlen := szs_len x.l
  have hsz := V.sz_eq x
  obtain ⟨W0, hW0⟩ : ∃ W0, w.alloc (Obj.cells #[.int .i64 x.k, .int .i64 x.n, .slice (some ⟨b, 0, none⟩) x.l.length (x.l.length + 1)] 24) = W0 := ⟨_, rfl⟩
  have ha0 : W0.heap[w.heap.size]? = some (Obj.cells #[.int .i64 x.k, .int .i64 x.n, .slice (some ⟨b, 0, none⟩) x.l.length (x.l.length + 1)] 24) := by rw [← hW0]; exact World.alloc_heap_new _ _
  have hb0 : Below w.heap.size w W0 := by rw [← hW0]; exact below1 _ _
  obtain ⟨c0, c1, c2, f0, f1, f2, cl⟩ := c3 ha0
  have m0 : W0.cell? ⟨b, x.l.length * 3, none⟩ = some (.int .i64 (-99)) := by rw [hb0.cell (p := ⟨b, x.l.length * 3, none⟩) (by show b < _; omega)]; exact h5
  have HS0 : Bx (SprI w W0 x b lo B) := ⟨⟨ha0, SpV.mid ⟨fun b o _ h2 => hb0.cell (p := ⟨b, o, none⟩) (Nat.lt_of_lt_of_le h2 hB)⟩ _ hv, hb0⟩⟩
  have HIH : Bx _ := ⟨ih⟩
  clear hv h5 h6 ih ha0 hb0
  go_enter Try.func13, Try.ntmps13
  go_wp2
  clear c0 c1 c2 f0 f1 f2 cl m0 hW0
  go_loopg [4] x.l.length (fun q v wr => ∃ i : Nat, q = x.l.length - i ∧ i ≤ x.l.length ∧ v = .int .i64 i ∧ Bx (SprI w wr x b lo B))
  case atStart => exact ⟨0, by simp, by omega, rfl, HS0⟩
  case round =>
    obtain ⟨i, hq, hil, rfl, HS⟩ := hrel
    clear HS0
    obtain ⟨r0, r1, r2, g0, g1, g2, rl⟩ := c3 HS.out.a
    by_cases hlt : i < x.l.length
    · obtain ⟨b', hb', _, _, hbB, _, h6⟩ := SpV.iff.1 HS.out.sp
      cases hb'
      have q := h6.get i hlt
      rw [Nat.zero_add] at q
      obtain ⟨q1, qc, d2, hq1⟩ := q.c2
      have d0 := q.c0
      have d1 := q.c1
      have HC : Bx _ := ⟨HIH.out x.l[i] (by have h9 := szs_mem (List.getElem_mem hlt); omega) wr lo B q1 qc hq1 (Nat.le_trans hB HS.out.bel.size) (by have h9 := szs_mem (List.getElem_mem hlt); omega)⟩
      clear hq1 q h6
      go_wp2_with (first | (go_at_call 13; refine Calls.mono HC.out ?_; rintro e w4 ⟨rfl, hb4⟩; have HN : Bx _ := ⟨HS.out.next hB hb4⟩; clear HC))
      go_roundg (x.l.length - (i + 1))
      case measure => omega
      case rel => exact ⟨i + 1, rfl, by omega, by simp, HN⟩
    · have hie : i = x.l.length := by omega
      subst hie
      go_wp2
      go_ret
      exact ⟨rfl, HS.out.bel⟩
/-- spare: what is behind each list is as it was -/
theorem spare_any (w : World) (lo B : Nat) (x : V) (p : Option Addr) (c : Nat) (hv : SpV w lo B x p c) (hB : B ≤ w.heap.size) (h65 : x.sz ≤ 65536) : Calls Try.prog 13 #[.agg #[.int .i64 x.k, .int .i64 x.n, .slice p x.l.length c]] w (fun e w' => e = .returned (.bool true) ∧ Below w.heap.size w w') := by
  have key : ∀ N : Nat, ∀ (x : V), x.sz ≤ N → ∀ (w : World) (lo B : Nat) (p : Option Addr) (c : Nat), SpV w lo B x p c → B ≤ w.heap.size → x.sz ≤ 65536 → Calls Try.prog 13 #[.agg #[.int .i64 x.k, .int .i64 x.n, .slice p x.l.length c]] w (fun e w' => e = .returned (.bool true) ∧ Below w.heap.size w w') := by
    intro N
    induction N with
    | zero => intro x h; have := x.sz_pos; omega
    | succ N ih => intro x h w lo B p c hv hB h65; exact spare_rec (N + 1) (fun x' h' => ih x' (by omega)) w lo B x p c hv hB h h65
  exact key x.sz x (Nat.le_refl _) w lo B p c hv hB h65
end Go.Proofs.Ytikijkpklneihaa
namespace Go.Proofs.Ytikijkpklneihaa
open Go.RowKit
set_option linter.unusedVariables false
set_option linter.unusedSimpArgs false

theorem pth_of {W : World} {base B : Nat} {v : Value} {ks : List Int} (h : W.ownsRow base 3 1 v ks.length (ks.map (Value.int .i64))) (hB : W.heap.size ≤ B) (h64 : ∀ k ∈ ks, I64 k) : ∃ p c, v = .slice p ks.length c ∧ Pth W B p c ks := by
  rcases h.2 with ⟨rfl, h0⟩ | ⟨g, cap, cur, rfl, q3, q4, q5, q6, q7, q8⟩
  · have : ks = [] := List.eq_nil_of_length_eq_zero h0
    subst this
    exact ⟨none, 0, rfl, ⟨by simp, by simp [maxLen], fun i hi => by simp at hi⟩⟩
  · refine ⟨_, _, rfl, ⟨q5, q6, fun i hi => ⟨g, 0, rfl, Nat.lt_of_lt_of_le (Array.getElem?_eq_some_iff.1 q4).1 hB, ?_, h64 _ (List.getElem_mem hi)⟩⟩⟩
    have := h.cellAt i (by omega)
    rw [Nat.zero_add, this]
    simp [hi]
set_option maxRecDepth 100000 in
set_option maxHeartbeats 2000000 in
theorem numbers_yes (w : World) (B : Nat) (ks : List Int) (p : Option Addr) (c : Nat) (p' : Option Addr) (c' : Nat) (hp : Pth w B p c ks) (hp' : Pth w B p' c' ks) :
    Calls Try.prog 14 #[.slice p ks.length c, .slice p' ks.length c'] w fun e w' => e = .returned (.bool true) ∧ Below w.heap.size w w' := by
  have HP : Bx _ := ⟨hp⟩
  have HP' : Bx _ := ⟨hp'⟩
  have h1 := hp.len
  have h2 := hp.max
  have h3 := hp'.len
  have h4 := hp'.max
  unfold maxLen at h2 h4
  clear hp hp'
  go_enter Try.func14, Try.ntmps14
  go_wp2
  go_loopg [5] ks.length (fun q v wr => ∃ i : Nat, q = ks.length - i ∧ i ≤ ks.length ∧ v = .int .i64 i ∧ Bx (Below w.heap.size w wr ∧ Lo B w wr))
  case atStart => exact ⟨0, by simp, by omega, rfl, ⟨Below.refl _ _, ⟨fun _ _ _ => rfl⟩⟩⟩
  case round =>
    obtain ⟨i, hq, hil, rfl, HS⟩ := hrel
    by_cases hlt : i < ks.length
    · obtain ⟨b, o, rfl, hb, d0, _⟩ := (HP.out.lo HS.out.2).at_ i hlt
      obtain ⟨b', o', rfl, hb', e0, _⟩ := (HP'.out.lo HS.out.2).at_ i hlt
      have HN : ∀ q, Bx (Below w.heap.size w (wr.drewN q) ∧ Lo B w (wr.drewN q)) := fun q => ⟨⟨HS.out.1.os, HS.out.1.tape, HS.out.1.output, HS.out.1.size, HS.out.1.block⟩, ⟨fun b o hb => HS.out.2.cell b o hb⟩⟩
      go_wp2_with fail
      go_quiet (fail)
      go_wp2
      go_roundg (ks.length - (i + 1))
      case measure => omega
      case rel => exact ⟨i + 1, rfl, by omega, by simp, HN _⟩
    · go_wp2
      go_ret
      exact ⟨rfl, HS.out.1⟩
end Go.Proofs.Ytikijkpklneihaa
namespace Go.Proofs.Ytikijkpklneihaa
open Go.RowKit
set_option linter.unusedVariables false
set_option linter.unusedSimpArgs false

/-! ### ValueParts: the contracts, and what stays -/
def prtA (x : V) (ks : List Int) : V := (findV x ks).getD v0
def witA (x : V) (ks : List Int) (y : V) : V := (wzV x ks y).getD v0
theorem v0_64 : I64 v0.k ∧ I64 v0.n := ⟨⟨by decide, by decide⟩, ⟨by decide, by decide⟩⟩
theorem v0_sz : v0.sz = 1 := by decide
theorem prtA_sz (x : V) (ks : List Int) : (prtA x ks).sz ≤ x.sz := by
  unfold prtA
  cases hf : findV x ks with
  | none => have := x.sz_pos; simp [v0_sz]; exact this
  | some y => exact find_sz hf
theorem witA_sz (x : V) (ks : List Int) (y : V) : (witA x ks y).sz ≤ x.sz + y.sz := by
  unfold witA
  cases hf : wzV x ks y with
  | none => have := x.sz_pos; simp [v0_sz]; omega
  | some z => exact wz_sz hf
def TupA (a : V) (ok : Bool) (e : Ending) (q : Option Addr) (c : Nat) : Prop := e = .returned (.tuple #[agV a.k a.n q a.l.length c, .bool ok])
theorem Part_all2 (w : World) (B : Nat) (v : Value) (x : V) (pp : Option Addr) (pc : Nat) (ks : List Int) (hv : IsV w B v x) (hp : Pth w B pp pc ks) (hB : B ≤ w.heap.size) (hx : x.sz ≤ 200000) :
    Calls Try.prog 7 #[v, .slice pp ks.length pc] w fun e w' => ∃ q c, TupA (prtA x ks) (findV x ks).isSome e q c ∧ (I64 (prtA x ks).k ∧ I64 (prtA x ks).n) ∧ Prv w' w.heap.size w'.heap.size 0 (prtA x ks) q c ∧ Below w.heap.size w w' := by
  unfold prtA
  cases hf : findV x ks with
  | none =>
    refine (Part_no w B v x pp pc ks hv hp hB hf).mono ?_
    rintro e w' ⟨rfl, hb⟩
    exact ⟨none, 0, rfl, v0_64, Prv.nil rfl, hb⟩
  | some y =>
    refine (Part_own w B v x y pp pc ks hv hp hB hf hx).mono ?_
    rintro e w' ⟨q, c, rfl, h1, h2, h3⟩
    exact ⟨q, c, rfl, h1, h2, h3⟩
theorem With_all2 (w : World) (B : Nat) (v u : Value) (x y : V) (pp : Option Addr) (pc : Nat) (ks : List Int) (hv : IsV w B v x) (hu : IsV w B u y) (hp : Pth w B pp pc ks) (hB : B ≤ w.heap.size) (hx : x.sz ≤ 200000) (hy : y.sz ≤ 200000) :
    Calls Try.prog 8 #[v, .slice pp ks.length pc, u] w fun e w' => ∃ q c, TupA (witA x ks y) (findV x ks).isSome e q c ∧ (I64 (witA x ks y).k ∧ I64 (witA x ks y).n) ∧ Prv w' w.heap.size w'.heap.size 0 (witA x ks y) q c ∧ Below w.heap.size w w' := by
  unfold witA wzV
  cases hf : findV x ks with
  | none =>
    refine (With_no w B v u x y pp pc ks hv hu hp hB hf).mono ?_
    rintro e w' ⟨rfl, hb⟩
    exact ⟨none, 0, rfl, v0_64, Prv.nil rfl, hb⟩
  | some z =>
    refine (With_own w B v u x y z pp pc ks hv hu hp hB hf hx hy).mono ?_
    rintro e w' ⟨q, c, rfl, h1, h2, h3⟩
    exact ⟨q, c, rfl, h1, h2, h3⟩
theorem RPp.all {w w' : World} {z : Option V} {e : Ending} (h : RPp w z e w') : ∃ q c, TupA (z.getD v0) z.isSome e q c ∧ IsV w' w'.heap.size (agV (z.getD v0).k (z.getD v0).n q (z.getD v0).l.length c) (z.getD v0) ∧ Below w.heap.size w w' := by
  obtain ⟨hb, h1⟩ := h
  rcases h1 with ⟨rfl, rfl⟩ | ⟨y, u, rfl, rfl, h2⟩
  · exact ⟨none, 0, rfl, ⟨⟨none, 0, rfl, ⟨by simp [v0, V.l], by simp [maxLen], .inl rfl⟩⟩, v0_64.1, v0_64.2⟩, hb⟩
  · have h3 := h2 w' (Mid.refl _ _ _)
    obtain ⟨⟨p, c, rfl, h4⟩, h5, h6⟩ := h3
    exact ⟨p, c, rfl, ⟨⟨p, c, rfl, h4⟩, h5, h6⟩, hb⟩
theorem wz_isSome (x : V) (ks : List Int) (y : V) : (wzV x ks y).isSome = (findV x ks).isSome := by simp [wzV]
/-- what lies below a number stays, but for one block -/
structure FZ (w0 : World) (S h : Nat) (W : World) : Prop where
  os : W.os = w0.os
  tape : W.tape = w0.tape
  output : W.output = w0.output
  size : S ≤ W.heap.size
  blk : ∀ b, b < S → b ≠ h → W.heap[b]? = w0.heap[b]?
theorem FZ.refl {w0 : World} {h : Nat} : FZ w0 w0.heap.size h w0 := ⟨rfl, rfl, rfl, Nat.le_refl _, fun _ _ _ => rfl⟩
theorem FZ.next {w0 W W' : World} {S h : Nat} (f : FZ w0 S h W) (hb : Below W.heap.size W W') : FZ w0 S h W' :=
  ⟨hb.os.trans f.os, hb.tape.trans f.tape, hb.output.trans f.output, Nat.le_trans f.size hb.size, fun b h1 h2 => (hb.block b (Nat.lt_of_lt_of_le h1 f.size)).trans (f.blk b h1 h2)⟩
theorem FZ.trans {w0 w1 W : World} {S S' h : Nat} (f : FZ w0 S h w1) (g : FZ w1 S' h W) (hs : S ≤ S') : FZ w0 S h W :=
  ⟨g.os.trans f.os, g.tape.trans f.tape, g.output.trans f.output, Nat.le_trans hs g.size, fun b h1 h2 => (g.blk b (by omega) h2).trans (f.blk b h1 h2)⟩
/-- the book, with k trees in it, whose blocks lie from S to m, or from lo on -/
def CK (w0 : World) (lo h S m k : Nat) (W : World) : Prop :=
  ∃ ρ ov wv X, Bk W lo h ρ ov wv k X ∧ (∀ j, j < k → (X j).sz ≤ 200000) ∧ FZ w0 lo h W ∧ ∀ b, ρ b ≠ none → (S ≤ b ∧ b < m) ∨ lo ≤ b
theorem CK.start {w0 : World} {h S : Nat} (hd : w0.heap[h]? = some (.cells #[.slice none 0 0, .slice none 0 0] 30 (0, 0))) : CK w0 w0.heap.size h S S 0 w0 :=
  ⟨fun _ => none, .slice none 0 0, .slice none 0 0, fun _ => v0, ⟨hd, heap_lt hd, Nat.le_refl _, ⟨[], World.ownsRow_nil _ _ _ _, fun i hi => by omega⟩, ⟨[], World.ownsRow_nil _ _ _ _, fun i hi => by omega⟩, fun b hb => absurd rfl hb, fun b id q hb => (by cases hb), fun b hb => (by cases hb)⟩, fun j hj => by omega, FZ.refl, fun b hb => absurd rfl hb⟩
theorem CK.next {w0 W W' : World} {lo h S m k : Nat} (hC : CK w0 lo h S m k W) (hb : Below W.heap.size W W') : CK w0 lo h S m k W' := by
  obtain ⟨ρ, ov, wv, X, h1, h2, h3, h4⟩ := hC
  exact ⟨ρ, ov, wv, X, h1.next hb, h2, h3.next hb, h4⟩
theorem CK.fz {w0 W : World} {lo h S m k : Nat} (hC : CK w0 lo h S m k W) : FZ w0 lo h W := by
  obtain ⟨ρ, ov, wv, X, h1, h2, h3, h4⟩ := hC
  exact h3
theorem CK.keep {w0 W : World} {h S m k : Nat} (hC : CK w0 w0.heap.size h S m k W) (hk9 : k ≤ 1000) {z : V} {q q' : Option Addr} {c c' s t : Nat} (hk : I64 z.k) (hn : I64 z.n) (hp : Prv w0 s t 0 z q c) (hms : m ≤ s) (hSm : S ≤ m) (hst : s ≤ t) (hhS : h < S) (htl : t ≤ w0.heap.size) (hno : ∀ o k, w0.cell? ⟨h, o, none⟩ ≠ some (.int .i64 k)) (hw : IsV w0 w0.heap.size (agV z.k z.n q' z.l.length c') z) (hz : z.sz ≤ 200000) :
    Calls Try.prog 11 #[.pointer (some ⟨h, 0, none⟩), agV z.k z.n q z.l.length c, agV z.k z.n q' z.l.length c'] W fun e w' => e = .returned (.bool true) ∧ Bx (CK w0 w0.heap.size h S t (k + 1) w') := by
  obtain ⟨ρ, ov, wv, X, h1, h2, h3, h4⟩ := hC
  have hpW : Prv W s t 0 z q c := hp.keep fun b a1 a2 a3 => h3.blk b (by omega) (by omega)
  have hwW : IsV W w0.heap.size (agV z.k z.n q' z.l.length c') z := hw.skip (h := h) (fun b o a1 a2 => by simp only [World.cell?, h3.blk b a1 a2]) hno
  refine (keep_any W w0.heap.size h ρ ov wv k X h1 hk9 z q c hk hn s t hpW htl (by omega) (fun b a1 a2 => ?_) w0.heap.size q' c' hwW (Nat.le_refl _) (by omega)).mono ?_
  · cases hr : ρ b with
    | none => rfl
    | some r =>
      have := h4 b (by rw [hr]; simp)
      omega
  · rintro e w' ⟨rfl, hK⟩
    obtain ⟨av, bv, ⟨ρ', k1, k2⟩, k3⟩ := hK.out
    obtain ⟨cs, o1, _⟩ := h1.orow
    obtain ⟨ds, o2, _⟩ := h1.wrow
    refine ⟨rfl, ⟨ρ', av, bv, _, k1, fun j hj => ?_, ⟨k3.os.trans h3.os, k3.tape.trans h3.tape, k3.output.trans h3.output, Nat.le_trans h3.size k3.size, fun b a1 a2 => (k3.blk b (Nat.lt_of_lt_of_le a1 h3.size) a2 (fun e => by have := own_base o1 b e; omega) (fun e => by have := own_base o2 b e; omega)).trans (h3.blk b a1 a2)⟩, fun b hb => ?_⟩⟩
    · by_cases e : j = k
      · simp only [e, if_true]; exact hz
      · simp only [if_neg e]; exact h2 j (by omega)
    · have hsz := h3.size
      rcases k2 b hb with a | a | a
      · have := h4 b a
        omega
      · exact .inl (by omega)
      · exact .inr (by omega)
theorem CK.spoil {w0 W : World} {lo h S m k : Nat} (hC : CK w0 lo h S m k W) (hk : k ≤ 8) (hSl : S ≤ lo) : Calls Try.prog 15 #[.pointer (some ⟨h, 0, none⟩)] W fun e w' => e = .returned (.bool true) ∧ Bx (FZ w0 S h w') := by
  obtain ⟨ρ, ov, wv, X, h1, h2, h3, h4⟩ := hC
  refine (spoil_any W lo h ρ ov wv k X h1 hk h2).mono ?_
  rintro e w' ⟨rfl, hS⟩
  have hs := h3.size
  refine ⟨rfl, ⟨hS.out.os.trans h3.os, hS.out.tape.trans h3.tape, hS.out.output.trans h3.output, by have := hS.out.size; omega, fun b a1 a2 => (hS.out.block b (by omega) ?_).trans (h3.blk b (by omega) a2)⟩⟩
  cases hr : ρ b with
  | none => rfl
  | some r =>
    have := h4 b (by rw [hr]; simp)
    omega
end Go.Proofs.Ytikijkpklneihaa
namespace Go.Proofs.Ytikijkpklneihaa
open Go.RowKit
set_option linter.unusedVariables false
set_option linter.unusedSimpArgs false

/-- boxes with values -/
def BXs (W : World) (L : List (Nat × V × Option Addr × Nat)) : Prop := ∀ t ∈ L, W.heap[t.1]? = some (.cells #[.int .i64 t.2.1.k, .int .i64 t.2.1.n, .slice t.2.2.1 t.2.1.l.length t.2.2.2] 24 (0, 0))
theorem BXs.next {W W' : World} {L : List (Nat × V × Option Addr × Nat)} (h : BXs W L) (hb : Below W.heap.size W W') : BXs W' L := fun t ht => (hb.block _ (heap_lt (h t ht))).trans (h t ht)
theorem BXs.add {W W' : World} {L : List (Nat × V × Option Addr × Nat)} {z : V} {q : Option Addr} {d : Nat} (h : BXs W L) (hb : Below W.heap.size W W') : BXs (W'.alloc (.cells #[.int .i64 z.k, .int .i64 z.n, .slice q z.l.length d] 24)) (L ++ [(W'.heap.size, z, q, d)]) := fun t ht => by
  rcases List.mem_append.1 ht with ht | ht
  · exact (h.next (hb.trans ((below1 _ _).mono hb.size))) t ht
  · simp only [List.mem_singleton] at ht
    subst ht
    exact World.alloc_heap_new _ _
/-- a path with a mark behind it -/
theorem way_app (W : World) (B : Nat) (pp : Option Addr) (pc : Nat) (ks : List Int) (hp : Pth W B pp pc ks) (hB : B ≤ W.heap.size) (hl : ks.length ≤ 17592186044000) : ∃ v1 W1 g cap W2, (∀ ty, (Builtin.append_ #[25, 25] ty #[.slice (some ⟨W.heap.size, 0, none⟩) 0 0, .slice pp ks.length pc]).run Try.prog (W.alloc (.cells #[] 3)) = .ok v1 W1) ∧ (∀ ty, (Builtin.append_ #[25, 25] ty #[v1, .slice (some ⟨W1.heap.size, 0, none⟩) 1 1]).run Try.prog (W1.alloc (.cells #[.int .i64 (-77)] 3)) = .ok (.slice (some ⟨g, 0, none⟩) (ks.length + 1) cap) W2) ∧ Below W.heap.size W W2 ∧ Pth W2 W2.heap.size (some ⟨g, 0, none⟩) cap ks ∧ W2.cell? ⟨g, ks.length, none⟩ = some (.int .i64 (-77)) ∧ ks.length + 1 ≤ cap ∧ g < W2.heap.size ∧ W.heap.size ≤ g := by
  obtain ⟨i0, hi, hz0, hz1, hz2⟩ := info_parts infoI
  have hb := below1 W (.cells #[] 3)
  have ho : (W.alloc (.cells #[] 3)).ownsRow W.heap.size 3 1 (.slice (some ⟨W.heap.size, 0, none⟩) 0 0) 0 [] := ⟨rfl, .inr ⟨W.heap.size, 0, #[], rfl, Nat.le_refl _, World.alloc_heap_new _ _, Nat.le_refl _, by simp [maxLen], rfl, rfl⟩⟩
  have hp1 := hp.lo (Lo.of (hb.mono hB))
  obtain ⟨v1, W1, r1, o1, g1⟩ := appL Try.underlying25 hi hz0 hz1 hz2 rfl (by decide) (W.alloc (.cells #[] 3)) W.heap.size _ 0 [] ho pp ks.length pc (ks.map (Value.int .i64 ·)) (by simp) (fun h0 => by
    obtain ⟨b, o, e, _, _⟩ := hp1.at_ 0 h0
    refine ⟨_, e, fun j z hj => ?_⟩
    obtain ⟨hjl, rfl⟩ := List.getElem?_eq_some_iff.1 hj
    simp only [List.length_map] at hjl
    obtain ⟨b', o', e', _, h2, _⟩ := hp1.at_ j hjl
    rw [e] at e'
    simp only [Option.some.injEq, Addr.mk.injEq, and_true] at e'
    obtain ⟨rfl, rfl⟩ := e'
    rw [show (⟨b, o, none⟩ : Addr).add j = ⟨b, o + j, none⟩ by unfold Addr.add; split <;> simp_all, h2]
    simp) (by simp [Value.oneCell']) (by unfold maxLen; omega) (by omega) hb.size
  rw [List.nil_append, Nat.zero_add] at o1
  have hb1 : Below W.heap.size W W1 := hb.grown g1 hb.size fun b hb' => own_base ho b hb'
  obtain ⟨g, cap, W2, r2, o2, g2, hc, _⟩ := app1 Try.underlying25 hi hz0 hz1 hz2 rfl (by decide) W1 W.heap.size v1 ks.length _ o1 #[.int .i64 (-77)] rfl (by simp [Value.oneCell']) (by unfold maxLen; omega) (by omega) hb1.size
  have hb2 : Below W.heap.size W W2 := hb1.grown g2 hb1.size fun b hb' => own_base o1 b hb'
  have hgl : g < W2.heap.size := (owns_block o2 rfl).2
  have hcm : cap ≤ maxLen := by
    rcases o2.2 with ⟨e, _⟩ | ⟨g', cap', cur, e, _, _, _, h4, _⟩
    · cases e
    · simp only [Value.slice.injEq] at e
      obtain ⟨_, _, rfl⟩ := e
      exact h4
  have hcell : ∀ j z, (ks.map (Value.int .i64 ·) ++ [Value.int .i64 (-77)])[j]? = some z → W2.cell? ⟨g, j, none⟩ = some z := fun j z hj => by
    have hjl := (List.getElem?_eq_some_iff.1 hj).1
    simp at hjl
    rw [o2.cellAt j (by omega)]
    exact hj
  refine ⟨v1, W1, g, cap, W2, r1, r2, hb2, ⟨by omega, hcm, fun i hi' => ⟨g, 0, rfl, hgl, ?_, ?_⟩⟩, hcell _ _ (by simp), hc, hgl, (owns_block o2 rfl).1⟩
  · rw [Nat.zero_add]
    refine hcell _ _ ?_
    rw [List.getElem?_append_left (by simpa using hi')]
    simp [hi']
  · obtain ⟨_, _, _, _, _, h⟩ := hp.at_ i hi'
    exact h
/-! ### what is so from a world on -/
def boxO (z : V) (q : Option Addr) (d : Nat) : Obj := .cells #[.int .i64 z.k, .int .i64 z.n, .slice q z.l.length d] 24 (0, 0)
theorem own_on {w5 : World} {s : Nat} {z : V} {q : Option Addr} {d : Nat} (h : SpV w5 s w5.heap.size z q d) : ∀ Y, Below (w5.alloc (boxO z q d)).heap.size (w5.alloc (boxO z q d)) Y → Y.heap[w5.heap.size]? = some (boxO z q d) ∧ SpV Y s w5.heap.size z q d ∧ w5.heap.size < Y.heap.size := fun Y hY => by
  have hs := hY.size
  rw [World.size_alloc] at hs
  have hb : Below w5.heap.size w5 Y := (below1 _ _).trans (hY.mono (below1 w5 _).size)
  exact ⟨(hY.block _ (by simp)).trans (World.alloc_heap_new _ _), SpV.mid ⟨fun b o _ h2 => hb.cell (p := ⟨b, o, none⟩) h2⟩ _ h, by omega⟩
theorem prv_on {w5 : World} {s : Nat} {z : V} {q : Option Addr} {d : Nat} (h : Prv w5 s w5.heap.size 0 z q d) (h1 : I64 z.k ∧ I64 z.n) (hs : s ≤ w5.heap.size) : ∀ Y, Below (w5.alloc (boxO z q d)).heap.size (w5.alloc (boxO z q d)) Y → Y.heap[w5.heap.size]? = some (boxO z q d) ∧ Prv Y s w5.heap.size 0 z q d ∧ w5.heap.size < Y.heap.size ∧ (I64 z.k ∧ I64 z.n) ∧ s ≤ w5.heap.size := fun Y hY => by
  have hs' := hY.size
  rw [World.size_alloc] at hs'
  have hb : Below w5.heap.size w5 Y := (below1 _ _).trans (hY.mono (below1 w5 _).size)
  exact ⟨(hY.block _ (by simp)).trans (World.alloc_heap_new _ _), h.keep fun b _ _ h3 => hb.block b h3, by omega, h1, hs⟩
theorem isv_on {w5 : World} {z : V} {q : Option Addr} {d : Nat} (h : IsV w5 w5.heap.size (agV z.k z.n q z.l.length d) z) : ∀ Y, Below (w5.alloc (boxO z q d)).heap.size (w5.alloc (boxO z q d)) Y → Y.heap[w5.heap.size]? = some (boxO z q d) ∧ IsV Y Y.heap.size (agV z.k z.n q z.l.length d) z ∧ w5.heap.size < Y.heap.size := fun Y hY => by
  have hs := hY.size
  rw [World.size_alloc] at hs
  have hb : Below w5.heap.size w5 Y := (below1 _ _).trans (hY.mono (below1 w5 _).size)
  exact ⟨(hY.block _ (by simp)).trans (World.alloc_heap_new _ _), (h.lo (Lo.of hb)).up hb.size, by omega⟩
theorem bel_step {w5 W : World} {o : Obj} (h : Below W.heap.size W w5) : Below W.heap.size W (w5.alloc o) := h.trans ((below1 _ _).mono h.size)
theorem bel_to {W W' Y : World} (h : Below W.heap.size W W') (g : Below W'.heap.size W' Y) : Below W.heap.size W Y := h.trans (g.mono h.size)
/-! ### .. behind the book's growth -/
theorem FZ.low {w0 W : World} {S S' h : Nat} (f : FZ w0 S h W) (hs : S' ≤ S) : FZ w0 S' h W := ⟨f.os, f.tape, f.output, Nat.le_trans hs f.size, fun b h1 h2 => f.blk b (by omega) h2⟩
theorem FZ.box {w0 W : World} {S h b : Nat} {o : Obj} (f : FZ w0 S h W) (hb : w0.heap[b]? = some o) (hs : b < S) (hn : b ≠ h) : W.heap[b]? = some o := (f.blk b hs hn).trans hb
theorem FZ.spv {w0 W : World} {S h s t : Nat} {z : V} {q : Option Addr} {d : Nat} (f : FZ w0 S h W) (hv : SpV w0 s t z q d) (ht : t ≤ S) (hh : h < s) : SpV W s t z q d := SpV.mid (Mid.blocks fun b h1 h2 => f.blk b (by omega) (by omega)) _ hv
theorem FZ.below {w w0 W : World} {S h : Nat} (f : FZ w0 S h W) (hb : Below w.heap.size w w0) (h1 : w.heap.size ≤ S) (h2 : w.heap.size ≤ h) : Below w.heap.size w W := ⟨f.os.trans hb.os, f.tape.trans hb.tape, f.output.trans hb.output, Nat.le_trans h1 f.size, fun b h => (f.blk b (by omega) (by omega)).trans (hb.block b h)⟩
/-- what the end looks at -/
structure PX (w : World) (x y : V) (p : Option Addr) (c : Nat) (p' : Option Addr) (c' : Nat) (xb yb : Nat) (xq : Option Addr) (xd : Nat) (yq : Option Addr) (yd : Nat) (sx tx sy ty : Nat) (pp : Option Addr) (pc g gc : Nat) (ks : List Int) (Y : World) : Prop where
  a : Y.heap[w.heap.size]? = some (boxO x p c)
  b : Y.heap[w.heap.size + 1]? = some (boxO y p' c')
  xa : Y.heap[xb]? = some (boxO x xq xd)
  ya : Y.heap[yb]? = some (boxO y yq yd)
  va : SlV Y w.heap.size p c x.l
  vb : SlV Y w.heap.size p' c' y.l
  xs : SpV Y sx tx x xq xd
  ys : SpV Y sy ty y yq yd
  txl : tx < Y.heap.size
  tyl : ty < Y.heap.size
  wp : w.heap.size ≤ Y.heap.size
  path : Pth Y w.heap.size pp pc ks
  inn : Pth Y Y.heap.size (some ⟨g, 0, none⟩) gc ks
  mrk : Y.cell? ⟨g, ks.length, none⟩ = some (.int .i64 (-77))
theorem FZ.px {w w0 W : World} {S h : Nat} {x y : V} {p : Option Addr} {c : Nat} {p' : Option Addr} {c' xb yb : Nat} {xq : Option Addr} {xd : Nat} {yq : Option Addr} {yd sx tx sy ty : Nat} {pp : Option Addr} {pc g gc : Nat} {ks : List Int} (f : FZ w0 S h W) (hP : PX w x y p c p' c' xb yb xq xd yq yd sx tx sy ty pp pc g gc ks w0) (n1 : w.heap.size + 1 < h) (n2 : h < sx) (n3 : tx ≤ xb) (n4 : h < xb) (n5 : xb < S) (n6 : h < sy) (n7 : ty ≤ yb) (n8 : h < yb) (n9 : yb < S) (n10 : h < g) (n11 : g < S) : PX w x y p c p' c' xb yb xq xd yq yd sx tx sy ty pp pc g gc ks W := by
  have hl : Lo w.heap.size w0 W := Lo.blocks fun b hb => f.blk b (by omega) (by omega)
  have hs := f.size
  have hg : ∀ o, W.cell? ⟨g, o, none⟩ = w0.cell? ⟨g, o, none⟩ := fun o => World.cell?_of_block (a := ⟨g, o, none⟩) (f.blk g n11 (by omega))
  exact ⟨f.box hP.a (by omega) (by omega), f.box hP.b (by omega) (by omega), f.box hP.xa n5 (by omega), f.box hP.ya n9 (by omega), hP.va.lo hl, hP.vb.lo hl, f.spv hP.xs (by omega) n2, f.spv hP.ys (by omega) n6, by omega, by omega, by omega, hP.path.lo hl, ⟨hP.inn.len, hP.inn.max, fun i hi => by
    obtain ⟨b, o, e, _, h2, h3⟩ := hP.inn.at_ i hi
    simp only [Option.some.injEq, Addr.mk.injEq, and_true] at e
    obtain ⟨rfl, rfl⟩ := e
    exact ⟨g, 0, rfl, by omega, by rw [hg]; exact h2, h3⟩⟩, by rw [hg]; exact hP.mrk⟩
section
variable {w Y : World} {x y : V} {p : Option Addr} {c : Nat} {p' : Option Addr} {c' xb yb : Nat} {xq : Option Addr} {xd : Nat} {yq : Option Addr} {yd sx tx sy ty : Nat} {pp : Option Addr} {pc g gc : Nat} {ks : List Int}
theorem PX.ox (h : PX w x y p c p' c' xb yb xq xd yq yd sx tx sy ty pp pc g gc ks Y) (hs : x.sz ≤ 65536) (hk : I64 x.k) (hn : I64 x.n) : IsV Y Y.heap.size (agV x.k x.n xq x.l.length xd) x := ⟨⟨xq, xd, rfl, (SpV.sl _ h.xs (by omega)).up (Nat.le_of_lt h.txl)⟩, hk, hn⟩
theorem PX.oy (h : PX w x y p c p' c' xb yb xq xd yq yd sx tx sy ty pp pc g gc ks Y) (hs : y.sz ≤ 65536) (hk : I64 y.k) (hn : I64 y.n) : IsV Y Y.heap.size (agV y.k y.n yq y.l.length yd) y := ⟨⟨yq, yd, rfl, (SpV.sl _ h.ys (by omega)).up (Nat.le_of_lt h.tyl)⟩, hk, hn⟩
theorem PX.vx (h : PX w x y p c p' c' xb yb xq xd yq yd sx tx sy ty pp pc g gc ks Y) (hk : I64 x.k) (hn : I64 x.n) : IsV Y Y.heap.size (agV x.k x.n p x.l.length c) x := ⟨⟨p, c, rfl, h.va.up h.wp⟩, hk, hn⟩
theorem PX.vy (h : PX w x y p c p' c' xb yb xq xd yq yd sx tx sy ty pp pc g gc ks Y) (hk : I64 y.k) (hn : I64 y.n) : IsV Y Y.heap.size (agV y.k y.n p' y.l.length c') y := ⟨⟨p', c', rfl, h.vb.up h.wp⟩, hk, hn⟩
end
theorem no_int {W : World} {b : Nat} (h : W.heap[b]? = some (.cells #[.slice none 0 0, .slice none 0 0] 30 (0, 0))) : ∀ o k, W.cell? ⟨b, o, none⟩ ≠ some (.int .i64 k) := fun o k e => by
  simp only [World.cell?, h] at e
  rcases o with _ | _ | o <;> simp at e
end Go.Proofs.Ytikijkpklneihaa
