import Derived.Test.YtjjbgbadkbomlaaDoorCSBc
import Derived.Test.YtjjbgbadkbomlaaDoorCRC8
namespace Go.Proofs.YtjjbgbadkbomlaaDoor
open Go.RowKit
set_option linter.unusedVariables false
set_option linter.unusedSimpArgs false

theorem nameOk_ne {b : ByteArray} (h : nameOk b.data.toList = true) : emptyB b = false := by
  obtain ⟨_, _, _, h1, _⟩ := nameOk_nextR h
  unfold emptyB
  rw [ByteArray.toList_eq]
  cases e : b.data.toList with
  | nil => rw [e] at h1; simp at h1
  | cons x r => rfl
/-- a node under its other name -/
def renN (a b : ByteArray) (n : Nd) : Nd := if n.name = a then { n with name := b } else n
theorem ren_kind (a b : ByteArray) (n : Nd) : (renN a b n).kind = n.kind ∧ (renN a b n).kids = n.kids ∧ (renN a b n).pos = n.pos ∧ (renN a b n).num = n.num ∧ (renN a b n).name = if n.name = a then b else n.name := by
  unfold renN
  split <;> simp
theorem ren_wf {a b : ByteArray} {n : Nd} (h : NdWf n) (hb : b.size ≤ maxLen) : NdWf (renN a b n) := by
  unfold renN
  split
  · exact ⟨h.kind, h.pos, h.num, hb, h.kids⟩
  · exact h
theorem rt_of {l : List Nd} {f : Nat → Nd} {a b : ByteArray} (ea : emptyB a = false) (eb : emptyB b = false) (h : ∀ j, j < l.length → f j = renN a b (ndN l j) ∧ (ndN l j).name ≠ b) : Rt a b l (lst l.length f) := by
  have at_ : ∀ j, (j < l.length ∧ ndN (lst l.length f) j = renN a b (ndN l j)) ∨ (l.length ≤ j ∧ ndN (lst l.length f) j = nd0 ∧ ndN l j = nd0) := fun j => by
    by_cases hj : j < l.length
    · exact .inl ⟨hj, by rw [lst_nd f hj]; exact (h j hj).1⟩
    · exact .inr ⟨by omega, lst_no f (by omega), nd_no (by omega)⟩
  have n0 : emptyB nd0.name = true := by unfold emptyB; rw [ByteArray.toList_eq]; rfl
  have na : nd0.name ≠ a := fun e => by rw [← e, n0] at ea; cases ea
  have nb : nd0.name ≠ b := fun e => by rw [← e, n0] at eb; cases eb
  refine ⟨lst_len _ _, fun i => ?_, fun i => ?_, fun i => ?_, fun i => ?_, fun i => ?_, fun i => ?_⟩
  · unfold kdN
    rcases at_ i with ⟨_, q⟩ | ⟨_, q, q'⟩
    · rw [q]; exact (ren_kind a b _).1
    · rw [q, q']
  · rcases at_ i with ⟨_, q⟩ | ⟨_, q, q'⟩
    · rw [q]; exact (ren_kind a b _).2.1
    · rw [q, q']
  · rcases at_ i with ⟨_, q⟩ | ⟨_, q, q'⟩
    · rw [q]; exact (ren_kind a b _).2.2.1
    · rw [q, q']
  · rcases at_ i with ⟨_, q⟩ | ⟨_, q, q'⟩
    · rw [q]; exact (ren_kind a b _).2.2.2.1
    · rw [q, q']
  · rcases at_ i with ⟨_, q⟩ | ⟨_, q, q'⟩
    · rw [q]; exact (ren_kind a b _).2.2.2.2
    · rw [q, q', if_neg na]
  · rcases at_ i with ⟨hj, q⟩ | ⟨_, q, q'⟩
    · exact (h i hj).2
    · rw [q']; exact nb
/-- in the midst of the renaming -/
structure LR (W3 wr : World) (ab : Nat) (l : List Nd) (kb kc : Nat → Nat) (a b : ByteArray) (k : Nat) : Prop where
  ex : ∃ f, LN wr ab l.length f kb kc ∧ ∀ j, j < l.length → (j < k → f j = renN a b (ndN l j) ∧ (ndN l j).name ≠ b) ∧ (k ≤ j → f j = ndN l j)
  bel : Below W3.heap.size W3 wr
  lo : W3.heap.size ≤ ab
section
variable {W3 wr : World} {ab : Nat} {l : List Nd} {kb kc : Nat → Nat} {a b : ByteArray} {k : Nat}
theorem LR.cell (h : LR W3 wr ab l kb kc a b k) (hk : k < l.length) : wr.cell? ⟨ab, k * 5 + 3, none⟩ = some (.string (ndN l k).name) ∧ (∀ i, wr.frozen? ⟨ab, i, none⟩ = false) := by
  obtain ⟨f, h1, h2⟩ := h.ex
  have e := (h2 k hk).2 (Nat.le_refl _)
  have c := fun q hq => h1.cell hk (q := q) hq
  rw [e] at c
  exact ⟨c 3 (by omega), h1.frozen⟩
theorem LR.s0 (h : LR W3 wr ab l kb kc a b k) (hk : k < l.length) (h1 : (ndN l k).name ≠ b) (h2 : (ndN l k).name ≠ a) : LR W3 wr ab l kb kc a b (k + 1) := by
  obtain ⟨f, q1, q2⟩ := h.ex
  refine ⟨⟨f, q1, fun j hj => ⟨fun hlt => ?_, fun hle => (q2 j hj).2 (by omega)⟩⟩, h.bel, h.lo⟩
  by_cases e : j = k
  · subst e
    refine ⟨?_, h1⟩
    rw [(q2 j hj).2 (Nat.le_refl _)]
    unfold renN
    rw [if_neg h2]
  · exact (q2 j hj).1 (by omega)
theorem LR.s3 (h : LR W3 wr ab l kb kc a b k) (hk : k < l.length) (h1 : (ndN l k).name ≠ b) (h2 : (ndN l k).name = a) : LR W3 (wr.setCell ⟨ab, k * 5 + 3, none⟩ (.string b)) ab l kb kc a b (k + 1) := by
  obtain ⟨f, q1, q2⟩ := h.ex
  have ek := (q2 k hk).2 (Nat.le_refl _)
  refine ⟨⟨_, q1.name hk b, fun j hj => ?_⟩, set_bel h.bel h.lo, h.lo⟩
  by_cases e : j = k
  · subst e
    rw [upd_same]
    refine ⟨fun _ => ⟨?_, h1⟩, fun h => absurd h (by omega)⟩
    rw [ek]
    unfold renN
    rw [if_pos h2]
  · rw [upd_other e]
    exact ⟨fun h => (q2 j hj).1 (by omega), fun h => (q2 j hj).2 (by omega)⟩
end
theorem NameR_ok (s : ByteArray) (w : World) (hl : s.size ≤ maxLen) : Calls Tryd.prog 15 #[.string s] w fun e w' => e = .returned (.bool (nameOk s.data.toList)) ∧ Below w.heap.size w w' := by
  have := NameR s w hl
  rw [nameG_ok] at this
  exact this
end Go.Proofs.YtjjbgbadkbomlaaDoor
namespace Go.Proofs.YtjjbgbadkbomlaaDoor
open Go.RowKit
set_option linter.unusedVariables false
set_option linter.unusedSimpArgs false

set_option maxRecDepth 100000 in
set_option maxHeartbeats 2000000 in
theorem ren_far (w : World) (a : Option Addr) (cap n : Nat) (nm ot : ByteArray) (HB : Calls Tryd.prog 7 #[.slice a n cap] w fun e w' => e = .returned (.bool true) ∧ w = w') :
    Calls Tryd.prog 5 #[.slice a n cap, .string nm, .string ot] w fun e w' => e = .returned (.bool true) ∧ Below w.heap.size w w' := by
  have HBY := Bx.mk HB
  clear HB
  go_enter Tryd.func5, Tryd.ntmps5
  go_wp2_with (first
    | (go_at_call 7; refine Calls.mono HBY.out ?_; rintro e w' ⟨rfl, rfl⟩; clear HBY))
  go_ret
  exact ⟨rfl, Below.refl _ _⟩
set_option maxRecDepth 100000 in
set_option maxHeartbeats 2000000 in
theorem ren_bad (w : World) (B : Nat) (a : Option Addr) (cap : Nat) (l : List Nd) (nm ot : ByteArray) (hn : IsNodes w B a cap l) (hL : Laid w) (hl31 : l.length ≤ 2147483647) (hc : ¬ ((checkAll l).2 = 0 ∧ (namesS l).flt.2 = 0)) (HB : Calls Tryd.prog 7 #[.slice a l.length cap] w fun e w' => e = .returned (.bool false) ∧ w = w') :
    Calls Tryd.prog 5 #[.slice a l.length cap, .string nm, .string ot] w fun e w' => e = .returned (.bool true) ∧ Below w.heap.size w w' := by
  have HBY := Bx.mk HB
  have HSH := Bx.mk (shown_any w hL)
  have hB := hn.hi
  have HN1 : Bx (∀ W1, Below w.heap.size w W1 → _) := ⟨fun W1 b1 => names_bad (w := W1) (B := B) (a := a) (cap := cap) (l := l) (hn.below (b1.mono hB)) (hL.below b1) hl31 hc⟩
  unfold fltV nilNames at HN1
  clear HB hn hL hc
  generalize l.length = n at *
  have HE : Bx (∀ W1 W2 (o1 o2 : Obj), Below w.heap.size w W1 → Below W1.heap.size W1 W2 → Below w.heap.size w ((W2.alloc o1).alloc o2)) := ⟨fun W1 W2 o1 o2 b1 b2 => b1.trans ((b2.mono b1.size).trans (((Below.refl _ _).alloc (by have := b1.size; have := b2.size; omega) _).alloc (by have := b1.size; have := b2.size; simp; omega) _))⟩
  go_enter Tryd.func5, Tryd.ntmps5
  go_wp2_with (first
    | (go_at_call 7; refine Calls.mono HBY.out ?_; rintro e w' ⟨rfl, rfl⟩; clear HBY)
    | (go_at_call 8; refine Calls.mono HSH.out ?_; rintro e W1 ⟨rfl, b1⟩; replace b1 := Bx.mk b1; clear HSH)
    | (go_at_call 9; refine Calls.mono (HN1.out _ b1.out) ?_; rintro e W2 ⟨⟨p, c, hc, rfl⟩, b2⟩; replace b2 := Bx.mk b2; have e1 : (c != 0) = true := (by rw [bne_iff_ne]; exact hc); clear HN1))
  go_ret
  exact ⟨rfl, HE.out _ _ _ _ b1.out b2.out⟩
set_option maxRecDepth 100000 in
set_option maxHeartbeats 8000000 in
theorem ren_no (w : World) (a : Option Addr) (cap n : Nat) (nm ot : ByteArray) (o m r1 r2 r3 r4 : Bool) (hL : Laid w)
    (HB : Calls Tryd.prog 7 #[.slice a n cap] w fun e w' => e = .returned (.bool false) ∧ w = w')
    (HN : ∀ W1, Below w.heap.size w W1 → Calls Tryd.prog 9 #[.slice a n cap] W1 fun e w' => (∃ rb fb, e = .returned (.tuple #[.agg #[.slice (some ⟨rb, 0, none⟩) n n, .slice (some ⟨fb, 0, none⟩) n n], fltV 0 0])) ∧ Below W1.heap.size W1 w')
    (Ho : ∀ W, Calls Tryd.prog 15 #[.string ot] W fun e w' => e = .returned (.bool o) ∧ Below W.heap.size W w') (Hm : ∀ W, Calls Tryd.prog 15 #[.string nm] W fun e w' => e = .returned (.bool m) ∧ Below W.heap.size W w')
    (h1 : (nm.toList == [105, 110, 112, 117, 116]) = r1) (h2 : (nm.toList == [111, 117, 116, 112, 117, 116]) = r2) (h3 : (ot.toList == [105, 110, 112, 117, 116]) = r3) (h4 : (ot.toList == [111, 117, 116, 112, 117, 116]) = r4) (hx : (!o || !m || r1 || r2 || r3 || r4) = true) :
    Calls Tryd.prog 5 #[.slice a n cap, .string nm, .string ot] w fun e w' => e = .returned (.bool true) ∧ Below w.heap.size w w' := by
  have HBY := Bx.mk HB
  have HSH := Bx.mk (shown_any w hL)
  have HN1 := Bx.mk HN
  unfold fltV at HN1
  have HMo := Bx.mk Ho
  have HMm := Bx.mk Hm
  have HX : Bx (∀ W1 W2 W3 W4, Below w.heap.size w W1 → Below W1.heap.size W1 W2 → Below W2.heap.size W2 W3 → Below W3.heap.size W3 W4 → Below w.heap.size w W4) := ⟨fun W1 W2 W3 W4 b1 b2 b3 b4 => by
    have z1 := b1.size
    have z2 := b2.size
    have z3 := b3.size
    exact b1.trans ((b2.mono z1).trans ((b3.mono (by omega)).trans (b4.mono (by omega))))⟩
  clear HB HN Ho Hm hL
  go_enter Tryd.func5, Tryd.ntmps5
  cases o
  · clear h1 h2 h3 h4 hx
    go_wp2_with (first
      | (go_at_call 7; refine Calls.mono HBY.out ?_; rintro e w' ⟨rfl, rfl⟩; clear HBY)
      | (go_at_call 8; refine Calls.mono HSH.out ?_; rintro e W1 ⟨rfl, b1⟩; replace b1 := Bx.mk b1; clear HSH)
      | (go_at_call 9; refine Calls.mono (HN1.out _ b1.out) ?_; rintro e W2 ⟨⟨rb, fb, rfl⟩, b2⟩; replace b2 := Bx.mk b2; clear HN1)
      | (go_at_call 15; obtain ⟨W3, hW3, b3, q0, q1, s3⟩ := pair_in W2 #[.slice (some ⟨rb, 0, none⟩) n n, .slice (some ⟨fb, 0, none⟩) n n] #[.int .i64 0, .int .i64 0] 28 31; rw [hW3]; refine Calls.mono (HMo.out _) ?_; rintro e W4 ⟨rfl, b4⟩; replace b4 := Bx.mk b4; replace b3 := Bx.mk b3; clear HMo q0 q1 hW3)
      | (go_at_call 15; refine Calls.mono (HMm.out _) ?_; rintro e W5 ⟨rfl, b5⟩; replace b5 := Bx.mk b5; clear HMm))
    go_ret
    exact ⟨rfl, HX.out _ _ _ _ b1.out b2.out b3.out b4.out⟩
  cases m
  · clear h1 h2 h3 h4 hx
    go_wp2_with (first
      | (go_at_call 7; refine Calls.mono HBY.out ?_; rintro e w' ⟨rfl, rfl⟩; clear HBY)
      | (go_at_call 8; refine Calls.mono HSH.out ?_; rintro e W1 ⟨rfl, b1⟩; replace b1 := Bx.mk b1; clear HSH)
      | (go_at_call 9; refine Calls.mono (HN1.out _ b1.out) ?_; rintro e W2 ⟨⟨rb, fb, rfl⟩, b2⟩; replace b2 := Bx.mk b2; clear HN1)
      | (go_at_call 15; obtain ⟨W3, hW3, b3, q0, q1, s3⟩ := pair_in W2 #[.slice (some ⟨rb, 0, none⟩) n n, .slice (some ⟨fb, 0, none⟩) n n] #[.int .i64 0, .int .i64 0] 28 31; rw [hW3]; refine Calls.mono (HMo.out _) ?_; rintro e W4 ⟨rfl, b4⟩; replace b4 := Bx.mk b4; replace b3 := Bx.mk b3; clear HMo q0 q1 hW3)
      | (go_at_call 15; refine Calls.mono (HMm.out _) ?_; rintro e W5 ⟨rfl, b5⟩; replace b5 := Bx.mk b5; clear HMm))
    go_ret
    exact ⟨rfl, HX.out _ _ _ _ b1.out b2.out b3.out (b4.out.trans (b5.out.mono b4.out.size))⟩
  cases r1
  case true =>
    clear hx
    go_wp2_with (first
      | (go_at_call 7; refine Calls.mono HBY.out ?_; rintro e w' ⟨rfl, rfl⟩; clear HBY)
      | (go_at_call 8; refine Calls.mono HSH.out ?_; rintro e W1 ⟨rfl, b1⟩; replace b1 := Bx.mk b1; clear HSH)
      | (go_at_call 9; refine Calls.mono (HN1.out _ b1.out) ?_; rintro e W2 ⟨⟨rb, fb, rfl⟩, b2⟩; replace b2 := Bx.mk b2; clear HN1)
      | (go_at_call 15; obtain ⟨W3, hW3, b3, q0, q1, s3⟩ := pair_in W2 #[.slice (some ⟨rb, 0, none⟩) n n, .slice (some ⟨fb, 0, none⟩) n n] #[.int .i64 0, .int .i64 0] 28 31; rw [hW3]; refine Calls.mono (HMo.out _) ?_; rintro e W4 ⟨rfl, b4⟩; replace b4 := Bx.mk b4; replace b3 := Bx.mk b3; clear HMo q0 q1 hW3)
      | (go_at_call 15; refine Calls.mono (HMm.out _) ?_; rintro e W5 ⟨rfl, b5⟩; replace b5 := Bx.mk b5; clear HMm))
    go_ret
    exact ⟨rfl, HX.out _ _ _ _ b1.out b2.out b3.out (b4.out.trans (b5.out.mono b4.out.size))⟩
  cases r2
  case true =>
    clear hx
    go_wp2_with (first
      | (go_at_call 7; refine Calls.mono HBY.out ?_; rintro e w' ⟨rfl, rfl⟩; clear HBY)
      | (go_at_call 8; refine Calls.mono HSH.out ?_; rintro e W1 ⟨rfl, b1⟩; replace b1 := Bx.mk b1; clear HSH)
      | (go_at_call 9; refine Calls.mono (HN1.out _ b1.out) ?_; rintro e W2 ⟨⟨rb, fb, rfl⟩, b2⟩; replace b2 := Bx.mk b2; clear HN1)
      | (go_at_call 15; obtain ⟨W3, hW3, b3, q0, q1, s3⟩ := pair_in W2 #[.slice (some ⟨rb, 0, none⟩) n n, .slice (some ⟨fb, 0, none⟩) n n] #[.int .i64 0, .int .i64 0] 28 31; rw [hW3]; refine Calls.mono (HMo.out _) ?_; rintro e W4 ⟨rfl, b4⟩; replace b4 := Bx.mk b4; replace b3 := Bx.mk b3; clear HMo q0 q1 hW3)
      | (go_at_call 15; refine Calls.mono (HMm.out _) ?_; rintro e W5 ⟨rfl, b5⟩; replace b5 := Bx.mk b5; clear HMm))
    go_ret
    exact ⟨rfl, HX.out _ _ _ _ b1.out b2.out b3.out (b4.out.trans (b5.out.mono b4.out.size))⟩
  cases r3
  case true =>
    clear hx
    go_wp2_with (first
      | (go_at_call 7; refine Calls.mono HBY.out ?_; rintro e w' ⟨rfl, rfl⟩; clear HBY)
      | (go_at_call 8; refine Calls.mono HSH.out ?_; rintro e W1 ⟨rfl, b1⟩; replace b1 := Bx.mk b1; clear HSH)
      | (go_at_call 9; refine Calls.mono (HN1.out _ b1.out) ?_; rintro e W2 ⟨⟨rb, fb, rfl⟩, b2⟩; replace b2 := Bx.mk b2; clear HN1)
      | (go_at_call 15; obtain ⟨W3, hW3, b3, q0, q1, s3⟩ := pair_in W2 #[.slice (some ⟨rb, 0, none⟩) n n, .slice (some ⟨fb, 0, none⟩) n n] #[.int .i64 0, .int .i64 0] 28 31; rw [hW3]; refine Calls.mono (HMo.out _) ?_; rintro e W4 ⟨rfl, b4⟩; replace b4 := Bx.mk b4; replace b3 := Bx.mk b3; clear HMo q0 q1 hW3)
      | (go_at_call 15; refine Calls.mono (HMm.out _) ?_; rintro e W5 ⟨rfl, b5⟩; replace b5 := Bx.mk b5; clear HMm))
    go_ret
    exact ⟨rfl, HX.out _ _ _ _ b1.out b2.out b3.out (b4.out.trans (b5.out.mono b4.out.size))⟩
  cases r4
  case true =>
    clear hx
    go_wp2_with (first
      | (go_at_call 7; refine Calls.mono HBY.out ?_; rintro e w' ⟨rfl, rfl⟩; clear HBY)
      | (go_at_call 8; refine Calls.mono HSH.out ?_; rintro e W1 ⟨rfl, b1⟩; replace b1 := Bx.mk b1; clear HSH)
      | (go_at_call 9; refine Calls.mono (HN1.out _ b1.out) ?_; rintro e W2 ⟨⟨rb, fb, rfl⟩, b2⟩; replace b2 := Bx.mk b2; clear HN1)
      | (go_at_call 15; obtain ⟨W3, hW3, b3, q0, q1, s3⟩ := pair_in W2 #[.slice (some ⟨rb, 0, none⟩) n n, .slice (some ⟨fb, 0, none⟩) n n] #[.int .i64 0, .int .i64 0] 28 31; rw [hW3]; refine Calls.mono (HMo.out _) ?_; rintro e W4 ⟨rfl, b4⟩; replace b4 := Bx.mk b4; replace b3 := Bx.mk b3; clear HMo q0 q1 hW3)
      | (go_at_call 15; refine Calls.mono (HMm.out _) ?_; rintro e W5 ⟨rfl, b5⟩; replace b5 := Bx.mk b5; clear HMm))
    go_ret
    exact ⟨rfl, HX.out _ _ _ _ b1.out b2.out b3.out (b4.out.trans (b5.out.mono b4.out.size))⟩
  cases hx
end Go.Proofs.YtjjbgbadkbomlaaDoor
namespace Go.Proofs.YtjjbgbadkbomlaaDoor
open Go.RowKit
set_option linter.unusedVariables false
set_option linter.unusedSimpArgs false

theorem list_ne {a b : ByteArray} (h : ¬ a = b) : (a.toList == b.toList) = false := by
  rw [beq_eq_false_iff_ne]
  intro e
  rw [ByteArray.toList_eq, ByteArray.toList_eq] at e
  apply h
  cases a; cases b
  simp only [ByteArray.mk.injEq]
  exact Array.toList_inj.1 e
theorem ne_of_list {a : ByteArray} {xs : List UInt8} (h : (a.toList == xs) = false) : (⟨xs.toArray⟩ : ByteArray) ≠ a := fun e => by
  rw [← e, ByteArray.toList_eq] at h
  simp at h
set_option maxRecDepth 100000 in
set_option maxHeartbeats 8000000 in
theorem ren_ok (w : World) (B nb no nc : Nat) (l : List Nd) (nm ot : ByteArray) (hn : Nodes w B nb no nc l) (hL : Laid w) (h0 : 0 < l.length) (hbk : bulkL l ≤ 2147483647) (hc : (checkAll l).2 = 0) (hf : (namesS l).flt.2 = 0) (sn : nm.size ≤ maxLen) (so : ot.size ≤ maxLen) (okn : nameOk nm.data.toList = true) (oko : nameOk ot.data.toList = true)
    (h1 : (nm.toList == [105, 110, 112, 117, 116]) = false) (h2 : (nm.toList == [111, 117, 116, 112, 117, 116]) = false) (h3 : (ot.toList == [105, 110, 112, 117, 116]) = false) (h4 : (ot.toList == [111, 117, 116, 112, 117, 116]) = false) :
    Calls Tryd.prog 5 #[.slice (some ⟨nb, no, none⟩) l.length nc, .string nm, .string ot] w fun e w' => e = .returned (.bool true) ∧ Below w.heap.size w w' := by
  have hB := hn.hi
  have hl31 : l.length ≤ 2147483647 := by have := bulk_len l; omega
  have HBY : Bx (Calls Tryd.prog 7 #[.slice (some ⟨nb, no, none⟩) l.length nc] w fun e w' => e = .returned (.bool false) ∧ w = w') := ⟨by
    have := beyond_some w B nb no nc l hn
    rw [decide_eq_false (by omega)] at this
    exact this⟩
  have HSH := Bx.mk (shown_any w hL)
  have HN1 : Bx (∀ W1, Below w.heap.size w W1 → _) := ⟨fun W1 b1 => names_ok (w := W1) (B := B) (a := some ⟨nb, no, none⟩) (cap := nc) (l := l) ⟨fun _ => ⟨nb, no, rfl, hn.below (b1.mono hB)⟩, by have := b1.size; omega⟩ (hL.below b1) hl31 hc hf⟩
  have HLD : Bx (∀ W3, Below w.heap.size w W3 → _) := ⟨fun W3 b3 => lend_any W3 B nb no nc l (hn.below (b3.mono hB)) h0 hl31 (fun j hj => by have := (bulk_kids hj hbk).1; omega)⟩
  unfold fltV at HN1
  have HMo : Bx (∀ W, Calls Tryd.prog 15 #[.string ot] W fun e w' => e = .returned (.bool true) ∧ Below W.heap.size W w') := ⟨fun W => by have := NameR_ok ot W so; rw [oko] at this; exact this⟩
  have HMm : Bx (∀ W, Calls Tryd.prog 15 #[.string nm] W fun e w' => e = .returned (.bool true) ∧ Below W.heap.size W w') := ⟨fun W => by have := NameR_ok nm W sn; rw [okn] at this; exact this⟩
  have HWF := Bx.mk hn.wf
  have HLL := Bx.mk hL
  have HOK : Bx (emptyB nm = false ∧ emptyB ot = false ∧ nameOk ot.data.toList = true ∧ outN ≠ nm ∧ outN ≠ ot ∧ inN ≠ nm ∧ inN ≠ ot) := ⟨nameOk_ne okn, nameOk_ne oko, oko, ne_of_list h2, ne_of_list h4, ne_of_list h1, ne_of_list h3⟩
  clear hn hL okn oko
  go_enter Tryd.func5, Tryd.ntmps5
  go_wp2_with (first
    | (go_at_call 7; refine Calls.mono HBY.out ?_; rintro e w' ⟨rfl, rfl⟩; clear HBY)
    | (go_at_call 8; refine Calls.mono HSH.out ?_; rintro e W1 ⟨rfl, b1⟩; replace b1 := Bx.mk b1; clear HSH)
    | (go_at_call 9; refine Calls.mono (HN1.out _ b1.out) ?_; rintro e W2 ⟨⟨rb, fb, fv, rfl, hnm⟩, b2⟩; replace hnm := Bx.mk hnm; replace b2 := Bx.mk b2; clear HN1)
    | (go_at_call 15; obtain ⟨W3a, hW3, b3, q0, q1, s3⟩ := pair_in W2 #[.slice (some ⟨rb, 0, none⟩) l.length l.length, .slice (some ⟨fb, 0, none⟩) l.length l.length] #[.int .i64 0, .int .i64 0] 28 31; rw [hW3]; refine Calls.mono (HMo.out _) ?_; rintro e W3b ⟨rfl, b4⟩; replace b4 := Bx.mk b4; replace b3 := Bx.mk b3; replace q0 := Bx.mk q0; clear HMo q1 hW3)
    | (go_at_call 15; refine Calls.mono (HMm.out _) ?_; rintro e W3 ⟨rfl, b5⟩; clear HMm; have B3a := b4.out.trans (b5.mono b4.out.size); have z3 := B3a.size; have b23 : Below W2.heap.size W2 W3 := b3.out.trans (B3a.mono (by omega)); have B3 : Below w.heap.size w W3 := (by have z1 := b1.out.size; have z2 := b2.out.size; exact b1.out.trans ((b2.out.mono z1).trans (b23.mono (by omega)))); have q3 := (B3a.block W2.heap.size (by omega)).trans q0.out; replace q3 := Bx.mk q3; replace B3 := Bx.mk B3; replace b23 := Bx.mk b23; clear q0 b3 b4 b5 B3a)
    | (go_at_call 13; refine Calls.mono (HLD.out W3 B3.out) ?_; rintro e W4 ⟨ab, cap, gb, cb, kb, kc, rfl, hln, hcap, b4, hab⟩; replace hln := Bx.mk hln; replace b4 := Bx.mk b4; clear HLD))
  have H0 : Bx (∀ o, LR W3 (W4.alloc o) ab l kb kc nm ot 0) := ⟨fun o => ⟨⟨ndN l, hln.out.below (below1 W4 o), fun j hj => ⟨fun h => absurd h (by omega), fun _ => rfl⟩⟩, b4.out.trans ((below1 W4 o).mono b4.out.size), hab⟩⟩
  go_loopw [11] (fun x wr => ∃ k : Nat, k ≤ l.length ∧ x = .int .i64 k ∧ Bx (LR W3 wr ab l kb kc nm ot k)) (fun x _ => l.length - (intOf x).toNat)
  case atStart => exact ⟨0, Nat.zero_le _, rfl, ⟨H0.out _⟩⟩
  case round =>
    obtain ⟨k, hk, rfl, HL⟩ := hrel
    clear H0
    by_cases hlt : k < l.length
    · obtain ⟨c3, fz⟩ := HL.out.cell hlt
      have hab2 := HL.out.lo
      have HBB : Bx (Below w.heap.size w wr) := ⟨B3.out.trans (HL.out.bel.mono B3.out.size)⟩
      clear b1 b2 b23 b4 hnm q3 B3 hln
      by_cases e1 : (ndN l k).name = ot
      · have d1 : ((ndN l k).name.toList == ot.toList) = true := by rw [e1]; simp
        go_wp2
        go_ret
        exact ⟨rfl, HBB.out⟩
      · have d1 := list_ne e1
        by_cases e2 : (ndN l k).name = nm
        · have d2 : ((ndN l k).name.toList == nm.toList) = true := by rw [e2]; simp
          have E2 := Bx.mk e2
          clear e2
          go_wp2
          refine ⟨⟨k + 1, by omega, by go_num, ⟨HL.out.s3 hlt e1 E2.out⟩⟩, ?_⟩
          simp [intOf]; omega
        · have d2 := list_ne e2
          go_wp2
          refine ⟨⟨k + 1, by omega, by go_num, ⟨HL.out.s0 hlt e1 e2⟩⟩, ?_⟩
          simp [intOf]; omega
    · have hke : k = l.length := by omega
      subst hke
      obtain ⟨f, hf1, hf2⟩ := HL.out.ex
      have bel := HL.out.bel
      obtain ⟨en, eo, oko, p1, p2, p3, p4⟩ := HOK.out
      have hT := rt_of (l := l) (f := f) en eo fun j hj => (hf2 j hj).1 hj
      have hsame := names_sn hT en eo p1 p2 p3 p4
      have hc0 : checkAll l = (0, 0) := check_zero _ _ hc
      have hc' := (hT.tn en oko).check hc0
      have HN2 : Bx (Calls Tryd.prog 9 #[.slice (some ⟨ab, 0, none⟩) l.length cap] wr fun e w' => (∃ rb fb fv, e = .returned (.tuple #[.agg #[.slice (some ⟨rb, 0, none⟩) l.length l.length, .slice (some ⟨fb, 0, none⟩) l.length l.length], fltV 0 0]) ∧ NmR wr.heap.size l.length w' (namesS (lst l.length f)) rb fb fv) ∧ Below wr.heap.size wr w') := ⟨by
        have hnd := hf1.nodes (nc := cap) (fun j hj => by rw [((hf2 j hj).1 hj).1]; exact ren_wf (HWF.out j hj) so) (fun j hj => by rw [((hf2 j hj).1 hj).1, (ren_kind nm ot _).2.1]; have := (bulk_kids hj hbk).1; unfold maxLen; omega) (by unfold maxLen; omega) (by omega)
        have := names_ok (w := wr) (B := wr.heap.size) (a := some ⟨ab, 0, none⟩) (cap := cap) (l := lst l.length f) ⟨fun _ => ⟨ab, 0, rfl, hnd⟩, Nat.le_refl _⟩ (HLL.out.below (B3.out.trans (bel.mono B3.out.size))) (by rw [lst_len]; exact hl31) (by rw [hc']) (by rw [hsame.2.2]; exact hf)
        rw [lst_len] at this
        exact this⟩
      unfold fltV at HN2
      have HE : Bx (∀ W7 rb' fb' fv', NmR wr.heap.size l.length W7 (namesS (lst l.length f)) rb' fb' fv' → Below wr.heap.size wr W7 → ∃ W8a W8, (W7.alloc (.cells #[.slice (some ⟨rb', 0, none⟩) l.length l.length, .slice (some ⟨fb', 0, none⟩) l.length l.length] 28)).alloc (.cells #[.int .i64 0, .int .i64 0] 31) = W8a ∧ W8a.cell? ⟨W7.heap.size + 1, 0, none⟩ = some (.int .i64 0) ∧ W8a.cell? ⟨W7.heap.size + 1, 1, none⟩ = some (.int .i64 0) ∧ (∀ i, W8a.frozen? ⟨W7.heap.size + 1, i, none⟩ = false) ∧ (W8a.setCell ⟨W7.heap.size + 1, 0, none⟩ (.int .i64 0)).setCell ⟨W7.heap.size + 1, 1, none⟩ (.int .i64 0) = W8 ∧ W8.cell? ⟨W2.heap.size, 0, none⟩ = some (.slice (some ⟨rb, 0, none⟩) l.length l.length) ∧ W8.cell? ⟨W2.heap.size, 1, none⟩ = some (.slice (some ⟨fb, 0, none⟩) l.length l.length) ∧ W8.cell? ⟨W7.heap.size, 0, none⟩ = some (.slice (some ⟨rb', 0, none⟩) l.length l.length) ∧ W8.cell? ⟨W7.heap.size, 1, none⟩ = some (.slice (some ⟨fb', 0, none⟩) l.length l.length) ∧ W8.cell? ⟨W7.heap.size + 1, 0, none⟩ = some (.int .i64 0) ∧ W8.cell? ⟨W7.heap.size + 1, 1, none⟩ = some (.int .i64 0) ∧
          Bx (Calls Tryd.prog 14 #[.agg #[.slice (some ⟨rb, 0, none⟩) l.length l.length, .slice (some ⟨fb, 0, none⟩) l.length l.length], .agg #[.slice (some ⟨rb', 0, none⟩) l.length l.length, .slice (some ⟨fb', 0, none⟩) l.length l.length]] W8 fun e w' => e = .returned (.bool true) ∧ Below w.heap.size w w')) := ⟨fun W7 rb' fb' fv' hnm' b7 => by
        obtain ⟨W8a, W8, hW8a, p0, p1, pf, hW8, b8, g0, g1, s8⟩ := pair_on W7 #[.slice (some ⟨rb', 0, none⟩) l.length l.length, .slice (some ⟨fb', 0, none⟩) l.length l.length] 28 31
        have z3W : W2.heap.size < W3.heap.size := (Array.getElem?_eq_some_iff.1 q3.out).1
        have zr := bel.size
        have z7 := b7.size
        have b38 : Below W3.heap.size W3 W8 := bel.trans ((b7.mono (by omega)).trans (b8.mono (by omega)))
        have g2 : W8.heap[W2.heap.size]? = _ := (b38.block _ (by have := b23.out.size; have := z3W; omega)).trans q3.out
        have b28 : Below W2.heap.size W2 W8 := b23.out.trans (b38.mono b23.out.size)
        refine ⟨W8a, W8, hW8a, p0, p1, pf, hW8, (cell_of_row W8 _ 0 _ _ _ g2).trans rfl, (cell_of_row W8 _ 1 _ _ _ g2).trans rfl, (cell_of_row W8 _ 0 _ _ _ g0).trans rfl, (cell_of_row W8 _ 1 _ _ _ g0).trans rfl, (cell_of_row W8 _ 0 _ _ _ g1).trans rfl, (cell_of_row W8 _ 1 _ _ _ g1).trans rfl, ⟨?_⟩⟩
        have zw := B3.out.size
        exact (same_told hnm.out hnm' hsame.1 hsame.2.1 (names_wf hc).refl_ hl31 b28 b8).mono fun e w' ⟨he, hb⟩ => ⟨he, B3.out.trans ((b38.mono zw).trans (hb.mono (by omega)))⟩⟩
      clear hf1 hf2 hT hsame hc' hc0 HL bel b1 b2 b23 b4 hnm q3 B3 hln HWF HLL HOK oko p1 p2 p3 p4 en eo
      go_wp2_with (first
        | (go_at_call 9; refine Calls.mono HN2.out ?_; rintro e W7 ⟨⟨rb', fb', fv', rfl, hnm'⟩, b7⟩; obtain ⟨W8a, W8, hW8a, p0, p1, pf, hW8, x1, x2, x3, x4, x5, x6, HS⟩ := HE.out W7 rb' fb' fv' hnm' b7; clear HN2 HE hnm' b7)
        | (go_at_call 14; refine Calls.mono HS.out ?_; rintro e W9 ⟨rfl, b9⟩; clear HS))
      go_ret
      exact ⟨rfl, b9⟩
/-- **ScopeRenames** -/
theorem ren_walk (w : World) (a : Option Addr) (cap : Nat) (l : List Nd) (hn : IsNodes w w.heap.size a cap l) (nm : ByteArray) (sn : nm.size ≤ maxLen) (ot : ByteArray) (so : ot.size ≤ maxLen) (hL : Laid w) :
    Calls Tryd.prog 5 #[.slice a l.length cap, .string nm, .string ot] w fun e w' => e = .returned (.bool true) ∧ Below w.heap.size w w' := by
  by_cases h0 : 0 < l.length
  · obtain ⟨nb, no, rfl, h⟩ := hn.at_ h0
    have hby := beyond_some w w.heap.size nb no cap l h
    by_cases hbk : 2147483647 < bulkL l
    · rw [decide_eq_true hbk] at hby
      exact ren_far w _ cap l.length nm ot hby
    · rw [decide_eq_false hbk] at hby
      have hl31 : l.length ≤ 2147483647 := by have := bulk_len l; omega
      by_cases hc : (checkAll l).2 = 0 ∧ (namesS l).flt.2 = 0
      · by_cases hx : (!nameOk ot.data.toList || !nameOk nm.data.toList || (nm.toList == [105, 110, 112, 117, 116]) || (nm.toList == [111, 117, 116, 112, 117, 116]) || (ot.toList == [105, 110, 112, 117, 116]) || (ot.toList == [111, 117, 116, 112, 117, 116])) = true
        · exact ren_no w _ cap l.length nm ot _ _ _ _ _ _ hL hby (fun W1 b1 => (names_ok (w := W1) (hn.below b1) (hL.below b1) hl31 hc.1 hc.2).mono fun e w' ⟨⟨rb, fb, fv, he, _⟩, hb⟩ => ⟨⟨rb, fb, he⟩, hb⟩) (fun W => NameR_ok ot W so) (fun W => NameR_ok nm W sn) rfl rfl rfl rfl hx
        · simp only [Bool.or_eq_true, Bool.not_eq_true', not_or, Bool.not_eq_true, Bool.not_eq_false] at hx
          obtain ⟨⟨⟨⟨⟨x1, x2⟩, x3⟩, x4⟩, x5⟩, x6⟩ := hx
          exact ren_ok w _ nb no cap l nm ot h hL h0 (by omega) hc.1 hc.2 sn so x2 x1 x3 x4 x5 x6
      · exact ren_bad w _ _ cap l nm ot hn hL hl31 hc hby
  · have hx : l = [] := List.eq_nil_of_length_eq_zero (by omega)
    subst hx
    exact ren_bad w _ a cap [] nm ot hn hL (by simp) (fun h => by have := h.1; rw [check_no] at this; cases this) (beyond_none w a cap)
end Go.Proofs.YtjjbgbadkbomlaaDoor
