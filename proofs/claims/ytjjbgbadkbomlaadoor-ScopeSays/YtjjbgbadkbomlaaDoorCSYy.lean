import Derived.Test.YtjjbgbadkbomlaaDoorCSYx
namespace Go.Proofs.YtjjbgbadkbomlaaDoor
open Go.RowKit
set_option linter.unusedVariables false
set_option linter.unusedSimpArgs false

set_option maxRecDepth 100000 in
set_option maxHeartbeats 2000000 in
theorem says_far (w : World) (a : Option Addr) (cap n : Nat) (HB : Calls Tryd.prog 7 #[.slice a n cap] w fun e w' => e = .returned (.bool true) ∧ w = w') :
    Calls Tryd.prog 3 #[.slice a n cap] w fun e w' => e = .returned (.bool true) ∧ Below w.heap.size w w' := by
  have HBY := Bx.mk HB
  clear HB
  go_enter Tryd.func3, Tryd.ntmps3
  go_wp2_with (first
    | (go_at_call 7; refine Calls.mono HBY.out ?_; rintro e w' ⟨rfl, rfl⟩; clear HBY))
  go_ret
  exact ⟨rfl, Below.refl _ _⟩
set_option maxRecDepth 100000 in
set_option maxHeartbeats 2000000 in
theorem says_bad (w : World) (B : Nat) (a : Option Addr) (cap : Nat) (l : List Nd) (hn : IsNodes w B a cap l) (hL : Laid w) (hl31 : l.length ≤ 2147483647) (hc : ¬ ((checkAll l).2 = 0 ∧ (namesS l).flt.2 = 0)) (HB : Calls Tryd.prog 7 #[.slice a l.length cap] w fun e w' => e = .returned (.bool false) ∧ w = w') :
    Calls Tryd.prog 3 #[.slice a l.length cap] w fun e w' => e = .returned (.bool true) ∧ Below w.heap.size w w' := by
  have HBY := Bx.mk HB
  have HSH := Bx.mk (shown_any w hL)
  have hB := hn.hi
  have HN1 : Bx (∀ W1, Below w.heap.size w W1 → _) := ⟨fun W1 b1 => names_bad (w := W1) (B := B) (a := a) (cap := cap) (l := l) (hn.below (b1.mono hB)) (hL.below b1) hl31 hc⟩
  unfold fltV nilNames at HN1
  clear HB hn hL hc
  generalize l.length = n at *
  have HE : Bx (∀ W1 W2 (o1 o2 : Obj), Below w.heap.size w W1 → Below W1.heap.size W1 W2 → Below w.heap.size w ((W2.alloc o1).alloc o2)) := ⟨fun W1 W2 o1 o2 b1 b2 => b1.trans ((b2.mono b1.size).trans (((Below.refl _ _).alloc (by have := b1.size; have := b2.size; omega) _).alloc (by have := b1.size; have := b2.size; simp; omega) _))⟩
  go_enter Tryd.func3, Tryd.ntmps3
  go_wp2_with (first
    | (go_at_call 7; refine Calls.mono HBY.out ?_; rintro e w' ⟨rfl, rfl⟩; clear HBY)
    | (go_at_call 8; refine Calls.mono HSH.out ?_; rintro e W1 ⟨rfl, b1⟩; replace b1 := Bx.mk b1; clear HSH)
    | (go_at_call 9; refine Calls.mono (HN1.out _ b1.out) ?_; rintro e W2 ⟨⟨p, c, hc, rfl⟩, b2⟩; replace b2 := Bx.mk b2; have e1 : (c != 0) = true := (by rw [bne_iff_ne]; exact hc); clear HN1))
  go_ret
  exact ⟨rfl, HE.out _ _ _ _ b1.out b2.out⟩
/-- **ScopeSays** -/
theorem says_walk (w : World) (a : Option Addr) (cap : Nat) (l : List Nd) (hn : IsNodes w w.heap.size a cap l) (hL : Laid w) :
    Calls Tryd.prog 3 #[.slice a l.length cap] w fun e w' => e = .returned (.bool true) ∧ Below w.heap.size w w' := by
  by_cases h0 : 0 < l.length
  · obtain ⟨nb, no, rfl, h⟩ := hn.at_ h0
    have hby := beyond_some w w.heap.size nb no cap l h
    by_cases hbk : 2147483647 < bulkL l
    · rw [decide_eq_true hbk] at hby
      exact says_far w _ cap l.length hby
    · rw [decide_eq_false hbk] at hby
      have hl31 : l.length ≤ 2147483647 := by have := bulk_len l; omega
      by_cases hc : (checkAll l).2 = 0 ∧ (namesS l).flt.2 = 0
      · exact says_ok w _ nb no cap l h hL h0 (by omega) hc.1 hc.2
      · exact says_bad w _ _ cap l hn hL hl31 hc hby
  · have hx : l = [] := List.eq_nil_of_length_eq_zero (by omega)
    subst hx
    exact says_bad w _ a cap [] hn hL (by simp) (fun h => by have := h.1; rw [check_no] at this; cases this) (beyond_none w a cap)
end Go.Proofs.YtjjbgbadkbomlaaDoor
