import Derived.Test.YtllgaholkminnaaDoorCKOpenR
import Derived.Test.YtllgaholkminnaaDoorCKOwn
import Derived.Test.YtllgaholkminnaaDoorCKLaw1
import Derived.Test.YtllgaholkminnaaDoorCKRefV
import Derived.Test.YtllgaholkminnaaDoorCKBey
namespace Go.Proofs.YtllgaholkminnaaDoor
open Go.RowKit
set_option linter.unusedVariables false
set_option linter.unusedSimpArgs false

theorem lens_len (t : List Ty) : (lensT t).length = t.length := by simp [lensT]
theorem beyond_types (w : World) (B nb no nc : Nat) (t : List Ty) (hn : Types w B nb no nc t) (W : World) (a : Option Addr) (cap : Nat) (hi : IntsV W W.heap.size (.slice a t.length cap) (lensT t)) :
    Calls Tryd.prog 8 #[.slice a t.length cap] W fun e w' => e = .returned (.bool (beyondI 0 (lensT t))) ∧ W = w' := by
  have := beyond_any W W.heap.size a cap (lensT t) (by rw [lens_len]; exact hi) (fun m hm => by
    unfold lensT at hm
    rw [List.mem_map] at hm
    obtain ⟨r, hr, rfl⟩ := hm
    obtain ⟨i, hi, rfl⟩ := List.getElem_of_mem hr
    obtain ⟨ka, kc, hX⟩ := hn.at_ i hi
    obtain ⟨_, _, _, _, h2, _⟩ := hX.kids.ex
    unfold tyN at h2
    rw [List.getD_eq_getElem?_getD, List.getElem?_eq_getElem hi] at h2
    unfold maxLen at h2
    simp at h2
    omega)
  rw [lens_len] at this
  exact this

set_option maxRecDepth 100000 in
set_option maxHeartbeats 4000000 in
theorem valid_some (w : World) (nb no nc : Nat) (t : List Ty) (hn : Types w w.heap.size nb no nc t) (hL : Laid w) (h0 : 0 < t.length) (hb : t.length ≤ 3518437208883) :
    Calls Tryd.prog 3 #[.slice (some ⟨nb, no, none⟩) t.length nc] w fun e w' => e = .returned (.bool true) ∧ Below w.heap.size w w' := by
  have HOR : Bx _ := ⟨ofRows_some w w.heap.size nb no nc t hn hb⟩
  have HBY : Bx _ := ⟨beyond_types w w.heap.size nb no nc t hn⟩
  have HS : Bx _ := ⟨shown_in w hL⟩
  by_cases hby : beyondI 0 (lensT t) = true
  · rw [hby] at HBY
    clear hn hL
    go_enter Tryd.func3, Tryd.ntmps3
    go_wp2_with (first
      | (go_at_call 9; refine Calls.mono HOR.out ?_; rintro e w1 ⟨a1, c1, rfl, ⟨hiv, hb1⟩⟩; have HIV : Bx _ := ⟨hiv⟩; clear hiv)
      | (go_at_call 8; refine Calls.mono (HBY.out _ _ _ HIV.out) ?_; rintro e w2 ⟨rfl, rfl⟩))
    go_ret
    exact ⟨rfl, hb1⟩
  · have hby' : beyondI 0 (lensT t) = false := by simpa using hby
    have hld := load_of_not_beyond hby'
    rw [hby'] at HBY
    have HN : Bx (∀ W, Below w.heap.size w W → Types W W.heap.size nb no nc t) := ⟨fun W hb => (hn.below hb).mono hb.size (Nat.le_refl _)⟩
    have HOW : Bx (∀ W, Below w.heap.size w W → Calls Tryd.prog 11 #[.slice (some ⟨nb, no, none⟩) t.length nc] W fun e w' => e = .returned (.slice (some ⟨W.heap.size, 0, none⟩) t.length (t.length + 1)) ∧ Types w' w'.heap.size W.heap.size 0 (t.length + 1) t ∧ Below W.heap.size W w') := ⟨fun W hb => ownRows_some W W.heap.size nb no nc t (HN.out W hb) hld⟩
    have HV : Bx (∀ W g, Types W W.heap.size g 0 (t.length + 1) t → Calls Tryd.prog 12 #[.slice (some ⟨g, 0, none⟩) t.length (t.length + 1)] W fun e w' => e = .returned (.bool (validI t)) ∧ Below W.heap.size W w') := ⟨fun W g h => Valid_some W W.heap.size g 0 (t.length + 1) t h h0⟩
    have HR : Bx (∀ W g, Below w.heap.size w W → Types W W.heap.size g 0 (t.length + 1) t → Calls Tryd.prog 13 #[.slice (some ⟨g, 0, none⟩) t.length (t.length + 1), .slice (some ⟨nb, no, none⟩) t.length nc] W fun e w' => e = .returned (.bool true) ∧ Below W.heap.size W w') := ⟨fun W g hb h => lrows_eq W W.heap.size g 0 (t.length + 1) nb no nc t h (HN.out W hb)⟩
    have HRV : Bx (∀ W, Below w.heap.size w W → Calls Tryd.prog 14 #[.slice (some ⟨nb, no, none⟩) t.length nc] W fun e w' => e = .returned (.bool (validI t)) ∧ W = w') := ⟨fun W hb => refValid_some W W.heap.size nb no nc t (HN.out W hb)⟩
    have HG : Bx (∀ W W' g, Types W W.heap.size g 0 (t.length + 1) t → Below W.heap.size W W' → Types W' W'.heap.size g 0 (t.length + 1) t) := ⟨fun W W' g h hb => (h.below hb).mono hb.size (Nat.le_refl _)⟩
    have V1 : Bx True := ⟨trivial⟩
    clear hn hL hby hby' hld HN
    generalize validI t = R at *
    go_enter Tryd.func3, Tryd.ntmps3
    go_wp2_with (first
      | (go_at_call 9; refine Calls.mono HOR.out ?_; rintro e w1 ⟨a1, c1, rfl, ⟨hiv, hb1⟩⟩; have HIV : Bx _ := ⟨hiv⟩; clear hiv)
      | (go_at_call 8; refine Calls.mono (HBY.out _ _ _ HIV.out) ?_; rintro e w2 ⟨rfl, rfl⟩)
      | (go_at_call 10; refine Calls.mono (HS.out _ hb1) ?_; rintro e w3 ⟨rfl, hb3⟩; have hb4 := hb1.trans (hb3.mono hb1.size); clear hb3)
      | (go_at_call 11; refine Calls.mono (HOW.out _ hb4) ?_; rintro e w5 ⟨rfl, ht5, hb5⟩; have T5 : Bx _ := ⟨ht5⟩; have hb6 := hb4.trans (hb5.mono hb4.size); clear hb5 ht5)
      | (go_at_call 12; have := V1; refine Calls.mono (HV.out _ _ T5.out) ?_; clear this V1; rintro e w7 ⟨rfl, hb7⟩; have T7 : Bx _ := ⟨HG.out _ _ _ T5.out hb7⟩; have hb8 := hb6.trans (hb7.mono hb6.size); clear hb7 T5)
      | (go_at_call 12; refine Calls.mono (HV.out _ _ T7.out) ?_; rintro e w9 ⟨rfl, hb9⟩; have T9 : Bx _ := ⟨HG.out _ _ _ T7.out hb9⟩; have hb10 := hb8.trans (hb9.mono hb8.size); clear hb9 T7)
      | (go_at_call 13; refine Calls.mono (HR.out _ _ hb10 T9.out) ?_; rintro e w11 ⟨rfl, hb11⟩; have hb12 := hb10.trans (hb11.mono hb10.size); clear hb11)
      | (go_at_call 14; refine Calls.mono (HRV.out _ hb12) ?_; rintro e w13 ⟨rfl, rfl⟩))
    go_ret
    exact ⟨by cases R <;> rfl, hb12⟩
set_option maxRecDepth 100000 in
theorem valid_none (w : World) (a : Option Addr) (cap : Nat) (hL : Laid w) :
    Calls Tryd.prog 3 #[.slice a 0 cap] w fun e w' => e = .returned (.bool true) ∧ Below w.heap.size w w' := by
  have HS : Bx _ := ⟨shown_in w hL⟩
  have V1 : Bx True := ⟨trivial⟩
  clear hL
  go_enter Tryd.func3, Tryd.ntmps3
  go_wp2_with (first
    | (go_at_call 9; refine Calls.mono (ofRows_none _ _ _) ?_; rintro e w1 ⟨rfl, hb1⟩)
    | (go_at_call 8; refine Calls.mono (beyond_none _ _) ?_; rintro e w2 ⟨rfl, rfl⟩)
    | (go_at_call 10; refine Calls.mono (HS.out _ hb1) ?_; rintro e w3 ⟨rfl, hb3⟩; have hb4 := hb1.trans (hb3.mono hb1.size); clear hb3)
    | (go_at_call 11; refine Calls.mono (ownRows_none _ _ _) ?_; rintro e w5 ⟨g, cp, rfl, hb5⟩; have hb6 := hb4.trans (hb5.mono hb4.size); clear hb5)
    | (go_at_call 12; have := V1; refine Calls.mono (Valid_none _ _ _) ?_; clear this V1; rintro e w7 ⟨rfl, hb7⟩; have hb8 := hb6.trans (hb7.mono hb6.size); clear hb7)
    | (go_at_call 12; refine Calls.mono (Valid_none _ _ _) ?_; rintro e w9 ⟨rfl, hb9⟩; have hb10 := hb8.trans (hb9.mono hb8.size); clear hb9)
    | (go_at_call 13; refine Calls.mono (lrows_none _ _ _ _ _) ?_; rintro e w11 ⟨rfl, hb11⟩; have hb12 := hb10.trans (hb11.mono hb10.size); clear hb11)
    | (go_at_call 14; refine Calls.mono (refValid_none _ _ _) ?_; rintro e w13 ⟨rfl, rfl⟩))
  go_ret
  exact ⟨rfl, hb12⟩
theorem valid_walk (w : World) (a : Option Addr) (cap : Nat) (t : List Ty) (hn : IsTypes w w.heap.size a cap t) (hb : t.length ≤ 3518437208883) (hL : Laid w) :
    Calls Tryd.prog 3 #[.slice a t.length cap] w fun e w' => e = .returned (.bool true) ∧ Below w.heap.size w w' := by
  by_cases h0 : 0 < t.length
  · obtain ⟨nb, no, rfl, h⟩ := hn.at_ h0
    exact valid_some w nb no cap t h hL h0 hb
  · have hx : t = [] := List.eq_nil_of_length_eq_zero (by omega)
    subst hx
    exact valid_none w a cap hL
end Go.Proofs.YtllgaholkminnaaDoor
