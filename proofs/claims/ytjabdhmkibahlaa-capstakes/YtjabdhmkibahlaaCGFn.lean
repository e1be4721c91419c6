import Derived.Test.YtjabdhmkibahlaaCGSl
import Derived.Test.YtjabdhmkibahlaaCFL
namespace Go.Proofs.Ytjabdhmkibahlaa
open Go.RowKit
set_option linter.unusedVariables false
set_option linter.unusedSimpArgs false

set_option maxRecDepth 100000 in
set_option maxHeartbeats 2000000 in
/-- Fits, of agents that are no state -/
theorem Fits_no (w : World) (p : Option Addr) (c : Nat) (s : List Ag) (l : Lk) (h : AgsR w p c s) (hz : Few s) (hok : stOk s = false) :
    Calls Try.prog 10 #[.slice p s.length c, lkV l] w fun e w' => e = .returned (.bool false) ∧ Below w.heap.size w w' := by
  obtain ⟨lr, ln, lc⟩ := l
  simp only [lkV]
  obtain ⟨W, hW⟩ : ∃ W, w.alloc (.cells #[.int .i64 lr, .int .i64 ln, .int .i64 lc] 24) = W := ⟨_, rfl⟩
  have hb : Below w.heap.size w W := by rw [← hW]; exact below1 _ _
  have HB : Bx (Below w.heap.size w W) := ⟨hb⟩
  have HW : Bx (_ = W) := ⟨hW⟩
  have HK : Bx (∀ Y, Below W.heap.size W Y → Calls Try.prog 9 #[.slice p s.length c] Y fun e w' => e = .returned (.int .i64 (chkI s)) ∧ Below Y.heap.size Y w') := ⟨fun Y hY => Check_any Y p c s (h.later (hb.trans (hY.mono hb.size))) hz⟩
  have hck : chkI s = 140 := by simp [chkI, hok]
  rw [hck] at HK
  have B1 : Bx (Below W.heap.size W W) := ⟨Below.refl _ _⟩
  clear hW hb h hz hck
  go_enter Try.func10, Try.ntmps10
  go_wp2
  rw [HW.out]
  refine region_flowL [?gn1x0, .int .i64 140, ?gn1x2, ?gn1x3, undef, undef, undef, undef, ?gn1x8, ?gn1x9] (fun Y => Below W.heap.size W Y) (by kernel_rfl) (by decide +kernel) (B1.out.drew) (by simp only [flowEnd, Act.put, List.setIfInBounds_toArray, List.set_cons_zero, List.set_cons_succ]; rfl) ?gn1st ?gn1en
  case gn1st =>
    refine flow_cons (flow_pure (by rfl) (fun Y hY => ?_)) ?_
    · go_simp; try rfl
    refine flow_cons (flow_call 9 #[.slice p s.length c] (by rfl) (fun Y hY => ?_) (fun Y hY => ?_)) ?_
    · simp only [execOp]; go_simp
    · refine Calls.mono (HK.out Y hY) ?_; rintro e z ⟨rfl, hb⟩; exact ⟨rfl, hY.trans (hb.mono hY.size)⟩
    refine flow_cons (flow_pure (by rfl) (fun Y hY => ?_)) ?_
    · go_simp; try rfl
    refine flow_cons (flow_pure (by rfl) (fun Y hY => ?_)) ?_
    · go_simp; try rfl
    refine flow_cons (flow_not (by rfl)) ?_
    refine flow_cons (flow_not (by rfl)) ?_
    refine flow_cons (flow_not (by rfl)) ?_
    refine flow_cons (flow_not (by rfl)) ?_
    refine flow_cons (flow_pure (by rfl) (fun Y hY => ?_)) ?_
    · go_simp; try rfl
    refine flow_cons (flow_pure (by rfl) (fun Y hY => ?_)) ?_
    · go_simp; try rfl
    exact flow_nil
  intro w5 hz5
  have B5 : Bx _ := ⟨hz5⟩
  clear hz5
  go_wp2
  go_ret
  exact ⟨rfl, HB.out.trans (B5.out.mono HB.out.size)⟩
/-- Fits, of whatever agents -/
theorem Fits_all (w : World) (p : Option Addr) (c : Nat) (s : List Ag) (l : Lk) (h : AgsR w p c s) (hz : Few s) (h64 : Lk64 l) :
    Calls Try.prog 10 #[.slice p s.length c, lkV l] w fun e w' => e = .returned (.bool (stOk s && fitsF (whoI s) l)) ∧ Below w.heap.size w w' := by
  cases hok : stOk s with
  | true => exact (Fits_yes w p c s l h hz h64 hok).mono fun e w' hh => ⟨by rw [hh.1]; rfl, hh.2⟩
  | false => exact (Fits_no w p c s l h hz hok).mono fun e w' hh => ⟨by rw [hh.1]; rfl, hh.2⟩
end Go.Proofs.Ytjabdhmkibahlaa
