import Derived.Test.YtjjbgbadkbomlaaDoorCTLv
import Derived.Deep.Cut
import Derived.Deep.CutBlock
namespace Go.Proofs.YtjjbgbadkbomlaaDoor
open Go.RowKit
set_option linter.unusedVariables false
set_option linter.unusedSimpArgs false

/-! ### a switch's blocks, one in the other, as one table (the walk's own step at them doubles with each) -/
def Sw : List (Nat × (Act → World → Prop)) → (Exit → Act → World → Prop) → Exit → Act → World → Prop
  | [], Q, e, a, w => Q e a w
  | (id, K) :: ps, Q, e, a, w => match e with
    | .normal => K a w
    | .exit j => if j = id then K a w else Sw ps Q (.exit j) a w
    | e => Sw ps Q e a w
theorem sw_in0 {id : Nat} {K : Act → World → Prop} {Q : Exit → Act → World → Prop} (e : Exit) (a : Act) (w : World) (h : Sw [(id, K)] Q e a w) : Exit.inBlock id (Exit.then K Q) e a w := by
  cases e with
  | exit j =>
    simp only [Sw] at h
    simp only [Exit.inBlock]
    split
    · rename_i hj; rw [if_pos hj] at h; exact h
    · rename_i hj; rw [if_neg hj] at h; exact h
  | _ => exact h
theorem sw_in {id : Nat} {K : Act → World → Prop} {ps : List (Nat × (Act → World → Prop))} {Q : Exit → Act → World → Prop} (e : Exit) (a : Act) (w : World) (h : Sw ((id, K) :: ps) Q e a w) : Exit.inBlock id (Exit.then K (Sw ps Q)) e a w := by
  cases e with
  | exit j =>
    simp only [Sw] at h
    simp only [Exit.inBlock]
    split
    · rename_i hj; rw [if_pos hj] at h; exact h
    · rename_i hj; rw [if_neg hj] at h; exact h
  | _ => exact h
def swLook : List (Nat × (Act → World → Prop)) → Nat → Option (Act → World → Prop)
  | [], _ => none
  | (id, K) :: ps, j => if j = id then some K else swLook ps j
theorem sw_exit {K : Act → World → Prop} {Q : Exit → Act → World → Prop} {j : Nat} {a : Act} {w : World} : ∀ {ps : List (Nat × (Act → World → Prop))}, swLook ps j = some K → K a w → Sw ps Q (.exit j) a w
  | [], h, _ => by cases h
  | (id, K') :: ps, h, hk => by
    simp only [swLook] at h
    simp only [Sw]
    by_cases hj : j = id
    · rw [if_pos hj] at h ⊢
      cases h
      exact hk
    · rw [if_neg hj] at h ⊢
      exact sw_exit h hk
theorem sw_out {Q : Exit → Act → World → Prop} {j : Nat} {a : Act} {w : World} : ∀ {ps : List (Nat × (Act → World → Prop))}, swLook ps j = none → Q (.exit j) a w → Sw ps Q (.exit j) a w
  | [], h, hk => hk
  | (id, K') :: ps, h, hk => by
    simp only [swLook] at h
    simp only [Sw]
    by_cases hj : j = id
    · rw [if_pos hj] at h; cases h
    · rw [if_neg hj] at h ⊢
      exact sw_out h hk
theorem sw_normal {id : Nat} {K : Act → World → Prop} {ps : List (Nat × (Act → World → Prop))} {Q : Exit → Act → World → Prop} {a : Act} {w : World} (h : K a w) : Sw ((id, K) :: ps) Q .normal a w := h
theorem sw_ret {Q : Exit → Act → World → Prop} {a : Act} {w : World} (h : Q .ret a w) : ∀ {ps : List (Nat × (Act → World → Prop))}, Sw ps Q .ret a w
  | [] => h
  | (id, K') :: ps => sw_ret h (ps := ps)
end Go.Proofs.YtjjbgbadkbomlaaDoor
