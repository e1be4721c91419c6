import Derived.Test.YtblhklbpcalglaaGreatDoorCTPlain
namespace Go.Proofs.YtblhklbpcalglaaGreatDoor
set_option linter.unusedVariables false
set_option linter.unusedSimpArgs false
def ZR (I : List PTok → Prop) : Res → Prop
  | .ok _ s => I s
  | .err s => I s
  | .out => True
section
variable {I : List PTok → Prop} (hI : ∀ s, I s → kd s ≠ 0 → I (tl s))
theorem zr_and {x : Res} {k : List Tr → List PTok → Res} (h : ZR I x) (hk : ∀ a s, I s → ZR I (k a s)) : ZR I (andT x k) := by
  cases x with
  | ok a s => exact hk a s h
  | err s => exact h
  | out => trivial
include hI
theorem zr_want {c : Nat} {s : List PTok} {k : List PTok → Res} (hs : I s) (hc : c ≠ 0) (hk : ∀ s, I s → ZR I (k s)) : ZR I (want c s k) := by
  unfold want
  split
  · rename_i h
    exact hk _ (hI s hs (by omega))
  · exact hs
theorem zr_name {s : List PTok} {k : List UInt8 → List PTok → Res} (hs : I s) (hk : ∀ n s, I s → ZR I (k n s)) : ZR I (nameK s k) := by
  unfold nameK
  split
  · rename_i h
    exact hk _ _ (hI s hs (by omega))
  · exact hs
theorem zr_num {s : List PTok} {k : Nat → List PTok → Res} (hs : I s) (hk : ∀ n s, I s → ZR I (k n s)) : ZR I (numK s k) := by
  unfold numK
  split
  · rename_i h
    exact hk _ _ (hI s hs (by omega))
  · exact hs
omit hI in
theorem zr_if {p : Prop} [Decidable p] {a b : Res} (h1 : p → ZR I a) (h2 : ¬ p → ZR I b) : ZR I (if p then a else b) := by
  split
  · rename_i h; exact h1 h
  · rename_i h; exact h2 h
omit hI in
theorem zr_mk {kind num : Int} {s r : List PTok} {name : List UInt8} {kids : List Tr} (h : I r) : ZR I (mk1 kind s num name kids r) := h
omit hI in
theorem zr_ok {a : List Tr} {r : List PTok} (h : I r) : ZR I (.ok a r) := h
theorem body_zr {g : Rl → List PTok → Res} (H : ∀ r s, Wr r → I s → ZR I (g r s)) (r : Rl) (s : List PTok) (hr : Wr r) (hs : I s) : ZR I (body g r s) := by
  have T : ∀ {c : Nat} {s : List PTok}, I s → kd s = c → c ≠ 0 → I (tl s) := fun {c s} h1 h2 h3 => hI s h1 (by omega)
  cases r
  case ops least left most =>
    unfold body
    refine zr_if (fun _ => hs) (fun h => ?_)
    have hl : 1 ≤ least := hr
    have h0 : kd s ≠ 0 := betw_zero (by omega)
    refine zr_and (H _ _ (by simp only [Wr]; omega) (hI s hs h0)) (fun b s2 h2 => H _ _ (by simp only [Wr]; omega) h2)
  case operands least =>
    unfold body
    exact zr_and (H _ _ trivial hs) (fun a s1 h1 => H _ _ hr h1)
  all_goals
    unfold body
    repeat' (first
      | assumption
      | exact H _ _ (by first | trivial | (simp only [Wr]; omega) | exact (wr_of _).1) (by first | assumption | (apply hI; assumption; omega))
      | refine zr_and (H _ _ (by first | trivial | (simp only [Wr]; omega) | exact (wr_of _).1) (by first | assumption | (apply hI; assumption; omega))) (fun _ _ _ => ?_)
      | refine zr_name hI (by assumption) (fun _ _ _ => ?_)
      | refine zr_num hI (by assumption) (fun _ _ _ => ?_)
      | refine zr_want hI (by assumption) (by decide) (fun _ _ => ?_)
      | refine zr_if (fun _ => ?_) (fun _ => ?_)
      | (refine zr_mk ?_; first | assumption | (apply hI; assumption; omega))
      | (refine zr_ok ?_; first | assumption | (apply hI; assumption; omega)))
theorem pF_zr : ∀ (f : Nat) (r : Rl) (s : List PTok), Wr r → I s → ZR I (pF f r s)
  | 0, _, _, _, _ => trivial
  | f + 1, r, s, hr, hs => body_zr hI (pF_zr f) r s hr hs
end
end Go.Proofs.YtblhklbpcalglaaGreatDoor
