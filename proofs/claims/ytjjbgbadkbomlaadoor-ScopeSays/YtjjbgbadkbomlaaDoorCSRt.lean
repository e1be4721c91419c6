import Derived.Test.YtjjbgbadkbomlaaDoorCSRn
import Derived.Test.YtjjbgbadkbomlaaDoorCSNm
namespace Go.Proofs.YtjjbgbadkbomlaaDoor
set_option linter.unusedVariables false
set_option linter.unusedSimpArgs false

/-- two names, the one for the other -/
def swapN (a b x : ByteArray) : ByteArray := if x = a then b else if x = b then a else x
theorem swap_inv (a b x : ByteArray) : swapN a b (swapN a b x) = x := by
  unfold swapN
  by_cases h1 : x = a
  · subst h1
    rw [if_pos rfl]
    by_cases h2 : b = x
    · rw [if_pos h2, h2]
    · rw [if_neg h2, if_pos rfl]
  · rw [if_neg h1]
    by_cases h2 : x = b
    · subst h2
      rw [if_pos rfl, if_pos rfl]
    · rw [if_neg h2, if_neg h1, if_neg h2]
theorem swap_other {a b x : ByteArray} (h1 : x ≠ a) (h2 : x ≠ b) : swapN a b x = x := by unfold swapN; rw [if_neg h1, if_neg h2]
theorem swap_fix {a b y : ByteArray} (ha : y ≠ a) (hb : y ≠ b) (x : ByteArray) : (swapN a b x = y) ↔ (x = y) := by
  constructor
  · intro h
    have := congrArg (swapN a b) h
    rw [swap_inv, swap_other ha hb] at this
    exact this
  · intro h
    rw [h, swap_other ha hb]
/-- all that one name means has another one -/
structure Rt (a b : ByteArray) (l l' : List Nd) : Prop where
  len : l'.length = l.length
  kd : ∀ i, kdN l' i = kdN l i
  kids : ∀ i, (ndN l' i).kids = (ndN l i).kids
  pos : ∀ i, (ndN l' i).pos = (ndN l i).pos
  num : ∀ i, (ndN l' i).num = (ndN l i).num
  nm : ∀ i, (ndN l' i).name = if (ndN l i).name = a then b else (ndN l i).name
  nob : ∀ i, (ndN l i).name ≠ b
theorem Rt.rn {a b : ByteArray} {l l' : List Nd} (h : Rt a b l l') (ea : emptyB a = false) (eb : emptyB b = false) : Rn (swapN a b) l l' := by
  refine ⟨swap_inv a b, h.len, h.kd, h.kids, fun i => ?_, fun i => ?_⟩
  · rw [h.nm]
    unfold swapN
    rw [if_neg (h.nob i)]
  · rw [h.nm]
    split
    · rename_i e
      rw [e]
      exact eb.trans ea.symm
    · rfl
theorem Rt.tn {a b : ByteArray} {l l' : List Nd} (h : Rt a b l l') (ea : emptyB a = false) (hb : nameOk b.data.toList = true) : Tn l l' := by
  refine ⟨h.len, h.kd, h.kids, fun i _ hp => by rw [h.pos]; exact hp, fun i _ hf => ?_, fun i _ _ => h.num i, fun i _ _ hn => by rw [h.num]; exact hn, fun i _ => by rw [h.num]; exact ⟨Int.le_refl _, rfl⟩⟩
  rw [h.nm]
  split
  · rename_i e
    rw [e] at hf
    unfold nameFitsI at hf ⊢
    split
    · rw [hb]; simp
    · rename_i h1
      rw [if_neg h1] at hf
      split
      · exact hb
      · rename_i h2
        rw [if_neg h2, ea] at hf
        cases hf
  · exact hf
theorem start_sn {a b : ByteArray} {l l' : List Nd} (hl : l'.length = l.length) (h1 : outN ≠ a) (h2 : outN ≠ b) (h3 : inN ≠ a) (h4 : inN ≠ b) : Sn (swapN a b) (startS l) (startS l') := by
  refine ⟨0, ?_⟩
  unfold startS
  rw [hl]
  have : (fun x => nwSc true true (swapN a b x)) = nwSc true true := by
    funext x
    unfold nwSc
    simp only [true_and, swap_fix h1 h2, swap_fix h3 h4]
  simp only [this]
  rfl
/-- what is told of both -/
theorem names_sn {a b : ByteArray} {l l' : List Nd} (h : Rt a b l l') (ea : emptyB a = false) (eb : emptyB b = false) (h1 : outN ≠ a) (h2 : outN ≠ b) (h3 : inN ≠ a) (h4 : inN ≠ b) : (namesS l').ref = (namesS l).ref ∧ (namesS l').free = (namesS l).free ∧ (namesS l').flt.2 = (namesS l).flt.2 := by
  have := vis_sn (h.rn ea eb) l.length (l.length - 1) _ _ (start_sn h.len h1 h2 h3 h4)
  unfold namesS
  rw [h.len]
  obtain ⟨p, e⟩ := this
  rw [e]
  exact ⟨rfl, rfl, rfl⟩
theorem names_sm {l l' : List Nd} (h : Bl l l') : (namesS l').ref = (namesS l).ref ∧ (namesS l').free = (namesS l).free ∧ (namesS l').flt.2 = (namesS l).flt.2 := by
  have hs : startS l' = startS l := by unfold startS; rw [h.len]
  have := vis_sm h l.length (l.length - 1) _ _ (Sm'.refl (startS l))
  unfold namesS
  rw [h.len, hs]
  obtain ⟨p, e⟩ := this
  rw [e]
  exact ⟨rfl, rfl, rfl⟩
end Go.Proofs.YtjjbgbadkbomlaaDoor
