import Derived.Test.YtjjbgbadkbomlaaDoorCTName
import Derived.Test.YtjjbgbadkbomlaaDoorCTRun
namespace Go.Proofs.YtjjbgbadkbomlaaDoor
set_option linter.unusedVariables false
set_option linter.unusedSimpArgs false

/-- what is wrong with the node i, all ahead of it being right; fs: of each of these the first one below it -/
def checkNodeI (l : List Nd) (fs : List Nat) (i : Nat) : Nat :=
  if kindI (ndN l i).kind = false ∨ (ndN l i).pos < 0 then 20
  else if numFitsI (ndN l i).kind (ndN l i).num (ndN l i).kids.length = false then 23
  else if nameFitsI (ndN l i).kind (ndN l i).name = false then 22
  else if orderI fs i (ndN l i).kids = false ∨ kidsFitI (kdN l) (ndN l i).kind (ndN l i).num ((ndN l i).kids.map Int.toNat) = false then 21
  else if levelsFitI l (ndN l i) = false then 24
  else 0

theorem order_in {fs : List Nat} (hle : ∀ j, j < fs.length → fs.getD j 0 ≤ j) : ∀ (ks : List Int) (nx : Nat), nx ≤ fs.length → orderGo fs nx ks = true → ∀ k ∈ ks, ∃ m : Nat, k = (m : Int) ∧ m < fs.length
  | [], _, _, _, k, hk => by cases hk
  | x :: r, nx, hnx, h, k, hk => by
    rw [orderGo] at h
    split at h
    · rename_i hx
      obtain ⟨y, rfl⟩ : ∃ y : Nat, x = (y : Int) := ⟨x.toNat, by omega⟩
      have hy : y < fs.length := by omega
      rcases List.mem_cons.1 hk with rfl | hk
      · exact ⟨y, rfl, hy⟩
      · rw [Int.toNat_natCast] at h
        have := hle y hy
        exact order_in hle r (fs.getD y 0) (by omega) h k hk
    · cases h
theorem kids_nat {fs : List Nat} (hle : ∀ j, j < fs.length → fs.getD j 0 ≤ j) {kids : List Int} (h : orderI fs fs.length kids = true) :
    (kids.map Int.toNat).map (fun k : Nat => (k : Int)) = kids ∧ ∀ k ∈ kids.map Int.toNat, k < fs.length := by
  have hin := order_in hle kids.reverse fs.length (Nat.le_refl _) h
  constructor
  · rw [List.map_map]
    conv => rhs; rw [← List.map_id kids]
    apply List.map_congr_left
    intro k hk
    obtain ⟨m, rfl, _⟩ := hin k (by simpa using hk)
    simp
  · intro k hk
    obtain ⟨x, hx, rfl⟩ := List.mem_map.1 hk
    obtain ⟨m, rfl, hm⟩ := hin x (by simpa using hx)
    simpa using hm
theorem kids_at {fs : List Nat} (hle : ∀ j, j < fs.length → fs.getD j 0 ≤ j) {kids : List Int} (h : orderI fs fs.length kids = true) (j : Nat) (hj : j < kids.length) : ∃ k : Nat, kids[j] = (k : Int) ∧ k < fs.length :=
  order_in hle kids.reverse fs.length (Nat.le_refl _) h _ (by simp)
end Go.Proofs.YtjjbgbadkbomlaaDoor
namespace Go.Proofs.YtjjbgbadkbomlaaDoor
set_option linter.unusedVariables false
set_option linter.unusedSimpArgs false

def firstOf (fs : List Nat) (n : Nd) (i : Nat) : Nat :=
  match n.kids with
  | [] => i
  | k :: _ => fs.getD k.toNat 0
def rootI (l : List Nd) (fs : List Nat) : Nat × Nat :=
  if l.length = 0 ∨ kdN l (l.length - 1) ≠ 46 ∨ fs.getD (l.length - 1) 0 ≠ 0 then (l.length, 25) else (0, 0)
def checkGo (l : List Nd) : Nat → List Nat → Nat × Nat
  | 0, fs => rootI l fs
  | m + 1, fs => if checkNodeI l fs fs.length = 0 then checkGo l m (fs ++ [firstOf fs (ndN l fs.length) fs.length]) else (fs.length, checkNodeI l fs fs.length)
/-- P2.2 -/
def checkAll (l : List Nd) : Nat × Nat := checkGo l l.length []

theorem node_zero {l : List Nd} {fs : List Nat} {i : Nat} (h : checkNodeI l fs i = 0) :
    kindI (ndN l i).kind = true ∧ ¬ (ndN l i).pos < 0 ∧ numFitsI (ndN l i).kind (ndN l i).num (ndN l i).kids.length = true ∧ nameFitsI (ndN l i).kind (ndN l i).name = true ∧ orderI fs i (ndN l i).kids = true
      ∧ kidsFitI (kdN l) (ndN l i).kind (ndN l i).num ((ndN l i).kids.map Int.toNat) = true ∧ levelsFitI l (ndN l i) = true := by
  unfold checkNodeI at h
  split at h
  · cases h
  rename_i h1
  split at h
  · cases h
  rename_i h2
  split at h
  · cases h
  rename_i h3
  split at h
  · cases h
  rename_i h4
  split at h
  · cases h
  rename_i h5
  simp only [not_or, Bool.not_eq_false] at h1 h2 h3 h4 h5
  exact ⟨h1.1, h1.2, h2, h3, h4.1, h4.2, h5⟩

theorem kids_ne {f : Nat → Int} {k num : Int} {ks : List Nat} (h : kidsFitI f k num ks = true) (hk : k = 22 ∨ k = 23 ∨ k = 24 ∨ k = 25 ∨ k = 44) : ks ≠ [] := by
  intro e
  subst e
  unfold kidsFitI at h
  rcases hk with rfl | rfl | rfl | rfl | rfl
  · rw [kidsRun_22] at h; simp [fitS, cOne, took] at h
  · rw [kidsRun_23] at h; simp [fitS, cOne, cMany, took] at h
  · rw [kidsRun_24] at h; simp [fitS, cOne, took] at h
  · rw [kidsRun_25] at h; simp [fitS, cOne, took] at h
  · rw [kidsRun_44] at h; simp [fitS, cOne, took] at h

theorem first_le {fs : List Nat} (hle : ∀ j, j < fs.length → fs.getD j 0 ≤ j) {n : Nd} (ho : orderI fs fs.length n.kids = true) : firstOf fs n fs.length ≤ fs.length := by
  unfold firstOf
  match hk : n.kids with
  | [] => simp
  | k :: r =>
    rw [hk] at ho
    obtain ⟨m, hm, hlt⟩ := kids_at hle ho 0 (by simp)
    simp at hm
    subst hm
    have := hle m hlt
    simp only [Int.toNat_natCast]
    omega
theorem snoc_le {fs : List Nat} {x : Nat} (hle : ∀ j, j < fs.length → fs.getD j 0 ≤ j) (hx : x ≤ fs.length) : ∀ j, j < (fs ++ [x]).length → (fs ++ [x]).getD j 0 ≤ j := by
  intro j hj
  simp at hj
  by_cases h : j < fs.length
  · have := hle j h
    simp only [List.getD_eq_getElem?_getD] at this ⊢
    rw [List.getElem?_append_left h]
    exact this
  · have : j = fs.length := by omega
    subst this
    simp [List.getD_eq_getElem?_getD, hx]
end Go.Proofs.YtjjbgbadkbomlaaDoor
