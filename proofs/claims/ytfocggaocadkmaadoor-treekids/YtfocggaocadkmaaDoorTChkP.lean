import Derived.Test.YtfocggaocadkmaaDoorTName2
namespace Go.Proofs.YtfocggaocadkmaaDoor
set_option linter.unusedVariables false
set_option linter.unusedSimpArgs false

/-- what is wrong with the node i, all ahead of it being right; fs: of each of these the first one below it -/
def checkNodeI (l : List Nd) (fs : List Nat) (i : Nat) : Nat :=
  if kindI (ndN l i).kind = false ∨ (ndN l i).pos < 0 then 20
  else if numFitsI (ndN l i).kind (ndN l i).num (ndN l i).kids.length = false then 23
  else if nameFitsI (ndN l i).kind (ndN l i).name = false then 22
  else if orderI fs i (ndN l i).kids = false ∨ kidsFitI (kdN l) (ndN l i).kind (ndN l i).num ((ndN l i).kids.map Int.toNat) = false then 21
  else if levelsFitI l (ndN l i) = false then 24
  else 0

theorem order_in {fs : List Nat} (hle : ∀ j, j < fs.length → fs.getD j 0 ≤ j) : ∀ (ks : List Int) (nx : Nat), nx ≤ fs.length → orderGo fs nx ks = true → ∀ k ∈ ks, ∃ m : Nat, k = (m : Int) ∧ m < fs.length
  | [], _, _, _, k, hk => by cases hk
  | x :: r, nx, hnx, h, k, hk => by
    rw [orderGo] at h
    split at h
    · rename_i hx
      obtain ⟨y, rfl⟩ : ∃ y : Nat, x = (y : Int) := ⟨x.toNat, by omega⟩
      have hy : y < fs.length := by omega
      rcases List.mem_cons.1 hk with rfl | hk
      · exact ⟨y, rfl, hy⟩
      · rw [Int.toNat_natCast] at h
        have := hle y hy
        exact order_in hle r (fs.getD y 0) (by omega) h k hk
    · cases h
theorem kids_nat {fs : List Nat} (hle : ∀ j, j < fs.length → fs.getD j 0 ≤ j) {kids : List Int} (h : orderI fs fs.length kids = true) :
    (kids.map Int.toNat).map (fun k : Nat => (k : Int)) = kids ∧ ∀ k ∈ kids.map Int.toNat, k < fs.length := by
  have hin := order_in hle kids.reverse fs.length (Nat.le_refl _) h
  constructor
  · rw [List.map_map]
    conv => rhs; rw [← List.map_id kids]
    apply List.map_congr_left
    intro k hk
    obtain ⟨m, rfl, _⟩ := hin k (by simpa using hk)
    simp
  · intro k hk
    obtain ⟨x, hx, rfl⟩ := List.mem_map.1 hk
    obtain ⟨m, rfl, hm⟩ := hin x (by simpa using hx)
    simpa using hm
theorem kids_at {fs : List Nat} (hle : ∀ j, j < fs.length → fs.getD j 0 ≤ j) {kids : List Int} (h : orderI fs fs.length kids = true) (j : Nat) (hj : j < kids.length) : ∃ k : Nat, kids[j] = (k : Int) ∧ k < fs.length :=
  order_in hle kids.reverse fs.length (Nat.le_refl _) h _ (by simp)
end Go.Proofs.YtfocggaocadkmaaDoor
