import Derived.Test.YtfocggaocadkmaaDoorNum
namespace Go.Proofs.YtfocggaocadkmaaDoor
open Go.RowKit
set_option linter.unusedVariables false
set_option linter.unusedSimpArgs false

/-- the longest of a table that a text begins with: its number and length -/
def bestFrom : List (List UInt8) → Nat → Nat × Nat → List UInt8 → Nat × Nat
  | [], _, acc, _ => acc
  | s :: r, n, acc, l => bestFrom r (n + 1) (if acc.2 < s.length ∧ s.isPrefixOf l = true then (n, s.length) else acc) l
def bestS (l : List UInt8) : Nat × Nat := bestFrom signsT 40 (0, 0) l

/-- the sign that stands at k -/
def signR (xs : List UInt8) (k : Nat) : Tok × Nat :=
  if (bestS (xs.drop k)).2 = 0 then (tok0, 11) else (⟨(bestS (xs.drop k)).1, k, (bestS (xs.drop k)).2, 0⟩, 0)

theorem bestFrom_step (T : List (List UInt8)) (j n : Nat) (acc : Nat × Nat) (l : List UInt8) (h : j < T.length) :
    bestFrom (T.drop j) n acc l = bestFrom (T.drop (j + 1)) (n + 1) (if acc.2 < (T.getD j []).length ∧ (T.getD j []).isPrefixOf l = true then (n, (T.getD j []).length) else acc) l := by
  rw [List.drop_eq_getElem_cons h]
  simp only [bestFrom, List.getD, List.getElem?_eq_getElem h, Option.getD_some]
theorem bestFrom_yes (T : List (List UInt8)) (j n : Nat) (acc : Nat × Nat) (l : List UInt8) (h : j < T.length) (h1 : acc.2 < (T.getD j []).length) (h2 : (T.getD j []).isPrefixOf l = true) :
    bestFrom (T.drop j) n acc l = bestFrom (T.drop (j + 1)) (n + 1) (n, (T.getD j []).length) l := by
  rw [bestFrom_step T j n acc l h, if_pos ⟨h1, h2⟩]
theorem bestFrom_no (T : List (List UInt8)) (j n : Nat) (acc : Nat × Nat) (l : List UInt8) (h : j < T.length) (h1 : ¬ (acc.2 < (T.getD j []).length ∧ (T.getD j []).isPrefixOf l = true)) :
    bestFrom (T.drop j) n acc l = bestFrom (T.drop (j + 1)) (n + 1) acc l := by
  rw [bestFrom_step T j n acc l h, if_neg h1]

def intsOf (l : List UInt8) : List Int := l.map fun c => (c.toNat : Int)
theorem bytes_ints (l : List UInt8) : Lib.bytesOf (intsOf l) = l := by
  unfold Lib.bytesOf intsOf
  rw [List.map_map]
  conv => rhs; rw [← List.map_id l]
  apply List.map_congr_left
  intro x _
  simp

theorem hasPrefix_at (W : World) (b o k c d : Nat) (xs s : List UInt8) (hs : Src W b o xs) (hb : b < W.heap.size) (hk : k ≤ xs.length) (hc : xs.length - k ≤ c) :
    Calls Tryd.prog 69 #[.slice (some ⟨b, o + k, none⟩) (xs.length - k) c, .slice (some ⟨W.heap.size, 0, none⟩) s.length d] (Lib.bytesWorld W 5 ⟨s.toArray⟩)
      fun e w' => e = .returned (.bool (s.isPrefixOf (xs.drop k))) ∧ Lib.bytesWorld W 5 ⟨s.toArray⟩ = w' := by
  refine (Tryd.bytes_HasPrefix_all (some ⟨b, o + k, none⟩) (some ⟨W.heap.size, 0, none⟩) (xs.length - k) c s.length d (intsOf (xs.drop k)) (intsOf s) _ (by simp [intsOf]) (by simp [intsOf]) hc ?_ ?_).mono ?_
  · intro hn
    refine ⟨b, o + k, rfl, fun i hi => ?_⟩
    rw [Lib.bytesWorld_old _ _ _ _ hb, Nat.add_assoc, hs (k + i) (by omega)]
    have hi' : k + i < xs.length := by omega
    simp [intsOf, List.getD, hi']
  · intro hn
    refine ⟨W.heap.size, 0, rfl, fun i hi => ?_⟩
    rw [Nat.zero_add, Lib.bytesWorld_cell _ _ _ _ (by simpa [ByteArray.size] using hi)]
    simp [intsOf, List.getD, hi]
  · rintro e w' ⟨h1, h2⟩
    rw [bytes_ints, bytes_ints] at h1
    exact ⟨h1, h2.symm⟩
theorem conv_bytes (s : ByteArray) (W : World) : (convert 9 42 (.string s)).run Tryd.prog W = .ok (.slice (some ⟨W.heap.size, 0, none⟩) s.size (grownCap W s.size 0 5)) (Lib.bytesWorld W 5 s) :=
  Lib.run_convert_string_bytes (P := Tryd.prog) W 9 42 5 s Tryd.underlying9 Tryd.underlying42 Tryd.underlying5
theorem slice_from (W : World) (b o n cap k : Nat) (hk : k < n) (hc : n ≤ cap) :
    (Instr.slice 42 (.slice (some ⟨b, o, none⟩) n cap) (some (.int .i64 (k : Int))) none none).run Tryd.prog W = .ok (.slice (some ⟨b, o + k, none⟩) (n - k) (cap - k)) W := by
  have ht' : Tryd.prog.underlying 42 = some (.slice (Tryd.prog.elem 42)) := by simp [Program.elem, Tryd.underlying42]
  have he : Tryd.prog.elem 42 = 5 := by simp [Program.elem, Tryd.underlying42]
  rw [run_slice_l W 42 _ _ _ ht' .i64 _ (by omega) (by omega), he, sizeOf5]
  have hne : ¬ cap = k := by omega
  by_cases h0 : k = 0
  · subst h0
    simp [Result.andThen, sliced, Addr.add, hne]
  · simp [Result.andThen, sliced, Addr.add, hne, h0]
end Go.Proofs.YtfocggaocadkmaaDoor
