import Derived.Test.YtjabdhmkibahlaaCGN
namespace Go.Proofs.Ytjabdhmkibahlaa
open Go.RowKit Go.MapKept Go.ChangeMaps Go.WideShapes
set_option linter.unusedVariables false
set_option linter.unusedSimpArgs false

set_option maxRecDepth 100000 in
theorem state_any (w : World) : Calls Try.prog 34 #[] w fun e w' => ∃ p, e = .returned (.slice p 5 5) ∧ AgsR w' p 5 exS ∧ Below w.heap.size w w' := by
  go_enter Try.func34, Try.ntmps34
  go_wp2
  go_ret
  refine ⟨_, rfl, ?_, ?_⟩
  · refine st_read (g0 := w.heap.size) (g1 := w.heap.size + 1) (g2 := w.heap.size + 1 + 1) (g3 := w.heap.size + 1 + 1 + 1) (g4 := w.heap.size + 1 + 1 + 1 + 1) (g5 := w.heap.size + 1 + 1 + 1 + 1 + 1) (g6 := w.heap.size + 1 + 1 + 1 + 1 + 1 + 1) (g7 := w.heap.size + 1 + 1 + 1 + 1 + 1 + 1 + 1) ?_ ?_ ?_ ?_ ?_ ?_ ?_ ?_ ?_ <;> (simp only [iV, pS]; repeat (first | exact alloc_at (by simp) | refine up ?_))
  · exact (((((((((Below.refl _ _).alloc (by simp <;> omega) _).alloc (by simp <;> omega) _).alloc (by simp <;> omega) _).alloc (by simp <;> omega) _).alloc (by simp <;> omega) _).alloc (by simp <;> omega) _).alloc (by simp <;> omega) _).alloc (by simp <;> omega) _).alloc (by simp <;> omega) _
end Go.Proofs.Ytjabdhmkibahlaa
