import Derived.Test.YtllgaholkminnaaDoorCKOpenR
namespace Go.Proofs.YtllgaholkminnaaDoor
open Go.RowKit
set_option linter.unusedVariables false
set_option linter.unusedSimpArgs false

set_option maxRecDepth 100000 in
set_option maxHeartbeats 8000000 in
theorem firstOpen_leaf (w : World) (B nb no nc : Nat) (l : List Nd) (mb mn mc : Nat) (hn : Nodes w B nb no nc l) (h0 : 0 < l.length) (hl31 : l.length ≤ 2147483640) (hleaf : LeafD l) :
    Calls Tryd.prog 28 #[.slice (some ⟨nb, no, none⟩) l.length nc, .slice (some ⟨mb, 0, none⟩) mn mc] w fun e w' => e = .returned (.int .i64 (-1)) ∧ Below w.heap.size w w' := by
  have hmk := fun W => make_ints W l.length (by omega)
  have hmb := fun W => make_bools W l.length (by omega)
  have HR : Bx _ := ⟨fo_rest w B nb no nc l mb mn mc hn h0 hl31 hleaf⟩
  clear hn hleaf
  go_enter Tryd.func28, Tryd.ntmps28
  go_wp2_with fail
  rename_i K hK
  go_region_held (fun _ => True) (trivial) (fail)
  all_goals
    simp only [Exit.then]
    refine hK _ _ (HR.out _ _ _ rfl _ _ _ _ _ _ (sr_of (four _ _ _ _ _).1 (four _ _ _ _ _).2.1 ?_ ?_ ?_ ?_ ⟨?_, ?_, ?_, ?_⟩ ⟨?_, ?_, ?_, ?_, ?_, ?_⟩))
    · simp only [four0, four1, four2, four3]; rfl
    · simp only [four0, four1, four2, four3]
    · simp only [four0, four1, four2, four3]
    · simp only [four0, four1, four2, four3]
    all_goals omega
end Go.Proofs.YtllgaholkminnaaDoor
