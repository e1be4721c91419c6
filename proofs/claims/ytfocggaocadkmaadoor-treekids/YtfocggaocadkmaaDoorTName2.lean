import Derived.Test.YtfocggaocadkmaaDoorTName
namespace Go.Proofs.YtfocggaocadkmaaDoor
open Go.RowKit
set_option linter.unusedVariables false
set_option linter.unusedSimpArgs false

def emptyB (s : ByteArray) : Bool := s.toList.isEmpty
def nameFitsI (kind : Int) (nm : ByteArray) : Bool :=
  if kind = 20 ∨ kind = 43 then emptyB nm || nameOk nm.data.toList
  else if kind = 3 ∨ kind = 13 ∨ kind = 31 ∨ kind = 32 ∨ kind = 42 ∨ kind = 45 then nameOk nm.data.toList
  else emptyB nm

set_option maxRecDepth 100000 in
set_option maxHeartbeats 1000000 in
theorem nameFits_any (ka : Option Addr) (kc : Nat) (n : Nd) (w : World) (hl : n.name.size ≤ maxLen) (hL : Laid w) : Calls Tryd.prog 36 #[ndV ka kc n] w fun e w' => e = .returned (.bool (nameFitsI n.kind n.name)) ∧ Below w.heap.size w w' := by
  obtain ⟨k, p, ks, nm, num⟩ := n
  unfold ndV
  simp only at *
  have HN : Bx (∀ w', Laid w' → Calls Tryd.prog 57 #[.string nm] w' fun e w'' => e = .returned (.bool (nameOk nm.data.toList)) ∧ Below w'.heap.size w' w'') := ⟨fun w' h => isName_any nm w' hl h⟩
  have HL := hL.below (below1 w (.cells #[.int .i64 k, .int .i64 p, .slice ka ks.length kc, .string nm, .int .i64 num] 24))
  generalize hok : nameOk nm.data.toList = ok at *
  have HF : Bx (nameFitsI k nm = if k = 20 ∨ k = 43 then emptyB nm || ok else if k = 3 ∨ k = 13 ∨ k = 31 ∨ k = 32 ∨ k = 42 ∨ k = 45 then ok else emptyB nm) := ⟨by rw [← hok]; rfl⟩
  generalize nameFitsI k nm = F at *
  clear hok
  go_enter Tryd.func36, Tryd.ntmps36
  go_wp2_with (first | (go_at_call 57; refine Calls.mono (HN.out _ HL) ?_; rintro e w1 ⟨rfl, hb1⟩))
  all_goals
    go_ret
    refine ⟨ret_bool ?_, by first | exact below1 _ _ | exact below2 _ _ _ hb1⟩
    rw [HF.out]
    clear HF HN HL hL
    unfold emptyB
    simp at *
    (repeat' split) <;> first | rfl | omega | (simp_all; done) | (simp_all; omega)
end Go.Proofs.YtfocggaocadkmaaDoor
