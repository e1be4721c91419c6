import Derived.Test.YtfocggaocadkmaaDoorTPe
import Derived.Deep.RegionHeld
import Derived.Deep.QuietTactic
import Derived.BigQuiet
namespace Go.Proofs.YtfocggaocadkmaaDoor
open Go.RowKit
set_option linter.unusedVariables false
set_option linter.unusedSimpArgs false

set_option maxRecDepth 100000 in
set_option maxHeartbeats 2000000 in
theorem pr_22 (w0 : World) (B b : Nat) (lv : Value) (N : Nat) (hN : N ≤ 140737488355328) (G : Nat → List (List UInt8)) (ka : Option Addr) (kc : Nat) (ps num : Int) (k0 k1 : Nat) (nm : ByteArray) 
    (hk : IntsV w0 B (.slice ka ([k0, k1]).length kc) (([k0, k1]).map fun k : Nat => (k : Int))) (HC : ∀ k ∈ [k0, k1], NdC w0 B b lv N G k) :
    PrC w0 B b lv N 30 (ndA b ka kc (2) 22 ps num nm) (G k0 ++ [opT num] ++ G k1) := by
  intro W bs hst hb
  unfold ndA
  have hne := op_ne num
  have HBoth : Bx _ := ⟨both_any w0 B b lv N hN G ka kc 22 ps num k0 k1 [] nm ⟨(opT num).toArray⟩ (by simpa using hne) hk HC⟩
  simp only [List.length_nil, Nat.zero_add] at HBoth
  have hS := BxS.start hst 22 ps num (.slice ka 2 kc) (.string nm)
  obtain ⟨_, _, z0, z2, z3, z4, hxl, hbl⟩ := hS.post
  obtain ⟨_, _, _, _, z1, _⟩ := box_cells hS.box
  have hSd := hS.ext (Below.drew (Below.refl _ _))
  have HB : Bx _ := ⟨s_call HBoth.out hSd (by simp at hb ⊢; omega)⟩
  clear hk HC hst hb
  go_enter Tryd.func30, Tryd.ntmps30
  go_wp2_with fail
  go_region_held (fun w' => w'.cell? ⟨W.heap.size, 0, none⟩ = some (.int .i64 22) ∧ w'.cell? ⟨W.heap.size, 1, none⟩ = some (.int .i64 ps) ∧ w'.cell? ⟨W.heap.size, 2, none⟩ = some (.slice ka 2 kc) ∧ w'.cell? ⟨W.heap.size, 3, none⟩ = some (.string nm) ∧ w'.cell? ⟨W.heap.size, 4, none⟩ = some (.int .i64 num))
    (first | exact ⟨z0, z1, z2, z3, z4⟩ | exact ⟨q0, q1, q2, q3, q4⟩ | (go_keep))
    (first | (go_at_call 55; refine (operator_any _ _).mono ?_; rintro e W' ⟨rfl, rfl⟩) | (go_at_call 56; refine Calls.mono HB.out ?_; rintro e W' ⟨rfl, hE, q0, q2, q3, q4, _, hbl2⟩; obtain ⟨_, _, _, _, q1, _⟩ := box_cells hE.box))
  go_wp2
  go_end0
  exact s_end hE (by simp)
end Go.Proofs.YtfocggaocadkmaaDoor
