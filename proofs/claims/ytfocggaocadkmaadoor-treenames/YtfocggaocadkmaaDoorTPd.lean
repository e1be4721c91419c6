import Derived.Test.YtfocggaocadkmaaDoorTBox
namespace Go.Proofs.YtfocggaocadkmaaDoor
open Go.RowKit
set_option linter.unusedVariables false
set_option linter.unusedSimpArgs false

set_option maxRecDepth 100000 in
set_option maxHeartbeats 2000000 in
theorem pr_42 (w0 : World) (B b : Nat) (lv : Value) (N : Nat) (hN : N ≤ 140737488355328) (G : Nat → List (List UInt8)) (ka : Option Addr) (kc : Nat) (ps num : Int) (ks : List Nat) (nm : ByteArray) (hnm : nm.data.toList ≠ []) 
    (hk : IntsV w0 B (.slice ka ks.length kc) (ks.map fun k : Nat => (k : Int))) (HC : ∀ k ∈ ks, NdC w0 B b lv N G k) :
    PrC w0 B b lv N 33 (ndA b ka kc ks.length 42 ps num nm) ([nm.data.toList, [58]] ++ rowT G ks) := by
  intro W bs hst hb
  unfold ndA
  have hS := BxS.start hst 42 ps num (.slice ka ks.length kc) (.string nm)
  obtain ⟨_, _, z0, z2, z3, z4, hxl, hbl⟩ := hS.post
  have HRow : Bx _ := ⟨row_any w0 B b lv N G ks ka kc hk HC⟩
  clear hk HC hst
  go_enter Tryd.func33, Tryd.ntmps33
  go_wp2_with (first
    | (go_at_call 48; refine Calls.mono (s_lay hN rfl (by simp) hS (by simp [StrsOk, hnm]) (by decide) (by simp [toksOf, strT] at hb ⊢; omega)) ?_; clear hS z0 z2 z3 z4 hxl hbl; rintro e W' ⟨rfl, hS, z0, z2, z3, z4, hxl, hbl⟩)
    | (go_at_call 49; refine Calls.mono (s_call HRow.out hS (by simp [toksOf, strT] at hb ⊢; omega)) ?_; clear hS z0 z2 z3 z4 hxl hbl; rintro e W' ⟨rfl, hS, z0, z2, z3, z4, hxl, hbl⟩))
  go_end0
  exact s_end hS (by simp [toksOf, strT])

set_option maxRecDepth 100000 in
set_option maxHeartbeats 2000000 in
theorem pr_45 (w0 : World) (B b : Nat) (lv : Value) (N : Nat) (hN : N ≤ 140737488355328) (G : Nat → List (List UInt8)) (ka : Option Addr) (kc : Nat) (ps num : Int) (ks : List Nat) (nm : ByteArray) (hnm : nm.data.toList ≠ []) 
    (hk : IntsV w0 B (.slice ka ks.length kc) (ks.map fun k : Nat => (k : Int))) (HC : ∀ k ∈ ks, NdC w0 B b lv N G k) :
    PrC w0 B b lv N 33 (ndA b ka kc ks.length 45 ps num nm) ([[116, 121, 112, 101], nm.data.toList, [61]] ++ rowT G ks ++ [[59]]) := by
  intro W bs hst hb
  unfold ndA
  have hS := BxS.start hst 45 ps num (.slice ka ks.length kc) (.string nm)
  obtain ⟨_, _, z0, z2, z3, z4, hxl, hbl⟩ := hS.post
  have HRow : Bx _ := ⟨row_any w0 B b lv N G ks ka kc hk HC⟩
  clear hk HC hst
  go_enter Tryd.func33, Tryd.ntmps33
  go_wp2_with (first
    | (go_at_call 48; refine Calls.mono (s_lay hN rfl (by simp) hS (by simp [StrsOk, hnm]) (by decide) (by simp [toksOf, strT] at hb ⊢; omega)) ?_; clear hS z0 z2 z3 z4 hxl hbl; rintro e W' ⟨rfl, hS, z0, z2, z3, z4, hxl, hbl⟩)
    | (go_at_call 49; refine Calls.mono (s_call HRow.out hS (by simp [toksOf, strT] at hb ⊢; omega)) ?_; clear hS z0 z2 z3 z4 hxl hbl; rintro e W' ⟨rfl, hS, z0, z2, z3, z4, hxl, hbl⟩))
  go_end0
  exact s_end hS (by simp [toksOf, strT])

set_option maxRecDepth 100000 in
set_option maxHeartbeats 2000000 in
theorem pr_46 (w0 : World) (B b : Nat) (lv : Value) (N : Nat) (hN : N ≤ 140737488355328) (G : Nat → List (List UInt8)) (ka : Option Addr) (kc : Nat) (ps num : Int) (ks : List Nat) (nm : ByteArray) 
    (hk : IntsV w0 B (.slice ka ks.length kc) (ks.map fun k : Nat => (k : Int))) (HC : ∀ k ∈ ks, NdC w0 B b lv N G k) :
    PrC w0 B b lv N 33 (ndA b ka kc ks.length 46 ps num nm) (rowT G ks) := by
  intro W bs hst hb
  unfold ndA
  have hS := BxS.start hst 46 ps num (.slice ka ks.length kc) (.string nm)
  obtain ⟨_, _, z0, z2, z3, z4, hxl, hbl⟩ := hS.post
  have HRow : Bx _ := ⟨row_any w0 B b lv N G ks ka kc hk HC⟩
  clear hk HC hst
  go_enter Tryd.func33, Tryd.ntmps33
  go_wp2_with (first
    | (go_at_call 48; refine Calls.mono (s_lay hN rfl (by simp) hS (by simp [StrsOk]) (by decide) (by simp [toksOf, strT] at hb ⊢; omega)) ?_; clear hS z0 z2 z3 z4 hxl hbl; rintro e W' ⟨rfl, hS, z0, z2, z3, z4, hxl, hbl⟩)
    | (go_at_call 49; refine Calls.mono (s_call HRow.out hS (by simp [toksOf, strT] at hb ⊢; omega)) ?_; clear hS z0 z2 z3 z4 hxl hbl; rintro e W' ⟨rfl, hS, z0, z2, z3, z4, hxl, hbl⟩))
  go_end0
  exact s_end hS (by simp [toksOf, strT])

end Go.Proofs.YtfocggaocadkmaaDoor
