import Derived.Test.YtpgobebibjeglaaDoorCTBox
namespace Go.Proofs.YtpgobebibjeglaaDoor
open Go.RowKit
set_option linter.unusedVariables false
set_option linter.unusedSimpArgs false

set_option maxRecDepth 100000 in
set_option maxHeartbeats 2000000 in
theorem pr_1 (w0 : World) (B b : Nat) (lv : Value) (N : Nat) (hN : N ≤ 140737488355328) (G : Nat → List (List UInt8)) (ka : Option Addr) (kc : Nat) (ps num : Int) (ks : List Nat) (nm : ByteArray) 
    (hk : IntsV w0 B (.slice ka ks.length kc) (ks.map fun k : Nat => (k : Int))) (HC : ∀ k ∈ ks, NdC w0 B b lv N G k) :
    PrC w0 B b lv N 24 (ndA b ka kc ks.length 1 ps num nm) ([[105, 110, 116]]) := by
  intro W bs hst hb
  unfold ndA
  have hS := BxS.start hst 1 ps num (.slice ka ks.length kc) (.string nm)
  obtain ⟨_, _, z0, z2, z3, z4, hxl, hbl⟩ := hS.post
  skip
  clear hk HC hst
  go_enter Tryd.func24, Tryd.ntmps24
  go_wp2_with (first
    | (go_at_call 43; refine Calls.mono (s_lay hN rfl (by simp) hS (by simp [StrsOk]) (by decide) (by simp [toksOf, strT] at hb ⊢; omega)) ?_; clear hS z0 z2 z3 z4 hxl hbl; rintro e W' ⟨rfl, hS, z0, z2, z3, z4, hxl, hbl⟩))
  go_end0
  exact s_end hS (by simp [toksOf, strT])

set_option maxRecDepth 100000 in
set_option maxHeartbeats 2000000 in
theorem pr_2 (w0 : World) (B b : Nat) (lv : Value) (N : Nat) (hN : N ≤ 140737488355328) (G : Nat → List (List UInt8)) (ka : Option Addr) (kc : Nat) (ps num : Int) (ks : List Nat) (nm : ByteArray) 
    (hk : IntsV w0 B (.slice ka ks.length kc) (ks.map fun k : Nat => (k : Int))) (HC : ∀ k ∈ ks, NdC w0 B b lv N G k) :
    PrC w0 B b lv N 24 (ndA b ka kc ks.length 2 ps num nm) ([[98, 111, 111, 108]]) := by
  intro W bs hst hb
  unfold ndA
  have hS := BxS.start hst 2 ps num (.slice ka ks.length kc) (.string nm)
  obtain ⟨_, _, z0, z2, z3, z4, hxl, hbl⟩ := hS.post
  skip
  clear hk HC hst
  go_enter Tryd.func24, Tryd.ntmps24
  go_wp2_with (first
    | (go_at_call 43; refine Calls.mono (s_lay hN rfl (by simp) hS (by simp [StrsOk]) (by decide) (by simp [toksOf, strT] at hb ⊢; omega)) ?_; clear hS z0 z2 z3 z4 hxl hbl; rintro e W' ⟨rfl, hS, z0, z2, z3, z4, hxl, hbl⟩))
  go_end0
  exact s_end hS (by simp [toksOf, strT])

set_option maxRecDepth 100000 in
set_option maxHeartbeats 2000000 in
theorem pr_3 (w0 : World) (B b : Nat) (lv : Value) (N : Nat) (hN : N ≤ 140737488355328) (G : Nat → List (List UInt8)) (ka : Option Addr) (kc : Nat) (ps num : Int) (ks : List Nat) (nm : ByteArray) (hnm : nm.data.toList ≠ []) 
    (hk : IntsV w0 B (.slice ka ks.length kc) (ks.map fun k : Nat => (k : Int))) (HC : ∀ k ∈ ks, NdC w0 B b lv N G k) :
    PrC w0 B b lv N 24 (ndA b ka kc ks.length 3 ps num nm) ([nm.data.toList]) := by
  intro W bs hst hb
  unfold ndA
  have hS := BxS.start hst 3 ps num (.slice ka ks.length kc) (.string nm)
  obtain ⟨_, _, z0, z2, z3, z4, hxl, hbl⟩ := hS.post
  skip
  clear hk HC hst
  go_enter Tryd.func24, Tryd.ntmps24
  go_wp2_with (first
    | (go_at_call 43; refine Calls.mono (s_lay hN rfl (by simp) hS (by simp [StrsOk, hnm]) (by decide) (by simp [toksOf, strT] at hb ⊢; omega)) ?_; clear hS z0 z2 z3 z4 hxl hbl; rintro e W' ⟨rfl, hS, z0, z2, z3, z4, hxl, hbl⟩))
  go_end0
  exact s_end hS (by simp [toksOf, strT])

set_option maxRecDepth 100000 in
set_option maxHeartbeats 2000000 in
theorem pr_4 (w0 : World) (B b : Nat) (lv : Value) (N : Nat) (hN : N ≤ 140737488355328) (G : Nat → List (List UInt8)) (ka : Option Addr) (kc : Nat) (ps num : Int) (ks : List Nat) (nm : ByteArray) 
    (hk : IntsV w0 B (.slice ka ks.length kc) (ks.map fun k : Nat => (k : Int))) (HC : ∀ k ∈ ks, NdC w0 B b lv N G k) :
    PrC w0 B b lv N 24 (ndA b ka kc ks.length 4 ps num nm) ([[97, 114, 114, 97, 121], [111, 102]] ++ rowT G ks) := by
  intro W bs hst hb
  unfold ndA
  have hS := BxS.start hst 4 ps num (.slice ka ks.length kc) (.string nm)
  obtain ⟨_, _, z0, z2, z3, z4, hxl, hbl⟩ := hS.post
  have HRow : Bx _ := ⟨row_any w0 B b lv N G ks ka kc hk HC⟩
  clear hk HC hst
  go_enter Tryd.func24, Tryd.ntmps24
  go_wp2_with (first
    | (go_at_call 43; refine Calls.mono (s_lay hN rfl (by simp) hS (by simp [StrsOk]) (by decide) (by simp [toksOf, strT] at hb ⊢; omega)) ?_; clear hS z0 z2 z3 z4 hxl hbl; rintro e W' ⟨rfl, hS, z0, z2, z3, z4, hxl, hbl⟩)
    | (go_at_call 44; refine Calls.mono (s_call HRow.out hS (by simp [toksOf, strT] at hb ⊢; omega)) ?_; clear hS z0 z2 z3 z4 hxl hbl; rintro e W' ⟨rfl, hS, z0, z2, z3, z4, hxl, hbl⟩))
  go_end0
  exact s_end hS (by simp [toksOf, strT])

set_option maxRecDepth 100000 in
set_option maxHeartbeats 2000000 in
theorem pr_5 (w0 : World) (B b : Nat) (lv : Value) (N : Nat) (hN : N ≤ 140737488355328) (G : Nat → List (List UInt8)) (ka : Option Addr) (kc : Nat) (ps num : Int) (ks : List Nat) (nm : ByteArray) 
    (hk : IntsV w0 B (.slice ka ks.length kc) (ks.map fun k : Nat => (k : Int))) (HC : ∀ k ∈ ks, NdC w0 B b lv N G k) :
    PrC w0 B b lv N 24 (ndA b ka kc ks.length 5 ps num nm) (([[40]] ++ innerT G ks ++ [[41]])) := by
  intro W bs hst hb
  unfold ndA
  have hS := BxS.start hst 5 ps num (.slice ka ks.length kc) (.string nm)
  obtain ⟨_, _, z0, z2, z3, z4, hxl, hbl⟩ := hS.post
  have HList : Bx _ := ⟨list_any w0 B b lv N hN G ks ka kc ⟨#[40]⟩ ⟨#[41]⟩ (by simp) (by simp) hk HC⟩
  clear hk HC hst
  go_enter Tryd.func24, Tryd.ntmps24
  go_wp2_with (first
    | (go_at_call 43; refine Calls.mono (s_lay hN rfl (by simp) hS (by simp [StrsOk]) (by decide) (by simp [toksOf, strT] at hb ⊢; omega)) ?_; clear hS z0 z2 z3 z4 hxl hbl; rintro e W' ⟨rfl, hS, z0, z2, z3, z4, hxl, hbl⟩)
    | (go_at_call 45; refine Calls.mono (s_call HList.out hS (by simp [toksOf, strT] at hb ⊢; omega)) ?_; clear hS z0 z2 z3 z4 hxl hbl; rintro e W' ⟨rfl, hS, z0, z2, z3, z4, hxl, hbl⟩))
  go_end0
  exact s_end hS (by simp [toksOf, strT])

set_option maxRecDepth 100000 in
set_option maxHeartbeats 2000000 in
theorem pr_6 (w0 : World) (B b : Nat) (lv : Value) (N : Nat) (hN : N ≤ 140737488355328) (G : Nat → List (List UInt8)) (ka : Option Addr) (kc : Nat) (ps num : Int) (ks : List Nat) (nm : ByteArray) 
    (hk : IntsV w0 B (.slice ka ks.length kc) (ks.map fun k : Nat => (k : Int))) (HC : ∀ k ∈ ks, NdC w0 B b lv N G k) :
    PrC w0 B b lv N 24 (ndA b ka kc ks.length 6 ps num nm) ([[99, 104, 97, 110], [111, 102]] ++ rowT G ks) := by
  intro W bs hst hb
  unfold ndA
  have hS := BxS.start hst 6 ps num (.slice ka ks.length kc) (.string nm)
  obtain ⟨_, _, z0, z2, z3, z4, hxl, hbl⟩ := hS.post
  have HRow : Bx _ := ⟨row_any w0 B b lv N G ks ka kc hk HC⟩
  clear hk HC hst
  go_enter Tryd.func24, Tryd.ntmps24
  go_wp2_with (first
    | (go_at_call 43; refine Calls.mono (s_lay hN rfl (by simp) hS (by simp [StrsOk]) (by decide) (by simp [toksOf, strT] at hb ⊢; omega)) ?_; clear hS z0 z2 z3 z4 hxl hbl; rintro e W' ⟨rfl, hS, z0, z2, z3, z4, hxl, hbl⟩)
    | (go_at_call 44; refine Calls.mono (s_call HRow.out hS (by simp [toksOf, strT] at hb ⊢; omega)) ?_; clear hS z0 z2 z3 z4 hxl hbl; rintro e W' ⟨rfl, hS, z0, z2, z3, z4, hxl, hbl⟩))
  go_end0
  exact s_end hS (by simp [toksOf, strT])

end Go.Proofs.YtpgobebibjeglaaDoor
