import Derived.Test.YtfocggaocadkmaaDoorCTBox
namespace Go.Proofs.YtfocggaocadkmaaDoor
open Go.RowKit
set_option linter.unusedVariables false
set_option linter.unusedSimpArgs false

set_option maxRecDepth 100000 in
set_option maxHeartbeats 2000000 in
theorem pr_11 (w0 : World) (B b : Nat) (lv : Value) (N : Nat) (hN : N ≤ 140737488355328) (G : Nat → List (List UInt8)) (ka : Option Addr) (kc : Nat) (ps num : Int) (ks : List Nat) (nm : ByteArray) (hL : LaidB w0 B) (hi : I64 num) 
    (hk : IntsV w0 B (.slice ka ks.length kc) (ks.map fun k : Nat => (k : Int))) (HC : ∀ k ∈ ks, NdC w0 B b lv N G k) :
    PrC w0 B b lv N 30 (ndA b ka kc ks.length 11 ps num nm) ([Lib.itoa num]) := by
  intro W bs hst hb
  unfold ndA
  have hS := BxS.start hst 11 ps num (.slice ka ks.length kc) (.string nm)
  obtain ⟨_, _, z0, z2, z3, z4, hxl, hbl⟩ := hS.post
  have hne := itoa_ne num
  clear hk HC hst
  go_enter Tryd.func30, Tryd.ntmps30
  go_wp2_with (first
    | (go_at_call 48; refine Calls.mono (s_lay hN rfl (by simp) hS (by simp [StrsOk, hne]) (by decide) (by simp [toksOf, strT] at hb ⊢; omega)) ?_; clear hS z0 z2 z3 z4 hxl hbl; rintro e W' ⟨rfl, hS, z0, z2, z3, z4, hxl, hbl⟩)
    | (go_at_call 52; refine Calls.mono (itoa_step hL hi hS) ?_; clear hS z0 z2 z3 z4 hxl hbl; rintro e W' ⟨rfl, hS, z0, z2, z3, z4, hxl, hbl⟩))
  go_end0
  exact s_end hS (by simp [toksOf, strT])

set_option maxRecDepth 100000 in
set_option maxHeartbeats 2000000 in
theorem pr_12 (w0 : World) (B b : Nat) (lv : Value) (N : Nat) (hN : N ≤ 140737488355328) (G : Nat → List (List UInt8)) (ka : Option Addr) (kc : Nat) (ps num : Int) (ks : List Nat) (nm : ByteArray) 
    (hk : IntsV w0 B (.slice ka ks.length kc) (ks.map fun k : Nat => (k : Int))) (HC : ∀ k ∈ ks, NdC w0 B b lv N G k) :
    PrC w0 B b lv N 30 (ndA b ka kc ks.length 12 ps num nm) ([Lib.formatBool (num == 1)]) := by
  intro W bs hst hb
  unfold ndA
  have hS := BxS.start hst 12 ps num (.slice ka ks.length kc) (.string nm)
  obtain ⟨_, _, z0, z2, z3, z4, hxl, hbl⟩ := hS.post
  have hne := bool_ne (num == 1)
  clear hk HC hst
  go_enter Tryd.func30, Tryd.ntmps30
  go_wp2_with (first
    | (go_at_call 48; refine Calls.mono (s_lay hN rfl (by simp) hS (by simp [StrsOk, hne]) (by decide) (by simp [toksOf, strT] at hb ⊢; omega)) ?_; clear hS z0 z2 z3 z4 hxl hbl; rintro e W' ⟨rfl, hS, z0, z2, z3, z4, hxl, hbl⟩)
    | (go_at_call 53; refine (Tryd.strconv_FormatBool _ _).mono ?_; rintro e W' ⟨rfl, rfl⟩))
  go_end0
  exact s_end hS (by simp [toksOf, strT])

set_option maxRecDepth 100000 in
set_option maxHeartbeats 2000000 in
theorem pr_13 (w0 : World) (B b : Nat) (lv : Value) (N : Nat) (hN : N ≤ 140737488355328) (G : Nat → List (List UInt8)) (ka : Option Addr) (kc : Nat) (ps num : Int) (ks : List Nat) (nm : ByteArray) (hnm : nm.data.toList ≠ []) 
    (hk : IntsV w0 B (.slice ka ks.length kc) (ks.map fun k : Nat => (k : Int))) (HC : ∀ k ∈ ks, NdC w0 B b lv N G k) :
    PrC w0 B b lv N 30 (ndA b ka kc ks.length 13 ps num nm) ([nm.data.toList]) := by
  intro W bs hst hb
  unfold ndA
  have hS := BxS.start hst 13 ps num (.slice ka ks.length kc) (.string nm)
  obtain ⟨_, _, z0, z2, z3, z4, hxl, hbl⟩ := hS.post
  skip
  clear hk HC hst
  go_enter Tryd.func30, Tryd.ntmps30
  go_wp2_with (first
    | (go_at_call 48; refine Calls.mono (s_lay hN rfl (by simp) hS (by simp [StrsOk, hnm]) (by decide) (by simp [toksOf, strT] at hb ⊢; omega)) ?_; clear hS z0 z2 z3 z4 hxl hbl; rintro e W' ⟨rfl, hS, z0, z2, z3, z4, hxl, hbl⟩))
  go_end0
  exact s_end hS (by simp [toksOf, strT])

set_option maxRecDepth 100000 in
set_option maxHeartbeats 2000000 in
theorem pr_14 (w0 : World) (B b : Nat) (lv : Value) (N : Nat) (hN : N ≤ 140737488355328) (G : Nat → List (List UInt8)) (ka : Option Addr) (kc : Nat) (ps num : Int) (ks : List Nat) (nm : ByteArray) 
    (hk : IntsV w0 B (.slice ka ks.length kc) (ks.map fun k : Nat => (k : Int))) (HC : ∀ k ∈ ks, NdC w0 B b lv N G k) :
    PrC w0 B b lv N 30 (ndA b ka kc ks.length 14 ps num nm) (([[40]] ++ innerT G ks ++ [[41]])) := by
  intro W bs hst hb
  unfold ndA
  have hS := BxS.start hst 14 ps num (.slice ka ks.length kc) (.string nm)
  obtain ⟨_, _, z0, z2, z3, z4, hxl, hbl⟩ := hS.post
  have HList : Bx _ := ⟨list_any w0 B b lv N hN G ks ka kc ⟨#[40]⟩ ⟨#[41]⟩ (by simp) (by simp) hk HC⟩
  clear hk HC hst
  go_enter Tryd.func30, Tryd.ntmps30
  go_wp2_with (first
    | (go_at_call 48; refine Calls.mono (s_lay hN rfl (by simp) hS (by simp [StrsOk]) (by decide) (by simp [toksOf, strT] at hb ⊢; omega)) ?_; clear hS z0 z2 z3 z4 hxl hbl; rintro e W' ⟨rfl, hS, z0, z2, z3, z4, hxl, hbl⟩)
    | (go_at_call 50; refine Calls.mono (s_call HList.out hS (by simp [toksOf, strT] at hb ⊢; omega)) ?_; clear hS z0 z2 z3 z4 hxl hbl; rintro e W' ⟨rfl, hS, z0, z2, z3, z4, hxl, hbl⟩))
  go_end0
  exact s_end hS (by simp [toksOf, strT])

set_option maxRecDepth 100000 in
set_option maxHeartbeats 2000000 in
theorem pr_15 (w0 : World) (B b : Nat) (lv : Value) (N : Nat) (hN : N ≤ 140737488355328) (G : Nat → List (List UInt8)) (ka : Option Addr) (kc : Nat) (ps num : Int) (ks : List Nat) (nm : ByteArray) 
    (hk : IntsV w0 B (.slice ka ks.length kc) (ks.map fun k : Nat => (k : Int))) (HC : ∀ k ∈ ks, NdC w0 B b lv N G k) :
    PrC w0 B b lv N 30 (ndA b ka kc ks.length 15 ps num nm) (([[40]] ++ innerT G ks ++ [[41]])) := by
  intro W bs hst hb
  unfold ndA
  have hS := BxS.start hst 15 ps num (.slice ka ks.length kc) (.string nm)
  obtain ⟨_, _, z0, z2, z3, z4, hxl, hbl⟩ := hS.post
  have HList : Bx _ := ⟨list_any w0 B b lv N hN G ks ka kc ⟨#[40]⟩ ⟨#[41]⟩ (by simp) (by simp) hk HC⟩
  clear hk HC hst
  go_enter Tryd.func30, Tryd.ntmps30
  go_wp2_with (first
    | (go_at_call 48; refine Calls.mono (s_lay hN rfl (by simp) hS (by simp [StrsOk]) (by decide) (by simp [toksOf, strT] at hb ⊢; omega)) ?_; clear hS z0 z2 z3 z4 hxl hbl; rintro e W' ⟨rfl, hS, z0, z2, z3, z4, hxl, hbl⟩)
    | (go_at_call 50; refine Calls.mono (s_call HList.out hS (by simp [toksOf, strT] at hb ⊢; omega)) ?_; clear hS z0 z2 z3 z4 hxl hbl; rintro e W' ⟨rfl, hS, z0, z2, z3, z4, hxl, hbl⟩))
  go_end0
  exact s_end hS (by simp [toksOf, strT])

set_option maxRecDepth 100000 in
set_option maxHeartbeats 2000000 in
theorem pr_16 (w0 : World) (B b : Nat) (lv : Value) (N : Nat) (hN : N ≤ 140737488355328) (G : Nat → List (List UInt8)) (ka : Option Addr) (kc : Nat) (ps num : Int) (ks : List Nat) (nm : ByteArray) 
    (hk : IntsV w0 B (.slice ka ks.length kc) (ks.map fun k : Nat => (k : Int))) (HC : ∀ k ∈ ks, NdC w0 B b lv N G k) :
    PrC w0 B b lv N 30 (ndA b ka kc ks.length 16 ps num nm) (([[91]] ++ innerT G ks ++ [[93]])) := by
  intro W bs hst hb
  unfold ndA
  have hS := BxS.start hst 16 ps num (.slice ka ks.length kc) (.string nm)
  obtain ⟨_, _, z0, z2, z3, z4, hxl, hbl⟩ := hS.post
  have HList : Bx _ := ⟨list_any w0 B b lv N hN G ks ka kc ⟨#[91]⟩ ⟨#[93]⟩ (by simp) (by simp) hk HC⟩
  clear hk HC hst
  go_enter Tryd.func30, Tryd.ntmps30
  go_wp2_with (first
    | (go_at_call 48; refine Calls.mono (s_lay hN rfl (by simp) hS (by simp [StrsOk]) (by decide) (by simp [toksOf, strT] at hb ⊢; omega)) ?_; clear hS z0 z2 z3 z4 hxl hbl; rintro e W' ⟨rfl, hS, z0, z2, z3, z4, hxl, hbl⟩)
    | (go_at_call 50; refine Calls.mono (s_call HList.out hS (by simp [toksOf, strT] at hb ⊢; omega)) ?_; clear hS z0 z2 z3 z4 hxl hbl; rintro e W' ⟨rfl, hS, z0, z2, z3, z4, hxl, hbl⟩))
  go_end0
  exact s_end hS (by simp [toksOf, strT])

set_option maxRecDepth 100000 in
set_option maxHeartbeats 2000000 in
theorem pr_17 (w0 : World) (B b : Nat) (lv : Value) (N : Nat) (hN : N ≤ 140737488355328) (G : Nat → List (List UInt8)) (ka : Option Addr) (kc : Nat) (ps num : Int) (ks : List Nat) (nm : ByteArray) 
    (hk : IntsV w0 B (.slice ka ks.length kc) (ks.map fun k : Nat => (k : Int))) (HC : ∀ k ∈ ks, NdC w0 B b lv N G k) :
    PrC w0 B b lv N 30 (ndA b ka kc ks.length 17 ps num nm) ([[102, 105, 108, 108]] ++ ([[40]] ++ innerT G ks ++ [[41]])) := by
  intro W bs hst hb
  unfold ndA
  have hS := BxS.start hst 17 ps num (.slice ka ks.length kc) (.string nm)
  obtain ⟨_, _, z0, z2, z3, z4, hxl, hbl⟩ := hS.post
  have HList : Bx _ := ⟨list_any w0 B b lv N hN G ks ka kc ⟨#[40]⟩ ⟨#[41]⟩ (by simp) (by simp) hk HC⟩
  clear hk HC hst
  go_enter Tryd.func30, Tryd.ntmps30
  go_wp2_with (first
    | (go_at_call 48; refine Calls.mono (s_lay hN rfl (by simp) hS (by simp [StrsOk]) (by decide) (by simp [toksOf, strT] at hb ⊢; omega)) ?_; clear hS z0 z2 z3 z4 hxl hbl; rintro e W' ⟨rfl, hS, z0, z2, z3, z4, hxl, hbl⟩)
    | (go_at_call 50; refine Calls.mono (s_call HList.out hS (by simp [toksOf, strT] at hb ⊢; omega)) ?_; clear hS z0 z2 z3 z4 hxl hbl; rintro e W' ⟨rfl, hS, z0, z2, z3, z4, hxl, hbl⟩))
  go_end0
  exact s_end hS (by simp [toksOf, strT])

set_option maxRecDepth 100000 in
set_option maxHeartbeats 2000000 in
theorem pr_18 (w0 : World) (B b : Nat) (lv : Value) (N : Nat) (hN : N ≤ 140737488355328) (G : Nat → List (List UInt8)) (ka : Option Addr) (kc : Nat) (ps num : Int) (ks : List Nat) (nm : ByteArray) 
    (hk : IntsV w0 B (.slice ka ks.length kc) (ks.map fun k : Nat => (k : Int))) (HC : ∀ k ∈ ks, NdC w0 B b lv N G k) :
    PrC w0 B b lv N 30 (ndA b ka kc ks.length 18 ps num nm) ([[108, 101, 110]] ++ ([[40]] ++ innerT G ks ++ [[41]])) := by
  intro W bs hst hb
  unfold ndA
  have hS := BxS.start hst 18 ps num (.slice ka ks.length kc) (.string nm)
  obtain ⟨_, _, z0, z2, z3, z4, hxl, hbl⟩ := hS.post
  have HList : Bx _ := ⟨list_any w0 B b lv N hN G ks ka kc ⟨#[40]⟩ ⟨#[41]⟩ (by simp) (by simp) hk HC⟩
  clear hk HC hst
  go_enter Tryd.func30, Tryd.ntmps30
  go_wp2_with (first
    | (go_at_call 48; refine Calls.mono (s_lay hN rfl (by simp) hS (by simp [StrsOk]) (by decide) (by simp [toksOf, strT] at hb ⊢; omega)) ?_; clear hS z0 z2 z3 z4 hxl hbl; rintro e W' ⟨rfl, hS, z0, z2, z3, z4, hxl, hbl⟩)
    | (go_at_call 50; refine Calls.mono (s_call HList.out hS (by simp [toksOf, strT] at hb ⊢; omega)) ?_; clear hS z0 z2 z3 z4 hxl hbl; rintro e W' ⟨rfl, hS, z0, z2, z3, z4, hxl, hbl⟩))
  go_end0
  exact s_end hS (by simp [toksOf, strT])

set_option maxRecDepth 100000 in
set_option maxHeartbeats 2000000 in
theorem pr_19 (w0 : World) (B b : Nat) (lv : Value) (N : Nat) (hN : N ≤ 140737488355328) (G : Nat → List (List UInt8)) (ka : Option Addr) (kc : Nat) (ps num : Int) (ks : List Nat) (nm : ByteArray) 
    (hk : IntsV w0 B (.slice ka ks.length kc) (ks.map fun k : Nat => (k : Int))) (HC : ∀ k ∈ ks, NdC w0 B b lv N G k) :
    PrC w0 B b lv N 30 (ndA b ka kc ks.length 19 ps num nm) ([[109, 97, 107, 101]] ++ rowT G ks) := by
  intro W bs hst hb
  unfold ndA
  have hS := BxS.start hst 19 ps num (.slice ka ks.length kc) (.string nm)
  obtain ⟨_, _, z0, z2, z3, z4, hxl, hbl⟩ := hS.post
  have HRow : Bx _ := ⟨row_any w0 B b lv N G ks ka kc hk HC⟩
  clear hk HC hst
  go_enter Tryd.func30, Tryd.ntmps30
  go_wp2_with (first
    | (go_at_call 48; refine Calls.mono (s_lay hN rfl (by simp) hS (by simp [StrsOk]) (by decide) (by simp [toksOf, strT] at hb ⊢; omega)) ?_; clear hS z0 z2 z3 z4 hxl hbl; rintro e W' ⟨rfl, hS, z0, z2, z3, z4, hxl, hbl⟩)
    | (go_at_call 49; refine Calls.mono (s_call HRow.out hS (by simp [toksOf, strT] at hb ⊢; omega)) ?_; clear hS z0 z2 z3 z4 hxl hbl; rintro e W' ⟨rfl, hS, z0, z2, z3, z4, hxl, hbl⟩))
  go_end0
  exact s_end hS (by simp [toksOf, strT])

set_option maxRecDepth 100000 in
set_option maxHeartbeats 2000000 in
theorem pr_21 (w0 : World) (B b : Nat) (lv : Value) (N : Nat) (hN : N ≤ 140737488355328) (G : Nat → List (List UInt8)) (ka : Option Addr) (kc : Nat) (ps num : Int) (ks : List Nat) (nm : ByteArray) 
    (hk : IntsV w0 B (.slice ka ks.length kc) (ks.map fun k : Nat => (k : Int))) (HC : ∀ k ∈ ks, NdC w0 B b lv N G k) :
    PrC w0 B b lv N 30 (ndA b ka kc ks.length 21 ps num nm) ([opT num] ++ rowT G ks) := by
  intro W bs hst hb
  unfold ndA
  have hS := BxS.start hst 21 ps num (.slice ka ks.length kc) (.string nm)
  obtain ⟨_, _, z0, z2, z3, z4, hxl, hbl⟩ := hS.post
  have HRow : Bx _ := ⟨row_any w0 B b lv N G ks ka kc hk HC⟩
  have hne := op_ne num
  clear hk HC hst
  go_enter Tryd.func30, Tryd.ntmps30
  go_wp2_with (first
    | (go_at_call 48; refine Calls.mono (s_lay hN rfl (by simp) hS (by simp [StrsOk, hne]) (by decide) (by simp [toksOf, strT] at hb ⊢; omega)) ?_; clear hS z0 z2 z3 z4 hxl hbl; rintro e W' ⟨rfl, hS, z0, z2, z3, z4, hxl, hbl⟩)
    | (go_at_call 55; refine (operator_any _ _).mono ?_; rintro e W' ⟨rfl, rfl⟩)
    | (go_at_call 49; refine Calls.mono (s_call HRow.out hS (by simp [toksOf, strT] at hb ⊢; omega)) ?_; clear hS z0 z2 z3 z4 hxl hbl; rintro e W' ⟨rfl, hS, z0, z2, z3, z4, hxl, hbl⟩))
  go_end0
  exact s_end hS (by simp [toksOf, strT])

set_option maxRecDepth 100000 in
set_option maxHeartbeats 2000000 in
theorem pr_31 (w0 : World) (B b : Nat) (lv : Value) (N : Nat) (hN : N ≤ 140737488355328) (G : Nat → List (List UInt8)) (ka : Option Addr) (kc : Nat) (ps num : Int) (ks : List Nat) (nm : ByteArray) (hnm : nm.data.toList ≠ []) 
    (hk : IntsV w0 B (.slice ka ks.length kc) (ks.map fun k : Nat => (k : Int))) (HC : ∀ k ∈ ks, NdC w0 B b lv N G k) :
    PrC w0 B b lv N 32 (ndA b ka kc ks.length 31 ps num nm) ([[118, 97, 108], nm.data.toList, [61]] ++ rowT G ks ++ [[59]]) := by
  intro W bs hst hb
  unfold ndA
  have hS := BxS.start hst 31 ps num (.slice ka ks.length kc) (.string nm)
  obtain ⟨_, _, z0, z2, z3, z4, hxl, hbl⟩ := hS.post
  have HRow : Bx _ := ⟨row_any w0 B b lv N G ks ka kc hk HC⟩
  clear hk HC hst
  go_enter Tryd.func32, Tryd.ntmps32
  go_wp2_with (first
    | (go_at_call 48; refine Calls.mono (s_lay hN rfl (by simp) hS (by simp [StrsOk, hnm]) (by decide) (by simp [toksOf, strT] at hb ⊢; omega)) ?_; clear hS z0 z2 z3 z4 hxl hbl; rintro e W' ⟨rfl, hS, z0, z2, z3, z4, hxl, hbl⟩)
    | (go_at_call 49; refine Calls.mono (s_call HRow.out hS (by simp [toksOf, strT] at hb ⊢; omega)) ?_; clear hS z0 z2 z3 z4 hxl hbl; rintro e W' ⟨rfl, hS, z0, z2, z3, z4, hxl, hbl⟩))
  go_end0
  exact s_end hS (by simp [toksOf, strT])

set_option maxRecDepth 100000 in
set_option maxHeartbeats 2000000 in
theorem pr_35 (w0 : World) (B b : Nat) (lv : Value) (N : Nat) (hN : N ≤ 140737488355328) (G : Nat → List (List UInt8)) (ka : Option Addr) (kc : Nat) (ps num : Int) (ks : List Nat) (nm : ByteArray) 
    (hk : IntsV w0 B (.slice ka ks.length kc) (ks.map fun k : Nat => (k : Int))) (HC : ∀ k ∈ ks, NdC w0 B b lv N G k) :
    PrC w0 B b lv N 32 (ndA b ka kc ks.length 35 ps num nm) (rowT G ks ++ [[59]]) := by
  intro W bs hst hb
  unfold ndA
  have hS := BxS.start hst 35 ps num (.slice ka ks.length kc) (.string nm)
  obtain ⟨_, _, z0, z2, z3, z4, hxl, hbl⟩ := hS.post
  have HRow : Bx _ := ⟨row_any w0 B b lv N G ks ka kc hk HC⟩
  clear hk HC hst
  go_enter Tryd.func32, Tryd.ntmps32
  go_wp2_with (first
    | (go_at_call 48; refine Calls.mono (s_lay hN rfl (by simp) hS (by simp [StrsOk]) (by decide) (by simp [toksOf, strT] at hb ⊢; omega)) ?_; clear hS z0 z2 z3 z4 hxl hbl; rintro e W' ⟨rfl, hS, z0, z2, z3, z4, hxl, hbl⟩)
    | (go_at_call 49; refine Calls.mono (s_call HRow.out hS (by simp [toksOf, strT] at hb ⊢; omega)) ?_; clear hS z0 z2 z3 z4 hxl hbl; rintro e W' ⟨rfl, hS, z0, z2, z3, z4, hxl, hbl⟩))
  go_end0
  exact s_end hS (by simp [toksOf, strT])

set_option maxRecDepth 100000 in
set_option maxHeartbeats 2000000 in
theorem pr_37 (w0 : World) (B b : Nat) (lv : Value) (N : Nat) (hN : N ≤ 140737488355328) (G : Nat → List (List UInt8)) (ka : Option Addr) (kc : Nat) (ps num : Int) (ks : List Nat) (nm : ByteArray) 
    (hk : IntsV w0 B (.slice ka ks.length kc) (ks.map fun k : Nat => (k : Int))) (HC : ∀ k ∈ ks, NdC w0 B b lv N G k) :
    PrC w0 B b lv N 32 (ndA b ka kc ks.length 37 ps num nm) ([[119, 104, 105, 108, 101]] ++ rowT G ks) := by
  intro W bs hst hb
  unfold ndA
  have hS := BxS.start hst 37 ps num (.slice ka ks.length kc) (.string nm)
  obtain ⟨_, _, z0, z2, z3, z4, hxl, hbl⟩ := hS.post
  have HRow : Bx _ := ⟨row_any w0 B b lv N G ks ka kc hk HC⟩
  clear hk HC hst
  go_enter Tryd.func32, Tryd.ntmps32
  go_wp2_with (first
    | (go_at_call 48; refine Calls.mono (s_lay hN rfl (by simp) hS (by simp [StrsOk]) (by decide) (by simp [toksOf, strT] at hb ⊢; omega)) ?_; clear hS z0 z2 z3 z4 hxl hbl; rintro e W' ⟨rfl, hS, z0, z2, z3, z4, hxl, hbl⟩)
    | (go_at_call 49; refine Calls.mono (s_call HRow.out hS (by simp [toksOf, strT] at hb ⊢; omega)) ?_; clear hS z0 z2 z3 z4 hxl hbl; rintro e W' ⟨rfl, hS, z0, z2, z3, z4, hxl, hbl⟩))
  go_end0
  exact s_end hS (by simp [toksOf, strT])

set_option maxRecDepth 100000 in
set_option maxHeartbeats 2000000 in
theorem pr_38 (w0 : World) (B b : Nat) (lv : Value) (N : Nat) (hN : N ≤ 140737488355328) (G : Nat → List (List UInt8)) (ka : Option Addr) (kc : Nat) (ps num : Int) (ks : List Nat) (nm : ByteArray) 
    (hk : IntsV w0 B (.slice ka ks.length kc) (ks.map fun k : Nat => (k : Int))) (HC : ∀ k ∈ ks, NdC w0 B b lv N G k) :
    PrC w0 B b lv N 32 (ndA b ka kc ks.length 38 ps num nm) ([[114, 101, 116, 117, 114, 110]] ++ rowT G ks ++ [[59]]) := by
  intro W bs hst hb
  unfold ndA
  have hS := BxS.start hst 38 ps num (.slice ka ks.length kc) (.string nm)
  obtain ⟨_, _, z0, z2, z3, z4, hxl, hbl⟩ := hS.post
  have HRow : Bx _ := ⟨row_any w0 B b lv N G ks ka kc hk HC⟩
  clear hk HC hst
  go_enter Tryd.func32, Tryd.ntmps32
  go_wp2_with (first
    | (go_at_call 48; refine Calls.mono (s_lay hN rfl (by simp) hS (by simp [StrsOk]) (by decide) (by simp [toksOf, strT] at hb ⊢; omega)) ?_; clear hS z0 z2 z3 z4 hxl hbl; rintro e W' ⟨rfl, hS, z0, z2, z3, z4, hxl, hbl⟩)
    | (go_at_call 49; refine Calls.mono (s_call HRow.out hS (by simp [toksOf, strT] at hb ⊢; omega)) ?_; clear hS z0 z2 z3 z4 hxl hbl; rintro e W' ⟨rfl, hS, z0, z2, z3, z4, hxl, hbl⟩))
  go_end0
  exact s_end hS (by simp [toksOf, strT])

set_option maxRecDepth 100000 in
set_option maxHeartbeats 2000000 in
theorem pr_39 (w0 : World) (B b : Nat) (lv : Value) (N : Nat) (hN : N ≤ 140737488355328) (G : Nat → List (List UInt8)) (ka : Option Addr) (kc : Nat) (ps num : Int) (ks : List Nat) (nm : ByteArray) 
    (hk : IntsV w0 B (.slice ka ks.length kc) (ks.map fun k : Nat => (k : Int))) (HC : ∀ k ∈ ks, NdC w0 B b lv N G k) :
    PrC w0 B b lv N 32 (ndA b ka kc ks.length 39 ps num nm) ([[98, 101, 103, 105, 110]] ++ rowT G ks ++ [[59]]) := by
  intro W bs hst hb
  unfold ndA
  have hS := BxS.start hst 39 ps num (.slice ka ks.length kc) (.string nm)
  obtain ⟨_, _, z0, z2, z3, z4, hxl, hbl⟩ := hS.post
  have HRow : Bx _ := ⟨row_any w0 B b lv N G ks ka kc hk HC⟩
  clear hk HC hst
  go_enter Tryd.func32, Tryd.ntmps32
  go_wp2_with (first
    | (go_at_call 48; refine Calls.mono (s_lay hN rfl (by simp) hS (by simp [StrsOk]) (by decide) (by simp [toksOf, strT] at hb ⊢; omega)) ?_; clear hS z0 z2 z3 z4 hxl hbl; rintro e W' ⟨rfl, hS, z0, z2, z3, z4, hxl, hbl⟩)
    | (go_at_call 49; refine Calls.mono (s_call HRow.out hS (by simp [toksOf, strT] at hb ⊢; omega)) ?_; clear hS z0 z2 z3 z4 hxl hbl; rintro e W' ⟨rfl, hS, z0, z2, z3, z4, hxl, hbl⟩))
  go_end0
  exact s_end hS (by simp [toksOf, strT])

set_option maxRecDepth 100000 in
set_option maxHeartbeats 2000000 in
theorem pr_40 (w0 : World) (B b : Nat) (lv : Value) (N : Nat) (hN : N ≤ 140737488355328) (G : Nat → List (List UInt8)) (ka : Option Addr) (kc : Nat) (ps num : Int) (ks : List Nat) (nm : ByteArray) 
    (hk : IntsV w0 B (.slice ka ks.length kc) (ks.map fun k : Nat => (k : Int))) (HC : ∀ k ∈ ks, NdC w0 B b lv N G k) :
    PrC w0 B b lv N 32 (ndA b ka kc ks.length 40 ps num nm) ([[115, 101, 108, 101, 99, 116], [123]] ++ rowT G ks ++ [[125]]) := by
  intro W bs hst hb
  unfold ndA
  have hS := BxS.start hst 40 ps num (.slice ka ks.length kc) (.string nm)
  obtain ⟨_, _, z0, z2, z3, z4, hxl, hbl⟩ := hS.post
  have HRow : Bx _ := ⟨row_any w0 B b lv N G ks ka kc hk HC⟩
  clear hk HC hst
  go_enter Tryd.func32, Tryd.ntmps32
  go_wp2_with (first
    | (go_at_call 48; refine Calls.mono (s_lay hN rfl (by simp) hS (by simp [StrsOk]) (by decide) (by simp [toksOf, strT] at hb ⊢; omega)) ?_; clear hS z0 z2 z3 z4 hxl hbl; rintro e W' ⟨rfl, hS, z0, z2, z3, z4, hxl, hbl⟩)
    | (go_at_call 49; refine Calls.mono (s_call HRow.out hS (by simp [toksOf, strT] at hb ⊢; omega)) ?_; clear hS z0 z2 z3 z4 hxl hbl; rintro e W' ⟨rfl, hS, z0, z2, z3, z4, hxl, hbl⟩))
  go_end0
  exact s_end hS (by simp [toksOf, strT])

set_option maxRecDepth 100000 in
set_option maxHeartbeats 2000000 in
theorem pr_41 (w0 : World) (B b : Nat) (lv : Value) (N : Nat) (hN : N ≤ 140737488355328) (G : Nat → List (List UInt8)) (ka : Option Addr) (kc : Nat) (ps num : Int) (ks : List Nat) (nm : ByteArray) 
    (hk : IntsV w0 B (.slice ka ks.length kc) (ks.map fun k : Nat => (k : Int))) (HC : ∀ k ∈ ks, NdC w0 B b lv N G k) :
    PrC w0 B b lv N 32 (ndA b ka kc ks.length 41 ps num nm) ([[123]] ++ rowT G ks ++ [[125]]) := by
  intro W bs hst hb
  unfold ndA
  have hS := BxS.start hst 41 ps num (.slice ka ks.length kc) (.string nm)
  obtain ⟨_, _, z0, z2, z3, z4, hxl, hbl⟩ := hS.post
  have HRow : Bx _ := ⟨row_any w0 B b lv N G ks ka kc hk HC⟩
  clear hk HC hst
  go_enter Tryd.func32, Tryd.ntmps32
  go_wp2_with (first
    | (go_at_call 48; refine Calls.mono (s_lay hN rfl (by simp) hS (by simp [StrsOk]) (by decide) (by simp [toksOf, strT] at hb ⊢; omega)) ?_; clear hS z0 z2 z3 z4 hxl hbl; rintro e W' ⟨rfl, hS, z0, z2, z3, z4, hxl, hbl⟩)
    | (go_at_call 49; refine Calls.mono (s_call HRow.out hS (by simp [toksOf, strT] at hb ⊢; omega)) ?_; clear hS z0 z2 z3 z4 hxl hbl; rintro e W' ⟨rfl, hS, z0, z2, z3, z4, hxl, hbl⟩))
  go_end0
  exact s_end hS (by simp [toksOf, strT])

set_option maxRecDepth 100000 in
set_option maxHeartbeats 2000000 in
theorem pr_42 (w0 : World) (B b : Nat) (lv : Value) (N : Nat) (hN : N ≤ 140737488355328) (G : Nat → List (List UInt8)) (ka : Option Addr) (kc : Nat) (ps num : Int) (ks : List Nat) (nm : ByteArray) (hnm : nm.data.toList ≠ []) 
    (hk : IntsV w0 B (.slice ka ks.length kc) (ks.map fun k : Nat => (k : Int))) (HC : ∀ k ∈ ks, NdC w0 B b lv N G k) :
    PrC w0 B b lv N 33 (ndA b ka kc ks.length 42 ps num nm) ([nm.data.toList, [58]] ++ rowT G ks) := by
  intro W bs hst hb
  unfold ndA
  have hS := BxS.start hst 42 ps num (.slice ka ks.length kc) (.string nm)
  obtain ⟨_, _, z0, z2, z3, z4, hxl, hbl⟩ := hS.post
  have HRow : Bx _ := ⟨row_any w0 B b lv N G ks ka kc hk HC⟩
  clear hk HC hst
  go_enter Tryd.func33, Tryd.ntmps33
  go_wp2_with (first
    | (go_at_call 48; refine Calls.mono (s_lay hN rfl (by simp) hS (by simp [StrsOk, hnm]) (by decide) (by simp [toksOf, strT] at hb ⊢; omega)) ?_; clear hS z0 z2 z3 z4 hxl hbl; rintro e W' ⟨rfl, hS, z0, z2, z3, z4, hxl, hbl⟩)
    | (go_at_call 49; refine Calls.mono (s_call HRow.out hS (by simp [toksOf, strT] at hb ⊢; omega)) ?_; clear hS z0 z2 z3 z4 hxl hbl; rintro e W' ⟨rfl, hS, z0, z2, z3, z4, hxl, hbl⟩))
  go_end0
  exact s_end hS (by simp [toksOf, strT])

set_option maxRecDepth 100000 in
set_option maxHeartbeats 2000000 in
theorem pr_45 (w0 : World) (B b : Nat) (lv : Value) (N : Nat) (hN : N ≤ 140737488355328) (G : Nat → List (List UInt8)) (ka : Option Addr) (kc : Nat) (ps num : Int) (ks : List Nat) (nm : ByteArray) (hnm : nm.data.toList ≠ []) 
    (hk : IntsV w0 B (.slice ka ks.length kc) (ks.map fun k : Nat => (k : Int))) (HC : ∀ k ∈ ks, NdC w0 B b lv N G k) :
    PrC w0 B b lv N 33 (ndA b ka kc ks.length 45 ps num nm) ([[116, 121, 112, 101], nm.data.toList, [61]] ++ rowT G ks ++ [[59]]) := by
  intro W bs hst hb
  unfold ndA
  have hS := BxS.start hst 45 ps num (.slice ka ks.length kc) (.string nm)
  obtain ⟨_, _, z0, z2, z3, z4, hxl, hbl⟩ := hS.post
  have HRow : Bx _ := ⟨row_any w0 B b lv N G ks ka kc hk HC⟩
  clear hk HC hst
  go_enter Tryd.func33, Tryd.ntmps33
  go_wp2_with (first
    | (go_at_call 48; refine Calls.mono (s_lay hN rfl (by simp) hS (by simp [StrsOk, hnm]) (by decide) (by simp [toksOf, strT] at hb ⊢; omega)) ?_; clear hS z0 z2 z3 z4 hxl hbl; rintro e W' ⟨rfl, hS, z0, z2, z3, z4, hxl, hbl⟩)
    | (go_at_call 49; refine Calls.mono (s_call HRow.out hS (by simp [toksOf, strT] at hb ⊢; omega)) ?_; clear hS z0 z2 z3 z4 hxl hbl; rintro e W' ⟨rfl, hS, z0, z2, z3, z4, hxl, hbl⟩))
  go_end0
  exact s_end hS (by simp [toksOf, strT])

set_option maxRecDepth 100000 in
set_option maxHeartbeats 2000000 in
theorem pr_46 (w0 : World) (B b : Nat) (lv : Value) (N : Nat) (hN : N ≤ 140737488355328) (G : Nat → List (List UInt8)) (ka : Option Addr) (kc : Nat) (ps num : Int) (ks : List Nat) (nm : ByteArray) 
    (hk : IntsV w0 B (.slice ka ks.length kc) (ks.map fun k : Nat => (k : Int))) (HC : ∀ k ∈ ks, NdC w0 B b lv N G k) :
    PrC w0 B b lv N 33 (ndA b ka kc ks.length 46 ps num nm) (rowT G ks) := by
  intro W bs hst hb
  unfold ndA
  have hS := BxS.start hst 46 ps num (.slice ka ks.length kc) (.string nm)
  obtain ⟨_, _, z0, z2, z3, z4, hxl, hbl⟩ := hS.post
  have HRow : Bx _ := ⟨row_any w0 B b lv N G ks ka kc hk HC⟩
  clear hk HC hst
  go_enter Tryd.func33, Tryd.ntmps33
  go_wp2_with (first
    | (go_at_call 48; refine Calls.mono (s_lay hN rfl (by simp) hS (by simp [StrsOk]) (by decide) (by simp [toksOf, strT] at hb ⊢; omega)) ?_; clear hS z0 z2 z3 z4 hxl hbl; rintro e W' ⟨rfl, hS, z0, z2, z3, z4, hxl, hbl⟩)
    | (go_at_call 49; refine Calls.mono (s_call HRow.out hS (by simp [toksOf, strT] at hb ⊢; omega)) ?_; clear hS z0 z2 z3 z4 hxl hbl; rintro e W' ⟨rfl, hS, z0, z2, z3, z4, hxl, hbl⟩))
  go_end0
  exact s_end hS (by simp [toksOf, strT])

end Go.Proofs.YtfocggaocadkmaaDoor
