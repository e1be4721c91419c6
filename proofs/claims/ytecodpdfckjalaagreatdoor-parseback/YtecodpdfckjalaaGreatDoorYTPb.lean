import Derived.Test.YtecodpdfckjalaaGreatDoorYPH
set_option linter.unusedVariables false
set_option linter.unusedSimpArgs false
set_option maxHeartbeats 4000000
set_option maxRecDepth 100000
namespace Go.Proofs.YtecodpdfckjalaaGreatDoor
open Go.RowKit
theorem Mc (w0 : World) (B b : Nat) (lv : Value) (N : Nat) (hN : N <= 140737488355328) (G : Nat -> List (List UInt8)) (ka : Option Addr) (kc : Nat) (ps num : Int) (ks : List Nat) (nm : ByteArray) (hL : x8 w0 B) (hi : I64 num) 
  (hk : aO w0 B (.slice ka ks.length kc) (ks.map fun k : Nat => (k : Int))) (HC : ∀ k ∈ ks, NdC w0 B b lv N G k) :
  PrC w0 B b lv N 31 (ndA b ka kc ks.length 11 ps num nm) ([Lib.itoa num]) := by
 intro W bs hst hb
 unfold ndA
 have hS := BxS.start hst 11 ps num (.slice ka ks.length kc) (.string nm)
 obtain ⟨_, _, z0, z2, z3, z4, hxl, hbl⟩ := hS.post
 have hne := Br num
 clear hk HC hst
 go_enter Tryz.func31, Tryz.ntmps31
 go_wp2_with (first
  | (go_at_call 49; refine Calls.mono (dn hN rfl (by simp) hS (by simp [bC, hne]) (by decide) (by simp [ay, aN] at hb ⊢; omega)) ?_; clear hS z0 z2 z3 z4 hxl hbl; rintro e W' ⟨rfl, hS, z0, z2, z3, z4, hxl, hbl⟩)
  | (go_at_call 53; refine Calls.mono (uL hL hi hS) ?_; clear hS z0 z2 z3 z4 hxl hbl; rintro e W' ⟨rfl, hS, z0, z2, z3, z4, hxl, hbl⟩))
 go_end0
 exact bV hS (by simp [ay, aN])
theorem Md (w0 : World) (B b : Nat) (lv : Value) (N : Nat) (hN : N <= 140737488355328) (G : Nat -> List (List UInt8)) (ka : Option Addr) (kc : Nat) (ps num : Int) (ks : List Nat) (nm : ByteArray) 
  (hk : aO w0 B (.slice ka ks.length kc) (ks.map fun k : Nat => (k : Int))) (HC : ∀ k ∈ ks, NdC w0 B b lv N G k) :
  PrC w0 B b lv N 31 (ndA b ka kc ks.length 12 ps num nm) ([Lib.formatBool (num == 1)]) := by
 intro W bs hst hb
 unfold ndA
 have hS := BxS.start hst 12 ps num (.slice ka ks.length kc) (.string nm)
 obtain ⟨_, _, z0, z2, z3, z4, hxl, hbl⟩ := hS.post
 have hne := I7 (num == 1)
 clear hk HC hst
 go_enter Tryz.func31, Tryz.ntmps31
 go_wp2_with (first
  | (go_at_call 49; refine Calls.mono (dn hN rfl (by simp) hS (by simp [bC, hne]) (by decide) (by simp [ay, aN] at hb ⊢; omega)) ?_; clear hS z0 z2 z3 z4 hxl hbl; rintro e W' ⟨rfl, hS, z0, z2, z3, z4, hxl, hbl⟩)
  | (go_at_call 54; refine (Tryz.strconv_FormatBool _ _).mono ?_; rintro e W' ⟨rfl, rfl⟩))
 go_end0
 exact bV hS (by simp [ay, aN])
theorem Me (w0 : World) (B b : Nat) (lv : Value) (N : Nat) (hN : N <= 140737488355328) (G : Nat -> List (List UInt8)) (ka : Option Addr) (kc : Nat) (ps num : Int) (ks : List Nat) (nm : ByteArray) (hnm : nm.data.toList ≠ []) 
  (hk : aO w0 B (.slice ka ks.length kc) (ks.map fun k : Nat => (k : Int))) (HC : ∀ k ∈ ks, NdC w0 B b lv N G k) :
  PrC w0 B b lv N 31 (ndA b ka kc ks.length 13 ps num nm) ([nm.data.toList]) := by
 intro W bs hst hb
 unfold ndA
 have hS := BxS.start hst 13 ps num (.slice ka ks.length kc) (.string nm)
 obtain ⟨_, _, z0, z2, z3, z4, hxl, hbl⟩ := hS.post
 skip
 clear hk HC hst
 go_enter Tryz.func31, Tryz.ntmps31
 go_wp2_with (first
  | (go_at_call 49; refine Calls.mono (dn hN rfl (by simp) hS (by simp [bC, hnm]) (by decide) (by simp [ay, aN] at hb ⊢; omega)) ?_; clear hS z0 z2 z3 z4 hxl hbl; rintro e W' ⟨rfl, hS, z0, z2, z3, z4, hxl, hbl⟩))
 go_end0
 exact bV hS (by simp [ay, aN])
theorem Mf (w0 : World) (B b : Nat) (lv : Value) (N : Nat) (hN : N <= 140737488355328) (G : Nat -> List (List UInt8)) (ka : Option Addr) (kc : Nat) (ps num : Int) (ks : List Nat) (nm : ByteArray) 
  (hk : aO w0 B (.slice ka ks.length kc) (ks.map fun k : Nat => (k : Int))) (HC : ∀ k ∈ ks, NdC w0 B b lv N G k) :
  PrC w0 B b lv N 31 (ndA b ka kc ks.length 14 ps num nm) (([[40]] ++ aU G ks ++ [[41]])) := by
 intro W bs hst hb
 unfold ndA
 have hS := BxS.start hst 14 ps num (.slice ka ks.length kc) (.string nm)
 obtain ⟨_, _, z0, z2, z3, z4, hxl, hbl⟩ := hS.post
 have HList : Bx _ := ⟨fo w0 B b lv N hN G ks ka kc ⟨#[40]⟩ ⟨#[41]⟩ (by simp) (by simp) hk HC⟩
 clear hk HC hst
 go_enter Tryz.func31, Tryz.ntmps31
 go_wp2_with (first
  | (go_at_call 49; refine Calls.mono (dn hN rfl (by simp) hS (by simp [bC]) (by decide) (by simp [ay, aN] at hb ⊢; omega)) ?_; clear hS z0 z2 z3 z4 hxl hbl; rintro e W' ⟨rfl, hS, z0, z2, z3, z4, hxl, hbl⟩)
  | (go_at_call 51; refine Calls.mono (s_call HList.out hS (by simp [ay, aN] at hb ⊢; omega)) ?_; clear hS z0 z2 z3 z4 hxl hbl; rintro e W' ⟨rfl, hS, z0, z2, z3, z4, hxl, hbl⟩))
 go_end0
 exact bV hS (by simp [ay, aN])
theorem Mg (w0 : World) (B b : Nat) (lv : Value) (N : Nat) (hN : N <= 140737488355328) (G : Nat -> List (List UInt8)) (ka : Option Addr) (kc : Nat) (ps num : Int) (ks : List Nat) (nm : ByteArray) 
  (hk : aO w0 B (.slice ka ks.length kc) (ks.map fun k : Nat => (k : Int))) (HC : ∀ k ∈ ks, NdC w0 B b lv N G k) :
  PrC w0 B b lv N 31 (ndA b ka kc ks.length 15 ps num nm) (([[40]] ++ aU G ks ++ [[41]])) := by
 intro W bs hst hb
 unfold ndA
 have hS := BxS.start hst 15 ps num (.slice ka ks.length kc) (.string nm)
 obtain ⟨_, _, z0, z2, z3, z4, hxl, hbl⟩ := hS.post
 have HList : Bx _ := ⟨fo w0 B b lv N hN G ks ka kc ⟨#[40]⟩ ⟨#[41]⟩ (by simp) (by simp) hk HC⟩
 clear hk HC hst
 go_enter Tryz.func31, Tryz.ntmps31
 go_wp2_with (first
  | (go_at_call 49; refine Calls.mono (dn hN rfl (by simp) hS (by simp [bC]) (by decide) (by simp [ay, aN] at hb ⊢; omega)) ?_; clear hS z0 z2 z3 z4 hxl hbl; rintro e W' ⟨rfl, hS, z0, z2, z3, z4, hxl, hbl⟩)
  | (go_at_call 51; refine Calls.mono (s_call HList.out hS (by simp [ay, aN] at hb ⊢; omega)) ?_; clear hS z0 z2 z3 z4 hxl hbl; rintro e W' ⟨rfl, hS, z0, z2, z3, z4, hxl, hbl⟩))
 go_end0
 exact bV hS (by simp [ay, aN])
theorem Mh (w0 : World) (B b : Nat) (lv : Value) (N : Nat) (hN : N <= 140737488355328) (G : Nat -> List (List UInt8)) (ka : Option Addr) (kc : Nat) (ps num : Int) (ks : List Nat) (nm : ByteArray) 
  (hk : aO w0 B (.slice ka ks.length kc) (ks.map fun k : Nat => (k : Int))) (HC : ∀ k ∈ ks, NdC w0 B b lv N G k) :
  PrC w0 B b lv N 31 (ndA b ka kc ks.length 16 ps num nm) (([[91]] ++ aU G ks ++ [[93]])) := by
 intro W bs hst hb
 unfold ndA
 have hS := BxS.start hst 16 ps num (.slice ka ks.length kc) (.string nm)
 obtain ⟨_, _, z0, z2, z3, z4, hxl, hbl⟩ := hS.post
 have HList : Bx _ := ⟨fo w0 B b lv N hN G ks ka kc ⟨#[91]⟩ ⟨#[93]⟩ (by simp) (by simp) hk HC⟩
 clear hk HC hst
 go_enter Tryz.func31, Tryz.ntmps31
 go_wp2_with (first
  | (go_at_call 49; refine Calls.mono (dn hN rfl (by simp) hS (by simp [bC]) (by decide) (by simp [ay, aN] at hb ⊢; omega)) ?_; clear hS z0 z2 z3 z4 hxl hbl; rintro e W' ⟨rfl, hS, z0, z2, z3, z4, hxl, hbl⟩)
  | (go_at_call 51; refine Calls.mono (s_call HList.out hS (by simp [ay, aN] at hb ⊢; omega)) ?_; clear hS z0 z2 z3 z4 hxl hbl; rintro e W' ⟨rfl, hS, z0, z2, z3, z4, hxl, hbl⟩))
 go_end0
 exact bV hS (by simp [ay, aN])
theorem Mi (w0 : World) (B b : Nat) (lv : Value) (N : Nat) (hN : N <= 140737488355328) (G : Nat -> List (List UInt8)) (ka : Option Addr) (kc : Nat) (ps num : Int) (ks : List Nat) (nm : ByteArray) 
  (hk : aO w0 B (.slice ka ks.length kc) (ks.map fun k : Nat => (k : Int))) (HC : ∀ k ∈ ks, NdC w0 B b lv N G k) :
  PrC w0 B b lv N 31 (ndA b ka kc ks.length 17 ps num nm) ([[102, 105, 108, 108]] ++ ([[40]] ++ aU G ks ++ [[41]])) := by
 intro W bs hst hb
 unfold ndA
 have hS := BxS.start hst 17 ps num (.slice ka ks.length kc) (.string nm)
 obtain ⟨_, _, z0, z2, z3, z4, hxl, hbl⟩ := hS.post
 have HList : Bx _ := ⟨fo w0 B b lv N hN G ks ka kc ⟨#[40]⟩ ⟨#[41]⟩ (by simp) (by simp) hk HC⟩
 clear hk HC hst
 go_enter Tryz.func31, Tryz.ntmps31
 go_wp2_with (first
  | (go_at_call 49; refine Calls.mono (dn hN rfl (by simp) hS (by simp [bC]) (by decide) (by simp [ay, aN] at hb ⊢; omega)) ?_; clear hS z0 z2 z3 z4 hxl hbl; rintro e W' ⟨rfl, hS, z0, z2, z3, z4, hxl, hbl⟩)
  | (go_at_call 51; refine Calls.mono (s_call HList.out hS (by simp [ay, aN] at hb ⊢; omega)) ?_; clear hS z0 z2 z3 z4 hxl hbl; rintro e W' ⟨rfl, hS, z0, z2, z3, z4, hxl, hbl⟩))
 go_end0
 exact bV hS (by simp [ay, aN])
theorem Mj (w0 : World) (B b : Nat) (lv : Value) (N : Nat) (hN : N <= 140737488355328) (G : Nat -> List (List UInt8)) (ka : Option Addr) (kc : Nat) (ps num : Int) (ks : List Nat) (nm : ByteArray) 
  (hk : aO w0 B (.slice ka ks.length kc) (ks.map fun k : Nat => (k : Int))) (HC : ∀ k ∈ ks, NdC w0 B b lv N G k) :
  PrC w0 B b lv N 31 (ndA b ka kc ks.length 18 ps num nm) ([[108, 101, 110]] ++ ([[40]] ++ aU G ks ++ [[41]])) := by
 intro W bs hst hb
 unfold ndA
 have hS := BxS.start hst 18 ps num (.slice ka ks.length kc) (.string nm)
 obtain ⟨_, _, z0, z2, z3, z4, hxl, hbl⟩ := hS.post
 have HList : Bx _ := ⟨fo w0 B b lv N hN G ks ka kc ⟨#[40]⟩ ⟨#[41]⟩ (by simp) (by simp) hk HC⟩
 clear hk HC hst
 go_enter Tryz.func31, Tryz.ntmps31
 go_wp2_with (first
  | (go_at_call 49; refine Calls.mono (dn hN rfl (by simp) hS (by simp [bC]) (by decide) (by simp [ay, aN] at hb ⊢; omega)) ?_; clear hS z0 z2 z3 z4 hxl hbl; rintro e W' ⟨rfl, hS, z0, z2, z3, z4, hxl, hbl⟩)
  | (go_at_call 51; refine Calls.mono (s_call HList.out hS (by simp [ay, aN] at hb ⊢; omega)) ?_; clear hS z0 z2 z3 z4 hxl hbl; rintro e W' ⟨rfl, hS, z0, z2, z3, z4, hxl, hbl⟩))
 go_end0
 exact bV hS (by simp [ay, aN])
theorem Mk (w0 : World) (B b : Nat) (lv : Value) (N : Nat) (hN : N <= 140737488355328) (G : Nat -> List (List UInt8)) (ka : Option Addr) (kc : Nat) (ps num : Int) (ks : List Nat) (nm : ByteArray) 
  (hk : aO w0 B (.slice ka ks.length kc) (ks.map fun k : Nat => (k : Int))) (HC : ∀ k ∈ ks, NdC w0 B b lv N G k) :
  PrC w0 B b lv N 31 (ndA b ka kc ks.length 19 ps num nm) ([[109, 97, 107, 101]] ++ aX G ks) := by
 intro W bs hst hb
 unfold ndA
 have hS := BxS.start hst 19 ps num (.slice ka ks.length kc) (.string nm)
 obtain ⟨_, _, z0, z2, z3, z4, hxl, hbl⟩ := hS.post
 have HRow : Bx _ := ⟨eG w0 B b lv N G ks ka kc hk HC⟩
 clear hk HC hst
 go_enter Tryz.func31, Tryz.ntmps31
 go_wp2_with (first
  | (go_at_call 49; refine Calls.mono (dn hN rfl (by simp) hS (by simp [bC]) (by decide) (by simp [ay, aN] at hb ⊢; omega)) ?_; clear hS z0 z2 z3 z4 hxl hbl; rintro e W' ⟨rfl, hS, z0, z2, z3, z4, hxl, hbl⟩)
  | (go_at_call 50; refine Calls.mono (s_call HRow.out hS (by simp [ay, aN] at hb ⊢; omega)) ?_; clear hS z0 z2 z3 z4 hxl hbl; rintro e W' ⟨rfl, hS, z0, z2, z3, z4, hxl, hbl⟩))
 go_end0
 exact bV hS (by simp [ay, aN])
theorem Ml (w0 : World) (B b : Nat) (lv : Value) (N : Nat) (hN : N <= 140737488355328) (G : Nat -> List (List UInt8)) (ka : Option Addr) (kc : Nat) (ps num : Int) (ks : List Nat) (nm : ByteArray) 
  (hk : aO w0 B (.slice ka ks.length kc) (ks.map fun k : Nat => (k : Int))) (HC : ∀ k ∈ ks, NdC w0 B b lv N G k) :
  PrC w0 B b lv N 31 (ndA b ka kc ks.length 21 ps num nm) ([opT num] ++ aX G ks) := by
 intro W bs hst hb
 unfold ndA
 have hS := BxS.start hst 21 ps num (.slice ka ks.length kc) (.string nm)
 obtain ⟨_, _, z0, z2, z3, z4, hxl, hbl⟩ := hS.post
 have HRow : Bx _ := ⟨eG w0 B b lv N G ks ka kc hk HC⟩
 have hne := Ju num
 clear hk HC hst
 go_enter Tryz.func31, Tryz.ntmps31
 go_wp2_with (first
  | (go_at_call 49; refine Calls.mono (dn hN rfl (by simp) hS (by simp [bC, hne]) (by decide) (by simp [ay, aN] at hb ⊢; omega)) ?_; clear hS z0 z2 z3 z4 hxl hbl; rintro e W' ⟨rfl, hS, z0, z2, z3, z4, hxl, hbl⟩)
  | (go_at_call 56; refine (nG _ _).mono ?_; rintro e W' ⟨rfl, rfl⟩)
  | (go_at_call 50; refine Calls.mono (s_call HRow.out hS (by simp [ay, aN] at hb ⊢; omega)) ?_; clear hS z0 z2 z3 z4 hxl hbl; rintro e W' ⟨rfl, hS, z0, z2, z3, z4, hxl, hbl⟩))
 go_end0
 exact bV hS (by simp [ay, aN])
theorem Mm (w0 : World) (B b : Nat) (lv : Value) (N : Nat) (hN : N <= 140737488355328) (G : Nat -> List (List UInt8)) (ka : Option Addr) (kc : Nat) (ps num : Int) (ks : List Nat) (nm : ByteArray) (hnm : nm.data.toList ≠ []) 
  (hk : aO w0 B (.slice ka ks.length kc) (ks.map fun k : Nat => (k : Int))) (HC : ∀ k ∈ ks, NdC w0 B b lv N G k) :
  PrC w0 B b lv N 33 (ndA b ka kc ks.length 31 ps num nm) ([[118, 97, 108], nm.data.toList, [61]] ++ aX G ks ++ [[59]]) := by
 intro W bs hst hb
 unfold ndA
 have hS := BxS.start hst 31 ps num (.slice ka ks.length kc) (.string nm)
 obtain ⟨_, _, z0, z2, z3, z4, hxl, hbl⟩ := hS.post
 have HRow : Bx _ := ⟨eG w0 B b lv N G ks ka kc hk HC⟩
 clear hk HC hst
 go_enter Tryz.func33, Tryz.ntmps33
 go_wp2_with (first
  | (go_at_call 49; refine Calls.mono (dn hN rfl (by simp) hS (by simp [bC, hnm]) (by decide) (by simp [ay, aN] at hb ⊢; omega)) ?_; clear hS z0 z2 z3 z4 hxl hbl; rintro e W' ⟨rfl, hS, z0, z2, z3, z4, hxl, hbl⟩)
  | (go_at_call 50; refine Calls.mono (s_call HRow.out hS (by simp [ay, aN] at hb ⊢; omega)) ?_; clear hS z0 z2 z3 z4 hxl hbl; rintro e W' ⟨rfl, hS, z0, z2, z3, z4, hxl, hbl⟩))
 go_end0
 exact bV hS (by simp [ay, aN])
theorem Mo (w0 : World) (B b : Nat) (lv : Value) (N : Nat) (hN : N <= 140737488355328) (G : Nat -> List (List UInt8)) (ka : Option Addr) (kc : Nat) (ps num : Int) (ks : List Nat) (nm : ByteArray) 
  (hk : aO w0 B (.slice ka ks.length kc) (ks.map fun k : Nat => (k : Int))) (HC : ∀ k ∈ ks, NdC w0 B b lv N G k) :
  PrC w0 B b lv N 33 (ndA b ka kc ks.length 35 ps num nm) (aX G ks ++ [[59]]) := by
 intro W bs hst hb
 unfold ndA
 have hS := BxS.start hst 35 ps num (.slice ka ks.length kc) (.string nm)
 obtain ⟨_, _, z0, z2, z3, z4, hxl, hbl⟩ := hS.post
 have HRow : Bx _ := ⟨eG w0 B b lv N G ks ka kc hk HC⟩
 clear hk HC hst
 go_enter Tryz.func33, Tryz.ntmps33
 go_wp2_with (first
  | (go_at_call 49; refine Calls.mono (dn hN rfl (by simp) hS (by simp [bC]) (by decide) (by simp [ay, aN] at hb ⊢; omega)) ?_; clear hS z0 z2 z3 z4 hxl hbl; rintro e W' ⟨rfl, hS, z0, z2, z3, z4, hxl, hbl⟩)
  | (go_at_call 50; refine Calls.mono (s_call HRow.out hS (by simp [ay, aN] at hb ⊢; omega)) ?_; clear hS z0 z2 z3 z4 hxl hbl; rintro e W' ⟨rfl, hS, z0, z2, z3, z4, hxl, hbl⟩))
 go_end0
 exact bV hS (by simp [ay, aN])
theorem Mq (w0 : World) (B b : Nat) (lv : Value) (N : Nat) (hN : N <= 140737488355328) (G : Nat -> List (List UInt8)) (ka : Option Addr) (kc : Nat) (ps num : Int) (ks : List Nat) (nm : ByteArray) 
  (hk : aO w0 B (.slice ka ks.length kc) (ks.map fun k : Nat => (k : Int))) (HC : ∀ k ∈ ks, NdC w0 B b lv N G k) :
  PrC w0 B b lv N 33 (ndA b ka kc ks.length 37 ps num nm) ([[119, 104, 105, 108, 101]] ++ aX G ks) := by
 intro W bs hst hb
 unfold ndA
 have hS := BxS.start hst 37 ps num (.slice ka ks.length kc) (.string nm)
 obtain ⟨_, _, z0, z2, z3, z4, hxl, hbl⟩ := hS.post
 have HRow : Bx _ := ⟨eG w0 B b lv N G ks ka kc hk HC⟩
 clear hk HC hst
 go_enter Tryz.func33, Tryz.ntmps33
 go_wp2_with (first
  | (go_at_call 49; refine Calls.mono (dn hN rfl (by simp) hS (by simp [bC]) (by decide) (by simp [ay, aN] at hb ⊢; omega)) ?_; clear hS z0 z2 z3 z4 hxl hbl; rintro e W' ⟨rfl, hS, z0, z2, z3, z4, hxl, hbl⟩)
  | (go_at_call 50; refine Calls.mono (s_call HRow.out hS (by simp [ay, aN] at hb ⊢; omega)) ?_; clear hS z0 z2 z3 z4 hxl hbl; rintro e W' ⟨rfl, hS, z0, z2, z3, z4, hxl, hbl⟩))
 go_end0
 exact bV hS (by simp [ay, aN])
theorem Mr (w0 : World) (B b : Nat) (lv : Value) (N : Nat) (hN : N <= 140737488355328) (G : Nat -> List (List UInt8)) (ka : Option Addr) (kc : Nat) (ps num : Int) (ks : List Nat) (nm : ByteArray) 
  (hk : aO w0 B (.slice ka ks.length kc) (ks.map fun k : Nat => (k : Int))) (HC : ∀ k ∈ ks, NdC w0 B b lv N G k) :
  PrC w0 B b lv N 33 (ndA b ka kc ks.length 38 ps num nm) ([[114, 101, 116, 117, 114, 110]] ++ aX G ks ++ [[59]]) := by
 intro W bs hst hb
 unfold ndA
 have hS := BxS.start hst 38 ps num (.slice ka ks.length kc) (.string nm)
 obtain ⟨_, _, z0, z2, z3, z4, hxl, hbl⟩ := hS.post
 have HRow : Bx _ := ⟨eG w0 B b lv N G ks ka kc hk HC⟩
 clear hk HC hst
 go_enter Tryz.func33, Tryz.ntmps33
 go_wp2_with (first
  | (go_at_call 49; refine Calls.mono (dn hN rfl (by simp) hS (by simp [bC]) (by decide) (by simp [ay, aN] at hb ⊢; omega)) ?_; clear hS z0 z2 z3 z4 hxl hbl; rintro e W' ⟨rfl, hS, z0, z2, z3, z4, hxl, hbl⟩)
  | (go_at_call 50; refine Calls.mono (s_call HRow.out hS (by simp [ay, aN] at hb ⊢; omega)) ?_; clear hS z0 z2 z3 z4 hxl hbl; rintro e W' ⟨rfl, hS, z0, z2, z3, z4, hxl, hbl⟩))
 go_end0
 exact bV hS (by simp [ay, aN])
theorem Ms (w0 : World) (B b : Nat) (lv : Value) (N : Nat) (hN : N <= 140737488355328) (G : Nat -> List (List UInt8)) (ka : Option Addr) (kc : Nat) (ps num : Int) (ks : List Nat) (nm : ByteArray) 
  (hk : aO w0 B (.slice ka ks.length kc) (ks.map fun k : Nat => (k : Int))) (HC : ∀ k ∈ ks, NdC w0 B b lv N G k) :
  PrC w0 B b lv N 33 (ndA b ka kc ks.length 39 ps num nm) ([[98, 101, 103, 105, 110]] ++ aX G ks ++ [[59]]) := by
 intro W bs hst hb
 unfold ndA
 have hS := BxS.start hst 39 ps num (.slice ka ks.length kc) (.string nm)
 obtain ⟨_, _, z0, z2, z3, z4, hxl, hbl⟩ := hS.post
 have HRow : Bx _ := ⟨eG w0 B b lv N G ks ka kc hk HC⟩
 clear hk HC hst
 go_enter Tryz.func33, Tryz.ntmps33
 go_wp2_with (first
  | (go_at_call 49; refine Calls.mono (dn hN rfl (by simp) hS (by simp [bC]) (by decide) (by simp [ay, aN] at hb ⊢; omega)) ?_; clear hS z0 z2 z3 z4 hxl hbl; rintro e W' ⟨rfl, hS, z0, z2, z3, z4, hxl, hbl⟩)
  | (go_at_call 50; refine Calls.mono (s_call HRow.out hS (by simp [ay, aN] at hb ⊢; omega)) ?_; clear hS z0 z2 z3 z4 hxl hbl; rintro e W' ⟨rfl, hS, z0, z2, z3, z4, hxl, hbl⟩))
 go_end0
 exact bV hS (by simp [ay, aN])
theorem Mt (w0 : World) (B b : Nat) (lv : Value) (N : Nat) (hN : N <= 140737488355328) (G : Nat -> List (List UInt8)) (ka : Option Addr) (kc : Nat) (ps num : Int) (ks : List Nat) (nm : ByteArray) 
  (hk : aO w0 B (.slice ka ks.length kc) (ks.map fun k : Nat => (k : Int))) (HC : ∀ k ∈ ks, NdC w0 B b lv N G k) :
  PrC w0 B b lv N 33 (ndA b ka kc ks.length 40 ps num nm) ([[115, 101, 108, 101, 99, 116], [123]] ++ aX G ks ++ [[125]]) := by
 intro W bs hst hb
 unfold ndA
 have hS := BxS.start hst 40 ps num (.slice ka ks.length kc) (.string nm)
 obtain ⟨_, _, z0, z2, z3, z4, hxl, hbl⟩ := hS.post
 have HRow : Bx _ := ⟨eG w0 B b lv N G ks ka kc hk HC⟩
 clear hk HC hst
 go_enter Tryz.func33, Tryz.ntmps33
 go_wp2_with (first
  | (go_at_call 49; refine Calls.mono (dn hN rfl (by simp) hS (by simp [bC]) (by decide) (by simp [ay, aN] at hb ⊢; omega)) ?_; clear hS z0 z2 z3 z4 hxl hbl; rintro e W' ⟨rfl, hS, z0, z2, z3, z4, hxl, hbl⟩)
  | (go_at_call 50; refine Calls.mono (s_call HRow.out hS (by simp [ay, aN] at hb ⊢; omega)) ?_; clear hS z0 z2 z3 z4 hxl hbl; rintro e W' ⟨rfl, hS, z0, z2, z3, z4, hxl, hbl⟩))
 go_end0
 exact bV hS (by simp [ay, aN])
theorem Mv (w0 : World) (B b : Nat) (lv : Value) (N : Nat) (hN : N <= 140737488355328) (G : Nat -> List (List UInt8)) (ka : Option Addr) (kc : Nat) (ps num : Int) (ks : List Nat) (nm : ByteArray) 
  (hk : aO w0 B (.slice ka ks.length kc) (ks.map fun k : Nat => (k : Int))) (HC : ∀ k ∈ ks, NdC w0 B b lv N G k) :
  PrC w0 B b lv N 33 (ndA b ka kc ks.length 41 ps num nm) ([[123]] ++ aX G ks ++ [[125]]) := by
 intro W bs hst hb
 unfold ndA
 have hS := BxS.start hst 41 ps num (.slice ka ks.length kc) (.string nm)
 obtain ⟨_, _, z0, z2, z3, z4, hxl, hbl⟩ := hS.post
 have HRow : Bx _ := ⟨eG w0 B b lv N G ks ka kc hk HC⟩
 clear hk HC hst
 go_enter Tryz.func33, Tryz.ntmps33
 go_wp2_with (first
  | (go_at_call 49; refine Calls.mono (dn hN rfl (by simp) hS (by simp [bC]) (by decide) (by simp [ay, aN] at hb ⊢; omega)) ?_; clear hS z0 z2 z3 z4 hxl hbl; rintro e W' ⟨rfl, hS, z0, z2, z3, z4, hxl, hbl⟩)
  | (go_at_call 50; refine Calls.mono (s_call HRow.out hS (by simp [ay, aN] at hb ⊢; omega)) ?_; clear hS z0 z2 z3 z4 hxl hbl; rintro e W' ⟨rfl, hS, z0, z2, z3, z4, hxl, hbl⟩))
 go_end0
 exact bV hS (by simp [ay, aN])
theorem Mw (w0 : World) (B b : Nat) (lv : Value) (N : Nat) (hN : N <= 140737488355328) (G : Nat -> List (List UInt8)) (ka : Option Addr) (kc : Nat) (ps num : Int) (ks : List Nat) (nm : ByteArray) (hnm : nm.data.toList ≠ []) 
  (hk : aO w0 B (.slice ka ks.length kc) (ks.map fun k : Nat => (k : Int))) (HC : ∀ k ∈ ks, NdC w0 B b lv N G k) :
  PrC w0 B b lv N 34 (ndA b ka kc ks.length 42 ps num nm) ([nm.data.toList, [58]] ++ aX G ks) := by
 intro W bs hst hb
 unfold ndA
 have hS := BxS.start hst 42 ps num (.slice ka ks.length kc) (.string nm)
 obtain ⟨_, _, z0, z2, z3, z4, hxl, hbl⟩ := hS.post
 have HRow : Bx _ := ⟨eG w0 B b lv N G ks ka kc hk HC⟩
 clear hk HC hst
 go_enter Tryz.func34, Tryz.ntmps34
 go_wp2_with (first
  | (go_at_call 49; refine Calls.mono (dn hN rfl (by simp) hS (by simp [bC, hnm]) (by decide) (by simp [ay, aN] at hb ⊢; omega)) ?_; clear hS z0 z2 z3 z4 hxl hbl; rintro e W' ⟨rfl, hS, z0, z2, z3, z4, hxl, hbl⟩)
  | (go_at_call 50; refine Calls.mono (s_call HRow.out hS (by simp [ay, aN] at hb ⊢; omega)) ?_; clear hS z0 z2 z3 z4 hxl hbl; rintro e W' ⟨rfl, hS, z0, z2, z3, z4, hxl, hbl⟩))
 go_end0
 exact bV hS (by simp [ay, aN])
theorem Mx (w0 : World) (B b : Nat) (lv : Value) (N : Nat) (hN : N <= 140737488355328) (G : Nat -> List (List UInt8)) (ka : Option Addr) (kc : Nat) (ps num : Int) (ks : List Nat) (nm : ByteArray) (hnm : nm.data.toList ≠ []) 
  (hk : aO w0 B (.slice ka ks.length kc) (ks.map fun k : Nat => (k : Int))) (HC : ∀ k ∈ ks, NdC w0 B b lv N G k) :
  PrC w0 B b lv N 34 (ndA b ka kc ks.length 45 ps num nm) ([[116, 121, 112, 101], nm.data.toList, [61]] ++ aX G ks ++ [[59]]) := by
 intro W bs hst hb
 unfold ndA
 have hS := BxS.start hst 45 ps num (.slice ka ks.length kc) (.string nm)
 obtain ⟨_, _, z0, z2, z3, z4, hxl, hbl⟩ := hS.post
 have HRow : Bx _ := ⟨eG w0 B b lv N G ks ka kc hk HC⟩
 clear hk HC hst
 go_enter Tryz.func34, Tryz.ntmps34
 go_wp2_with (first
  | (go_at_call 49; refine Calls.mono (dn hN rfl (by simp) hS (by simp [bC, hnm]) (by decide) (by simp [ay, aN] at hb ⊢; omega)) ?_; clear hS z0 z2 z3 z4 hxl hbl; rintro e W' ⟨rfl, hS, z0, z2, z3, z4, hxl, hbl⟩)
  | (go_at_call 50; refine Calls.mono (s_call HRow.out hS (by simp [ay, aN] at hb ⊢; omega)) ?_; clear hS z0 z2 z3 z4 hxl hbl; rintro e W' ⟨rfl, hS, z0, z2, z3, z4, hxl, hbl⟩))
 go_end0
 exact bV hS (by simp [ay, aN])
theorem MB (w0 : World) (B b : Nat) (lv : Value) (N : Nat) (hN : N <= 140737488355328) (G : Nat -> List (List UInt8)) (ka : Option Addr) (kc : Nat) (ps num : Int) (ks : List Nat) (nm : ByteArray) 
  (hk : aO w0 B (.slice ka ks.length kc) (ks.map fun k : Nat => (k : Int))) (HC : ∀ k ∈ ks, NdC w0 B b lv N G k) :
  PrC w0 B b lv N 34 (ndA b ka kc ks.length 46 ps num nm) (aX G ks) := by
 intro W bs hst hb
 unfold ndA
 have hS := BxS.start hst 46 ps num (.slice ka ks.length kc) (.string nm)
 obtain ⟨_, _, z0, z2, z3, z4, hxl, hbl⟩ := hS.post
 have HRow : Bx _ := ⟨eG w0 B b lv N G ks ka kc hk HC⟩
 clear hk HC hst
 go_enter Tryz.func34, Tryz.ntmps34
 go_wp2_with (first
  | (go_at_call 49; refine Calls.mono (dn hN rfl (by simp) hS (by simp [bC]) (by decide) (by simp [ay, aN] at hb ⊢; omega)) ?_; clear hS z0 z2 z3 z4 hxl hbl; rintro e W' ⟨rfl, hS, z0, z2, z3, z4, hxl, hbl⟩)
  | (go_at_call 50; refine Calls.mono (s_call HRow.out hS (by simp [ay, aN] at hb ⊢; omega)) ?_; clear hS z0 z2 z3 z4 hxl hbl; rintro e W' ⟨rfl, hS, z0, z2, z3, z4, hxl, hbl⟩))
 go_end0
 exact bV hS (by simp [ay, aN])
end Go.Proofs.YtecodpdfckjalaaGreatDoor
