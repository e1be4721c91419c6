import Derived.Test.YtecodpdfckjalaaGreatDoorBPH
set_option linter.unusedVariables false
set_option linter.unusedSimpArgs false
set_option maxHeartbeats 4000000
set_option maxRecDepth 100000
namespace Go.Proofs.YtecodpdfckjalaaGreatDoor
open Go.RowKit
theorem MW (w0 : World) (B b : Nat) (lv : Value) (N : Nat) (hN : N <= 140737488355328) (G : Nat -> List (List UInt8)) (ka : Option Addr) (kc : Nat) (ps num : Int) (ks : List Nat) (nm : ByteArray) 
  (hk : aO w0 B (.slice ka ks.length kc) (ks.map fun k : Nat => (k : Int))) (HC : ∀ k ∈ ks, NdC w0 B b lv N G k) :
  PrC w0 B b lv N 29 (ndA b ka kc ks.length 1 ps num nm) ([[105, 110, 116]]) := by
 intro W bs hst hb
 unfold ndA
 have hS := BxS.start hst 1 ps num (.slice ka ks.length kc) (.string nm)
 obtain ⟨_, _, z0, z2, z3, z4, hxl, hbl⟩ := hS.post
 skip
 clear hk HC hst
 go_enter Tryz.func29, Tryz.ntmps29
 go_wp2_with (first
  | (go_at_call 49; refine Calls.mono (dn hN rfl (by simp) hS (by simp [bC]) (by decide) (by simp [ay, aN] at hb ⊢; omega)) ?_; clear hS z0 z2 z3 z4 hxl hbl; rintro e W' ⟨rfl, hS, z0, z2, z3, z4, hxl, hbl⟩))
 go_end0
 exact bV hS (by simp [ay, aN])
theorem MX (w0 : World) (B b : Nat) (lv : Value) (N : Nat) (hN : N <= 140737488355328) (G : Nat -> List (List UInt8)) (ka : Option Addr) (kc : Nat) (ps num : Int) (ks : List Nat) (nm : ByteArray) 
  (hk : aO w0 B (.slice ka ks.length kc) (ks.map fun k : Nat => (k : Int))) (HC : ∀ k ∈ ks, NdC w0 B b lv N G k) :
  PrC w0 B b lv N 29 (ndA b ka kc ks.length 2 ps num nm) ([[98, 111, 111, 108]]) := by
 intro W bs hst hb
 unfold ndA
 have hS := BxS.start hst 2 ps num (.slice ka ks.length kc) (.string nm)
 obtain ⟨_, _, z0, z2, z3, z4, hxl, hbl⟩ := hS.post
 skip
 clear hk HC hst
 go_enter Tryz.func29, Tryz.ntmps29
 go_wp2_with (first
  | (go_at_call 49; refine Calls.mono (dn hN rfl (by simp) hS (by simp [bC]) (by decide) (by simp [ay, aN] at hb ⊢; omega)) ?_; clear hS z0 z2 z3 z4 hxl hbl; rintro e W' ⟨rfl, hS, z0, z2, z3, z4, hxl, hbl⟩))
 go_end0
 exact bV hS (by simp [ay, aN])
theorem MZ (w0 : World) (B b : Nat) (lv : Value) (N : Nat) (hN : N <= 140737488355328) (G : Nat -> List (List UInt8)) (ka : Option Addr) (kc : Nat) (ps num : Int) (ks : List Nat) (nm : ByteArray) (hnm : nm.data.toList ≠ []) 
  (hk : aO w0 B (.slice ka ks.length kc) (ks.map fun k : Nat => (k : Int))) (HC : ∀ k ∈ ks, NdC w0 B b lv N G k) :
  PrC w0 B b lv N 29 (ndA b ka kc ks.length 3 ps num nm) ([nm.data.toList]) := by
 intro W bs hst hb
 unfold ndA
 have hS := BxS.start hst 3 ps num (.slice ka ks.length kc) (.string nm)
 obtain ⟨_, _, z0, z2, z3, z4, hxl, hbl⟩ := hS.post
 skip
 clear hk HC hst
 go_enter Tryz.func29, Tryz.ntmps29
 go_wp2_with (first
  | (go_at_call 49; refine Calls.mono (dn hN rfl (by simp) hS (by simp [bC, hnm]) (by decide) (by simp [ay, aN] at hb ⊢; omega)) ?_; clear hS z0 z2 z3 z4 hxl hbl; rintro e W' ⟨rfl, hS, z0, z2, z3, z4, hxl, hbl⟩))
 go_end0
 exact bV hS (by simp [ay, aN])
theorem M0 (w0 : World) (B b : Nat) (lv : Value) (N : Nat) (hN : N <= 140737488355328) (G : Nat -> List (List UInt8)) (ka : Option Addr) (kc : Nat) (ps num : Int) (ks : List Nat) (nm : ByteArray) 
  (hk : aO w0 B (.slice ka ks.length kc) (ks.map fun k : Nat => (k : Int))) (HC : ∀ k ∈ ks, NdC w0 B b lv N G k) :
  PrC w0 B b lv N 29 (ndA b ka kc ks.length 4 ps num nm) ([[97, 114, 114, 97, 121], [111, 102]] ++ aX G ks) := by
 intro W bs hst hb
 unfold ndA
 have hS := BxS.start hst 4 ps num (.slice ka ks.length kc) (.string nm)
 obtain ⟨_, _, z0, z2, z3, z4, hxl, hbl⟩ := hS.post
 have HRow : Bx _ := ⟨eG w0 B b lv N G ks ka kc hk HC⟩
 clear hk HC hst
 go_enter Tryz.func29, Tryz.ntmps29
 go_wp2_with (first
  | (go_at_call 49; refine Calls.mono (dn hN rfl (by simp) hS (by simp [bC]) (by decide) (by simp [ay, aN] at hb ⊢; omega)) ?_; clear hS z0 z2 z3 z4 hxl hbl; rintro e W' ⟨rfl, hS, z0, z2, z3, z4, hxl, hbl⟩)
  | (go_at_call 50; refine Calls.mono (s_call HRow.out hS (by simp [ay, aN] at hb ⊢; omega)) ?_; clear hS z0 z2 z3 z4 hxl hbl; rintro e W' ⟨rfl, hS, z0, z2, z3, z4, hxl, hbl⟩))
 go_end0
 exact bV hS (by simp [ay, aN])
theorem M3 (w0 : World) (B b : Nat) (lv : Value) (N : Nat) (hN : N <= 140737488355328) (G : Nat -> List (List UInt8)) (ka : Option Addr) (kc : Nat) (ps num : Int) (ks : List Nat) (nm : ByteArray) 
  (hk : aO w0 B (.slice ka ks.length kc) (ks.map fun k : Nat => (k : Int))) (HC : ∀ k ∈ ks, NdC w0 B b lv N G k) :
  PrC w0 B b lv N 29 (ndA b ka kc ks.length 5 ps num nm) (([[40]] ++ aU G ks ++ [[41]])) := by
 intro W bs hst hb
 unfold ndA
 have hS := BxS.start hst 5 ps num (.slice ka ks.length kc) (.string nm)
 obtain ⟨_, _, z0, z2, z3, z4, hxl, hbl⟩ := hS.post
 have HList : Bx _ := ⟨fo w0 B b lv N hN G ks ka kc ⟨#[40]⟩ ⟨#[41]⟩ (by simp) (by simp) hk HC⟩
 clear hk HC hst
 go_enter Tryz.func29, Tryz.ntmps29
 go_wp2_with (first
  | (go_at_call 49; refine Calls.mono (dn hN rfl (by simp) hS (by simp [bC]) (by decide) (by simp [ay, aN] at hb ⊢; omega)) ?_; clear hS z0 z2 z3 z4 hxl hbl; rintro e W' ⟨rfl, hS, z0, z2, z3, z4, hxl, hbl⟩)
  | (go_at_call 51; refine Calls.mono (s_call HList.out hS (by simp [ay, aN] at hb ⊢; omega)) ?_; clear hS z0 z2 z3 z4 hxl hbl; rintro e W' ⟨rfl, hS, z0, z2, z3, z4, hxl, hbl⟩))
 go_end0
 exact bV hS (by simp [ay, aN])
theorem M4 (w0 : World) (B b : Nat) (lv : Value) (N : Nat) (hN : N <= 140737488355328) (G : Nat -> List (List UInt8)) (ka : Option Addr) (kc : Nat) (ps num : Int) (ks : List Nat) (nm : ByteArray) 
  (hk : aO w0 B (.slice ka ks.length kc) (ks.map fun k : Nat => (k : Int))) (HC : ∀ k ∈ ks, NdC w0 B b lv N G k) :
  PrC w0 B b lv N 29 (ndA b ka kc ks.length 6 ps num nm) ([[99, 104, 97, 110], [111, 102]] ++ aX G ks) := by
 intro W bs hst hb
 unfold ndA
 have hS := BxS.start hst 6 ps num (.slice ka ks.length kc) (.string nm)
 obtain ⟨_, _, z0, z2, z3, z4, hxl, hbl⟩ := hS.post
 have HRow : Bx _ := ⟨eG w0 B b lv N G ks ka kc hk HC⟩
 clear hk HC hst
 go_enter Tryz.func29, Tryz.ntmps29
 go_wp2_with (first
  | (go_at_call 49; refine Calls.mono (dn hN rfl (by simp) hS (by simp [bC]) (by decide) (by simp [ay, aN] at hb ⊢; omega)) ?_; clear hS z0 z2 z3 z4 hxl hbl; rintro e W' ⟨rfl, hS, z0, z2, z3, z4, hxl, hbl⟩)
  | (go_at_call 50; refine Calls.mono (s_call HRow.out hS (by simp [ay, aN] at hb ⊢; omega)) ?_; clear hS z0 z2 z3 z4 hxl hbl; rintro e W' ⟨rfl, hS, z0, z2, z3, z4, hxl, hbl⟩))
 go_end0
 exact bV hS (by simp [ay, aN])
end Go.Proofs.YtecodpdfckjalaaGreatDoor
