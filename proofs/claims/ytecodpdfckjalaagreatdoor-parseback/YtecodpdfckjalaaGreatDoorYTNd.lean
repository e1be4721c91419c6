import Derived.Test.YtecodpdfckjalaaGreatDoorYPH
import Derived.Test.YtecodpdfckjalaaGreatDoorYTName
set_option linter.unusedVariables false
set_option linter.unusedSimpArgs false
set_option maxHeartbeats 4000000
set_option maxRecDepth 100000
namespace Go.Proofs.YtecodpdfckjalaaGreatDoor
open Go.RowKit
theorem iR (w0 : World) (B b nb no nc N L : Nat) (k : Nat) (kd ps num : Int) (ka : Option Addr) (nk kc : Nat) (nm : ByteArray) (G : Nat -> List (List UInt8)) (hnb : nb < B) (hL : L <= maxLen) (hk : k < L)
  (hc : w0.cell? ⟨nb, no + k * 5, none⟩ = some (.int .i64 kd) /\ w0.cell? ⟨nb, no + k * 5 + 1, none⟩ = some (.int .i64 ps) /\ w0.cell? ⟨nb, no + k * 5 + 2, none⟩ = some (.slice ka nk kc) /\ w0.cell? ⟨nb, no + k * 5 + 3, none⟩ = some (.string nm) /\ w0.cell? ⟨nb, no + k * 5 + 4, none⟩ = some (.int .i64 num))
  (h1 : fF kd = true) (HP : PrC w0 B b (.slice (some ⟨nb, no, none⟩) L nc) N 29 (ndA b ka kc nk kd ps num nm) (G k)) : NdC w0 B b (.slice (some ⟨nb, no, none⟩) L nc) N G k := by
 intro W bs hst hb
 unfold ndA at HP
 obtain ⟨pp, v, hp, hbk, hown, hnil⟩ := hst.pb.ex
 obtain ⟨c0, _, _, _, _, hbl⟩ := fU hbk
 have hf : iW W nb (no + k * 5) kd ps ka nk kc nm num := iW.below hc hst.bel hnb
 obtain ⟨x0, x1, x2, x3, x4⟩ := hf
 have hS := BxS.start hst kd ps num (.slice ka nk kc) (.string nm)
 obtain ⟨_, _, z0, z2, z3, z4, hxl, hbl2⟩ := hS.post
 obtain ⟨_, _, _, _, z1, _⟩ := dW hS.box
 have HC : Bx _ := ⟨s_call HP hS (by simpa using hb)⟩
 unfold maxLen at hL
 clear hst hbk hown hnil hp HP hc hb hS
 go_enter Tryz.func17, Tryz.ntmps17
 go_wp2_with (first
  | (go_at_call 28; refine (iI _ _).mono ?_; rintro e w' ⟨rfl, rfl⟩)
  | (go_at_call 30; refine (gX _ _).mono ?_; rintro e w' ⟨rfl, rfl⟩)
  | (go_at_call 32; refine (eT _ _).mono ?_; rintro e w' ⟨rfl, rfl⟩)
  | (go_at_call 29; refine Calls.mono HC.out ?_; rintro e W' ⟨rfl, hE, _⟩))
 go_end0
 exact bV hE (by simp)
theorem dH (w0 : World) (B b nb no nc N L : Nat) (k : Nat) (kd ps num : Int) (ka : Option Addr) (nk kc : Nat) (nm : ByteArray) (G : Nat -> List (List UInt8)) (hnb : nb < B) (hL : L <= maxLen) (hk : k < L)
  (hc : w0.cell? ⟨nb, no + k * 5, none⟩ = some (.int .i64 kd) /\ w0.cell? ⟨nb, no + k * 5 + 1, none⟩ = some (.int .i64 ps) /\ w0.cell? ⟨nb, no + k * 5 + 2, none⟩ = some (.slice ka nk kc) /\ w0.cell? ⟨nb, no + k * 5 + 3, none⟩ = some (.string nm) /\ w0.cell? ⟨nb, no + k * 5 + 4, none⟩ = some (.int .i64 num))
  (h1 : fF kd = false) (h2 : bq kd = true) (HP : PrC w0 B b (.slice (some ⟨nb, no, none⟩) L nc) N 31 (ndA b ka kc nk kd ps num nm) (G k)) : NdC w0 B b (.slice (some ⟨nb, no, none⟩) L nc) N G k := by
 intro W bs hst hb
 unfold ndA at HP
 obtain ⟨pp, v, hp, hbk, hown, hnil⟩ := hst.pb.ex
 obtain ⟨c0, _, _, _, _, hbl⟩ := fU hbk
 have hf : iW W nb (no + k * 5) kd ps ka nk kc nm num := iW.below hc hst.bel hnb
 obtain ⟨x0, x1, x2, x3, x4⟩ := hf
 have hS := BxS.start hst kd ps num (.slice ka nk kc) (.string nm)
 obtain ⟨_, _, z0, z2, z3, z4, hxl, hbl2⟩ := hS.post
 obtain ⟨_, _, _, _, z1, _⟩ := dW hS.box
 have HC : Bx _ := ⟨s_call HP hS (by simpa using hb)⟩
 unfold maxLen at hL
 clear hst hbk hown hnil hp HP hc hb hS
 go_enter Tryz.func17, Tryz.ntmps17
 go_wp2_with (first
  | (go_at_call 28; refine (iI _ _).mono ?_; rintro e w' ⟨rfl, rfl⟩)
  | (go_at_call 30; refine (gX _ _).mono ?_; rintro e w' ⟨rfl, rfl⟩)
  | (go_at_call 32; refine (eT _ _).mono ?_; rintro e w' ⟨rfl, rfl⟩)
  | (go_at_call 31; refine Calls.mono HC.out ?_; rintro e W' ⟨rfl, hE, _⟩))
 go_end0
 exact bV hE (by simp)
theorem eH (w0 : World) (B b nb no nc N L : Nat) (k : Nat) (kd ps num : Int) (ka : Option Addr) (nk kc : Nat) (nm : ByteArray) (G : Nat -> List (List UInt8)) (hnb : nb < B) (hL : L <= maxLen) (hk : k < L)
  (hc : w0.cell? ⟨nb, no + k * 5, none⟩ = some (.int .i64 kd) /\ w0.cell? ⟨nb, no + k * 5 + 1, none⟩ = some (.int .i64 ps) /\ w0.cell? ⟨nb, no + k * 5 + 2, none⟩ = some (.slice ka nk kc) /\ w0.cell? ⟨nb, no + k * 5 + 3, none⟩ = some (.string nm) /\ w0.cell? ⟨nb, no + k * 5 + 4, none⟩ = some (.int .i64 num))
  (h1 : fF kd = false) (h2 : bq kd = false) (h3 : gL kd = true) (HP : PrC w0 B b (.slice (some ⟨nb, no, none⟩) L nc) N 33 (ndA b ka kc nk kd ps num nm) (G k)) : NdC w0 B b (.slice (some ⟨nb, no, none⟩) L nc) N G k := by
 intro W bs hst hb
 unfold ndA at HP
 obtain ⟨pp, v, hp, hbk, hown, hnil⟩ := hst.pb.ex
 obtain ⟨c0, _, _, _, _, hbl⟩ := fU hbk
 have hf : iW W nb (no + k * 5) kd ps ka nk kc nm num := iW.below hc hst.bel hnb
 obtain ⟨x0, x1, x2, x3, x4⟩ := hf
 have hS := BxS.start hst kd ps num (.slice ka nk kc) (.string nm)
 obtain ⟨_, _, z0, z2, z3, z4, hxl, hbl2⟩ := hS.post
 obtain ⟨_, _, _, _, z1, _⟩ := dW hS.box
 have HC : Bx _ := ⟨s_call HP hS (by simpa using hb)⟩
 unfold maxLen at hL
 clear hst hbk hown hnil hp HP hc hb hS
 go_enter Tryz.func17, Tryz.ntmps17
 go_wp2_with (first
  | (go_at_call 28; refine (iI _ _).mono ?_; rintro e w' ⟨rfl, rfl⟩)
  | (go_at_call 30; refine (gX _ _).mono ?_; rintro e w' ⟨rfl, rfl⟩)
  | (go_at_call 32; refine (eT _ _).mono ?_; rintro e w' ⟨rfl, rfl⟩)
  | (go_at_call 33; refine Calls.mono HC.out ?_; rintro e W' ⟨rfl, hE, _⟩))
 go_end0
 exact bV hE (by simp)
theorem iM (w0 : World) (B b nb no nc N L : Nat) (k : Nat) (kd ps num : Int) (ka : Option Addr) (nk kc : Nat) (nm : ByteArray) (G : Nat -> List (List UInt8)) (hnb : nb < B) (hL : L <= maxLen) (hk : k < L)
  (hc : w0.cell? ⟨nb, no + k * 5, none⟩ = some (.int .i64 kd) /\ w0.cell? ⟨nb, no + k * 5 + 1, none⟩ = some (.int .i64 ps) /\ w0.cell? ⟨nb, no + k * 5 + 2, none⟩ = some (.slice ka nk kc) /\ w0.cell? ⟨nb, no + k * 5 + 3, none⟩ = some (.string nm) /\ w0.cell? ⟨nb, no + k * 5 + 4, none⟩ = some (.int .i64 num))
  (h1 : fF kd = false) (h2 : bq kd = false) (h3 : gL kd = false) (HP : PrC w0 B b (.slice (some ⟨nb, no, none⟩) L nc) N 34 (ndA b ka kc nk kd ps num nm) (G k)) : NdC w0 B b (.slice (some ⟨nb, no, none⟩) L nc) N G k := by
 intro W bs hst hb
 unfold ndA at HP
 obtain ⟨pp, v, hp, hbk, hown, hnil⟩ := hst.pb.ex
 obtain ⟨c0, _, _, _, _, hbl⟩ := fU hbk
 have hf : iW W nb (no + k * 5) kd ps ka nk kc nm num := iW.below hc hst.bel hnb
 obtain ⟨x0, x1, x2, x3, x4⟩ := hf
 have hS := BxS.start hst kd ps num (.slice ka nk kc) (.string nm)
 obtain ⟨_, _, z0, z2, z3, z4, hxl, hbl2⟩ := hS.post
 obtain ⟨_, _, _, _, z1, _⟩ := dW hS.box
 have HC : Bx _ := ⟨s_call HP hS (by simpa using hb)⟩
 unfold maxLen at hL
 clear hst hbk hown hnil hp HP hc hb hS
 go_enter Tryz.func17, Tryz.ntmps17
 go_wp2_with (first
  | (go_at_call 28; refine (iI _ _).mono ?_; rintro e w' ⟨rfl, rfl⟩)
  | (go_at_call 30; refine (gX _ _).mono ?_; rintro e w' ⟨rfl, rfl⟩)
  | (go_at_call 32; refine (eT _ _).mono ?_; rintro e w' ⟨rfl, rfl⟩)
  | (go_at_call 34; refine Calls.mono HC.out ?_; rintro e W' ⟨rfl, hE, _⟩))
 go_end0
 exact bV hE (by simp)
theorem MU (w0 : World) (B b : Nat) (lv : Value) (N : Nat) (hN : N <= 140737488355328) (G : Nat -> List (List UInt8)) (ka : Option Addr) (kc : Nat) (ps num : Int) (ks : List Nat) (nm : ByteArray) 
  (hk : aO w0 B (.slice ka ks.length kc) (ks.map fun k : Nat => (k : Int))) (HC : ∀ k ∈ ks, NdC w0 B b lv N G k) :
  PrC w0 B b lv N 29 (ndA b ka kc ks.length 1 ps num nm) ([[105, 110, 116]]) := by
 intro W bs hst hb
 unfold ndA
 have hS := BxS.start hst 1 ps num (.slice ka ks.length kc) (.string nm)
 obtain ⟨_, _, z0, z2, z3, z4, hxl, hbl⟩ := hS.post
 skip
 clear hk HC hst
 go_enter Tryz.func29, Tryz.ntmps29
 go_wp2_with (first
  | (go_at_call 49; refine Calls.mono (dn hN rfl (by simp) hS (by simp [bC]) (by decide) (by simp [ay, aN] at hb ⊢; omega)) ?_; clear hS z0 z2 z3 z4 hxl hbl; rintro e W' ⟨rfl, hS, z0, z2, z3, z4, hxl, hbl⟩))
 go_end0
 exact bV hS (by simp [ay, aN])
theorem MV (w0 : World) (B b : Nat) (lv : Value) (N : Nat) (hN : N <= 140737488355328) (G : Nat -> List (List UInt8)) (ka : Option Addr) (kc : Nat) (ps num : Int) (ks : List Nat) (nm : ByteArray) 
  (hk : aO w0 B (.slice ka ks.length kc) (ks.map fun k : Nat => (k : Int))) (HC : ∀ k ∈ ks, NdC w0 B b lv N G k) :
  PrC w0 B b lv N 29 (ndA b ka kc ks.length 2 ps num nm) ([[98, 111, 111, 108]]) := by
 intro W bs hst hb
 unfold ndA
 have hS := BxS.start hst 2 ps num (.slice ka ks.length kc) (.string nm)
 obtain ⟨_, _, z0, z2, z3, z4, hxl, hbl⟩ := hS.post
 skip
 clear hk HC hst
 go_enter Tryz.func29, Tryz.ntmps29
 go_wp2_with (first
  | (go_at_call 49; refine Calls.mono (dn hN rfl (by simp) hS (by simp [bC]) (by decide) (by simp [ay, aN] at hb ⊢; omega)) ?_; clear hS z0 z2 z3 z4 hxl hbl; rintro e W' ⟨rfl, hS, z0, z2, z3, z4, hxl, hbl⟩))
 go_end0
 exact bV hS (by simp [ay, aN])
theorem MW (w0 : World) (B b : Nat) (lv : Value) (N : Nat) (hN : N <= 140737488355328) (G : Nat -> List (List UInt8)) (ka : Option Addr) (kc : Nat) (ps num : Int) (ks : List Nat) (nm : ByteArray) (hnm : nm.data.toList ≠ []) 
  (hk : aO w0 B (.slice ka ks.length kc) (ks.map fun k : Nat => (k : Int))) (HC : ∀ k ∈ ks, NdC w0 B b lv N G k) :
  PrC w0 B b lv N 29 (ndA b ka kc ks.length 3 ps num nm) ([nm.data.toList]) := by
 intro W bs hst hb
 unfold ndA
 have hS := BxS.start hst 3 ps num (.slice ka ks.length kc) (.string nm)
 obtain ⟨_, _, z0, z2, z3, z4, hxl, hbl⟩ := hS.post
 skip
 clear hk HC hst
 go_enter Tryz.func29, Tryz.ntmps29
 go_wp2_with (first
  | (go_at_call 49; refine Calls.mono (dn hN rfl (by simp) hS (by simp [bC, hnm]) (by decide) (by simp [ay, aN] at hb ⊢; omega)) ?_; clear hS z0 z2 z3 z4 hxl hbl; rintro e W' ⟨rfl, hS, z0, z2, z3, z4, hxl, hbl⟩))
 go_end0
 exact bV hS (by simp [ay, aN])
theorem MX (w0 : World) (B b : Nat) (lv : Value) (N : Nat) (hN : N <= 140737488355328) (G : Nat -> List (List UInt8)) (ka : Option Addr) (kc : Nat) (ps num : Int) (ks : List Nat) (nm : ByteArray) 
  (hk : aO w0 B (.slice ka ks.length kc) (ks.map fun k : Nat => (k : Int))) (HC : ∀ k ∈ ks, NdC w0 B b lv N G k) :
  PrC w0 B b lv N 29 (ndA b ka kc ks.length 4 ps num nm) ([[97, 114, 114, 97, 121], [111, 102]] ++ aX G ks) := by
 intro W bs hst hb
 unfold ndA
 have hS := BxS.start hst 4 ps num (.slice ka ks.length kc) (.string nm)
 obtain ⟨_, _, z0, z2, z3, z4, hxl, hbl⟩ := hS.post
 have HRow : Bx _ := ⟨eG w0 B b lv N G ks ka kc hk HC⟩
 clear hk HC hst
 go_enter Tryz.func29, Tryz.ntmps29
 go_wp2_with (first
  | (go_at_call 49; refine Calls.mono (dn hN rfl (by simp) hS (by simp [bC]) (by decide) (by simp [ay, aN] at hb ⊢; omega)) ?_; clear hS z0 z2 z3 z4 hxl hbl; rintro e W' ⟨rfl, hS, z0, z2, z3, z4, hxl, hbl⟩)
  | (go_at_call 50; refine Calls.mono (s_call HRow.out hS (by simp [ay, aN] at hb ⊢; omega)) ?_; clear hS z0 z2 z3 z4 hxl hbl; rintro e W' ⟨rfl, hS, z0, z2, z3, z4, hxl, hbl⟩))
 go_end0
 exact bV hS (by simp [ay, aN])
theorem MZ (w0 : World) (B b : Nat) (lv : Value) (N : Nat) (hN : N <= 140737488355328) (G : Nat -> List (List UInt8)) (ka : Option Addr) (kc : Nat) (ps num : Int) (ks : List Nat) (nm : ByteArray) 
  (hk : aO w0 B (.slice ka ks.length kc) (ks.map fun k : Nat => (k : Int))) (HC : ∀ k ∈ ks, NdC w0 B b lv N G k) :
  PrC w0 B b lv N 29 (ndA b ka kc ks.length 5 ps num nm) (([[40]] ++ aU G ks ++ [[41]])) := by
 intro W bs hst hb
 unfold ndA
 have hS := BxS.start hst 5 ps num (.slice ka ks.length kc) (.string nm)
 obtain ⟨_, _, z0, z2, z3, z4, hxl, hbl⟩ := hS.post
 have HList : Bx _ := ⟨fo w0 B b lv N hN G ks ka kc ⟨#[40]⟩ ⟨#[41]⟩ (by simp) (by simp) hk HC⟩
 clear hk HC hst
 go_enter Tryz.func29, Tryz.ntmps29
 go_wp2_with (first
  | (go_at_call 49; refine Calls.mono (dn hN rfl (by simp) hS (by simp [bC]) (by decide) (by simp [ay, aN] at hb ⊢; omega)) ?_; clear hS z0 z2 z3 z4 hxl hbl; rintro e W' ⟨rfl, hS, z0, z2, z3, z4, hxl, hbl⟩)
  | (go_at_call 51; refine Calls.mono (s_call HList.out hS (by simp [ay, aN] at hb ⊢; omega)) ?_; clear hS z0 z2 z3 z4 hxl hbl; rintro e W' ⟨rfl, hS, z0, z2, z3, z4, hxl, hbl⟩))
 go_end0
 exact bV hS (by simp [ay, aN])
theorem M0 (w0 : World) (B b : Nat) (lv : Value) (N : Nat) (hN : N <= 140737488355328) (G : Nat -> List (List UInt8)) (ka : Option Addr) (kc : Nat) (ps num : Int) (ks : List Nat) (nm : ByteArray) 
  (hk : aO w0 B (.slice ka ks.length kc) (ks.map fun k : Nat => (k : Int))) (HC : ∀ k ∈ ks, NdC w0 B b lv N G k) :
  PrC w0 B b lv N 29 (ndA b ka kc ks.length 6 ps num nm) ([[99, 104, 97, 110], [111, 102]] ++ aX G ks) := by
 intro W bs hst hb
 unfold ndA
 have hS := BxS.start hst 6 ps num (.slice ka ks.length kc) (.string nm)
 obtain ⟨_, _, z0, z2, z3, z4, hxl, hbl⟩ := hS.post
 have HRow : Bx _ := ⟨eG w0 B b lv N G ks ka kc hk HC⟩
 clear hk HC hst
 go_enter Tryz.func29, Tryz.ntmps29
 go_wp2_with (first
  | (go_at_call 49; refine Calls.mono (dn hN rfl (by simp) hS (by simp [bC]) (by decide) (by simp [ay, aN] at hb ⊢; omega)) ?_; clear hS z0 z2 z3 z4 hxl hbl; rintro e W' ⟨rfl, hS, z0, z2, z3, z4, hxl, hbl⟩)
  | (go_at_call 50; refine Calls.mono (s_call HRow.out hS (by simp [ay, aN] at hb ⊢; omega)) ?_; clear hS z0 z2 z3 z4 hxl hbl; rintro e W' ⟨rfl, hS, z0, z2, z3, z4, hxl, hbl⟩))
 go_end0
 exact bV hS (by simp [ay, aN])
end Go.Proofs.YtecodpdfckjalaaGreatDoor
