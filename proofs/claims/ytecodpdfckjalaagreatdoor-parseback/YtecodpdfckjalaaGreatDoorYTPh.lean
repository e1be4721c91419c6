import Derived.Test.YtecodpdfckjalaaGreatDoorYTPe
import Derived.Test.YtecodpdfckjalaaGreatDoorYTTx
import Derived.Test.YtecodpdfckjalaaGreatDoorYTNd
import Derived.Test.YtecodpdfckjalaaGreatDoorYTPb
set_option linter.unusedVariables false
set_option linter.unusedSimpArgs false
set_option maxHeartbeats 4000000
set_option maxRecDepth 100000
namespace Go.Proofs.YtecodpdfckjalaaGreatDoor
open Go.RowKit
theorem KS (w0 : World) (B b : Nat) (lv : Value) (N : Nat) (hN : N <= 140737488355328) (G : Nat -> List (List UInt8)) (ka : Option Addr) (kc : Nat) (ps num : Int) (k0 k1 : Nat) (nm : ByteArray) 
  (hk : aO w0 B (.slice ka ([k0, k1]).length kc) (([k0, k1]).map fun k : Nat => (k : Int))) (HC : ∀ k ∈ [k0, k1], NdC w0 B b lv N G k) :
  PrC w0 B b lv N 33 (ndA b ka kc (2) 36 ps num nm) ([[105, 102]] ++ aX G [k0, k1]) := by
 intro W bs hst hb
 unfold ndA
 obtain ⟨kb, ko, rfl, hkB, hcell⟩ := dM hk (by simp)
 have hcap := dG hk
 obtain ⟨hcap1, hcap2⟩ := hcap
 unfold maxLen at hcap2
 try simp only [List.length_cons, List.length_nil, Nat.zero_add, Nat.reduceAdd] at hcap1 hcap2
 have HK0 : Bx (∀ W, Below B w0 W -> W.cell? ⟨kb, ko, none⟩ = some (.int .i64 (k0 : Int))) := ⟨fun W hb => hcell W hb 0 (by simp)⟩
 have hsk := eD hk 0 2 (by omega) (by simp) _ 0 rfl
 obtain ⟨a', c', he, hi1⟩ := hsk
 have hrr : ((([k0, k1]).drop 0).take (2 - 0)) = [k0, k1] := by simp
 rw [hrr] at hi1
 simp only [Nat.sub_zero] at he
 have hsl : ∀ W, (Instr.slice 39 (.slice (some ⟨kb, ko, none⟩) 2 kc) none (some (.int .i64 2)) none).run Tryz.prog W = .ok (.slice a' 2 c') W := fun W => (pu W (some ⟨kb, ko, none⟩) 2 kc 2 (by omega)).trans (by rw [he])
 have HRow : Bx _ := ⟨eG w0 B b lv N G [k0, k1] a' c' hi1 (fun k hk => HC k (by simp at hk ⊢; omega))⟩
 simp only [List.length_cons, List.length_nil, Nat.zero_add, Nat.reduceAdd] at HRow
 clear he hi1 hrr
 have hS := BxS.start hst 36 ps num (.slice (some ⟨kb, ko, none⟩) (2) kc) (.string nm)
 obtain ⟨_, _, z0, z2, z3, z4, hxl, hbl⟩ := hS.post
 have y0 := HK0.out _ hS.st.bel
 have T0 : Bx True := ⟨trivial⟩
 have T1 : Bx True := ⟨trivial⟩
 clear hk HC hst hcell
 go_enter Tryz.func33, Tryz.ntmps33
 go_wp2_with (first
  | (go_at_call 49; refine Calls.mono (dn hN rfl (by simp) hS (by simp [bC]) (by decide) (by simp [ay, aN] at hb ⊢; omega)) ?_; clear hS z0 z2 z3 z4 hxl hbl y0; rintro e W' ⟨rfl, hS, z0, z2, z3, z4, hxl, hbl⟩; have y0 := HK0.out W' hS.st.bel)
  | (go_at_call 50; refine Calls.mono (s_call HRow.out hS (by simp [ay, aN] at hb ⊢; omega)) ?_; clear hS z0 z2 z3 z4 hxl hbl y0; rintro e W' ⟨rfl, hS, z0, z2, z3, z4, hxl, hbl⟩; have y0 := HK0.out W' hS.st.bel))
 go_end0
 exact bV hS (by simp [ay, aN])
theorem KT (w0 : World) (B b : Nat) (lv : Value) (N : Nat) (hN : N <= 140737488355328) (G : Nat -> List (List UInt8)) (ka : Option Addr) (kc : Nat) (ps num : Int) (k0 k1 k2 : Nat) (nm : ByteArray) 
  (hk : aO w0 B (.slice ka ([k0, k1, k2]).length kc) (([k0, k1, k2]).map fun k : Nat => (k : Int))) (HC : ∀ k ∈ [k0, k1, k2], NdC w0 B b lv N G k) :
  PrC w0 B b lv N 33 (ndA b ka kc (3) 36 ps num nm) ([[105, 102]] ++ aX G [k0, k1] ++ [[101, 108, 115, 101]] ++ G k2) := by
 intro W bs hst hb
 unfold ndA
 obtain ⟨kb, ko, rfl, hkB, hcell⟩ := dM hk (by simp)
 have hcap := dG hk
 obtain ⟨hcap1, hcap2⟩ := hcap
 unfold maxLen at hcap2
 try simp only [List.length_cons, List.length_nil, Nat.zero_add, Nat.reduceAdd] at hcap1 hcap2
 have HK0 : Bx (∀ W, Below B w0 W -> W.cell? ⟨kb, ko, none⟩ = some (.int .i64 (k0 : Int))) := ⟨fun W hb => hcell W hb 0 (by simp)⟩
 have HK1 : Bx (∀ W, Below B w0 W -> W.cell? ⟨kb, ko + 1, none⟩ = some (.int .i64 (k1 : Int))) := ⟨fun W hb => hcell W hb 1 (by simp)⟩
 have HK2 : Bx (∀ W, Below B w0 W -> W.cell? ⟨kb, ko + 2, none⟩ = some (.int .i64 (k2 : Int))) := ⟨fun W hb => hcell W hb 2 (by simp)⟩
 have hsk := eD hk 0 2 (by omega) (by simp) _ 0 rfl
 obtain ⟨a', c', he, hi1⟩ := hsk
 have hrr : ((([k0, k1, k2]).drop 0).take (2 - 0)) = [k0, k1] := by simp
 rw [hrr] at hi1
 simp only [Nat.sub_zero] at he
 have hsl : ∀ W, (Instr.slice 39 (.slice (some ⟨kb, ko, none⟩) 3 kc) none (some (.int .i64 2)) none).run Tryz.prog W = .ok (.slice a' 2 c') W := fun W => (pu W (some ⟨kb, ko, none⟩) 3 kc 2 (by omega)).trans (by rw [he])
 have HRow : Bx _ := ⟨eG w0 B b lv N G [k0, k1] a' c' hi1 (fun k hk => HC k (by simp at hk ⊢; omega))⟩
 simp only [List.length_cons, List.length_nil, Nat.zero_add, Nat.reduceAdd] at HRow
 clear he hi1 hrr
 have HN2 : Bx _ := ⟨HC k2 (by simp)⟩
 have hS := BxS.start hst 36 ps num (.slice (some ⟨kb, ko, none⟩) (3) kc) (.string nm)
 obtain ⟨_, _, z0, z2, z3, z4, hxl, hbl⟩ := hS.post
 have y0 := HK0.out _ hS.st.bel
 have y1 := HK1.out _ hS.st.bel
 have y2 := HK2.out _ hS.st.bel
 have T0 : Bx True := ⟨trivial⟩
 have T1 : Bx True := ⟨trivial⟩
 clear hk HC hst hcell
 go_enter Tryz.func33, Tryz.ntmps33
 go_wp2_with (first
  | (go_at_call 49; refine Calls.mono (dn hN rfl (by simp) hS (by simp [bC]) (by decide) (by simp [ay, aN] at hb ⊢; omega)) ?_; clear hS z0 z2 z3 z4 hxl hbl y0 y1 y2; rintro e W' ⟨rfl, hS, z0, z2, z3, z4, hxl, hbl⟩; have y0 := HK0.out W' hS.st.bel; have y1 := HK1.out W' hS.st.bel; have y2 := HK2.out W' hS.st.bel)
  | (go_at_call 50; refine Calls.mono (s_call HRow.out hS (by simp [ay, aN] at hb ⊢; omega)) ?_; clear hS z0 z2 z3 z4 hxl hbl y0 y1 y2; rintro e W' ⟨rfl, hS, z0, z2, z3, z4, hxl, hbl⟩; have y0 := HK0.out W' hS.st.bel; have y1 := HK1.out W' hS.st.bel; have y2 := HK2.out W' hS.st.bel)
  | (go_at_call 17; refine Calls.mono (s_call HN2.out hS (by simp [ay, aN] at hb ⊢; omega)) ?_; clear hS z0 z2 z3 z4 hxl hbl y0 y1 y2; rintro e W' ⟨rfl, hS, z0, z2, z3, z4, hxl, hbl⟩; have y0 := HK0.out W' hS.st.bel; have y1 := HK1.out W' hS.st.bel; have y2 := HK2.out W' hS.st.bel))
 go_end0
 exact bV hS (by simp [ay, aN])
theorem KU (w0 : World) (B b : Nat) (lv : Value) (N : Nat) (hN : N <= 140737488355328) (G : Nat -> List (List UInt8)) (ka : Option Addr) (kc : Nat) (ps num : Int) (ks : List Nat) (nm : ByteArray) (hnm : nm.data.toList ≠ []) (hem : nm.toList.isEmpty = false) 
  (hk : aO w0 B (.slice ka (ks).length kc) ((ks).map fun k : Nat => (k : Int))) (HC : ∀ k ∈ ks, NdC w0 B b lv N G k) :
  PrC w0 B b lv N 34 (ndA b ka kc (ks.length) 43 ps num nm) ([[99, 97, 115, 101]] ++ [nm.data.toList, [61]] ++ [[60, 45]] ++ aX G ks) := by
 intro W bs hst hb
 unfold ndA
 have hcap := dG hk
 obtain ⟨hcap1, hcap2⟩ := hcap
 unfold maxLen at hcap2
 try simp only [List.length_cons, List.length_nil, Nat.zero_add, Nat.reduceAdd] at hcap1 hcap2
 have HRow : Bx _ := ⟨eG w0 B b lv N G ks ka kc hk HC⟩
 have hS := BxS.start hst 43 ps num (.slice ka (ks.length) kc) (.string nm)
 obtain ⟨_, _, z0, z2, z3, z4, hxl, hbl⟩ := hS.post
 have T0 : Bx True := ⟨trivial⟩
 have T1 : Bx True := ⟨trivial⟩
 clear hk HC hst
 go_enter Tryz.func34, Tryz.ntmps34
 go_wp2_with (first
  | (go_at_call 49; refine Calls.mono (dn hN rfl (by simp) hS (by simp [bC, hnm]) (by decide) (by simp [ay, aN] at hb ⊢; omega)) ?_; clear hS z0 z2 z3 z4 hxl hbl ; rintro e W' ⟨rfl, hS, z0, z2, z3, z4, hxl, hbl⟩)
  | (go_at_call 50; refine Calls.mono (s_call HRow.out hS (by simp [ay, aN] at hb ⊢; omega)) ?_; clear hS z0 z2 z3 z4 hxl hbl ; rintro e W' ⟨rfl, hS, z0, z2, z3, z4, hxl, hbl⟩))
 go_end0
 exact bV hS (by simp [ay, aN])
theorem KV (w0 : World) (B b : Nat) (lv : Value) (N : Nat) (hN : N <= 140737488355328) (G : Nat -> List (List UInt8)) (ka : Option Addr) (kc : Nat) (ps num : Int) (ks : List Nat) (nm : ByteArray) (hem : nm.toList.isEmpty = true) 
  (hk : aO w0 B (.slice ka (ks).length kc) ((ks).map fun k : Nat => (k : Int))) (HC : ∀ k ∈ ks, NdC w0 B b lv N G k) :
  PrC w0 B b lv N 34 (ndA b ka kc (ks.length) 43 ps num nm) ([[99, 97, 115, 101]] ++ [[60, 45]] ++ aX G ks) := by
 intro W bs hst hb
 unfold ndA
 have hcap := dG hk
 obtain ⟨hcap1, hcap2⟩ := hcap
 unfold maxLen at hcap2
 try simp only [List.length_cons, List.length_nil, Nat.zero_add, Nat.reduceAdd] at hcap1 hcap2
 have HRow : Bx _ := ⟨eG w0 B b lv N G ks ka kc hk HC⟩
 have hS := BxS.start hst 43 ps num (.slice ka (ks.length) kc) (.string nm)
 obtain ⟨_, _, z0, z2, z3, z4, hxl, hbl⟩ := hS.post
 have T0 : Bx True := ⟨trivial⟩
 have T1 : Bx True := ⟨trivial⟩
 clear hk HC hst
 go_enter Tryz.func34, Tryz.ntmps34
 go_wp2_with (first
  | (go_at_call 49; refine Calls.mono (dn hN rfl (by simp) hS (by simp [bC]) (by decide) (by simp [ay, aN] at hb ⊢; omega)) ?_; clear hS z0 z2 z3 z4 hxl hbl ; rintro e W' ⟨rfl, hS, z0, z2, z3, z4, hxl, hbl⟩)
  | (go_at_call 50; refine Calls.mono (s_call HRow.out hS (by simp [ay, aN] at hb ⊢; omega)) ?_; clear hS z0 z2 z3 z4 hxl hbl ; rintro e W' ⟨rfl, hS, z0, z2, z3, z4, hxl, hbl⟩))
 go_end0
 exact bV hS (by simp [ay, aN])
theorem MK (w0 : World) (B b : Nat) (lv : Value) (N : Nat) (hN : N <= 140737488355328) (G : Nat -> List (List UInt8)) (ka : Option Addr) (kc : Nat) (ps : Int) (pp : List Nat) (nm : ByteArray) 
  (hk : aO w0 B (.slice ka (pp).length kc) ((pp).map fun k : Nat => (k : Int))) (HC : ∀ k ∈ pp, NdC w0 B b lv N G k) :
  PrC w0 B b lv N 29 (ndA b ka kc (pp.length) 7 ps 0 nm) ([[112, 114, 111, 103]] ++ ([[40]] ++ aU G pp ++ [[41]]) ++ fZ G []) := by
 intro W bs hst hb
 unfold ndA
 have hcap := dG hk
 obtain ⟨hcap1, hcap2⟩ := hcap
 unfold maxLen at hcap2
 try simp only [List.length_append, List.length_cons, List.length_nil, Nat.zero_add] at hcap1 hcap2
 obtain ⟨a1, c1, he1, hi1⟩ := eD hk (0) (pp.length) (by omega) (by simp) _ 0 rfl
 have hr1 : (((pp).drop (0)).take ((pp.length) - (0))) = pp := by simp
 rw [hr1] at hi1
 have hsl1 : ∀ W, (Instr.slice 39 (.slice ka (pp.length) kc) none (some (.int .i64 ((pp.length : Int)))) none).run Tryz.prog W = .ok (.slice a1 (pp).length c1) W := fun W => (pu W ka (pp.length) kc (pp.length) (by omega)).trans (by rw [he1, show (pp.length) - (0) = (pp).length by simp])
 clear he1 hr1
 obtain ⟨a2, c2, he2, hi2⟩ := eD hk (pp.length) (pp.length) (by omega) (by simp) _ 0 rfl
 have hr2 : (((pp).drop (pp.length)).take ((pp.length) - (pp.length))) = ([] : List Nat) := by simp
 rw [hr2] at hi2
 have hsl2 : ∀ W, (Instr.slice 39 (.slice ka (pp.length) kc) (some (.int .i64 ((pp.length : Int)))) none none).run Tryz.prog W = .ok (.slice a2 (([] : List Nat)).length c2) W := fun W => (Bt W ka (pp.length) kc (pp.length) (by omega)).trans (by rw [he2, show (pp.length) - (pp.length) = (([] : List Nat)).length by simp])
 clear he2 hr2
 have HList : Bx _ := ⟨fo w0 B b lv N hN G pp a1 c1 ⟨#[40]⟩ ⟨#[41]⟩ (by simp) (by simp) hi1 (fun k hk => HC k (by simp [hk]))⟩
 have HRes : Bx _ := ⟨ig w0 B b lv N hN G [] a2 c2 hi2 (fun k hk => by cases hk)⟩
 try simp only [List.length_cons, List.length_nil, Nat.zero_add] at hsl2 HRes
 clear hi1 hi2
 have hS := BxS.start hst 7 ps 0 (.slice ka (pp.length) kc) (.string nm)
 obtain ⟨_, _, z0, z2, z3, z4, hxl, hbl⟩ := hS.post
 clear hk HC hst
 go_enter Tryz.func29, Tryz.ntmps29
 go_wp2_with (first
  | (go_at_call 49; refine Calls.mono (dn hN rfl (by simp) hS (by simp [bC]) (by decide) (by simp [ay, aN] at hb ⊢; omega)) ?_; clear hS z0 z2 z3 z4 hxl hbl ; rintro e W' ⟨rfl, hS, z0, z2, z3, z4, hxl, hbl⟩)
  | (go_at_call 51; refine Calls.mono (s_call HList.out hS (by simp [ay, aN] at hb ⊢; omega)) ?_; clear hS z0 z2 z3 z4 hxl hbl ; rintro e W' ⟨rfl, hS, z0, z2, z3, z4, hxl, hbl⟩)
  | (go_at_call 52; refine Calls.mono (s_call HRes.out hS (by simp [ay, aN] at hb ⊢; omega)) ?_; clear hS z0 z2 z3 z4 hxl hbl ; rintro e W' ⟨rfl, hS, z0, z2, z3, z4, hxl, hbl⟩))
 go_end0
 exact bV hS (by simp [ay, aN])
theorem ML (w0 : World) (B b : Nat) (lv : Value) (N : Nat) (hN : N <= 140737488355328) (G : Nat -> List (List UInt8)) (ka : Option Addr) (kc : Nat) (ps : Int) (pp : List Nat) (kr : Nat) (nm : ByteArray) 
  (hk : aO w0 B (.slice ka (pp ++ [kr]).length kc) ((pp ++ [kr]).map fun k : Nat => (k : Int))) (HC : ∀ k ∈ pp ++ [kr], NdC w0 B b lv N G k) :
  PrC w0 B b lv N 29 (ndA b ka kc (pp.length + 1) 7 ps 1 nm) ([[112, 114, 111, 103]] ++ ([[40]] ++ aU G pp ++ [[41]]) ++ fZ G [kr]) := by
 intro W bs hst hb
 unfold ndA
 have hcap := dG hk
 obtain ⟨hcap1, hcap2⟩ := hcap
 unfold maxLen at hcap2
 try simp only [List.length_append, List.length_cons, List.length_nil, Nat.zero_add] at hcap1 hcap2
 obtain ⟨a1, c1, he1, hi1⟩ := eD hk (0) (pp.length) (by omega) (by simp) _ 0 rfl
 have hr1 : (((pp ++ [kr]).drop (0)).take ((pp.length) - (0))) = pp := by simp
 rw [hr1] at hi1
 have hsl1 : ∀ W, (Instr.slice 39 (.slice ka (pp.length + 1) kc) none (some (.int .i64 ((pp.length : Int)))) none).run Tryz.prog W = .ok (.slice a1 (pp).length c1) W := fun W => (pu W ka (pp.length + 1) kc (pp.length) (by omega)).trans (by rw [he1, show (pp.length) - (0) = (pp).length by simp])
 clear he1 hr1
 obtain ⟨a2, c2, he2, hi2⟩ := eD hk (pp.length) (pp.length + 1) (by omega) (by simp) _ 0 rfl
 have hr2 : (((pp ++ [kr]).drop (pp.length)).take ((pp.length + 1) - (pp.length))) = [kr] := by simp
 rw [hr2] at hi2
 have hsl2 : ∀ W, (Instr.slice 39 (.slice ka (pp.length + 1) kc) (some (.int .i64 ((pp.length : Int)))) none none).run Tryz.prog W = .ok (.slice a2 ([kr]).length c2) W := fun W => (Bt W ka (pp.length + 1) kc (pp.length) (by omega)).trans (by rw [he2, show (pp.length + 1) - (pp.length) = ([kr]).length by simp])
 clear he2 hr2
 have HList : Bx _ := ⟨fo w0 B b lv N hN G pp a1 c1 ⟨#[40]⟩ ⟨#[41]⟩ (by simp) (by simp) hi1 (fun k hk => HC k (by simp [hk]))⟩
 have HRes : Bx _ := ⟨ig w0 B b lv N hN G [kr] a2 c2 hi2 (fun k hk => HC k (by simp at hk ⊢; simp [hk]))⟩
 try simp only [List.length_cons, List.length_nil, Nat.zero_add] at hsl2 HRes
 clear hi1 hi2
 have hS := BxS.start hst 7 ps 1 (.slice ka (pp.length + 1) kc) (.string nm)
 obtain ⟨_, _, z0, z2, z3, z4, hxl, hbl⟩ := hS.post
 clear hk HC hst
 go_enter Tryz.func29, Tryz.ntmps29
 go_wp2_with (first
  | (go_at_call 49; refine Calls.mono (dn hN rfl (by simp) hS (by simp [bC]) (by decide) (by simp [ay, aN] at hb ⊢; omega)) ?_; clear hS z0 z2 z3 z4 hxl hbl ; rintro e W' ⟨rfl, hS, z0, z2, z3, z4, hxl, hbl⟩)
  | (go_at_call 51; refine Calls.mono (s_call HList.out hS (by simp [ay, aN] at hb ⊢; omega)) ?_; clear hS z0 z2 z3 z4 hxl hbl ; rintro e W' ⟨rfl, hS, z0, z2, z3, z4, hxl, hbl⟩)
  | (go_at_call 52; refine Calls.mono (s_call HRes.out hS (by simp [ay, aN] at hb ⊢; omega)) ?_; clear hS z0 z2 z3 z4 hxl hbl ; rintro e W' ⟨rfl, hS, z0, z2, z3, z4, hxl, hbl⟩))
 go_end0
 exact bV hS (by simp [ay, aN])
theorem I8 (w0 : World) (B b : Nat) (lv : Value) (N : Nat) (hN : N <= 140737488355328) (G : Nat -> List (List UInt8)) (ka : Option Addr) (kc : Nat) (ps : Int) (pp : List Nat) (kz : Nat) (nm : ByteArray) (hem : nm.toList.isEmpty = true) 
  (hk : aO w0 B (.slice ka (pp ++ [kz]).length kc) ((pp ++ [kz]).map fun k : Nat => (k : Int))) (HC : ∀ k ∈ pp ++ [kz], NdC w0 B b lv N G k) :
  PrC w0 B b lv N 55 (ndA b ka kc (pp.length + 1) 20 ps 0 nm) ([[112, 114, 111, 103]] ++ ([[40]] ++ aU G pp ++ [[41]]) ++ fZ G ([] : List Nat) ++ G kz) := by
 intro W bs hst hb
 unfold ndA
 have hcap := dG hk
 obtain ⟨hcap1, hcap2⟩ := hcap
 unfold maxLen at hcap2
 try simp only [List.length_append, List.length_cons, List.length_nil, Nat.zero_add] at hcap1 hcap2
 obtain ⟨a1, c1, he1, hi1⟩ := eD hk (0) (pp.length) (by omega) (by simp) _ 0 rfl
 have hr1 : (((pp ++ [kz]).drop (0)).take ((pp.length) - (0))) = pp := by simp
 rw [hr1] at hi1
 have hsl1 : ∀ W, (Instr.slice 39 (.slice ka (pp.length + 1) kc) none (some (.int .i64 ((pp.length : Int)))) none).run Tryz.prog W = .ok (.slice a1 (pp).length c1) W := fun W => (pu W ka (pp.length + 1) kc (pp.length) (by omega)).trans (by rw [he1, show (pp.length) - (0) = (pp).length by simp])
 clear he1 hr1
 obtain ⟨a2, c2, he2, hi2⟩ := eD hk (pp.length) (pp.length) (by omega) (by simp) _ 0 rfl
 have hr2 : (((pp ++ [kz]).drop (pp.length)).take ((pp.length) - (pp.length))) = ([] : List Nat) := by simp
 rw [hr2] at hi2
 have hsl2 : ∀ W, (Instr.slice 39 (.slice ka (pp.length + 1) kc) (some (.int .i64 ((pp.length : Int)))) (some (.int .i64 ((pp.length : Int)))) none).run Tryz.prog W = .ok (.slice a2 (([] : List Nat)).length c2) W := fun W => (ww W ka (pp.length + 1) kc (pp.length) (pp.length) (by omega) (by omega)).trans (by rw [he2, show (pp.length) - (pp.length) = (([] : List Nat)).length by simp])
 clear he2 hr2
 have HList : Bx _ := ⟨fo w0 B b lv N hN G pp a1 c1 ⟨#[40]⟩ ⟨#[41]⟩ (by simp) (by simp) hi1 (fun k hk => HC k (by simp [hk]))⟩
 have HRes : Bx _ := ⟨ig w0 B b lv N hN G ([] : List Nat) a2 c2 hi2 (fun k hk => by cases hk)⟩
 try simp only [List.length_cons, List.length_nil, Nat.zero_add] at hsl2 HRes
 clear hi1 hi2
 obtain ⟨kb, ko, rfl, hkB, hcell⟩ := dM hk (by simp)
 have HK0 : Bx (∀ W, Below B w0 W -> W.cell? ⟨kb, ko + (pp.length), none⟩ = some (.int .i64 (kz : Int))) := ⟨fun W hb => by have := hcell W hb (pp.length) (by simp); simpa using this⟩
 have HN0 : Bx _ := ⟨HC kz (by simp)⟩
 clear hcell
 have hS := BxS.start hst 20 ps 0 (.slice (some ⟨kb, ko, none⟩) (pp.length + 1) kc) (.string nm)
 obtain ⟨_, _, z0, z2, z3, z4, hxl, hbl⟩ := hS.post
 have y0 := HK0.out _ hS.st.bel
 clear hk HC hst
 go_enter Tryz.func55, Tryz.ntmps55
 go_wp2_with (first
  | (go_at_call 49; refine Calls.mono (dn hN rfl (by simp) hS (by simp [bC]) (by decide) (by simp [ay, aN] at hb ⊢; omega)) ?_; clear hS z0 z2 z3 z4 hxl hbl y0; rintro e W' ⟨rfl, hS, z0, z2, z3, z4, hxl, hbl⟩; have y0 := HK0.out W' hS.st.bel)
  | (go_at_call 51; refine Calls.mono (s_call HList.out hS (by simp [ay, aN] at hb ⊢; omega)) ?_; clear hS z0 z2 z3 z4 hxl hbl y0; rintro e W' ⟨rfl, hS, z0, z2, z3, z4, hxl, hbl⟩; have y0 := HK0.out W' hS.st.bel)
  | (go_at_call 52; refine Calls.mono (s_call HRes.out hS (by simp [ay, aN] at hb ⊢; omega)) ?_; clear hS z0 z2 z3 z4 hxl hbl y0; rintro e W' ⟨rfl, hS, z0, z2, z3, z4, hxl, hbl⟩; have y0 := HK0.out W' hS.st.bel)
  | (go_at_call 17; refine Calls.mono (s_call HN0.out hS (by simp [ay, aN] at hb ⊢; omega)) ?_; clear hS z0 z2 z3 z4 hxl hbl y0; rintro e W' ⟨rfl, hS, z0, z2, z3, z4, hxl, hbl⟩; have y0 := HK0.out W' hS.st.bel))
 go_end0
 exact bV hS (by simp [ay, aN])
theorem I9 (w0 : World) (B b : Nat) (lv : Value) (N : Nat) (hN : N <= 140737488355328) (G : Nat -> List (List UInt8)) (ka : Option Addr) (kc : Nat) (ps : Int) (pp : List Nat) (kz : Nat) (nm : ByteArray) (hnm : nm.data.toList ≠ []) (hem : nm.toList.isEmpty = false) 
  (hk : aO w0 B (.slice ka (pp ++ [kz]).length kc) ((pp ++ [kz]).map fun k : Nat => (k : Int))) (HC : ∀ k ∈ pp ++ [kz], NdC w0 B b lv N G k) :
  PrC w0 B b lv N 55 (ndA b ka kc (pp.length + 1) 20 ps 0 nm) ([[112, 114, 111, 103]] ++ [nm.data.toList] ++ ([[40]] ++ aU G pp ++ [[41]]) ++ fZ G ([] : List Nat) ++ G kz) := by
 intro W bs hst hb
 unfold ndA
 have hcap := dG hk
 obtain ⟨hcap1, hcap2⟩ := hcap
 unfold maxLen at hcap2
 try simp only [List.length_append, List.length_cons, List.length_nil, Nat.zero_add] at hcap1 hcap2
 obtain ⟨a1, c1, he1, hi1⟩ := eD hk (0) (pp.length) (by omega) (by simp) _ 0 rfl
 have hr1 : (((pp ++ [kz]).drop (0)).take ((pp.length) - (0))) = pp := by simp
 rw [hr1] at hi1
 have hsl1 : ∀ W, (Instr.slice 39 (.slice ka (pp.length + 1) kc) none (some (.int .i64 ((pp.length : Int)))) none).run Tryz.prog W = .ok (.slice a1 (pp).length c1) W := fun W => (pu W ka (pp.length + 1) kc (pp.length) (by omega)).trans (by rw [he1, show (pp.length) - (0) = (pp).length by simp])
 clear he1 hr1
 obtain ⟨a2, c2, he2, hi2⟩ := eD hk (pp.length) (pp.length) (by omega) (by simp) _ 0 rfl
 have hr2 : (((pp ++ [kz]).drop (pp.length)).take ((pp.length) - (pp.length))) = ([] : List Nat) := by simp
 rw [hr2] at hi2
 have hsl2 : ∀ W, (Instr.slice 39 (.slice ka (pp.length + 1) kc) (some (.int .i64 ((pp.length : Int)))) (some (.int .i64 ((pp.length : Int)))) none).run Tryz.prog W = .ok (.slice a2 (([] : List Nat)).length c2) W := fun W => (ww W ka (pp.length + 1) kc (pp.length) (pp.length) (by omega) (by omega)).trans (by rw [he2, show (pp.length) - (pp.length) = (([] : List Nat)).length by simp])
 clear he2 hr2
 have HList : Bx _ := ⟨fo w0 B b lv N hN G pp a1 c1 ⟨#[40]⟩ ⟨#[41]⟩ (by simp) (by simp) hi1 (fun k hk => HC k (by simp [hk]))⟩
 have HRes : Bx _ := ⟨ig w0 B b lv N hN G ([] : List Nat) a2 c2 hi2 (fun k hk => by cases hk)⟩
 try simp only [List.length_cons, List.length_nil, Nat.zero_add] at hsl2 HRes
 clear hi1 hi2
 obtain ⟨kb, ko, rfl, hkB, hcell⟩ := dM hk (by simp)
 have HK0 : Bx (∀ W, Below B w0 W -> W.cell? ⟨kb, ko + (pp.length), none⟩ = some (.int .i64 (kz : Int))) := ⟨fun W hb => by have := hcell W hb (pp.length) (by simp); simpa using this⟩
 have HN0 : Bx _ := ⟨HC kz (by simp)⟩
 clear hcell
 have hS := BxS.start hst 20 ps 0 (.slice (some ⟨kb, ko, none⟩) (pp.length + 1) kc) (.string nm)
 obtain ⟨_, _, z0, z2, z3, z4, hxl, hbl⟩ := hS.post
 have y0 := HK0.out _ hS.st.bel
 clear hk HC hst
 go_enter Tryz.func55, Tryz.ntmps55
 go_wp2_with (first
  | (go_at_call 49; refine Calls.mono (dn hN rfl (by simp) hS (by simp [bC, hnm]) (by decide) (by simp [ay, aN] at hb ⊢; omega)) ?_; clear hS z0 z2 z3 z4 hxl hbl y0; rintro e W' ⟨rfl, hS, z0, z2, z3, z4, hxl, hbl⟩; have y0 := HK0.out W' hS.st.bel)
  | (go_at_call 51; refine Calls.mono (s_call HList.out hS (by simp [ay, aN] at hb ⊢; omega)) ?_; clear hS z0 z2 z3 z4 hxl hbl y0; rintro e W' ⟨rfl, hS, z0, z2, z3, z4, hxl, hbl⟩; have y0 := HK0.out W' hS.st.bel)
  | (go_at_call 52; refine Calls.mono (s_call HRes.out hS (by simp [ay, aN] at hb ⊢; omega)) ?_; clear hS z0 z2 z3 z4 hxl hbl y0; rintro e W' ⟨rfl, hS, z0, z2, z3, z4, hxl, hbl⟩; have y0 := HK0.out W' hS.st.bel)
  | (go_at_call 17; refine Calls.mono (s_call HN0.out hS (by simp [ay, aN] at hb ⊢; omega)) ?_; clear hS z0 z2 z3 z4 hxl hbl y0; rintro e W' ⟨rfl, hS, z0, z2, z3, z4, hxl, hbl⟩; have y0 := HK0.out W' hS.st.bel))
 go_end0
 exact bV hS (by simp [ay, aN])
theorem Ja (w0 : World) (B b : Nat) (lv : Value) (N : Nat) (hN : N <= 140737488355328) (G : Nat -> List (List UInt8)) (ka : Option Addr) (kc : Nat) (ps : Int) (pp : List Nat) (kr : Nat) (kz : Nat) (nm : ByteArray) (hem : nm.toList.isEmpty = true) 
  (hk : aO w0 B (.slice ka (pp ++ [kr, kz]).length kc) ((pp ++ [kr, kz]).map fun k : Nat => (k : Int))) (HC : ∀ k ∈ pp ++ [kr, kz], NdC w0 B b lv N G k) :
  PrC w0 B b lv N 55 (ndA b ka kc (pp.length + 2) 20 ps 1 nm) ([[112, 114, 111, 103]] ++ ([[40]] ++ aU G pp ++ [[41]]) ++ fZ G [kr] ++ G kz) := by
 intro W bs hst hb
 unfold ndA
 have hcap := dG hk
 obtain ⟨hcap1, hcap2⟩ := hcap
 unfold maxLen at hcap2
 try simp only [List.length_append, List.length_cons, List.length_nil, Nat.zero_add] at hcap1 hcap2
 obtain ⟨a1, c1, he1, hi1⟩ := eD hk (0) (pp.length) (by omega) (by simp) _ 0 rfl
 have hr1 : (((pp ++ [kr, kz]).drop (0)).take ((pp.length) - (0))) = pp := by simp
 rw [hr1] at hi1
 have hsl1 : ∀ W, (Instr.slice 39 (.slice ka (pp.length + 2) kc) none (some (.int .i64 ((pp.length : Int)))) none).run Tryz.prog W = .ok (.slice a1 (pp).length c1) W := fun W => (pu W ka (pp.length + 2) kc (pp.length) (by omega)).trans (by rw [he1, show (pp.length) - (0) = (pp).length by simp])
 clear he1 hr1
 obtain ⟨a2, c2, he2, hi2⟩ := eD hk (pp.length) (pp.length + 1) (by omega) (by simp) _ 0 rfl
 have hr2 : (((pp ++ [kr, kz]).drop (pp.length)).take ((pp.length + 1) - (pp.length))) = [kr] := by simp
 rw [hr2] at hi2
 have hsl2 : ∀ W, (Instr.slice 39 (.slice ka (pp.length + 2) kc) (some (.int .i64 ((pp.length : Int)))) (some (.int .i64 ((pp.length : Int) + 1))) none).run Tryz.prog W = .ok (.slice a2 ([kr]).length c2) W := fun W => (ww W ka (pp.length + 2) kc (pp.length) (pp.length + 1) (by omega) (by omega)).trans (by rw [he2, show (pp.length + 1) - (pp.length) = ([kr]).length by simp])
 clear he2 hr2
 have HList : Bx _ := ⟨fo w0 B b lv N hN G pp a1 c1 ⟨#[40]⟩ ⟨#[41]⟩ (by simp) (by simp) hi1 (fun k hk => HC k (by simp [hk]))⟩
 have HRes : Bx _ := ⟨ig w0 B b lv N hN G [kr] a2 c2 hi2 (fun k hk => HC k (by simp at hk ⊢; simp [hk]))⟩
 try simp only [List.length_cons, List.length_nil, Nat.zero_add] at hsl2 HRes
 clear hi1 hi2
 obtain ⟨kb, ko, rfl, hkB, hcell⟩ := dM hk (by simp)
 have HK0 : Bx (∀ W, Below B w0 W -> W.cell? ⟨kb, ko + (pp.length + 1), none⟩ = some (.int .i64 (kz : Int))) := ⟨fun W hb => by have := hcell W hb (pp.length + 1) (by simp); simpa using this⟩
 have HN0 : Bx _ := ⟨HC kz (by simp)⟩
 clear hcell
 have hA1 : ((pp.length : Nat) : Int) + 2 - 1 = ((pp.length : Nat) : Int) + 1 := by omega
 have hS := BxS.start hst 20 ps 1 (.slice (some ⟨kb, ko, none⟩) (pp.length + 2) kc) (.string nm)
 obtain ⟨_, _, z0, z2, z3, z4, hxl, hbl⟩ := hS.post
 have y0 := HK0.out _ hS.st.bel
 clear hk HC hst
 go_enter Tryz.func55, Tryz.ntmps55
 go_wp2_with (first
  | (go_at_call 49; refine Calls.mono (dn hN rfl (by simp) hS (by simp [bC]) (by decide) (by simp [ay, aN] at hb ⊢; omega)) ?_; clear hS z0 z2 z3 z4 hxl hbl y0; rintro e W' ⟨rfl, hS, z0, z2, z3, z4, hxl, hbl⟩; have y0 := HK0.out W' hS.st.bel)
  | (go_at_call 51; refine Calls.mono (s_call HList.out hS (by simp [ay, aN] at hb ⊢; omega)) ?_; clear hS z0 z2 z3 z4 hxl hbl y0; rintro e W' ⟨rfl, hS, z0, z2, z3, z4, hxl, hbl⟩; have y0 := HK0.out W' hS.st.bel)
  | (go_at_call 52; refine Calls.mono (s_call HRes.out hS (by simp [ay, aN] at hb ⊢; omega)) ?_; clear hS z0 z2 z3 z4 hxl hbl y0; rintro e W' ⟨rfl, hS, z0, z2, z3, z4, hxl, hbl⟩; have y0 := HK0.out W' hS.st.bel)
  | (go_at_call 17; refine Calls.mono (s_call HN0.out hS (by simp [ay, aN] at hb ⊢; omega)) ?_; clear hS z0 z2 z3 z4 hxl hbl y0; rintro e W' ⟨rfl, hS, z0, z2, z3, z4, hxl, hbl⟩; have y0 := HK0.out W' hS.st.bel))
 go_end0
 exact bV hS (by simp [ay, aN])
theorem Jb (w0 : World) (B b : Nat) (lv : Value) (N : Nat) (hN : N <= 140737488355328) (G : Nat -> List (List UInt8)) (ka : Option Addr) (kc : Nat) (ps : Int) (pp : List Nat) (kr : Nat) (kz : Nat) (nm : ByteArray) (hnm : nm.data.toList ≠ []) (hem : nm.toList.isEmpty = false) 
  (hk : aO w0 B (.slice ka (pp ++ [kr, kz]).length kc) ((pp ++ [kr, kz]).map fun k : Nat => (k : Int))) (HC : ∀ k ∈ pp ++ [kr, kz], NdC w0 B b lv N G k) :
  PrC w0 B b lv N 55 (ndA b ka kc (pp.length + 2) 20 ps 1 nm) ([[112, 114, 111, 103]] ++ [nm.data.toList] ++ ([[40]] ++ aU G pp ++ [[41]]) ++ fZ G [kr] ++ G kz) := by
 intro W bs hst hb
 unfold ndA
 have hcap := dG hk
 obtain ⟨hcap1, hcap2⟩ := hcap
 unfold maxLen at hcap2
 try simp only [List.length_append, List.length_cons, List.length_nil, Nat.zero_add] at hcap1 hcap2
 obtain ⟨a1, c1, he1, hi1⟩ := eD hk (0) (pp.length) (by omega) (by simp) _ 0 rfl
 have hr1 : (((pp ++ [kr, kz]).drop (0)).take ((pp.length) - (0))) = pp := by simp
 rw [hr1] at hi1
 have hsl1 : ∀ W, (Instr.slice 39 (.slice ka (pp.length + 2) kc) none (some (.int .i64 ((pp.length : Int)))) none).run Tryz.prog W = .ok (.slice a1 (pp).length c1) W := fun W => (pu W ka (pp.length + 2) kc (pp.length) (by omega)).trans (by rw [he1, show (pp.length) - (0) = (pp).length by simp])
 clear he1 hr1
 obtain ⟨a2, c2, he2, hi2⟩ := eD hk (pp.length) (pp.length + 1) (by omega) (by simp) _ 0 rfl
 have hr2 : (((pp ++ [kr, kz]).drop (pp.length)).take ((pp.length + 1) - (pp.length))) = [kr] := by simp
 rw [hr2] at hi2
 have hsl2 : ∀ W, (Instr.slice 39 (.slice ka (pp.length + 2) kc) (some (.int .i64 ((pp.length : Int)))) (some (.int .i64 ((pp.length : Int) + 1))) none).run Tryz.prog W = .ok (.slice a2 ([kr]).length c2) W := fun W => (ww W ka (pp.length + 2) kc (pp.length) (pp.length + 1) (by omega) (by omega)).trans (by rw [he2, show (pp.length + 1) - (pp.length) = ([kr]).length by simp])
 clear he2 hr2
 have HList : Bx _ := ⟨fo w0 B b lv N hN G pp a1 c1 ⟨#[40]⟩ ⟨#[41]⟩ (by simp) (by simp) hi1 (fun k hk => HC k (by simp [hk]))⟩
 have HRes : Bx _ := ⟨ig w0 B b lv N hN G [kr] a2 c2 hi2 (fun k hk => HC k (by simp at hk ⊢; simp [hk]))⟩
 try simp only [List.length_cons, List.length_nil, Nat.zero_add] at hsl2 HRes
 clear hi1 hi2
 obtain ⟨kb, ko, rfl, hkB, hcell⟩ := dM hk (by simp)
 have HK0 : Bx (∀ W, Below B w0 W -> W.cell? ⟨kb, ko + (pp.length + 1), none⟩ = some (.int .i64 (kz : Int))) := ⟨fun W hb => by have := hcell W hb (pp.length + 1) (by simp); simpa using this⟩
 have HN0 : Bx _ := ⟨HC kz (by simp)⟩
 clear hcell
 have hA1 : ((pp.length : Nat) : Int) + 2 - 1 = ((pp.length : Nat) : Int) + 1 := by omega
 have hS := BxS.start hst 20 ps 1 (.slice (some ⟨kb, ko, none⟩) (pp.length + 2) kc) (.string nm)
 obtain ⟨_, _, z0, z2, z3, z4, hxl, hbl⟩ := hS.post
 have y0 := HK0.out _ hS.st.bel
 clear hk HC hst
 go_enter Tryz.func55, Tryz.ntmps55
 go_wp2_with (first
  | (go_at_call 49; refine Calls.mono (dn hN rfl (by simp) hS (by simp [bC, hnm]) (by decide) (by simp [ay, aN] at hb ⊢; omega)) ?_; clear hS z0 z2 z3 z4 hxl hbl y0; rintro e W' ⟨rfl, hS, z0, z2, z3, z4, hxl, hbl⟩; have y0 := HK0.out W' hS.st.bel)
  | (go_at_call 51; refine Calls.mono (s_call HList.out hS (by simp [ay, aN] at hb ⊢; omega)) ?_; clear hS z0 z2 z3 z4 hxl hbl y0; rintro e W' ⟨rfl, hS, z0, z2, z3, z4, hxl, hbl⟩; have y0 := HK0.out W' hS.st.bel)
  | (go_at_call 52; refine Calls.mono (s_call HRes.out hS (by simp [ay, aN] at hb ⊢; omega)) ?_; clear hS z0 z2 z3 z4 hxl hbl y0; rintro e W' ⟨rfl, hS, z0, z2, z3, z4, hxl, hbl⟩; have y0 := HK0.out W' hS.st.bel)
  | (go_at_call 17; refine Calls.mono (s_call HN0.out hS (by simp [ay, aN] at hb ⊢; omega)) ?_; clear hS z0 z2 z3 z4 hxl hbl y0; rintro e W' ⟨rfl, hS, z0, z2, z3, z4, hxl, hbl⟩; have y0 := HK0.out W' hS.st.bel))
 go_end0
 exact bV hS (by simp [ay, aN])
theorem Jv (w0 : World) (B b : Nat) (lv : Value) (N : Nat) (ka : Option Addr) (nk kc : Nat) (ps num : Int) (nm : ByteArray) (T : List (List UInt8)) (HP : PrC w0 B b lv N 55 (ndA b ka kc nk 20 ps num nm) T) :
  PrC w0 B b lv N 31 (ndA b ka kc nk 20 ps num nm) T := by
 intro W bs hst hb
 unfold ndA at *
 have hS := BxS.start hst 20 ps num (.slice ka nk kc) (.string nm)
 obtain ⟨_, _, z0, z2, z3, z4, hxl, hbl⟩ := hS.post
 obtain ⟨_, _, _, _, z1, _⟩ := dW hS.box
 have HC : Bx _ := ⟨s_call HP hS (by simpa using hb)⟩
 clear hst hS HP
 go_enter Tryz.func31, Tryz.ntmps31
 go_wp2_with (first
  | (go_at_call 55; refine Calls.mono HC.out ?_; rintro e W' ⟨rfl, hE, _⟩))
 go_end0
 exact bV hE (by simp)
theorem jk {xs : List UInt8} (h : bQ xs = true) : xs ≠ [] := by
 intro e
 subst e
 have := (ik h).2.2.2.1
 simp at this
theorem jR (nm : ByteArray) : nm.toList.isEmpty = nm.data.toList.isEmpty := by rw [ByteArray.toList_eq]
theorem Jc (kd : Int) (w0 : World) (B b nb no nc N L : Nat) (hN : N <= 140737488355328) (G : Nat -> List (List UInt8)) (k : Nat) (ps num : Int) (ka : Option Addr) (kc : Nat) (ks : List Nat) (nm : ByteArray) (f : Nat -> Int) (hnb : nb < B) (hL : L <= maxLen) (hk : k < L) (hLB : x8 w0 B) (hi : I64 num)
  (hc : w0.cell? ⟨nb, no + k * 5, none⟩ = some (.int .i64 kd) /\ w0.cell? ⟨nb, no + k * 5 + 1, none⟩ = some (.int .i64 ps) /\ w0.cell? ⟨nb, no + k * 5 + 2, none⟩ = some (.slice ka ks.length kc) /\ w0.cell? ⟨nb, no + k * 5 + 3, none⟩ = some (.string nm) /\ w0.cell? ⟨nb, no + k * 5 + 4, none⟩ = some (.int .i64 num))
  (hI : aO w0 B (.slice ka ks.length kc) (ks.map fun k : Nat => (k : Int))) (HC : ∀ k ∈ ks, NdC w0 B b (.slice (some ⟨nb, no, none⟩) L nc) N G k)
  (hnum : cu kd num ks.length = true) (hname : bN kd nm = true) (hfit : aA f kd num ks = true) (hG : G k = bA G kd num nm.data.toList ks) (hkind : gP kd = true) : NdC w0 B b (.slice (some ⟨nb, no, none⟩) L nc) N G k := by
 rcases j5 _ hkind with rfl | rfl | rfl | rfl | rfl | rfl | rfl | rfl | rfl | rfl | rfl | rfl | rfl | rfl | rfl | rfl | rfl | rfl | rfl | rfl | rfl | rfl | rfl | rfl | rfl | rfl | rfl | rfl | rfl | rfl | rfl | rfl | rfl | rfl | rfl | rfl | rfl | rfl
 ·refine iR w0 B b nb no nc N L k 1 ps num ka ks.length kc nm G hnb hL hk hc rfl ?_
  rw [hG, vT]
  exact MU w0 B b (.slice (some ⟨nb, no, none⟩) L nc) N hN G ka kc ps num ks nm hI HC
 ·refine iR w0 B b nb no nc N L k 2 ps num ka ks.length kc nm G hnb hL hk hc rfl ?_
  rw [hG, vU]
  exact MV w0 B b (.slice (some ⟨nb, no, none⟩) L nc) N hN G ka kc ps num ks nm hI HC
 ·have hne := jk (show bQ nm.data.toList = true from hname)
  refine iR w0 B b nb no nc N L k 3 ps num ka ks.length kc nm G hnb hL hk hc rfl ?_
  rw [hG, vV]
  exact MW w0 B b (.slice (some ⟨nb, no, none⟩) L nc) N hN G ka kc ps num ks nm hne hI HC
 ·refine iR w0 B b nb no nc N L k 4 ps num ka ks.length kc nm G hnb hL hk hc rfl ?_
  rw [hG, vW]
  exact MX w0 B b (.slice (some ⟨nb, no, none⟩) L nc) N hN G ka kc ps num ks nm hI HC
 ·refine iR w0 B b nb no nc N L k 5 ps num ka ks.length kc nm G hnb hL hk hc rfl ?_
  rw [hG, vX]
  exact MZ w0 B b (.slice (some ⟨nb, no, none⟩) L nc) N hN G ka kc ps num ks nm hI HC
 ·refine iR w0 B b nb no nc N L k 6 ps num ka ks.length kc nm G hnb hL hk hc rfl ?_
  rw [hG, vY]
  exact M0 w0 B b (.slice (some ⟨nb, no, none⟩) L nc) N hN G ka kc ps num ks nm hI HC
 ·have hnum : (num == 0 || (num == 1 && decide (0 < ks.length))) = true := hnum
  simp only [Bool.or_eq_true, Bool.and_eq_true, beq_iff_eq, decide_eq_true_eq] at hnum
  rcases hnum with rfl | ⟨rfl, h0⟩
  ·refine iR w0 B b nb no nc N L k 7 ps 0 ka ks.length kc nm G hnb hL hk hc rfl ?_
   have e : bA G 7 0 nm.data.toList ks = [[112, 114, 111, 103]] ++ ([[40]] ++ aU G ks ++ [[41]]) ++ fZ G [] := by rw [nO]; simp
   rw [hG, e]
   exact MK w0 B b (.slice (some ⟨nb, no, none⟩) L nc) N hN G ka kc ps ks nm hI HC
  ·obtain ⟨pp, kr, rfl⟩ : ∃ pp kr, ks = pp ++ [kr] := ⟨ks.dropLast, ks.getLast (by intro e; rw [e] at h0; simp at h0), (List.dropLast_concat_getLast _).symm⟩
   rw [show (pp ++ [kr]).length = pp.length + 1 by simp] at hc
   refine iR w0 B b nb no nc N L k 7 ps 1 ka (pp.length + 1) kc nm G hnb hL hk hc rfl ?_
   have e : bA G 7 1 nm.data.toList (pp ++ [kr]) = [[112, 114, 111, 103]] ++ ([[40]] ++ aU G pp ++ [[41]]) ++ fZ G [kr] := by rw [nO]; simp
   rw [hG, e]
   exact ML w0 B b (.slice (some ⟨nb, no, none⟩) L nc) N hN G ka kc ps pp kr nm hI HC
 ·refine dH w0 B b nb no nc N L k 11 ps num ka ks.length kc nm G hnb hL hk hc rfl rfl ?_
  rw [hG, rz]
  exact Mc w0 B b (.slice (some ⟨nb, no, none⟩) L nc) N hN G ka kc ps num ks nm hLB hi hI HC
 ·refine dH w0 B b nb no nc N L k 12 ps num ka ks.length kc nm G hnb hL hk hc rfl rfl ?_
  rw [hG, nP]
  exact Md w0 B b (.slice (some ⟨nb, no, none⟩) L nc) N hN G ka kc ps num ks nm hI HC
 ·have hne := jk (show bQ nm.data.toList = true from hname)
  refine dH w0 B b nb no nc N L k 13 ps num ka ks.length kc nm G hnb hL hk hc rfl rfl ?_
  rw [hG, rA]
  exact Me w0 B b (.slice (some ⟨nb, no, none⟩) L nc) N hN G ka kc ps num ks nm hne hI HC
 ·refine dH w0 B b nb no nc N L k 14 ps num ka ks.length kc nm G hnb hL hk hc rfl rfl ?_
  rw [hG, rC]
  exact Mf w0 B b (.slice (some ⟨nb, no, none⟩) L nc) N hN G ka kc ps num ks nm hI HC
 ·refine dH w0 B b nb no nc N L k 15 ps num ka ks.length kc nm G hnb hL hk hc rfl rfl ?_
  rw [hG, rD]
  exact Mg w0 B b (.slice (some ⟨nb, no, none⟩) L nc) N hN G ka kc ps num ks nm hI HC
 ·refine dH w0 B b nb no nc N L k 16 ps num ka ks.length kc nm G hnb hL hk hc rfl rfl ?_
  rw [hG, rE]
  exact Mh w0 B b (.slice (some ⟨nb, no, none⟩) L nc) N hN G ka kc ps num ks nm hI HC
 ·refine dH w0 B b nb no nc N L k 17 ps num ka ks.length kc nm G hnb hL hk hc rfl rfl ?_
  rw [hG, rF]
  exact Mi w0 B b (.slice (some ⟨nb, no, none⟩) L nc) N hN G ka kc ps num ks nm hI HC
 ·refine dH w0 B b nb no nc N L k 18 ps num ka ks.length kc nm G hnb hL hk hc rfl rfl ?_
  rw [hG, rG]
  exact Mj w0 B b (.slice (some ⟨nb, no, none⟩) L nc) N hN G ka kc ps num ks nm hI HC
 ·refine dH w0 B b nb no nc N L k 19 ps num ka ks.length kc nm G hnb hL hk hc rfl rfl ?_
  rw [hG, rH]
  exact Mk w0 B b (.slice (some ⟨nb, no, none⟩) L nc) N hN G ka kc ps num ks nm hI HC
 ·have hnum : (num == 0 || num == 1) = true := hnum
  simp only [Bool.or_eq_true, beq_iff_eq] at hnum
  unfold aA at hfit
  rcases hnum with rfl | rfl
  ·rw [kY _ _ _ (by decide)] at hfit
   obtain ⟨pp, kz, _, _, rfl⟩ := Jq hfit
   rw [show (pp ++ [kz]).length = pp.length + 1 by simp] at hc
   refine dH w0 B b nb no nc N L k 20 ps 0 ka (pp.length + 1) kc nm G hnb hL hk hc rfl rfl ?_
   refine Jv w0 B b _ N ka (pp.length + 1) kc ps 0 nm _ ?_
   by_cases h0 : nm.data.toList = []
   ·have hem : nm.toList.isEmpty = true := by rw [jR, h0]; rfl
    have e : bA G 20 0 nm.data.toList (pp ++ [kz]) = [[112, 114, 111, 103]] ++ ([[40]] ++ aU G pp ++ [[41]]) ++ fZ G ([] : List Nat) ++ G kz := by rw [jq, if_pos h0]; simp [aX]
    rw [hG, e]
    exact I8 w0 B b (.slice (some ⟨nb, no, none⟩) L nc) N hN G ka kc ps pp kz nm hem hI HC
   ·have hem : nm.toList.isEmpty = false := by rw [jR]; simpa using h0
    have e : bA G 20 0 nm.data.toList (pp ++ [kz]) = [[112, 114, 111, 103]] ++ [nm.data.toList] ++ ([[40]] ++ aU G pp ++ [[41]]) ++ fZ G ([] : List Nat) ++ G kz := by rw [jq, if_neg h0]; simp [aX]
    rw [hG, e]
    exact I9 w0 B b (.slice (some ⟨nb, no, none⟩) L nc) N hN G ka kc ps pp kz nm h0 hem hI HC
  ·rw [kX _ _ _ rfl] at hfit
   obtain ⟨pp, kr, kz, _, _, _, rfl⟩ := Jr hfit
   rw [show (pp ++ [kr, kz]).length = pp.length + 2 by simp] at hc
   have ed : (pp ++ [kr, kz]).drop (pp.length + 1) = [kz] := by rw [List.drop_append]; simp
   have et : (pp ++ [kr, kz]).take (pp.length + 1) = pp ++ [kr] := by rw [List.take_append, List.take_of_length_le (by omega)]; simp
   refine dH w0 B b nb no nc N L k 20 ps 1 ka (pp.length + 2) kc nm G hnb hL hk hc rfl rfl ?_
   refine Jv w0 B b _ N ka (pp.length + 2) kc ps 1 nm _ ?_
   by_cases h0 : nm.data.toList = []
   ·have hem : nm.toList.isEmpty = true := by rw [jR, h0]; rfl
    have e : bA G 20 1 nm.data.toList (pp ++ [kr, kz]) = [[112, 114, 111, 103]] ++ ([[40]] ++ aU G pp ++ [[41]]) ++ fZ G [kr] ++ G kz := by rw [jq, if_pos h0]; simp [aX, ed, et]
    rw [hG, e]
    exact Ja w0 B b (.slice (some ⟨nb, no, none⟩) L nc) N hN G ka kc ps pp kr kz nm hem hI HC
   ·have hem : nm.toList.isEmpty = false := by rw [jR]; simpa using h0
    have e : bA G 20 1 nm.data.toList (pp ++ [kr, kz]) = [[112, 114, 111, 103]] ++ [nm.data.toList] ++ ([[40]] ++ aU G pp ++ [[41]]) ++ fZ G [kr] ++ G kz := by rw [jq, if_neg h0]; simp [aX, ed, et]
    rw [hG, e]
    exact Jb w0 B b (.slice (some ⟨nb, no, none⟩) L nc) N hN G ka kc ps pp kr kz nm h0 hem hI HC
 ·refine dH w0 B b nb no nc N L k 21 ps num ka ks.length kc nm G hnb hL hk hc rfl rfl ?_
  rw [hG, rJ]
  exact Ml w0 B b (.slice (some ⟨nb, no, none⟩) L nc) N hN G ka kc ps num ks nm hI HC
 ·unfold aA at hfit
  rw [jX] at hfit
  obtain ⟨k0, k1, _, _, rfl⟩ := sM hfit
  refine dH w0 B b nb no nc N L k 22 ps num ka 2 kc nm G hnb hL hk hc rfl rfl ?_
  have e : bA G 22 num nm.data.toList [k0, k1] = G k0 ++ [opT num] ++ G k1 := by rw [rM]; simp [aX]
  rw [hG, e]
  exact MC w0 B b (.slice (some ⟨nb, no, none⟩) L nc) N hN G ka kc ps num k0 k1 nm hI HC
 ·unfold aA at hfit
  rw [jY] at hfit
  obtain ⟨k0, r, _, _, rfl⟩ := Fe hfit
  refine dH w0 B b nb no nc N L k 23 ps num ka (r.length + 1) kc nm G hnb hL hk hc rfl rfl ?_
  have e : bA G 23 num nm.data.toList (k0 :: r) = G k0 ++ ([[40]] ++ aU G r ++ [[41]]) := by rw [rO]; simp [aX]
  rw [hG, e]
  exact MH w0 B b (.slice (some ⟨nb, no, none⟩) L nc) N hN G ka kc ps num k0 r nm hI HC
 ·unfold aA at hfit
  rw [jZ] at hfit
  obtain ⟨k0, k1, _, _, rfl⟩ := sM hfit
  refine dH w0 B b nb no nc N L k 24 ps num ka ([k1].length + 1) kc nm G hnb hL hk hc rfl rfl ?_
  have e : bA G 24 num nm.data.toList (k0 :: [k1]) = G k0 ++ ([[91]] ++ aU G [k1] ++ [[93]]) := by rw [rP]; simp [aX]
  rw [hG, e]
  exact MI w0 B b (.slice (some ⟨nb, no, none⟩) L nc) N hN G ka kc ps num k0 [k1] nm hI HC
 ·unfold aA at hfit
  rw [j3] at hfit
  obtain ⟨k0, _, rfl⟩ := oI hfit
  refine dH w0 B b nb no nc N L k 25 ps num ka ([].length + 1) kc nm G hnb hL hk hc rfl rfl ?_
  have e : bA G 25 num nm.data.toList (k0 :: []) = G k0 ++ [[46], Lib.itoa num] := by rw [rQ]; simp [aX]
  rw [hG, e]
  exact MJ w0 B b (.slice (some ⟨nb, no, none⟩) L nc) N hN G ka kc ps num k0 [] nm hLB hi hI HC
 ·have hne := jk (show bQ nm.data.toList = true from hname)
  refine eH w0 B b nb no nc N L k 31 ps num ka ks.length kc nm G hnb hL hk hc rfl rfl rfl ?_
  rw [hG, rR]
  exact Mm w0 B b (.slice (some ⟨nb, no, none⟩) L nc) N hN G ka kc ps num ks nm hne hI HC
 ·have hne := jk (show bQ nm.data.toList = true from hname)
  unfold aA at hfit
  rw [mF] at hfit
  rcases Jo hfit with ⟨k0, _, rfl⟩ | ⟨k0, k1, _, _, rfl⟩
  ·refine eH w0 B b nb no nc N L k 32 ps num ka 1 kc nm G hnb hL hk hc rfl rfl rfl ?_
   have e : bA G 32 num nm.data.toList [k0] = [[118, 97, 114], nm.data.toList, [58]] ++ G k0 ++ [[59]] := by rw [lh]; simp [aX]
   rw [hG, e]
   exact KQ w0 B b (.slice (some ⟨nb, no, none⟩) L nc) N hN G ka kc ps num k0 nm hne hI HC
  ·refine eH w0 B b nb no nc N L k 32 ps num ka 2 kc nm G hnb hL hk hc rfl rfl rfl ?_
   have e : bA G 32 num nm.data.toList [k0, k1] = [[118, 97, 114], nm.data.toList, [58]] ++ G k0 ++ [[61]] ++ G k1 ++ [[59]] := by rw [lh]; simp [aX]
   rw [hG, e]
   exact KR w0 B b (.slice (some ⟨nb, no, none⟩) L nc) N hN G ka kc ps num k0 k1 nm hne hI HC
 ·unfold aA at hfit
  rw [mG] at hfit
  obtain ⟨k0, k1, _, _, rfl⟩ := sM hfit
  refine eH w0 B b nb no nc N L k 33 ps num ka 2 kc nm G hnb hL hk hc rfl rfl rfl ?_
  have e : bA G 33 num nm.data.toList [k0, k1] = G k0 ++ [[61]] ++ G k1 ++ [[59]] := by rw [rT]; simp [aX]
  rw [hG, e]
  exact ME w0 B b (.slice (some ⟨nb, no, none⟩) L nc) N hN G ka kc ps num k0 k1 nm hI HC
 ·unfold aA at hfit
  rw [mH] at hfit
  obtain ⟨k0, k1, _, _, rfl⟩ := sM hfit
  refine eH w0 B b nb no nc N L k 34 ps num ka 2 kc nm G hnb hL hk hc rfl rfl rfl ?_
  have e : bA G 34 num nm.data.toList [k0, k1] = G k0 ++ [[60, 45, 61]] ++ G k1 ++ [[59]] := by rw [rU]; simp [aX]
  rw [hG, e]
  exact MF w0 B b (.slice (some ⟨nb, no, none⟩) L nc) N hN G ka kc ps num k0 k1 nm hI HC
 ·refine eH w0 B b nb no nc N L k 35 ps num ka ks.length kc nm G hnb hL hk hc rfl rfl rfl ?_
  rw [hG, rV]
  exact Mo w0 B b (.slice (some ⟨nb, no, none⟩) L nc) N hN G ka kc ps num ks nm hI HC
 ·unfold aA at hfit
  rw [mI] at hfit
  rcases Jp hfit with ⟨k0, k1, _, _, rfl⟩ | ⟨k0, k1, k2, _, _, _, rfl⟩
  ·refine eH w0 B b nb no nc N L k 36 ps num ka 2 kc nm G hnb hL hk hc rfl rfl rfl ?_
   have e : bA G 36 num nm.data.toList [k0, k1] = [[105, 102]] ++ aX G [k0, k1] := by rw [ll]; simp [aX]
   rw [hG, e]
   exact KS w0 B b (.slice (some ⟨nb, no, none⟩) L nc) N hN G ka kc ps num k0 k1 nm hI HC
  ·refine eH w0 B b nb no nc N L k 36 ps num ka 3 kc nm G hnb hL hk hc rfl rfl rfl ?_
   have e : bA G 36 num nm.data.toList [k0, k1, k2] = [[105, 102]] ++ aX G [k0, k1] ++ [[101, 108, 115, 101]] ++ G k2 := by rw [ll]; simp [aX]
   rw [hG, e]
   exact KT w0 B b (.slice (some ⟨nb, no, none⟩) L nc) N hN G ka kc ps num k0 k1 k2 nm hI HC
 ·refine eH w0 B b nb no nc N L k 37 ps num ka ks.length kc nm G hnb hL hk hc rfl rfl rfl ?_
  rw [hG, rW]
  exact Mq w0 B b (.slice (some ⟨nb, no, none⟩) L nc) N hN G ka kc ps num ks nm hI HC
 ·refine eH w0 B b nb no nc N L k 38 ps num ka ks.length kc nm G hnb hL hk hc rfl rfl rfl ?_
  rw [hG, nQ]
  exact Mr w0 B b (.slice (some ⟨nb, no, none⟩) L nc) N hN G ka kc ps num ks nm hI HC
 ·refine eH w0 B b nb no nc N L k 39 ps num ka ks.length kc nm G hnb hL hk hc rfl rfl rfl ?_
  rw [hG, rX]
  exact Ms w0 B b (.slice (some ⟨nb, no, none⟩) L nc) N hN G ka kc ps num ks nm hI HC
 ·refine eH w0 B b nb no nc N L k 40 ps num ka ks.length kc nm G hnb hL hk hc rfl rfl rfl ?_
  rw [hG, rY]
  exact Mt w0 B b (.slice (some ⟨nb, no, none⟩) L nc) N hN G ka kc ps num ks nm hI HC
 ·refine eH w0 B b nb no nc N L k 41 ps num ka ks.length kc nm G hnb hL hk hc rfl rfl rfl ?_
  rw [hG, rZ]
  exact Mv w0 B b (.slice (some ⟨nb, no, none⟩) L nc) N hN G ka kc ps num ks nm hI HC
 ·have hne := jk (show bQ nm.data.toList = true from hname)
  refine iM w0 B b nb no nc N L k 42 ps num ka ks.length kc nm G hnb hL hk hc rfl rfl rfl ?_
  rw [hG, si]
  exact Mw w0 B b (.slice (some ⟨nb, no, none⟩) L nc) N hN G ka kc ps num ks nm hne hI HC
 ·by_cases h0 : nm.data.toList = []
  ·have hem : nm.toList.isEmpty = true := by rw [jR, h0]; rfl
   refine iM w0 B b nb no nc N L k 43 ps num ka ks.length kc nm G hnb hL hk hc rfl rfl rfl ?_
   have e : bA G 43 num nm.data.toList ks = [[99, 97, 115, 101]] ++ [[60, 45]] ++ aX G ks := by rw [lm, if_pos h0]; simp
   rw [hG, e]
   exact KV w0 B b (.slice (some ⟨nb, no, none⟩) L nc) N hN G ka kc ps num ks nm hem hI HC
  ·have hem : nm.toList.isEmpty = false := by rw [jR]; simpa using h0
   refine iM w0 B b nb no nc N L k 43 ps num ka ks.length kc nm G hnb hL hk hc rfl rfl rfl ?_
   have e : bA G 43 num nm.data.toList ks = [[99, 97, 115, 101]] ++ [nm.data.toList, [61]] ++ [[60, 45]] ++ aX G ks := by rw [lm, if_neg h0]
   rw [hG, e]
   exact KU w0 B b (.slice (some ⟨nb, no, none⟩) L nc) N hN G ka kc ps num ks nm h0 hem hI HC
 ·unfold aA at hfit
  rw [j4] at hfit
  obtain ⟨k0, k1, k2, _, _, _, rfl⟩ := L6 hfit
  refine iM w0 B b nb no nc N L k 44 ps num ka 3 kc nm G hnb hL hk hc rfl rfl rfl ?_
  have e : bA G 44 num nm.data.toList [k0, k1, k2] = [[99, 97, 115, 101]] ++ (G k0 ++ [[60, 45, 61]] ++ G k1) ++ G k2 := by rw [sj]; simp [aX]
  rw [hG, e]
  exact MG w0 B b (.slice (some ⟨nb, no, none⟩) L nc) N hN G ka kc ps num k0 k1 k2 nm hI HC
 ·have hne := jk (show bQ nm.data.toList = true from hname)
  refine iM w0 B b nb no nc N L k 45 ps num ka ks.length kc nm G hnb hL hk hc rfl rfl rfl ?_
  rw [hG, su]
  exact Mx w0 B b (.slice (some ⟨nb, no, none⟩) L nc) N hN G ka kc ps num ks nm hne hI HC
 ·refine iM w0 B b nb no nc N L k 46 ps num ka ks.length kc nm G hnb hL hk hc rfl rfl rfl ?_
  rw [hG, sw]
  exact MB w0 B b (.slice (some ⟨nb, no, none⟩) L nc) N hN G ka kc ps num ks nm hI HC
theorem KW {l : List Nd} (hok : (bG l).2 = 0) (w0 : World) (B b nb no nc N : Nat) (hN : N <= 140737488355328) (hn : gG w0 B nb no nc l) (hLB : x8 w0 B) : ∀ j, j < l.length -> NdC w0 B b (.slice (some ⟨nb, no, none⟩) l.length nc) N (dF l) j := by
 obtain ⟨hall, _, _⟩ := iY hok
 have hlow : ∀ j, j < l.length -> ∀ k ∈ dS l j, k < j := fun j hj => (hall j hj).low
 intro j
 induction j using Nat.strongRecOn with
 | _ j ih =>
  intro hj
  have h := hall j hj
  obtain ⟨ka, kc, ha⟩ := hn.at_ j hj
  have hlen : (ndN l j).kids.length = (dS l j).length := by simp [dS]
  have hI := ha.kids
  have hnat : (dS l j).map (fun k : Nat => (k : Int)) = (ndN l j).kids := h.nat
  rw [hlen] at hI
  rw [← hnat] at hI
  have hnum := h.num
  rw [hlen] at hnum
  refine Jc (ndN l j).kind w0 B b nb no nc N l.length hN (dF l) j (ndN l j).pos (ndN l j).num ka kc (dS l j) (ndN l j).name (kdN l) hn.lo hn.max hj hLB (hn.wf j hj).num
   ⟨ha.c0, ha.c1, by rw [← hlen]; exact ha.c2, ha.c3, ha.c4⟩ hI (fun k hk => ?_) hnum h.name h.fit (nR hlow hj) h.kind
  have := hlow j hj k hk
  exact ih k this (by omega)
end Go.Proofs.YtecodpdfckjalaaGreatDoor
