import Derived.Test.YtecodpdfckjalaaGreatDoorZTPe
import Derived.Test.YtecodpdfckjalaaGreatDoorZTB
import Derived.Test.YtecodpdfckjalaaGreatDoorZTTks
import Derived.Test.YtecodpdfckjalaaGreatDoorZTNd
import Derived.Test.YtecodpdfckjalaaGreatDoorZTPb
set_option linter.unusedVariables false
set_option linter.unusedSimpArgs false
set_option maxHeartbeats 4000000
set_option maxRecDepth 100000
namespace Go.Proofs.YtecodpdfckjalaaGreatDoor
open Go.RowKit
theorem Jw (w0 : World) (B b : Nat) (lv : Value) (N : Nat) (hN : N <= 140737488355328) (G : Nat -> List (List UInt8)) (ka : Option Addr) (kc : Nat) (ps num : Int) (k0 k1 : Nat) (nm : ByteArray) 
  (hk : aQ w0 B (.slice ka ([k0, k1]).length kc) (([k0, k1]).map fun k : Nat => (k : Int))) (HC : ∀ k ∈ [k0, k1], NdC w0 B b lv N G k) :
  PrC w0 B b lv N 33 (ndA b ka kc (2) 36 ps num nm) ([[105, 102]] ++ aS G [k0, k1]) := by
 intro W bs hst hb
 unfold ndA
 obtain ⟨kb, ko, rfl, hkB, hcell⟩ := dI hk (by simp)
 have hcap := dD hk
 obtain ⟨hcap1, hcap2⟩ := hcap
 unfold maxLen at hcap2
 try simp only [List.length_cons, List.length_nil, Nat.zero_add, Nat.reduceAdd] at hcap1 hcap2
 have HK0 : Bx (∀ W, Below B w0 W -> W.cell? ⟨kb, ko, none⟩ = some (.int .i64 (k0 : Int))) := ⟨fun W hb => hcell W hb 0 (by simp)⟩
 have hsk := dW hk 0 2 (by omega) (by simp) _ 0 rfl
 obtain ⟨a', c', he, hi1⟩ := hsk
 have hrr : ((([k0, k1]).drop 0).take (2 - 0)) = [k0, k1] := by simp
 rw [hrr] at hi1
 simp only [Nat.sub_zero] at he
 have hsl : ∀ W, (Instr.slice 39 (.slice (some ⟨kb, ko, none⟩) 2 kc) none (some (.int .i64 2)) none).run Tryz.prog W = .ok (.slice a' 2 c') W := fun W => (o5 W (some ⟨kb, ko, none⟩) 2 kc 2 (by omega)).trans (by rw [he])
 have HRow : Bx _ := ⟨dX w0 B b lv N G [k0, k1] a' c' hi1 (fun k hk => HC k (by simp at hk ⊢; omega))⟩
 simp only [List.length_cons, List.length_nil, Nat.zero_add, Nat.reduceAdd] at HRow
 clear he hi1 hrr
 have hS := BxS.start hst 36 ps num (.slice (some ⟨kb, ko, none⟩) (2) kc) (.string nm)
 obtain ⟨_, _, z0, z2, z3, z4, hxl, hbl⟩ := hS.post
 have y0 := HK0.out _ hS.st.bel
 have T0 : Bx True := ⟨trivial⟩
 have T1 : Bx True := ⟨trivial⟩
 clear hk HC hst hcell
 go_enter Tryz.func33, Tryz.ntmps33
 go_wp2_with (first
  | (go_at_call 49; refine Calls.mono (cB hN rfl (by simp) hS (by simp [bu]) (by decide) (by simp [ay, aK] at hb ⊢; omega)) ?_; clear hS z0 z2 z3 z4 hxl hbl y0; rintro e W' ⟨rfl, hS, z0, z2, z3, z4, hxl, hbl⟩; have y0 := HK0.out W' hS.st.bel)
  | (go_at_call 50; refine Calls.mono (s_call HRow.out hS (by simp [ay, aK] at hb ⊢; omega)) ?_; clear hS z0 z2 z3 z4 hxl hbl y0; rintro e W' ⟨rfl, hS, z0, z2, z3, z4, hxl, hbl⟩; have y0 := HK0.out W' hS.st.bel))
 go_end0
 exact bP hS (by simp [ay, aK])
theorem Jy (w0 : World) (B b : Nat) (lv : Value) (N : Nat) (hN : N <= 140737488355328) (G : Nat -> List (List UInt8)) (ka : Option Addr) (kc : Nat) (ps num : Int) (k0 k1 k2 : Nat) (nm : ByteArray) 
  (hk : aQ w0 B (.slice ka ([k0, k1, k2]).length kc) (([k0, k1, k2]).map fun k : Nat => (k : Int))) (HC : ∀ k ∈ [k0, k1, k2], NdC w0 B b lv N G k) :
  PrC w0 B b lv N 33 (ndA b ka kc (3) 36 ps num nm) ([[105, 102]] ++ aS G [k0, k1] ++ [[101, 108, 115, 101]] ++ G k2) := by
 intro W bs hst hb
 unfold ndA
 obtain ⟨kb, ko, rfl, hkB, hcell⟩ := dI hk (by simp)
 have hcap := dD hk
 obtain ⟨hcap1, hcap2⟩ := hcap
 unfold maxLen at hcap2
 try simp only [List.length_cons, List.length_nil, Nat.zero_add, Nat.reduceAdd] at hcap1 hcap2
 have HK0 : Bx (∀ W, Below B w0 W -> W.cell? ⟨kb, ko, none⟩ = some (.int .i64 (k0 : Int))) := ⟨fun W hb => hcell W hb 0 (by simp)⟩
 have HK1 : Bx (∀ W, Below B w0 W -> W.cell? ⟨kb, ko + 1, none⟩ = some (.int .i64 (k1 : Int))) := ⟨fun W hb => hcell W hb 1 (by simp)⟩
 have HK2 : Bx (∀ W, Below B w0 W -> W.cell? ⟨kb, ko + 2, none⟩ = some (.int .i64 (k2 : Int))) := ⟨fun W hb => hcell W hb 2 (by simp)⟩
 have hsk := dW hk 0 2 (by omega) (by simp) _ 0 rfl
 obtain ⟨a', c', he, hi1⟩ := hsk
 have hrr : ((([k0, k1, k2]).drop 0).take (2 - 0)) = [k0, k1] := by simp
 rw [hrr] at hi1
 simp only [Nat.sub_zero] at he
 have hsl : ∀ W, (Instr.slice 39 (.slice (some ⟨kb, ko, none⟩) 3 kc) none (some (.int .i64 2)) none).run Tryz.prog W = .ok (.slice a' 2 c') W := fun W => (o5 W (some ⟨kb, ko, none⟩) 3 kc 2 (by omega)).trans (by rw [he])
 have HRow : Bx _ := ⟨dX w0 B b lv N G [k0, k1] a' c' hi1 (fun k hk => HC k (by simp at hk ⊢; omega))⟩
 simp only [List.length_cons, List.length_nil, Nat.zero_add, Nat.reduceAdd] at HRow
 clear he hi1 hrr
 have HN2 : Bx _ := ⟨HC k2 (by simp)⟩
 have hS := BxS.start hst 36 ps num (.slice (some ⟨kb, ko, none⟩) (3) kc) (.string nm)
 obtain ⟨_, _, z0, z2, z3, z4, hxl, hbl⟩ := hS.post
 have y0 := HK0.out _ hS.st.bel
 have y1 := HK1.out _ hS.st.bel
 have y2 := HK2.out _ hS.st.bel
 have T0 : Bx True := ⟨trivial⟩
 have T1 : Bx True := ⟨trivial⟩
 clear hk HC hst hcell
 go_enter Tryz.func33, Tryz.ntmps33
 go_wp2_with (first
  | (go_at_call 49; refine Calls.mono (cB hN rfl (by simp) hS (by simp [bu]) (by decide) (by simp [ay, aK] at hb ⊢; omega)) ?_; clear hS z0 z2 z3 z4 hxl hbl y0 y1 y2; rintro e W' ⟨rfl, hS, z0, z2, z3, z4, hxl, hbl⟩; have y0 := HK0.out W' hS.st.bel; have y1 := HK1.out W' hS.st.bel; have y2 := HK2.out W' hS.st.bel)
  | (go_at_call 50; refine Calls.mono (s_call HRow.out hS (by simp [ay, aK] at hb ⊢; omega)) ?_; clear hS z0 z2 z3 z4 hxl hbl y0 y1 y2; rintro e W' ⟨rfl, hS, z0, z2, z3, z4, hxl, hbl⟩; have y0 := HK0.out W' hS.st.bel; have y1 := HK1.out W' hS.st.bel; have y2 := HK2.out W' hS.st.bel)
  | (go_at_call 17; refine Calls.mono (s_call HN2.out hS (by simp [ay, aK] at hb ⊢; omega)) ?_; clear hS z0 z2 z3 z4 hxl hbl y0 y1 y2; rintro e W' ⟨rfl, hS, z0, z2, z3, z4, hxl, hbl⟩; have y0 := HK0.out W' hS.st.bel; have y1 := HK1.out W' hS.st.bel; have y2 := HK2.out W' hS.st.bel))
 go_end0
 exact bP hS (by simp [ay, aK])
theorem Jz (w0 : World) (B b : Nat) (lv : Value) (N : Nat) (hN : N <= 140737488355328) (G : Nat -> List (List UInt8)) (ka : Option Addr) (kc : Nat) (ps num : Int) (ks : List Nat) (nm : ByteArray) (hnm : nm.data.toList ≠ []) (hem : nm.toList.isEmpty = false) 
  (hk : aQ w0 B (.slice ka (ks).length kc) ((ks).map fun k : Nat => (k : Int))) (HC : ∀ k ∈ ks, NdC w0 B b lv N G k) :
  PrC w0 B b lv N 34 (ndA b ka kc (ks.length) 43 ps num nm) ([[99, 97, 115, 101]] ++ [nm.data.toList, [61]] ++ [[60, 45]] ++ aS G ks) := by
 intro W bs hst hb
 unfold ndA
 have hcap := dD hk
 obtain ⟨hcap1, hcap2⟩ := hcap
 unfold maxLen at hcap2
 try simp only [List.length_cons, List.length_nil, Nat.zero_add, Nat.reduceAdd] at hcap1 hcap2
 have HRow : Bx _ := ⟨dX w0 B b lv N G ks ka kc hk HC⟩
 have hS := BxS.start hst 43 ps num (.slice ka (ks.length) kc) (.string nm)
 obtain ⟨_, _, z0, z2, z3, z4, hxl, hbl⟩ := hS.post
 have T0 : Bx True := ⟨trivial⟩
 have T1 : Bx True := ⟨trivial⟩
 clear hk HC hst
 go_enter Tryz.func34, Tryz.ntmps34
 go_wp2_with (first
  | (go_at_call 49; refine Calls.mono (cB hN rfl (by simp) hS (by simp [bu, hnm]) (by decide) (by simp [ay, aK] at hb ⊢; omega)) ?_; clear hS z0 z2 z3 z4 hxl hbl ; rintro e W' ⟨rfl, hS, z0, z2, z3, z4, hxl, hbl⟩)
  | (go_at_call 50; refine Calls.mono (s_call HRow.out hS (by simp [ay, aK] at hb ⊢; omega)) ?_; clear hS z0 z2 z3 z4 hxl hbl ; rintro e W' ⟨rfl, hS, z0, z2, z3, z4, hxl, hbl⟩))
 go_end0
 exact bP hS (by simp [ay, aK])
theorem JA (w0 : World) (B b : Nat) (lv : Value) (N : Nat) (hN : N <= 140737488355328) (G : Nat -> List (List UInt8)) (ka : Option Addr) (kc : Nat) (ps num : Int) (ks : List Nat) (nm : ByteArray) (hem : nm.toList.isEmpty = true) 
  (hk : aQ w0 B (.slice ka (ks).length kc) ((ks).map fun k : Nat => (k : Int))) (HC : ∀ k ∈ ks, NdC w0 B b lv N G k) :
  PrC w0 B b lv N 34 (ndA b ka kc (ks.length) 43 ps num nm) ([[99, 97, 115, 101]] ++ [[60, 45]] ++ aS G ks) := by
 intro W bs hst hb
 unfold ndA
 have hcap := dD hk
 obtain ⟨hcap1, hcap2⟩ := hcap
 unfold maxLen at hcap2
 try simp only [List.length_cons, List.length_nil, Nat.zero_add, Nat.reduceAdd] at hcap1 hcap2
 have HRow : Bx _ := ⟨dX w0 B b lv N G ks ka kc hk HC⟩
 have hS := BxS.start hst 43 ps num (.slice ka (ks.length) kc) (.string nm)
 obtain ⟨_, _, z0, z2, z3, z4, hxl, hbl⟩ := hS.post
 have T0 : Bx True := ⟨trivial⟩
 have T1 : Bx True := ⟨trivial⟩
 clear hk HC hst
 go_enter Tryz.func34, Tryz.ntmps34
 go_wp2_with (first
  | (go_at_call 49; refine Calls.mono (cB hN rfl (by simp) hS (by simp [bu]) (by decide) (by simp [ay, aK] at hb ⊢; omega)) ?_; clear hS z0 z2 z3 z4 hxl hbl ; rintro e W' ⟨rfl, hS, z0, z2, z3, z4, hxl, hbl⟩)
  | (go_at_call 50; refine Calls.mono (s_call HRow.out hS (by simp [ay, aK] at hb ⊢; omega)) ?_; clear hS z0 z2 z3 z4 hxl hbl ; rintro e W' ⟨rfl, hS, z0, z2, z3, z4, hxl, hbl⟩))
 go_end0
 exact bP hS (by simp [ay, aK])
theorem KI (w0 : World) (B b : Nat) (lv : Value) (N : Nat) (hN : N <= 140737488355328) (G : Nat -> List (List UInt8)) (ka : Option Addr) (kc : Nat) (ps : Int) (pp : List Nat) (nm : ByteArray) 
  (hk : aQ w0 B (.slice ka (pp).length kc) ((pp).map fun k : Nat => (k : Int))) (HC : ∀ k ∈ pp, NdC w0 B b lv N G k) :
  PrC w0 B b lv N 29 (ndA b ka kc (pp.length) 7 ps 0 nm) ([[112, 114, 111, 103]] ++ ([[40]] ++ aT G pp ++ [[41]]) ++ gX G []) := by
 intro W bs hst hb
 unfold ndA
 have hcap := dD hk
 obtain ⟨hcap1, hcap2⟩ := hcap
 unfold maxLen at hcap2
 try simp only [List.length_append, List.length_cons, List.length_nil, Nat.zero_add] at hcap1 hcap2
 obtain ⟨a1, c1, he1, hi1⟩ := dW hk (0) (pp.length) (by omega) (by simp) _ 0 rfl
 have hr1 : (((pp).drop (0)).take ((pp.length) - (0))) = pp := by simp
 rw [hr1] at hi1
 have hsl1 : ∀ W, (Instr.slice 39 (.slice ka (pp.length) kc) none (some (.int .i64 ((pp.length : Int)))) none).run Tryz.prog W = .ok (.slice a1 (pp).length c1) W := fun W => (o5 W ka (pp.length) kc (pp.length) (by omega)).trans (by rw [he1, show (pp.length) - (0) = (pp).length by simp])
 clear he1 hr1
 obtain ⟨a2, c2, he2, hi2⟩ := dW hk (pp.length) (pp.length) (by omega) (by simp) _ 0 rfl
 have hr2 : (((pp).drop (pp.length)).take ((pp.length) - (pp.length))) = ([] : List Nat) := by simp
 rw [hr2] at hi2
 have hsl2 : ∀ W, (Instr.slice 39 (.slice ka (pp.length) kc) (some (.int .i64 ((pp.length : Int)))) none none).run Tryz.prog W = .ok (.slice a2 (([] : List Nat)).length c2) W := fun W => (BJ W ka (pp.length) kc (pp.length) (by omega)).trans (by rw [he2, show (pp.length) - (pp.length) = (([] : List Nat)).length by simp])
 clear he2 hr2
 have HList : Bx _ := ⟨eY w0 B b lv N hN G pp a1 c1 ⟨#[40]⟩ ⟨#[41]⟩ (by simp) (by simp) hi1 (fun k hk => HC k (by simp [hk]))⟩
 have HRes : Bx _ := ⟨gU w0 B b lv N hN G [] a2 c2 hi2 (fun k hk => by cases hk)⟩
 try simp only [List.length_cons, List.length_nil, Nat.zero_add] at hsl2 HRes
 clear hi1 hi2
 have hS := BxS.start hst 7 ps 0 (.slice ka (pp.length) kc) (.string nm)
 obtain ⟨_, _, z0, z2, z3, z4, hxl, hbl⟩ := hS.post
 clear hk HC hst
 go_enter Tryz.func29, Tryz.ntmps29
 go_wp2_with (first
  | (go_at_call 49; refine Calls.mono (cB hN rfl (by simp) hS (by simp [bu]) (by decide) (by simp [ay, aK] at hb ⊢; omega)) ?_; clear hS z0 z2 z3 z4 hxl hbl ; rintro e W' ⟨rfl, hS, z0, z2, z3, z4, hxl, hbl⟩)
  | (go_at_call 51; refine Calls.mono (s_call HList.out hS (by simp [ay, aK] at hb ⊢; omega)) ?_; clear hS z0 z2 z3 z4 hxl hbl ; rintro e W' ⟨rfl, hS, z0, z2, z3, z4, hxl, hbl⟩)
  | (go_at_call 52; refine Calls.mono (s_call HRes.out hS (by simp [ay, aK] at hb ⊢; omega)) ?_; clear hS z0 z2 z3 z4 hxl hbl ; rintro e W' ⟨rfl, hS, z0, z2, z3, z4, hxl, hbl⟩))
 go_end0
 exact bP hS (by simp [ay, aK])
theorem KJ (w0 : World) (B b : Nat) (lv : Value) (N : Nat) (hN : N <= 140737488355328) (G : Nat -> List (List UInt8)) (ka : Option Addr) (kc : Nat) (ps : Int) (pp : List Nat) (kr : Nat) (nm : ByteArray) 
  (hk : aQ w0 B (.slice ka (pp ++ [kr]).length kc) ((pp ++ [kr]).map fun k : Nat => (k : Int))) (HC : ∀ k ∈ pp ++ [kr], NdC w0 B b lv N G k) :
  PrC w0 B b lv N 29 (ndA b ka kc (pp.length + 1) 7 ps 1 nm) ([[112, 114, 111, 103]] ++ ([[40]] ++ aT G pp ++ [[41]]) ++ gX G [kr]) := by
 intro W bs hst hb
 unfold ndA
 have hcap := dD hk
 obtain ⟨hcap1, hcap2⟩ := hcap
 unfold maxLen at hcap2
 try simp only [List.length_append, List.length_cons, List.length_nil, Nat.zero_add] at hcap1 hcap2
 obtain ⟨a1, c1, he1, hi1⟩ := dW hk (0) (pp.length) (by omega) (by simp) _ 0 rfl
 have hr1 : (((pp ++ [kr]).drop (0)).take ((pp.length) - (0))) = pp := by simp
 rw [hr1] at hi1
 have hsl1 : ∀ W, (Instr.slice 39 (.slice ka (pp.length + 1) kc) none (some (.int .i64 ((pp.length : Int)))) none).run Tryz.prog W = .ok (.slice a1 (pp).length c1) W := fun W => (o5 W ka (pp.length + 1) kc (pp.length) (by omega)).trans (by rw [he1, show (pp.length) - (0) = (pp).length by simp])
 clear he1 hr1
 obtain ⟨a2, c2, he2, hi2⟩ := dW hk (pp.length) (pp.length + 1) (by omega) (by simp) _ 0 rfl
 have hr2 : (((pp ++ [kr]).drop (pp.length)).take ((pp.length + 1) - (pp.length))) = [kr] := by simp
 rw [hr2] at hi2
 have hsl2 : ∀ W, (Instr.slice 39 (.slice ka (pp.length + 1) kc) (some (.int .i64 ((pp.length : Int)))) none none).run Tryz.prog W = .ok (.slice a2 ([kr]).length c2) W := fun W => (BJ W ka (pp.length + 1) kc (pp.length) (by omega)).trans (by rw [he2, show (pp.length + 1) - (pp.length) = ([kr]).length by simp])
 clear he2 hr2
 have HList : Bx _ := ⟨eY w0 B b lv N hN G pp a1 c1 ⟨#[40]⟩ ⟨#[41]⟩ (by simp) (by simp) hi1 (fun k hk => HC k (by simp [hk]))⟩
 have HRes : Bx _ := ⟨gU w0 B b lv N hN G [kr] a2 c2 hi2 (fun k hk => HC k (by simp at hk ⊢; simp [hk]))⟩
 try simp only [List.length_cons, List.length_nil, Nat.zero_add] at hsl2 HRes
 clear hi1 hi2
 have hS := BxS.start hst 7 ps 1 (.slice ka (pp.length + 1) kc) (.string nm)
 obtain ⟨_, _, z0, z2, z3, z4, hxl, hbl⟩ := hS.post
 clear hk HC hst
 go_enter Tryz.func29, Tryz.ntmps29
 go_wp2_with (first
  | (go_at_call 49; refine Calls.mono (cB hN rfl (by simp) hS (by simp [bu]) (by decide) (by simp [ay, aK] at hb ⊢; omega)) ?_; clear hS z0 z2 z3 z4 hxl hbl ; rintro e W' ⟨rfl, hS, z0, z2, z3, z4, hxl, hbl⟩)
  | (go_at_call 51; refine Calls.mono (s_call HList.out hS (by simp [ay, aK] at hb ⊢; omega)) ?_; clear hS z0 z2 z3 z4 hxl hbl ; rintro e W' ⟨rfl, hS, z0, z2, z3, z4, hxl, hbl⟩)
  | (go_at_call 52; refine Calls.mono (s_call HRes.out hS (by simp [ay, aK] at hb ⊢; omega)) ?_; clear hS z0 z2 z3 z4 hxl hbl ; rintro e W' ⟨rfl, hS, z0, z2, z3, z4, hxl, hbl⟩))
 go_end0
 exact bP hS (by simp [ay, aK])
theorem Ie (w0 : World) (B b : Nat) (lv : Value) (N : Nat) (hN : N <= 140737488355328) (G : Nat -> List (List UInt8)) (ka : Option Addr) (kc : Nat) (ps : Int) (pp : List Nat) (kz : Nat) (nm : ByteArray) (hem : nm.toList.isEmpty = true) 
  (hk : aQ w0 B (.slice ka (pp ++ [kz]).length kc) ((pp ++ [kz]).map fun k : Nat => (k : Int))) (HC : ∀ k ∈ pp ++ [kz], NdC w0 B b lv N G k) :
  PrC w0 B b lv N 55 (ndA b ka kc (pp.length + 1) 20 ps 0 nm) ([[112, 114, 111, 103]] ++ ([[40]] ++ aT G pp ++ [[41]]) ++ gX G ([] : List Nat) ++ G kz) := by
 intro W bs hst hb
 unfold ndA
 have hcap := dD hk
 obtain ⟨hcap1, hcap2⟩ := hcap
 unfold maxLen at hcap2
 try simp only [List.length_append, List.length_cons, List.length_nil, Nat.zero_add] at hcap1 hcap2
 obtain ⟨a1, c1, he1, hi1⟩ := dW hk (0) (pp.length) (by omega) (by simp) _ 0 rfl
 have hr1 : (((pp ++ [kz]).drop (0)).take ((pp.length) - (0))) = pp := by simp
 rw [hr1] at hi1
 have hsl1 : ∀ W, (Instr.slice 39 (.slice ka (pp.length + 1) kc) none (some (.int .i64 ((pp.length : Int)))) none).run Tryz.prog W = .ok (.slice a1 (pp).length c1) W := fun W => (o5 W ka (pp.length + 1) kc (pp.length) (by omega)).trans (by rw [he1, show (pp.length) - (0) = (pp).length by simp])
 clear he1 hr1
 obtain ⟨a2, c2, he2, hi2⟩ := dW hk (pp.length) (pp.length) (by omega) (by simp) _ 0 rfl
 have hr2 : (((pp ++ [kz]).drop (pp.length)).take ((pp.length) - (pp.length))) = ([] : List Nat) := by simp
 rw [hr2] at hi2
 have hsl2 : ∀ W, (Instr.slice 39 (.slice ka (pp.length + 1) kc) (some (.int .i64 ((pp.length : Int)))) (some (.int .i64 ((pp.length : Int)))) none).run Tryz.prog W = .ok (.slice a2 (([] : List Nat)).length c2) W := fun W => (vI W ka (pp.length + 1) kc (pp.length) (pp.length) (by omega) (by omega)).trans (by rw [he2, show (pp.length) - (pp.length) = (([] : List Nat)).length by simp])
 clear he2 hr2
 have HList : Bx _ := ⟨eY w0 B b lv N hN G pp a1 c1 ⟨#[40]⟩ ⟨#[41]⟩ (by simp) (by simp) hi1 (fun k hk => HC k (by simp [hk]))⟩
 have HRes : Bx _ := ⟨gU w0 B b lv N hN G ([] : List Nat) a2 c2 hi2 (fun k hk => by cases hk)⟩
 try simp only [List.length_cons, List.length_nil, Nat.zero_add] at hsl2 HRes
 clear hi1 hi2
 obtain ⟨kb, ko, rfl, hkB, hcell⟩ := dI hk (by simp)
 have HK0 : Bx (∀ W, Below B w0 W -> W.cell? ⟨kb, ko + (pp.length), none⟩ = some (.int .i64 (kz : Int))) := ⟨fun W hb => by have := hcell W hb (pp.length) (by simp); simpa using this⟩
 have HN0 : Bx _ := ⟨HC kz (by simp)⟩
 clear hcell
 have hS := BxS.start hst 20 ps 0 (.slice (some ⟨kb, ko, none⟩) (pp.length + 1) kc) (.string nm)
 obtain ⟨_, _, z0, z2, z3, z4, hxl, hbl⟩ := hS.post
 have y0 := HK0.out _ hS.st.bel
 clear hk HC hst
 go_enter Tryz.func55, Tryz.ntmps55
 go_wp2_with (first
  | (go_at_call 49; refine Calls.mono (cB hN rfl (by simp) hS (by simp [bu]) (by decide) (by simp [ay, aK] at hb ⊢; omega)) ?_; clear hS z0 z2 z3 z4 hxl hbl y0; rintro e W' ⟨rfl, hS, z0, z2, z3, z4, hxl, hbl⟩; have y0 := HK0.out W' hS.st.bel)
  | (go_at_call 51; refine Calls.mono (s_call HList.out hS (by simp [ay, aK] at hb ⊢; omega)) ?_; clear hS z0 z2 z3 z4 hxl hbl y0; rintro e W' ⟨rfl, hS, z0, z2, z3, z4, hxl, hbl⟩; have y0 := HK0.out W' hS.st.bel)
  | (go_at_call 52; refine Calls.mono (s_call HRes.out hS (by simp [ay, aK] at hb ⊢; omega)) ?_; clear hS z0 z2 z3 z4 hxl hbl y0; rintro e W' ⟨rfl, hS, z0, z2, z3, z4, hxl, hbl⟩; have y0 := HK0.out W' hS.st.bel)
  | (go_at_call 17; refine Calls.mono (s_call HN0.out hS (by simp [ay, aK] at hb ⊢; omega)) ?_; clear hS z0 z2 z3 z4 hxl hbl y0; rintro e W' ⟨rfl, hS, z0, z2, z3, z4, hxl, hbl⟩; have y0 := HK0.out W' hS.st.bel))
 go_end0
 exact bP hS (by simp [ay, aK])
theorem Ig (w0 : World) (B b : Nat) (lv : Value) (N : Nat) (hN : N <= 140737488355328) (G : Nat -> List (List UInt8)) (ka : Option Addr) (kc : Nat) (ps : Int) (pp : List Nat) (kz : Nat) (nm : ByteArray) (hnm : nm.data.toList ≠ []) (hem : nm.toList.isEmpty = false) 
  (hk : aQ w0 B (.slice ka (pp ++ [kz]).length kc) ((pp ++ [kz]).map fun k : Nat => (k : Int))) (HC : ∀ k ∈ pp ++ [kz], NdC w0 B b lv N G k) :
  PrC w0 B b lv N 55 (ndA b ka kc (pp.length + 1) 20 ps 0 nm) ([[112, 114, 111, 103]] ++ [nm.data.toList] ++ ([[40]] ++ aT G pp ++ [[41]]) ++ gX G ([] : List Nat) ++ G kz) := by
 intro W bs hst hb
 unfold ndA
 have hcap := dD hk
 obtain ⟨hcap1, hcap2⟩ := hcap
 unfold maxLen at hcap2
 try simp only [List.length_append, List.length_cons, List.length_nil, Nat.zero_add] at hcap1 hcap2
 obtain ⟨a1, c1, he1, hi1⟩ := dW hk (0) (pp.length) (by omega) (by simp) _ 0 rfl
 have hr1 : (((pp ++ [kz]).drop (0)).take ((pp.length) - (0))) = pp := by simp
 rw [hr1] at hi1
 have hsl1 : ∀ W, (Instr.slice 39 (.slice ka (pp.length + 1) kc) none (some (.int .i64 ((pp.length : Int)))) none).run Tryz.prog W = .ok (.slice a1 (pp).length c1) W := fun W => (o5 W ka (pp.length + 1) kc (pp.length) (by omega)).trans (by rw [he1, show (pp.length) - (0) = (pp).length by simp])
 clear he1 hr1
 obtain ⟨a2, c2, he2, hi2⟩ := dW hk (pp.length) (pp.length) (by omega) (by simp) _ 0 rfl
 have hr2 : (((pp ++ [kz]).drop (pp.length)).take ((pp.length) - (pp.length))) = ([] : List Nat) := by simp
 rw [hr2] at hi2
 have hsl2 : ∀ W, (Instr.slice 39 (.slice ka (pp.length + 1) kc) (some (.int .i64 ((pp.length : Int)))) (some (.int .i64 ((pp.length : Int)))) none).run Tryz.prog W = .ok (.slice a2 (([] : List Nat)).length c2) W := fun W => (vI W ka (pp.length + 1) kc (pp.length) (pp.length) (by omega) (by omega)).trans (by rw [he2, show (pp.length) - (pp.length) = (([] : List Nat)).length by simp])
 clear he2 hr2
 have HList : Bx _ := ⟨eY w0 B b lv N hN G pp a1 c1 ⟨#[40]⟩ ⟨#[41]⟩ (by simp) (by simp) hi1 (fun k hk => HC k (by simp [hk]))⟩
 have HRes : Bx _ := ⟨gU w0 B b lv N hN G ([] : List Nat) a2 c2 hi2 (fun k hk => by cases hk)⟩
 try simp only [List.length_cons, List.length_nil, Nat.zero_add] at hsl2 HRes
 clear hi1 hi2
 obtain ⟨kb, ko, rfl, hkB, hcell⟩ := dI hk (by simp)
 have HK0 : Bx (∀ W, Below B w0 W -> W.cell? ⟨kb, ko + (pp.length), none⟩ = some (.int .i64 (kz : Int))) := ⟨fun W hb => by have := hcell W hb (pp.length) (by simp); simpa using this⟩
 have HN0 : Bx _ := ⟨HC kz (by simp)⟩
 clear hcell
 have hS := BxS.start hst 20 ps 0 (.slice (some ⟨kb, ko, none⟩) (pp.length + 1) kc) (.string nm)
 obtain ⟨_, _, z0, z2, z3, z4, hxl, hbl⟩ := hS.post
 have y0 := HK0.out _ hS.st.bel
 clear hk HC hst
 go_enter Tryz.func55, Tryz.ntmps55
 go_wp2_with (first
  | (go_at_call 49; refine Calls.mono (cB hN rfl (by simp) hS (by simp [bu, hnm]) (by decide) (by simp [ay, aK] at hb ⊢; omega)) ?_; clear hS z0 z2 z3 z4 hxl hbl y0; rintro e W' ⟨rfl, hS, z0, z2, z3, z4, hxl, hbl⟩; have y0 := HK0.out W' hS.st.bel)
  | (go_at_call 51; refine Calls.mono (s_call HList.out hS (by simp [ay, aK] at hb ⊢; omega)) ?_; clear hS z0 z2 z3 z4 hxl hbl y0; rintro e W' ⟨rfl, hS, z0, z2, z3, z4, hxl, hbl⟩; have y0 := HK0.out W' hS.st.bel)
  | (go_at_call 52; refine Calls.mono (s_call HRes.out hS (by simp [ay, aK] at hb ⊢; omega)) ?_; clear hS z0 z2 z3 z4 hxl hbl y0; rintro e W' ⟨rfl, hS, z0, z2, z3, z4, hxl, hbl⟩; have y0 := HK0.out W' hS.st.bel)
  | (go_at_call 17; refine Calls.mono (s_call HN0.out hS (by simp [ay, aK] at hb ⊢; omega)) ?_; clear hS z0 z2 z3 z4 hxl hbl y0; rintro e W' ⟨rfl, hS, z0, z2, z3, z4, hxl, hbl⟩; have y0 := HK0.out W' hS.st.bel))
 go_end0
 exact bP hS (by simp [ay, aK])
theorem Ih (w0 : World) (B b : Nat) (lv : Value) (N : Nat) (hN : N <= 140737488355328) (G : Nat -> List (List UInt8)) (ka : Option Addr) (kc : Nat) (ps : Int) (pp : List Nat) (kr : Nat) (kz : Nat) (nm : ByteArray) (hem : nm.toList.isEmpty = true) 
  (hk : aQ w0 B (.slice ka (pp ++ [kr, kz]).length kc) ((pp ++ [kr, kz]).map fun k : Nat => (k : Int))) (HC : ∀ k ∈ pp ++ [kr, kz], NdC w0 B b lv N G k) :
  PrC w0 B b lv N 55 (ndA b ka kc (pp.length + 2) 20 ps 1 nm) ([[112, 114, 111, 103]] ++ ([[40]] ++ aT G pp ++ [[41]]) ++ gX G [kr] ++ G kz) := by
 intro W bs hst hb
 unfold ndA
 have hcap := dD hk
 obtain ⟨hcap1, hcap2⟩ := hcap
 unfold maxLen at hcap2
 try simp only [List.length_append, List.length_cons, List.length_nil, Nat.zero_add] at hcap1 hcap2
 obtain ⟨a1, c1, he1, hi1⟩ := dW hk (0) (pp.length) (by omega) (by simp) _ 0 rfl
 have hr1 : (((pp ++ [kr, kz]).drop (0)).take ((pp.length) - (0))) = pp := by simp
 rw [hr1] at hi1
 have hsl1 : ∀ W, (Instr.slice 39 (.slice ka (pp.length + 2) kc) none (some (.int .i64 ((pp.length : Int)))) none).run Tryz.prog W = .ok (.slice a1 (pp).length c1) W := fun W => (o5 W ka (pp.length + 2) kc (pp.length) (by omega)).trans (by rw [he1, show (pp.length) - (0) = (pp).length by simp])
 clear he1 hr1
 obtain ⟨a2, c2, he2, hi2⟩ := dW hk (pp.length) (pp.length + 1) (by omega) (by simp) _ 0 rfl
 have hr2 : (((pp ++ [kr, kz]).drop (pp.length)).take ((pp.length + 1) - (pp.length))) = [kr] := by simp
 rw [hr2] at hi2
 have hsl2 : ∀ W, (Instr.slice 39 (.slice ka (pp.length + 2) kc) (some (.int .i64 ((pp.length : Int)))) (some (.int .i64 ((pp.length : Int) + 1))) none).run Tryz.prog W = .ok (.slice a2 ([kr]).length c2) W := fun W => (vI W ka (pp.length + 2) kc (pp.length) (pp.length + 1) (by omega) (by omega)).trans (by rw [he2, show (pp.length + 1) - (pp.length) = ([kr]).length by simp])
 clear he2 hr2
 have HList : Bx _ := ⟨eY w0 B b lv N hN G pp a1 c1 ⟨#[40]⟩ ⟨#[41]⟩ (by simp) (by simp) hi1 (fun k hk => HC k (by simp [hk]))⟩
 have HRes : Bx _ := ⟨gU w0 B b lv N hN G [kr] a2 c2 hi2 (fun k hk => HC k (by simp at hk ⊢; simp [hk]))⟩
 try simp only [List.length_cons, List.length_nil, Nat.zero_add] at hsl2 HRes
 clear hi1 hi2
 obtain ⟨kb, ko, rfl, hkB, hcell⟩ := dI hk (by simp)
 have HK0 : Bx (∀ W, Below B w0 W -> W.cell? ⟨kb, ko + (pp.length + 1), none⟩ = some (.int .i64 (kz : Int))) := ⟨fun W hb => by have := hcell W hb (pp.length + 1) (by simp); simpa using this⟩
 have HN0 : Bx _ := ⟨HC kz (by simp)⟩
 clear hcell
 have hA1 : ((pp.length : Nat) : Int) + 2 - 1 = ((pp.length : Nat) : Int) + 1 := by omega
 have hS := BxS.start hst 20 ps 1 (.slice (some ⟨kb, ko, none⟩) (pp.length + 2) kc) (.string nm)
 obtain ⟨_, _, z0, z2, z3, z4, hxl, hbl⟩ := hS.post
 have y0 := HK0.out _ hS.st.bel
 clear hk HC hst
 go_enter Tryz.func55, Tryz.ntmps55
 go_wp2_with (first
  | (go_at_call 49; refine Calls.mono (cB hN rfl (by simp) hS (by simp [bu]) (by decide) (by simp [ay, aK] at hb ⊢; omega)) ?_; clear hS z0 z2 z3 z4 hxl hbl y0; rintro e W' ⟨rfl, hS, z0, z2, z3, z4, hxl, hbl⟩; have y0 := HK0.out W' hS.st.bel)
  | (go_at_call 51; refine Calls.mono (s_call HList.out hS (by simp [ay, aK] at hb ⊢; omega)) ?_; clear hS z0 z2 z3 z4 hxl hbl y0; rintro e W' ⟨rfl, hS, z0, z2, z3, z4, hxl, hbl⟩; have y0 := HK0.out W' hS.st.bel)
  | (go_at_call 52; refine Calls.mono (s_call HRes.out hS (by simp [ay, aK] at hb ⊢; omega)) ?_; clear hS z0 z2 z3 z4 hxl hbl y0; rintro e W' ⟨rfl, hS, z0, z2, z3, z4, hxl, hbl⟩; have y0 := HK0.out W' hS.st.bel)
  | (go_at_call 17; refine Calls.mono (s_call HN0.out hS (by simp [ay, aK] at hb ⊢; omega)) ?_; clear hS z0 z2 z3 z4 hxl hbl y0; rintro e W' ⟨rfl, hS, z0, z2, z3, z4, hxl, hbl⟩; have y0 := HK0.out W' hS.st.bel))
 go_end0
 exact bP hS (by simp [ay, aK])
theorem Ii (w0 : World) (B b : Nat) (lv : Value) (N : Nat) (hN : N <= 140737488355328) (G : Nat -> List (List UInt8)) (ka : Option Addr) (kc : Nat) (ps : Int) (pp : List Nat) (kr : Nat) (kz : Nat) (nm : ByteArray) (hnm : nm.data.toList ≠ []) (hem : nm.toList.isEmpty = false) 
  (hk : aQ w0 B (.slice ka (pp ++ [kr, kz]).length kc) ((pp ++ [kr, kz]).map fun k : Nat => (k : Int))) (HC : ∀ k ∈ pp ++ [kr, kz], NdC w0 B b lv N G k) :
  PrC w0 B b lv N 55 (ndA b ka kc (pp.length + 2) 20 ps 1 nm) ([[112, 114, 111, 103]] ++ [nm.data.toList] ++ ([[40]] ++ aT G pp ++ [[41]]) ++ gX G [kr] ++ G kz) := by
 intro W bs hst hb
 unfold ndA
 have hcap := dD hk
 obtain ⟨hcap1, hcap2⟩ := hcap
 unfold maxLen at hcap2
 try simp only [List.length_append, List.length_cons, List.length_nil, Nat.zero_add] at hcap1 hcap2
 obtain ⟨a1, c1, he1, hi1⟩ := dW hk (0) (pp.length) (by omega) (by simp) _ 0 rfl
 have hr1 : (((pp ++ [kr, kz]).drop (0)).take ((pp.length) - (0))) = pp := by simp
 rw [hr1] at hi1
 have hsl1 : ∀ W, (Instr.slice 39 (.slice ka (pp.length + 2) kc) none (some (.int .i64 ((pp.length : Int)))) none).run Tryz.prog W = .ok (.slice a1 (pp).length c1) W := fun W => (o5 W ka (pp.length + 2) kc (pp.length) (by omega)).trans (by rw [he1, show (pp.length) - (0) = (pp).length by simp])
 clear he1 hr1
 obtain ⟨a2, c2, he2, hi2⟩ := dW hk (pp.length) (pp.length + 1) (by omega) (by simp) _ 0 rfl
 have hr2 : (((pp ++ [kr, kz]).drop (pp.length)).take ((pp.length + 1) - (pp.length))) = [kr] := by simp
 rw [hr2] at hi2
 have hsl2 : ∀ W, (Instr.slice 39 (.slice ka (pp.length + 2) kc) (some (.int .i64 ((pp.length : Int)))) (some (.int .i64 ((pp.length : Int) + 1))) none).run Tryz.prog W = .ok (.slice a2 ([kr]).length c2) W := fun W => (vI W ka (pp.length + 2) kc (pp.length) (pp.length + 1) (by omega) (by omega)).trans (by rw [he2, show (pp.length + 1) - (pp.length) = ([kr]).length by simp])
 clear he2 hr2
 have HList : Bx _ := ⟨eY w0 B b lv N hN G pp a1 c1 ⟨#[40]⟩ ⟨#[41]⟩ (by simp) (by simp) hi1 (fun k hk => HC k (by simp [hk]))⟩
 have HRes : Bx _ := ⟨gU w0 B b lv N hN G [kr] a2 c2 hi2 (fun k hk => HC k (by simp at hk ⊢; simp [hk]))⟩
 try simp only [List.length_cons, List.length_nil, Nat.zero_add] at hsl2 HRes
 clear hi1 hi2
 obtain ⟨kb, ko, rfl, hkB, hcell⟩ := dI hk (by simp)
 have HK0 : Bx (∀ W, Below B w0 W -> W.cell? ⟨kb, ko + (pp.length + 1), none⟩ = some (.int .i64 (kz : Int))) := ⟨fun W hb => by have := hcell W hb (pp.length + 1) (by simp); simpa using this⟩
 have HN0 : Bx _ := ⟨HC kz (by simp)⟩
 clear hcell
 have hA1 : ((pp.length : Nat) : Int) + 2 - 1 = ((pp.length : Nat) : Int) + 1 := by omega
 have hS := BxS.start hst 20 ps 1 (.slice (some ⟨kb, ko, none⟩) (pp.length + 2) kc) (.string nm)
 obtain ⟨_, _, z0, z2, z3, z4, hxl, hbl⟩ := hS.post
 have y0 := HK0.out _ hS.st.bel
 clear hk HC hst
 go_enter Tryz.func55, Tryz.ntmps55
 go_wp2_with (first
  | (go_at_call 49; refine Calls.mono (cB hN rfl (by simp) hS (by simp [bu, hnm]) (by decide) (by simp [ay, aK] at hb ⊢; omega)) ?_; clear hS z0 z2 z3 z4 hxl hbl y0; rintro e W' ⟨rfl, hS, z0, z2, z3, z4, hxl, hbl⟩; have y0 := HK0.out W' hS.st.bel)
  | (go_at_call 51; refine Calls.mono (s_call HList.out hS (by simp [ay, aK] at hb ⊢; omega)) ?_; clear hS z0 z2 z3 z4 hxl hbl y0; rintro e W' ⟨rfl, hS, z0, z2, z3, z4, hxl, hbl⟩; have y0 := HK0.out W' hS.st.bel)
  | (go_at_call 52; refine Calls.mono (s_call HRes.out hS (by simp [ay, aK] at hb ⊢; omega)) ?_; clear hS z0 z2 z3 z4 hxl hbl y0; rintro e W' ⟨rfl, hS, z0, z2, z3, z4, hxl, hbl⟩; have y0 := HK0.out W' hS.st.bel)
  | (go_at_call 17; refine Calls.mono (s_call HN0.out hS (by simp [ay, aK] at hb ⊢; omega)) ?_; clear hS z0 z2 z3 z4 hxl hbl y0; rintro e W' ⟨rfl, hS, z0, z2, z3, z4, hxl, hbl⟩; have y0 := HK0.out W' hS.st.bel))
 go_end0
 exact bP hS (by simp [ay, aK])
theorem Iy (w0 : World) (B b : Nat) (lv : Value) (N : Nat) (ka : Option Addr) (nk kc : Nat) (ps num : Int) (nm : ByteArray) (T : List (List UInt8)) (HP : PrC w0 B b lv N 55 (ndA b ka kc nk 20 ps num nm) T) :
  PrC w0 B b lv N 31 (ndA b ka kc nk 20 ps num nm) T := by
 intro W bs hst hb
 unfold ndA at *
 have hS := BxS.start hst 20 ps num (.slice ka nk kc) (.string nm)
 obtain ⟨_, _, z0, z2, z3, z4, hxl, hbl⟩ := hS.post
 obtain ⟨_, _, _, _, z1, _⟩ := dP hS.box
 have HC : Bx _ := ⟨s_call HP hS (by simpa using hb)⟩
 clear hst hS HP
 go_enter Tryz.func31, Tryz.ntmps31
 go_wp2_with (first
  | (go_at_call 55; refine Calls.mono HC.out ?_; rintro e W' ⟨rfl, hE, _⟩))
 go_end0
 exact bP hE (by simp)
theorem jg {xs : List UInt8} (h : bR xs = true) : xs ≠ [] := by
 intro e
 subst e
 have := (jy h).2.2.2.1
 simp at this
theorem jO (nm : ByteArray) : nm.toList.isEmpty = nm.data.toList.isEmpty := by rw [ByteArray.toList_eq]
theorem Ij (kd : Int) (w0 : World) (B b nb no nc N L : Nat) (hN : N <= 140737488355328) (G : Nat -> List (List UInt8)) (k : Nat) (ps num : Int) (ka : Option Addr) (kc : Nat) (ks : List Nat) (nm : ByteArray) (f : Nat -> Int) (hnb : nb < B) (hL : L <= maxLen) (hk : k < L) (hLB : yw w0 B) (hi : I64 num)
  (hc : w0.cell? ⟨nb, no + k * 5, none⟩ = some (.int .i64 kd) /\ w0.cell? ⟨nb, no + k * 5 + 1, none⟩ = some (.int .i64 ps) /\ w0.cell? ⟨nb, no + k * 5 + 2, none⟩ = some (.slice ka ks.length kc) /\ w0.cell? ⟨nb, no + k * 5 + 3, none⟩ = some (.string nm) /\ w0.cell? ⟨nb, no + k * 5 + 4, none⟩ = some (.int .i64 num))
  (hI : aQ w0 B (.slice ka ks.length kc) (ks.map fun k : Nat => (k : Int))) (HC : ∀ k ∈ ks, NdC w0 B b (.slice (some ⟨nb, no, none⟩) L nc) N G k)
  (hnum : bz kd num ks.length = true) (hname : bI kd nm = true) (hfit : aD f kd num ks = true) (hG : G k = bq G kd num nm.data.toList ks) (hkind : fZ kd = true) : NdC w0 B b (.slice (some ⟨nb, no, none⟩) L nc) N G k := by
 rcases mg _ hkind with rfl | rfl | rfl | rfl | rfl | rfl | rfl | rfl | rfl | rfl | rfl | rfl | rfl | rfl | rfl | rfl | rfl | rfl | rfl | rfl | rfl | rfl | rfl | rfl | rfl | rfl | rfl | rfl | rfl | rfl | rfl | rfl | rfl | rfl | rfl | rfl | rfl | rfl
 ·refine iL w0 B b nb no nc N L k 1 ps num ka ks.length kc nm G hnb hL hk hc rfl ?_
  rw [hG, Bb]
  exact KS w0 B b (.slice (some ⟨nb, no, none⟩) L nc) N hN G ka kc ps num ks nm hI HC
 ·refine iL w0 B b nb no nc N L k 2 ps num ka ks.length kc nm G hnb hL hk hc rfl ?_
  rw [hG, Bc]
  exact KT w0 B b (.slice (some ⟨nb, no, none⟩) L nc) N hN G ka kc ps num ks nm hI HC
 ·have hne := jg (show bR nm.data.toList = true from hname)
  refine iL w0 B b nb no nc N L k 3 ps num ka ks.length kc nm G hnb hL hk hc rfl ?_
  rw [hG, Bd]
  exact KU w0 B b (.slice (some ⟨nb, no, none⟩) L nc) N hN G ka kc ps num ks nm hne hI HC
 ·refine iL w0 B b nb no nc N L k 4 ps num ka ks.length kc nm G hnb hL hk hc rfl ?_
  rw [hG, Be]
  exact KV w0 B b (.slice (some ⟨nb, no, none⟩) L nc) N hN G ka kc ps num ks nm hI HC
 ·refine iL w0 B b nb no nc N L k 5 ps num ka ks.length kc nm G hnb hL hk hc rfl ?_
  rw [hG, Bf]
  exact KW w0 B b (.slice (some ⟨nb, no, none⟩) L nc) N hN G ka kc ps num ks nm hI HC
 ·refine iL w0 B b nb no nc N L k 6 ps num ka ks.length kc nm G hnb hL hk hc rfl ?_
  rw [hG, Bg]
  exact KX w0 B b (.slice (some ⟨nb, no, none⟩) L nc) N hN G ka kc ps num ks nm hI HC
 ·have hnum : (num == 0 || (num == 1 && decide (0 < ks.length))) = true := hnum
  simp only [Bool.or_eq_true, Bool.and_eq_true, beq_iff_eq, decide_eq_true_eq] at hnum
  rcases hnum with rfl | ⟨rfl, h0⟩
  ·refine iL w0 B b nb no nc N L k 7 ps 0 ka ks.length kc nm G hnb hL hk hc rfl ?_
   have e : bq G 7 0 nm.data.toList ks = [[112, 114, 111, 103]] ++ ([[40]] ++ aT G ks ++ [[41]]) ++ gX G [] := by rw [uH]; simp
   rw [hG, e]
   exact KI w0 B b (.slice (some ⟨nb, no, none⟩) L nc) N hN G ka kc ps ks nm hI HC
  ·obtain ⟨pp, kr, rfl⟩ : ∃ pp kr, ks = pp ++ [kr] := ⟨ks.dropLast, ks.getLast (by intro e; rw [e] at h0; simp at h0), (List.dropLast_concat_getLast _).symm⟩
   rw [show (pp ++ [kr]).length = pp.length + 1 by simp] at hc
   refine iL w0 B b nb no nc N L k 7 ps 1 ka (pp.length + 1) kc nm G hnb hL hk hc rfl ?_
   have e : bq G 7 1 nm.data.toList (pp ++ [kr]) = [[112, 114, 111, 103]] ++ ([[40]] ++ aT G pp ++ [[41]]) ++ gX G [kr] := by rw [uH]; simp
   rw [hG, e]
   exact KJ w0 B b (.slice (some ⟨nb, no, none⟩) L nc) N hN G ka kc ps pp kr nm hI HC
 ·refine dE w0 B b nb no nc N L k 11 ps num ka ks.length kc nm G hnb hL hk hc rfl rfl ?_
  rw [hG, wG]
  exact J9 w0 B b (.slice (some ⟨nb, no, none⟩) L nc) N hN G ka kc ps num ks nm hLB hi hI HC
 ·refine dE w0 B b nb no nc N L k 12 ps num ka ks.length kc nm G hnb hL hk hc rfl rfl ?_
  rw [hG, wH]
  exact Ka w0 B b (.slice (some ⟨nb, no, none⟩) L nc) N hN G ka kc ps num ks nm hI HC
 ·have hne := jg (show bR nm.data.toList = true from hname)
  refine dE w0 B b nb no nc N L k 13 ps num ka ks.length kc nm G hnb hL hk hc rfl rfl ?_
  rw [hG, wI]
  exact Kb w0 B b (.slice (some ⟨nb, no, none⟩) L nc) N hN G ka kc ps num ks nm hne hI HC
 ·refine dE w0 B b nb no nc N L k 14 ps num ka ks.length kc nm G hnb hL hk hc rfl rfl ?_
  rw [hG, wJ]
  exact Kc w0 B b (.slice (some ⟨nb, no, none⟩) L nc) N hN G ka kc ps num ks nm hI HC
 ·refine dE w0 B b nb no nc N L k 15 ps num ka ks.length kc nm G hnb hL hk hc rfl rfl ?_
  rw [hG, wK]
  exact Ke w0 B b (.slice (some ⟨nb, no, none⟩) L nc) N hN G ka kc ps num ks nm hI HC
 ·refine dE w0 B b nb no nc N L k 16 ps num ka ks.length kc nm G hnb hL hk hc rfl rfl ?_
  rw [hG, wL]
  exact Kg w0 B b (.slice (some ⟨nb, no, none⟩) L nc) N hN G ka kc ps num ks nm hI HC
 ·refine dE w0 B b nb no nc N L k 17 ps num ka ks.length kc nm G hnb hL hk hc rfl rfl ?_
  rw [hG, wM]
  exact Kh w0 B b (.slice (some ⟨nb, no, none⟩) L nc) N hN G ka kc ps num ks nm hI HC
 ·refine dE w0 B b nb no nc N L k 18 ps num ka ks.length kc nm G hnb hL hk hc rfl rfl ?_
  rw [hG, wN]
  exact Ki w0 B b (.slice (some ⟨nb, no, none⟩) L nc) N hN G ka kc ps num ks nm hI HC
 ·refine dE w0 B b nb no nc N L k 19 ps num ka ks.length kc nm G hnb hL hk hc rfl rfl ?_
  rw [hG, wO]
  exact Kj w0 B b (.slice (some ⟨nb, no, none⟩) L nc) N hN G ka kc ps num ks nm hI HC
 ·have hnum : (num == 0 || num == 1) = true := hnum
  simp only [Bool.or_eq_true, beq_iff_eq] at hnum
  unfold aD at hfit
  rcases hnum with rfl | rfl
  ·rw [oI _ _ _ (by decide)] at hfit
   obtain ⟨pp, kz, _, _, rfl⟩ := JR hfit
   rw [show (pp ++ [kz]).length = pp.length + 1 by simp] at hc
   refine dE w0 B b nb no nc N L k 20 ps 0 ka (pp.length + 1) kc nm G hnb hL hk hc rfl rfl ?_
   refine Iy w0 B b _ N ka (pp.length + 1) kc ps 0 nm _ ?_
   by_cases h0 : nm.data.toList = []
   ·have hem : nm.toList.isEmpty = true := by rw [jO, h0]; rfl
    have e : bq G 20 0 nm.data.toList (pp ++ [kz]) = [[112, 114, 111, 103]] ++ ([[40]] ++ aT G pp ++ [[41]]) ++ gX G ([] : List Nat) ++ G kz := by rw [kT, if_pos h0]; simp [aS]
    rw [hG, e]
    exact Ie w0 B b (.slice (some ⟨nb, no, none⟩) L nc) N hN G ka kc ps pp kz nm hem hI HC
   ·have hem : nm.toList.isEmpty = false := by rw [jO]; simpa using h0
    have e : bq G 20 0 nm.data.toList (pp ++ [kz]) = [[112, 114, 111, 103]] ++ [nm.data.toList] ++ ([[40]] ++ aT G pp ++ [[41]]) ++ gX G ([] : List Nat) ++ G kz := by rw [kT, if_neg h0]; simp [aS]
    rw [hG, e]
    exact Ig w0 B b (.slice (some ⟨nb, no, none⟩) L nc) N hN G ka kc ps pp kz nm h0 hem hI HC
  ·rw [oH _ _ _ rfl] at hfit
   obtain ⟨pp, kr, kz, _, _, _, rfl⟩ := JS hfit
   rw [show (pp ++ [kr, kz]).length = pp.length + 2 by simp] at hc
   have ed : (pp ++ [kr, kz]).drop (pp.length + 1) = [kz] := by rw [List.drop_append]; simp
   have et : (pp ++ [kr, kz]).take (pp.length + 1) = pp ++ [kr] := by rw [List.take_append, List.take_of_length_le (by omega)]; simp
   refine dE w0 B b nb no nc N L k 20 ps 1 ka (pp.length + 2) kc nm G hnb hL hk hc rfl rfl ?_
   refine Iy w0 B b _ N ka (pp.length + 2) kc ps 1 nm _ ?_
   by_cases h0 : nm.data.toList = []
   ·have hem : nm.toList.isEmpty = true := by rw [jO, h0]; rfl
    have e : bq G 20 1 nm.data.toList (pp ++ [kr, kz]) = [[112, 114, 111, 103]] ++ ([[40]] ++ aT G pp ++ [[41]]) ++ gX G [kr] ++ G kz := by rw [kT, if_pos h0]; simp [aS, ed, et]
    rw [hG, e]
    exact Ih w0 B b (.slice (some ⟨nb, no, none⟩) L nc) N hN G ka kc ps pp kr kz nm hem hI HC
   ·have hem : nm.toList.isEmpty = false := by rw [jO]; simpa using h0
    have e : bq G 20 1 nm.data.toList (pp ++ [kr, kz]) = [[112, 114, 111, 103]] ++ [nm.data.toList] ++ ([[40]] ++ aT G pp ++ [[41]]) ++ gX G [kr] ++ G kz := by rw [kT, if_neg h0]; simp [aS, ed, et]
    rw [hG, e]
    exact Ii w0 B b (.slice (some ⟨nb, no, none⟩) L nc) N hN G ka kc ps pp kr kz nm h0 hem hI HC
 ·refine dE w0 B b nb no nc N L k 21 ps num ka ks.length kc nm G hnb hL hk hc rfl rfl ?_
  rw [hG, wP]
  exact Kk w0 B b (.slice (some ⟨nb, no, none⟩) L nc) N hN G ka kc ps num ks nm hI HC
 ·unfold aD at hfit
  rw [jS] at hfit
  obtain ⟨k0, k1, _, _, rfl⟩ := Gs hfit
  refine dE w0 B b nb no nc N L k 22 ps num ka 2 kc nm G hnb hL hk hc rfl rfl ?_
  have e : bq G 22 num nm.data.toList [k0, k1] = G k0 ++ [opT num] ++ G k1 := by rw [wQ]; simp [aS]
  rw [hG, e]
  exact Ky w0 B b (.slice (some ⟨nb, no, none⟩) L nc) N hN G ka kc ps num k0 k1 nm hI HC
 ·unfold aD at hfit
  rw [jT] at hfit
  obtain ⟨k0, r, _, _, rfl⟩ := JO hfit
  refine dE w0 B b nb no nc N L k 23 ps num ka (r.length + 1) kc nm G hnb hL hk hc rfl rfl ?_
  have e : bq G 23 num nm.data.toList (k0 :: r) = G k0 ++ ([[40]] ++ aT G r ++ [[41]]) := by rw [wR]; simp [aS]
  rw [hG, e]
  exact KE w0 B b (.slice (some ⟨nb, no, none⟩) L nc) N hN G ka kc ps num k0 r nm hI HC
 ·unfold aD at hfit
  rw [jU] at hfit
  obtain ⟨k0, k1, _, _, rfl⟩ := Gs hfit
  refine dE w0 B b nb no nc N L k 24 ps num ka ([k1].length + 1) kc nm G hnb hL hk hc rfl rfl ?_
  have e : bq G 24 num nm.data.toList (k0 :: [k1]) = G k0 ++ ([[91]] ++ aT G [k1] ++ [[93]]) := by rw [wS]; simp [aS]
  rw [hG, e]
  exact KF w0 B b (.slice (some ⟨nb, no, none⟩) L nc) N hN G ka kc ps num k0 [k1] nm hI HC
 ·unfold aD at hfit
  rw [jV] at hfit
  obtain ⟨k0, _, rfl⟩ := KM hfit
  refine dE w0 B b nb no nc N L k 25 ps num ka ([].length + 1) kc nm G hnb hL hk hc rfl rfl ?_
  have e : bq G 25 num nm.data.toList (k0 :: []) = G k0 ++ [[46], Lib.itoa num] := by rw [wT]; simp [aS]
  rw [hG, e]
  exact KG w0 B b (.slice (some ⟨nb, no, none⟩) L nc) N hN G ka kc ps num k0 [] nm hLB hi hI HC
 ·have hne := jg (show bR nm.data.toList = true from hname)
  refine eu w0 B b nb no nc N L k 31 ps num ka ks.length kc nm G hnb hL hk hc rfl rfl rfl ?_
  rw [hG, wU]
  exact Kl w0 B b (.slice (some ⟨nb, no, none⟩) L nc) N hN G ka kc ps num ks nm hne hI HC
 ·have hne := jg (show bR nm.data.toList = true from hname)
  unfold aD at hfit
  rw [jW] at hfit
  rcases JP hfit with ⟨k0, _, rfl⟩ | ⟨k0, k1, _, _, rfl⟩
  ·refine eu w0 B b nb no nc N L k 32 ps num ka 1 kc nm G hnb hL hk hc rfl rfl rfl ?_
   have e : bq G 32 num nm.data.toList [k0] = [[118, 97, 114], nm.data.toList, [58]] ++ G k0 ++ [[59]] := by rw [qO]; simp [aS]
   rw [hG, e]
   exact Ju w0 B b (.slice (some ⟨nb, no, none⟩) L nc) N hN G ka kc ps num k0 nm hne hI HC
  ·refine eu w0 B b nb no nc N L k 32 ps num ka 2 kc nm G hnb hL hk hc rfl rfl rfl ?_
   have e : bq G 32 num nm.data.toList [k0, k1] = [[118, 97, 114], nm.data.toList, [58]] ++ G k0 ++ [[61]] ++ G k1 ++ [[59]] := by rw [qO]; simp [aS]
   rw [hG, e]
   exact Jv w0 B b (.slice (some ⟨nb, no, none⟩) L nc) N hN G ka kc ps num k0 k1 nm hne hI HC
 ·unfold aD at hfit
  rw [l7] at hfit
  obtain ⟨k0, k1, _, _, rfl⟩ := Gs hfit
  refine eu w0 B b nb no nc N L k 33 ps num ka 2 kc nm G hnb hL hk hc rfl rfl rfl ?_
  have e : bq G 33 num nm.data.toList [k0, k1] = G k0 ++ [[61]] ++ G k1 ++ [[59]] := by rw [wV]; simp [aS]
  rw [hG, e]
  exact Kz w0 B b (.slice (some ⟨nb, no, none⟩) L nc) N hN G ka kc ps num k0 k1 nm hI HC
 ·unfold aD at hfit
  rw [mf] at hfit
  obtain ⟨k0, k1, _, _, rfl⟩ := Gs hfit
  refine eu w0 B b nb no nc N L k 34 ps num ka 2 kc nm G hnb hL hk hc rfl rfl rfl ?_
  have e : bq G 34 num nm.data.toList [k0, k1] = G k0 ++ [[60, 45, 61]] ++ G k1 ++ [[59]] := by rw [wW]; simp [aS]
  rw [hG, e]
  exact KC w0 B b (.slice (some ⟨nb, no, none⟩) L nc) N hN G ka kc ps num k0 k1 nm hI HC
 ·refine eu w0 B b nb no nc N L k 35 ps num ka ks.length kc nm G hnb hL hk hc rfl rfl rfl ?_
  rw [hG, wX]
  exact Km w0 B b (.slice (some ⟨nb, no, none⟩) L nc) N hN G ka kc ps num ks nm hI HC
 ·unfold aD at hfit
  rw [ji] at hfit
  rcases JQ hfit with ⟨k0, k1, _, _, rfl⟩ | ⟨k0, k1, k2, _, _, _, rfl⟩
  ·refine eu w0 B b nb no nc N L k 36 ps num ka 2 kc nm G hnb hL hk hc rfl rfl rfl ?_
   have e : bq G 36 num nm.data.toList [k0, k1] = [[105, 102]] ++ aS G [k0, k1] := by rw [qP]; simp [aS]
   rw [hG, e]
   exact Jw w0 B b (.slice (some ⟨nb, no, none⟩) L nc) N hN G ka kc ps num k0 k1 nm hI HC
  ·refine eu w0 B b nb no nc N L k 36 ps num ka 3 kc nm G hnb hL hk hc rfl rfl rfl ?_
   have e : bq G 36 num nm.data.toList [k0, k1, k2] = [[105, 102]] ++ aS G [k0, k1] ++ [[101, 108, 115, 101]] ++ G k2 := by rw [qP]; simp [aS]
   rw [hG, e]
   exact Jy w0 B b (.slice (some ⟨nb, no, none⟩) L nc) N hN G ka kc ps num k0 k1 k2 nm hI HC
 ·refine eu w0 B b nb no nc N L k 37 ps num ka ks.length kc nm G hnb hL hk hc rfl rfl rfl ?_
  rw [hG, wY]
  exact Kn w0 B b (.slice (some ⟨nb, no, none⟩) L nc) N hN G ka kc ps num ks nm hI HC
 ·refine eu w0 B b nb no nc N L k 38 ps num ka ks.length kc nm G hnb hL hk hc rfl rfl rfl ?_
  rw [hG, wZ]
  exact Ko w0 B b (.slice (some ⟨nb, no, none⟩) L nc) N hN G ka kc ps num ks nm hI HC
 ·refine eu w0 B b nb no nc N L k 39 ps num ka ks.length kc nm G hnb hL hk hc rfl rfl rfl ?_
  rw [hG, w9]
  exact Kq w0 B b (.slice (some ⟨nb, no, none⟩) L nc) N hN G ka kc ps num ks nm hI HC
 ·refine eu w0 B b nb no nc N L k 40 ps num ka ks.length kc nm G hnb hL hk hc rfl rfl rfl ?_
  rw [hG, xc]
  exact Kr w0 B b (.slice (some ⟨nb, no, none⟩) L nc) N hN G ka kc ps num ks nm hI HC
 ·refine eu w0 B b nb no nc N L k 41 ps num ka ks.length kc nm G hnb hL hk hc rfl rfl rfl ?_
  rw [hG, xe]
  exact Kt w0 B b (.slice (some ⟨nb, no, none⟩) L nc) N hN G ka kc ps num ks nm hI HC
 ·have hne := jg (show bR nm.data.toList = true from hname)
  refine iD w0 B b nb no nc N L k 42 ps num ka ks.length kc nm G hnb hL hk hc rfl rfl rfl ?_
  rw [hG, xf]
  exact Ku w0 B b (.slice (some ⟨nb, no, none⟩) L nc) N hN G ka kc ps num ks nm hne hI HC
 ·by_cases h0 : nm.data.toList = []
  ·have hem : nm.toList.isEmpty = true := by rw [jO, h0]; rfl
   refine iD w0 B b nb no nc N L k 43 ps num ka ks.length kc nm G hnb hL hk hc rfl rfl rfl ?_
   have e : bq G 43 num nm.data.toList ks = [[99, 97, 115, 101]] ++ [[60, 45]] ++ aS G ks := by rw [qQ, if_pos h0]; simp
   rw [hG, e]
   exact JA w0 B b (.slice (some ⟨nb, no, none⟩) L nc) N hN G ka kc ps num ks nm hem hI HC
  ·have hem : nm.toList.isEmpty = false := by rw [jO]; simpa using h0
   refine iD w0 B b nb no nc N L k 43 ps num ka ks.length kc nm G hnb hL hk hc rfl rfl rfl ?_
   have e : bq G 43 num nm.data.toList ks = [[99, 97, 115, 101]] ++ [nm.data.toList, [61]] ++ [[60, 45]] ++ aS G ks := by rw [qQ, if_neg h0]
   rw [hG, e]
   exact Jz w0 B b (.slice (some ⟨nb, no, none⟩) L nc) N hN G ka kc ps num ks nm h0 hem hI HC
 ·unfold aD at hfit
  rw [jX] at hfit
  obtain ⟨k0, k1, k2, _, _, _, rfl⟩ := KN hfit
  refine iD w0 B b nb no nc N L k 44 ps num ka 3 kc nm G hnb hL hk hc rfl rfl rfl ?_
  have e : bq G 44 num nm.data.toList [k0, k1, k2] = [[99, 97, 115, 101]] ++ (G k0 ++ [[60, 45, 61]] ++ G k1) ++ G k2 := by rw [xg]; simp [aS]
  rw [hG, e]
  exact KD w0 B b (.slice (some ⟨nb, no, none⟩) L nc) N hN G ka kc ps num k0 k1 k2 nm hI HC
 ·have hne := jg (show bR nm.data.toList = true from hname)
  refine iD w0 B b nb no nc N L k 45 ps num ka ks.length kc nm G hnb hL hk hc rfl rfl rfl ?_
  rw [hG, xh]
  exact Kv w0 B b (.slice (some ⟨nb, no, none⟩) L nc) N hN G ka kc ps num ks nm hne hI HC
 ·refine iD w0 B b nb no nc N L k 46 ps num ka ks.length kc nm G hnb hL hk hc rfl rfl rfl ?_
  rw [hG, xk]
  exact Kw w0 B b (.slice (some ⟨nb, no, none⟩) L nc) N hN G ka kc ps num ks nm hI HC
theorem JB {l : List Nd} (hok : (bO l).2 = 0) (w0 : World) (B b nb no nc N : Nat) (hN : N <= 140737488355328) (hn : gD w0 B nb no nc l) (hLB : yw w0 B) : ∀ j, j < l.length -> NdC w0 B b (.slice (some ⟨nb, no, none⟩) l.length nc) N (gG l) j := by
 obtain ⟨hall, _, _⟩ := mi hok
 have hlow : ∀ j, j < l.length -> ∀ k ∈ iV l j, k < j := fun j hj => (hall j hj).low
 intro j
 induction j using Nat.strongRecOn with
 | _ j ih =>
  intro hj
  have h := hall j hj
  obtain ⟨ka, kc, ha⟩ := hn.at_ j hj
  have hlen : (ndN l j).kids.length = (iV l j).length := by simp [iV]
  have hI := ha.kids
  have hnat : (iV l j).map (fun k : Nat => (k : Int)) = (ndN l j).kids := h.nat
  rw [hlen] at hI
  rw [← hnat] at hI
  have hnum := h.num
  rw [hlen] at hnum
  refine Ij (ndN l j).kind w0 B b nb no nc N l.length hN (gG l) j (ndN l j).pos (ndN l j).num ka kc (iV l j) (ndN l j).name (kdN l) hn.lo hn.max hj hLB (hn.wf j hj).num
   ⟨ha.c0, ha.c1, by rw [← hlen]; exact ha.c2, ha.c3, ha.c4⟩ hI (fun k hk => ?_) hnum h.name h.fit (qW hlow hj) h.kind
  have := hlow j hj k hk
  exact ih k this (by omega)
end Go.Proofs.YtecodpdfckjalaaGreatDoor
