import Derived.Test.YtecodpdfckjalaaGreatDoorYPH
import Derived.Deep.RegionHeld
import Derived.Deep.QuietTactic
import Derived.BigQuiet
set_option linter.unusedVariables false
set_option linter.unusedSimpArgs false
set_option maxHeartbeats 4000000
set_option maxRecDepth 100000
namespace Go.Proofs.YtecodpdfckjalaaGreatDoor
open Go.RowKit
theorem dM {w0 : World} {B : Nat} {ka : Option Addr} {kc : Nat} {ks : List Nat} (hk : aO w0 B (.slice ka ks.length kc) (ks.map fun k : Nat => (k : Int))) (h0 : 0 < ks.length) :
  ∃ kb ko, ka = some ⟨kb, ko, none⟩ /\ kb < B /\ ∀ W, Below B w0 W -> ∀ i (h : i < ks.length), W.cell? ⟨kb, ko + i, none⟩ = some (.int .i64 ((ks[i] : Nat) : Int)) := by
 obtain ⟨a, cap, he, h1, h2, h3⟩ := hk.ex
 simp only [Value.slice.injEq] at he
 obtain ⟨rfl, -, rfl⟩ := he
 obtain ⟨kb, ko, rfl, hB, hc⟩ := h3 (by simpa using h0)
 refine ⟨kb, ko, rfl, hB, fun W hb i hi => ?_⟩
 rw [hb.cell (p := ⟨kb, ko + i, none⟩) hB]
 have := hc i (by simpa using hi)
 simpa using this
theorem eD {w : World} {B : Nat} {a : Option Addr} {cap : Nat} {ks : List Nat} (h : aO w B (.slice a ks.length cap) (ks.map fun k : Nat => (k : Int))) (lo hi : Nat) (h1 : lo <= hi) (h2 : hi <= ks.length) (f : Value) (s : Nat)
  (hf : f = sliced a lo hi cap 1) : ∃ a' c', f = .slice a' (hi - lo) c' /\ aO w B (.slice a' ((ks.drop lo).take (hi - lo)).length c') (((ks.drop lo).take (hi - lo)).map fun k : Nat => (k : Int)) := by
 obtain ⟨a0, c0, he, q1, q2, q3⟩ := h.ex
 simp only [Value.slice.injEq] at he
 obtain ⟨rfl, -, rfl⟩ := he
 simp only [List.length_map] at q1 q2 q3
 have hl : ((ks.drop lo).take (hi - lo)).length = hi - lo := by simp; omega
 refine ⟨_, _, hf, ⟨_, _, by rw [List.length_map], by rw [List.length_map, hl]; omega, by rw [List.length_map, hl]; omega, fun h0 => ?_⟩⟩
 rw [List.length_map, hl] at h0
 obtain ⟨b, o, rfl, hB, hc⟩ := q3 (by omega)
 rw [if_neg (by omega)]
 refine ⟨b, o + lo, by simp [Addr.add], hB, fun i hi' => ?_⟩
 rw [List.length_map, hl] at hi'
 have := hc (lo + i) (by omega)
 simp only [List.getElem_map] at this ⊢
 rw [show o + lo + i = o + (lo + i) by omega, this]
 simp
theorem FB : Tryz.prog.underlying 39 = some (.slice (Tryz.prog.elem 39)) := by simp [Program.elem, Tryz.underlying39]
theorem Az : Tryz.prog.elem 39 = 3 := by simp [Program.elem, Tryz.underlying39]
theorem ww (W : World) (a : Option Addr) (n cap lo hi : Nat) (h1 : lo <= hi) (h2 : hi <= cap) : (Instr.slice 39 (.slice a n cap) (some (.int .i64 (lo : Int))) (some (.int .i64 (hi : Int))) none).run Tryz.prog W = .ok (sliced a lo hi cap 1) W := by
 rw [run_slice_lh W 39 a n cap FB .i64 .i64 (lo : Int) (hi : Int) (by omega) (by omega) (by omega), Az, sizeOf3]
 simp [Result.andThen]
theorem pu (W : World) (a : Option Addr) (n cap hi : Nat) (h2 : hi <= cap) : (Instr.slice 39 (.slice a n cap) none (some (.int .i64 (hi : Int))) none).run Tryz.prog W = .ok (sliced a 0 hi cap 1) W := by
 rw [run_slice_h W 39 a n cap FB .i64 (hi : Int) (by omega) (by omega), Az, sizeOf3]
 simp [Result.andThen]
theorem Bt (W : World) (a : Option Addr) (n cap lo : Nat) (h1 : lo <= n) : (Instr.slice 39 (.slice a n cap) (some (.int .i64 (lo : Int))) none none).run Tryz.prog W = .ok (sliced a lo n cap 1) W := by
 rw [run_slice_l W 39 a n cap FB .i64 (lo : Int) (by omega) (by omega), Az, sizeOf3]
 simp [Result.andThen]
theorem dG {w : World} {B : Nat} {a : Option Addr} {cap : Nat} {ks : List Nat} (h : aO w B (.slice a ks.length cap) (ks.map fun k : Nat => (k : Int))) : ks.length <= cap /\ ks.length <= maxLen := by
 obtain ⟨a0, c0, he, q1, q2, q3⟩ := h.ex
 simp only [Value.slice.injEq] at he
 obtain ⟨rfl, -, rfl⟩ := he
 exact ⟨by simpa using q1, by simpa using q2⟩
theorem nY (w0 : World) (B b : Nat) (lv : Value) (N : Nat) (hN : N <= 140737488355328) (G : Nat -> List (List UInt8)) (ka : Option Addr) (kc : Nat) (kd ps num : Int) (k0 k1 : Nat) (r : List Nat) (nm sg : ByteArray) (hsg : sg.data.toList ≠ [])
  (hk : aO w0 B (.slice ka (k0 :: k1 :: r).length kc) ((k0 :: k1 :: r).map fun k : Nat => (k : Int))) (HC : ∀ k ∈ k0 :: k1 :: r, NdC w0 B b lv N G k) :
  PrC w0 B b lv N 57 #[.pointer (some ⟨b, 0, none⟩), .agg #[.int .i64 kd, .int .i64 ps, .slice ka (r.length + 2) kc, .string nm, .int .i64 num], .string sg] (G k0 ++ [sg.data.toList] ++ G k1) := by
 intro W bs hst hb
 obtain ⟨kb, ko, rfl, hkB, hcell⟩ := dM hk (by simp)
 have hcap := (dG hk).2
 unfold maxLen at hcap
 simp only [List.length_cons] at hcap
 have HK0 : Bx (∀ W, Below B w0 W -> W.cell? ⟨kb, ko, none⟩ = some (.int .i64 (k0 : Int))) := ⟨fun W hb => hcell W hb 0 (by simp)⟩
 have HK1 : Bx (∀ W, Below B w0 W -> W.cell? ⟨kb, ko + 1, none⟩ = some (.int .i64 (k1 : Int))) := ⟨fun W hb => hcell W hb 1 (by simp)⟩
 have HN0 : Bx _ := ⟨HC k0 (by simp)⟩
 have HN1 : Bx _ := ⟨HC k1 (by simp)⟩
 have hS := BxS.start hst kd ps num (.slice (some ⟨kb, ko, none⟩) (r.length + 2) kc) (.string nm)
 obtain ⟨_, _, z0, z2, z3, z4, hxl, hbl⟩ := hS.post
 have y0 := HK0.out _ hS.st.bel
 have y1 := HK1.out _ hS.st.bel
 have T1 : Bx True := ⟨trivial⟩
 clear hk HC hst hcell
 go_enter Tryz.func57, Tryz.ntmps57
 go_wp2_with (first
  | (go_at_call 49; refine Calls.mono (dn hN rfl (by simp) hS (by simp [bC, hsg]) (by decide) (by simp [ay, aN] at hb ⊢; omega)) ?_; clear hS z0 z2 z3 z4 hxl hbl y0 y1; rintro e W' ⟨rfl, hS, z0, z2, z3, z4, hxl, hbl⟩; have y0 := HK0.out W' hS.st.bel; have y1 := HK1.out W' hS.st.bel)
  | (go_at_call 17; clear T1; refine Calls.mono (s_call HN0.out hS (by simp [ay, aN] at hb ⊢; omega)) ?_; clear hS z0 z2 z3 z4 hxl hbl y0 y1; rintro e W' ⟨rfl, hS, z0, z2, z3, z4, hxl, hbl⟩; have y0 := HK0.out W' hS.st.bel; have y1 := HK1.out W' hS.st.bel)
  | (go_at_call 17; refine Calls.mono (s_call HN1.out hS (by simp [ay, aN] at hb ⊢; omega)) ?_; clear hS z0 z2 z3 z4 hxl hbl y0 y1; rintro e W' ⟨rfl, hS, z0, z2, z3, z4, hxl, hbl⟩; have y0 := HK0.out W' hS.st.bel; have y1 := HK1.out W' hS.st.bel))
 go_end0
 exact bV hS (by simp [ay, aN])
theorem MC (w0 : World) (B b : Nat) (lv : Value) (N : Nat) (hN : N <= 140737488355328) (G : Nat -> List (List UInt8)) (ka : Option Addr) (kc : Nat) (ps num : Int) (k0 k1 : Nat) (nm : ByteArray) 
  (hk : aO w0 B (.slice ka ([k0, k1]).length kc) (([k0, k1]).map fun k : Nat => (k : Int))) (HC : ∀ k ∈ [k0, k1], NdC w0 B b lv N G k) :
  PrC w0 B b lv N 31 (ndA b ka kc (2) 22 ps num nm) (G k0 ++ [opT num] ++ G k1) := by
 intro W bs hst hb
 unfold ndA
 have hne := Ju num
 have HBoth : Bx _ := ⟨nY w0 B b lv N hN G ka kc 22 ps num k0 k1 [] nm ⟨(opT num).toArray⟩ (by simpa using hne) hk HC⟩
 simp only [List.length_nil, Nat.zero_add] at HBoth
 have hS := BxS.start hst 22 ps num (.slice ka 2 kc) (.string nm)
 obtain ⟨_, _, z0, z2, z3, z4, hxl, hbl⟩ := hS.post
 obtain ⟨_, _, _, _, z1, _⟩ := dW hS.box
 have hSd := hS.ext (Below.drew (Below.refl _ _))
 have HB : Bx _ := ⟨s_call HBoth.out hSd (by simp at hb ⊢; omega)⟩
 clear hk HC hst hb
 go_enter Tryz.func31, Tryz.ntmps31
 go_wp2_with fail
 go_region_held (fun w' => w'.cell? ⟨W.heap.size, 0, none⟩ = some (.int .i64 22) /\ w'.cell? ⟨W.heap.size, 1, none⟩ = some (.int .i64 ps) /\ w'.cell? ⟨W.heap.size, 2, none⟩ = some (.slice ka 2 kc) /\ w'.cell? ⟨W.heap.size, 3, none⟩ = some (.string nm) /\ w'.cell? ⟨W.heap.size, 4, none⟩ = some (.int .i64 num))
  (first | exact ⟨z0, z1, z2, z3, z4⟩ | exact ⟨q0, q1, q2, q3, q4⟩ | (go_keep))
  (first | (go_at_call 56; refine (nG _ _).mono ?_; rintro e W' ⟨rfl, rfl⟩) | (go_at_call 57; refine Calls.mono HB.out ?_; rintro e W' ⟨rfl, hE, q0, q2, q3, q4, _, hbl2⟩; obtain ⟨_, _, _, _, q1, _⟩ := dW hE.box))
 go_wp2
 go_end0
 exact bV hE (by simp)
theorem ME (w0 : World) (B b : Nat) (lv : Value) (N : Nat) (hN : N <= 140737488355328) (G : Nat -> List (List UInt8)) (ka : Option Addr) (kc : Nat) (ps num : Int) (k0 k1 : Nat) (nm : ByteArray) 
  (hk : aO w0 B (.slice ka ([k0, k1]).length kc) (([k0, k1]).map fun k : Nat => (k : Int))) (HC : ∀ k ∈ [k0, k1], NdC w0 B b lv N G k) :
  PrC w0 B b lv N 33 (ndA b ka kc (2) 33 ps num nm) (G k0 ++ [[61]] ++ G k1 ++ [[59]]) := by
 intro W bs hst hb
 unfold ndA
 obtain ⟨kb, ko, rfl, hkB, hcell⟩ := dM hk (by simp)
 have hcap := dG hk
 obtain ⟨hcap1, hcap2⟩ := hcap
 unfold maxLen at hcap2
 try simp only [List.length_cons, List.length_nil, Nat.zero_add, Nat.reduceAdd] at hcap1 hcap2
 have HK0 : Bx (∀ W, Below B w0 W -> W.cell? ⟨kb, ko, none⟩ = some (.int .i64 (k0 : Int))) := ⟨fun W hb => hcell W hb 0 (by simp)⟩
 have HBoth : Bx _ := ⟨nY w0 B b lv N hN G (some ⟨kb, ko, none⟩) kc 33 ps num k0 k1 [] nm ⟨#[61]⟩ (by simp) hk HC⟩
 simp only [List.length_nil, Nat.zero_add] at HBoth
 have hS := BxS.start hst 33 ps num (.slice (some ⟨kb, ko, none⟩) (2) kc) (.string nm)
 obtain ⟨_, _, z0, z2, z3, z4, hxl, hbl⟩ := hS.post
 have y0 := HK0.out _ hS.st.bel
 obtain ⟨_, _, _, _, z1, _⟩ := dW hS.box
 have T0 : Bx True := ⟨trivial⟩
 have T1 : Bx True := ⟨trivial⟩
 clear hk HC hst hcell
 go_enter Tryz.func33, Tryz.ntmps33
 go_wp2_with (first
  | (go_at_call 57; refine Calls.mono (s_call HBoth.out hS (by simp [ay, aN] at hb ⊢; omega)) ?_; clear hS z0 z2 z3 z4 hxl hbl y0; rintro e W' ⟨rfl, hS, z0, z2, z3, z4, hxl, hbl⟩; have y0 := HK0.out W' hS.st.bel)
  | (go_at_call 49; refine Calls.mono (dn hN rfl (by simp) hS (by simp [bC]) (by decide) (by simp [ay, aN] at hb ⊢; omega)) ?_; clear hS z0 z2 z3 z4 hxl hbl y0; rintro e W' ⟨rfl, hS, z0, z2, z3, z4, hxl, hbl⟩; have y0 := HK0.out W' hS.st.bel))
 go_end0
 exact bV hS (by simp [ay, aN])
theorem MF (w0 : World) (B b : Nat) (lv : Value) (N : Nat) (hN : N <= 140737488355328) (G : Nat -> List (List UInt8)) (ka : Option Addr) (kc : Nat) (ps num : Int) (k0 k1 : Nat) (nm : ByteArray) 
  (hk : aO w0 B (.slice ka ([k0, k1]).length kc) (([k0, k1]).map fun k : Nat => (k : Int))) (HC : ∀ k ∈ [k0, k1], NdC w0 B b lv N G k) :
  PrC w0 B b lv N 33 (ndA b ka kc (2) 34 ps num nm) (G k0 ++ [[60, 45, 61]] ++ G k1 ++ [[59]]) := by
 intro W bs hst hb
 unfold ndA
 obtain ⟨kb, ko, rfl, hkB, hcell⟩ := dM hk (by simp)
 have hcap := dG hk
 obtain ⟨hcap1, hcap2⟩ := hcap
 unfold maxLen at hcap2
 try simp only [List.length_cons, List.length_nil, Nat.zero_add, Nat.reduceAdd] at hcap1 hcap2
 have HK0 : Bx (∀ W, Below B w0 W -> W.cell? ⟨kb, ko, none⟩ = some (.int .i64 (k0 : Int))) := ⟨fun W hb => hcell W hb 0 (by simp)⟩
 have HBoth : Bx _ := ⟨nY w0 B b lv N hN G (some ⟨kb, ko, none⟩) kc 34 ps num k0 k1 [] nm ⟨#[60, 45, 61]⟩ (by simp) hk HC⟩
 simp only [List.length_nil, Nat.zero_add] at HBoth
 have hS := BxS.start hst 34 ps num (.slice (some ⟨kb, ko, none⟩) (2) kc) (.string nm)
 obtain ⟨_, _, z0, z2, z3, z4, hxl, hbl⟩ := hS.post
 have y0 := HK0.out _ hS.st.bel
 obtain ⟨_, _, _, _, z1, _⟩ := dW hS.box
 have T0 : Bx True := ⟨trivial⟩
 have T1 : Bx True := ⟨trivial⟩
 clear hk HC hst hcell
 go_enter Tryz.func33, Tryz.ntmps33
 go_wp2_with (first
  | (go_at_call 57; refine Calls.mono (s_call HBoth.out hS (by simp [ay, aN] at hb ⊢; omega)) ?_; clear hS z0 z2 z3 z4 hxl hbl y0; rintro e W' ⟨rfl, hS, z0, z2, z3, z4, hxl, hbl⟩; have y0 := HK0.out W' hS.st.bel)
  | (go_at_call 49; refine Calls.mono (dn hN rfl (by simp) hS (by simp [bC]) (by decide) (by simp [ay, aN] at hb ⊢; omega)) ?_; clear hS z0 z2 z3 z4 hxl hbl y0; rintro e W' ⟨rfl, hS, z0, z2, z3, z4, hxl, hbl⟩; have y0 := HK0.out W' hS.st.bel))
 go_end0
 exact bV hS (by simp [ay, aN])
theorem MG (w0 : World) (B b : Nat) (lv : Value) (N : Nat) (hN : N <= 140737488355328) (G : Nat -> List (List UInt8)) (ka : Option Addr) (kc : Nat) (ps num : Int) (k0 k1 k2 : Nat) (nm : ByteArray) 
  (hk : aO w0 B (.slice ka ([k0, k1, k2]).length kc) (([k0, k1, k2]).map fun k : Nat => (k : Int))) (HC : ∀ k ∈ [k0, k1, k2], NdC w0 B b lv N G k) :
  PrC w0 B b lv N 34 (ndA b ka kc (3) 44 ps num nm) ([[99, 97, 115, 101]] ++ (G k0 ++ [[60, 45, 61]] ++ G k1) ++ G k2) := by
 intro W bs hst hb
 unfold ndA
 obtain ⟨kb, ko, rfl, hkB, hcell⟩ := dM hk (by simp)
 have hcap := dG hk
 obtain ⟨hcap1, hcap2⟩ := hcap
 unfold maxLen at hcap2
 try simp only [List.length_cons, List.length_nil, Nat.zero_add, Nat.reduceAdd] at hcap1 hcap2
 have HK0 : Bx (∀ W, Below B w0 W -> W.cell? ⟨kb, ko, none⟩ = some (.int .i64 (k0 : Int))) := ⟨fun W hb => hcell W hb 0 (by simp)⟩
 have HK1 : Bx (∀ W, Below B w0 W -> W.cell? ⟨kb, ko + 1, none⟩ = some (.int .i64 (k1 : Int))) := ⟨fun W hb => hcell W hb 1 (by simp)⟩
 have HK2 : Bx (∀ W, Below B w0 W -> W.cell? ⟨kb, ko + 2, none⟩ = some (.int .i64 (k2 : Int))) := ⟨fun W hb => hcell W hb 2 (by simp)⟩
 have HBoth : Bx _ := ⟨nY w0 B b lv N hN G (some ⟨kb, ko, none⟩) kc 44 ps num k0 k1 [k2] nm ⟨#[60, 45, 61]⟩ (by simp) hk HC⟩
 simp only [List.length_cons, List.length_nil, Nat.zero_add, Nat.reduceAdd] at HBoth
 have HN2 : Bx _ := ⟨HC k2 (by simp)⟩
 have hS := BxS.start hst 44 ps num (.slice (some ⟨kb, ko, none⟩) (3) kc) (.string nm)
 obtain ⟨_, _, z0, z2, z3, z4, hxl, hbl⟩ := hS.post
 have y0 := HK0.out _ hS.st.bel
 have y1 := HK1.out _ hS.st.bel
 have y2 := HK2.out _ hS.st.bel
 obtain ⟨_, _, _, _, z1, _⟩ := dW hS.box
 have T0 : Bx True := ⟨trivial⟩
 have T1 : Bx True := ⟨trivial⟩
 clear hk HC hst hcell
 go_enter Tryz.func34, Tryz.ntmps34
 go_wp2_with (first
  | (go_at_call 57; refine Calls.mono (s_call HBoth.out hS (by simp [ay, aN] at hb ⊢; omega)) ?_; clear hS z1 z0 z2 z3 z4 hxl hbl y0 y1 y2; rintro e W' ⟨rfl, hS, z0, z2, z3, z4, hxl, hbl⟩; obtain ⟨_, _, _, _, z1, _⟩ := dW hS.box; have y0 := HK0.out W' hS.st.bel; have y1 := HK1.out W' hS.st.bel; have y2 := HK2.out W' hS.st.bel)
  | (go_at_call 49; refine Calls.mono (dn hN rfl (by simp) hS (by simp [bC]) (by decide) (by simp [ay, aN] at hb ⊢; omega)) ?_; clear hS z1 z0 z2 z3 z4 hxl hbl y0 y1 y2; rintro e W' ⟨rfl, hS, z0, z2, z3, z4, hxl, hbl⟩; obtain ⟨_, _, _, _, z1, _⟩ := dW hS.box; have y0 := HK0.out W' hS.st.bel; have y1 := HK1.out W' hS.st.bel; have y2 := HK2.out W' hS.st.bel)
  | (go_at_call 17; refine Calls.mono (s_call HN2.out hS (by simp [ay, aN] at hb ⊢; omega)) ?_; clear hS z1 z0 z2 z3 z4 hxl hbl y0 y1 y2; rintro e W' ⟨rfl, hS, z0, z2, z3, z4, hxl, hbl⟩; obtain ⟨_, _, _, _, z1, _⟩ := dW hS.box; have y0 := HK0.out W' hS.st.bel; have y1 := HK1.out W' hS.st.bel; have y2 := HK2.out W' hS.st.bel))
 go_end0
 exact bV hS (by simp [ay, aN])
theorem MH (w0 : World) (B b : Nat) (lv : Value) (N : Nat) (hN : N <= 140737488355328) (G : Nat -> List (List UInt8)) (ka : Option Addr) (kc : Nat) (ps num : Int) (k0 : Nat) (r : List Nat) (nm : ByteArray) 
  (hk : aO w0 B (.slice ka (k0 :: r).length kc) ((k0 :: r).map fun k : Nat => (k : Int))) (HC : ∀ k ∈ k0 :: r, NdC w0 B b lv N G k) :
  PrC w0 B b lv N 31 (ndA b ka kc (r.length + 1) 23 ps num nm) (G k0 ++ ([[40]] ++ aU G r ++ [[41]])) := by
 intro W bs hst hb
 unfold ndA
 obtain ⟨kb, ko, rfl, hkB, hcell⟩ := dM hk (by simp)
 have hcap := dG hk
 obtain ⟨hcap1, hcap2⟩ := hcap
 unfold maxLen at hcap2
 simp only [List.length_cons, List.length_nil, Nat.zero_add, Nat.reduceAdd] at hcap1 hcap2
 have HK0 : Bx (∀ W, Below B w0 W -> W.cell? ⟨kb, ko, none⟩ = some (.int .i64 (k0 : Int))) := ⟨fun W hb => hcell W hb 0 (by simp)⟩
 have hsk := eD hk 1 (r.length + 1) (by omega) (by simp) _ 0 rfl
 obtain ⟨a', c', he, hi1⟩ := hsk
 have hrr : (((k0 :: r).drop 1).take (r.length + 1 - 1)) = r := by simp
 rw [hrr] at hi1
 simp only [Nat.add_sub_cancel] at he
 have hsl : ∀ W, (Instr.slice 39 (.slice (some ⟨kb, ko, none⟩) (r.length + 1) kc) (some (.int .i64 1)) none none).run Tryz.prog W = .ok (.slice a' r.length c') W := fun W => (Bt W (some ⟨kb, ko, none⟩) (r.length + 1) kc 1 (by omega)).trans (by rw [he])
 have HList : Bx _ := ⟨fo w0 B b lv N hN G r a' c' ⟨#[40]⟩ ⟨#[41]⟩ (by simp) (by simp) hi1 (fun k hk => HC k (List.mem_cons_of_mem _ hk))⟩
 have HN0 : Bx _ := ⟨HC k0 (by simp)⟩
 clear he hi1 hrr
 have hS := BxS.start hst 23 ps num (.slice (some ⟨kb, ko, none⟩) (r.length + 1) kc) (.string nm)
 obtain ⟨_, _, z0, z2, z3, z4, hxl, hbl⟩ := hS.post
 have y0 := HK0.out _ hS.st.bel
 have T0 : Bx True := ⟨trivial⟩
 have T1 : Bx True := ⟨trivial⟩
 clear hk HC hst hcell
 go_enter Tryz.func31, Tryz.ntmps31
 go_wp2_with (first
  | (go_at_call 17; refine Calls.mono (s_call HN0.out hS (by simp [ay, aN] at hb ⊢; omega)) ?_; clear hS z0 z2 z3 z4 hxl hbl y0; rintro e W' ⟨rfl, hS, z0, z2, z3, z4, hxl, hbl⟩; have y0 := HK0.out W' hS.st.bel)
  | (go_at_call 51; refine Calls.mono (s_call HList.out hS (by simp [ay, aN] at hb ⊢; omega)) ?_; clear hS z0 z2 z3 z4 hxl hbl y0; rintro e W' ⟨rfl, hS, z0, z2, z3, z4, hxl, hbl⟩; have y0 := HK0.out W' hS.st.bel))
 go_end0
 exact bV hS (by simp [ay, aN])
theorem MI (w0 : World) (B b : Nat) (lv : Value) (N : Nat) (hN : N <= 140737488355328) (G : Nat -> List (List UInt8)) (ka : Option Addr) (kc : Nat) (ps num : Int) (k0 : Nat) (r : List Nat) (nm : ByteArray) 
  (hk : aO w0 B (.slice ka (k0 :: r).length kc) ((k0 :: r).map fun k : Nat => (k : Int))) (HC : ∀ k ∈ k0 :: r, NdC w0 B b lv N G k) :
  PrC w0 B b lv N 31 (ndA b ka kc (r.length + 1) 24 ps num nm) (G k0 ++ ([[91]] ++ aU G r ++ [[93]])) := by
 intro W bs hst hb
 unfold ndA
 obtain ⟨kb, ko, rfl, hkB, hcell⟩ := dM hk (by simp)
 have hcap := dG hk
 obtain ⟨hcap1, hcap2⟩ := hcap
 unfold maxLen at hcap2
 simp only [List.length_cons, List.length_nil, Nat.zero_add, Nat.reduceAdd] at hcap1 hcap2
 have HK0 : Bx (∀ W, Below B w0 W -> W.cell? ⟨kb, ko, none⟩ = some (.int .i64 (k0 : Int))) := ⟨fun W hb => hcell W hb 0 (by simp)⟩
 have hsk := eD hk 1 (r.length + 1) (by omega) (by simp) _ 0 rfl
 obtain ⟨a', c', he, hi1⟩ := hsk
 have hrr : (((k0 :: r).drop 1).take (r.length + 1 - 1)) = r := by simp
 rw [hrr] at hi1
 simp only [Nat.add_sub_cancel] at he
 have hsl : ∀ W, (Instr.slice 39 (.slice (some ⟨kb, ko, none⟩) (r.length + 1) kc) (some (.int .i64 1)) none none).run Tryz.prog W = .ok (.slice a' r.length c') W := fun W => (Bt W (some ⟨kb, ko, none⟩) (r.length + 1) kc 1 (by omega)).trans (by rw [he])
 have HList : Bx _ := ⟨fo w0 B b lv N hN G r a' c' ⟨#[91]⟩ ⟨#[93]⟩ (by simp) (by simp) hi1 (fun k hk => HC k (List.mem_cons_of_mem _ hk))⟩
 have HN0 : Bx _ := ⟨HC k0 (by simp)⟩
 clear he hi1 hrr
 have hS := BxS.start hst 24 ps num (.slice (some ⟨kb, ko, none⟩) (r.length + 1) kc) (.string nm)
 obtain ⟨_, _, z0, z2, z3, z4, hxl, hbl⟩ := hS.post
 have y0 := HK0.out _ hS.st.bel
 have T0 : Bx True := ⟨trivial⟩
 have T1 : Bx True := ⟨trivial⟩
 clear hk HC hst hcell
 go_enter Tryz.func31, Tryz.ntmps31
 go_wp2_with (first
  | (go_at_call 17; refine Calls.mono (s_call HN0.out hS (by simp [ay, aN] at hb ⊢; omega)) ?_; clear hS z0 z2 z3 z4 hxl hbl y0; rintro e W' ⟨rfl, hS, z0, z2, z3, z4, hxl, hbl⟩; have y0 := HK0.out W' hS.st.bel)
  | (go_at_call 51; refine Calls.mono (s_call HList.out hS (by simp [ay, aN] at hb ⊢; omega)) ?_; clear hS z0 z2 z3 z4 hxl hbl y0; rintro e W' ⟨rfl, hS, z0, z2, z3, z4, hxl, hbl⟩; have y0 := HK0.out W' hS.st.bel))
 go_end0
 exact bV hS (by simp [ay, aN])
theorem MJ (w0 : World) (B b : Nat) (lv : Value) (N : Nat) (hN : N <= 140737488355328) (G : Nat -> List (List UInt8)) (ka : Option Addr) (kc : Nat) (ps num : Int) (k0 : Nat) (r : List Nat) (nm : ByteArray) (hL : x8 w0 B) (hi : I64 num) 
  (hk : aO w0 B (.slice ka (k0 :: r).length kc) ((k0 :: r).map fun k : Nat => (k : Int))) (HC : ∀ k ∈ k0 :: r, NdC w0 B b lv N G k) :
  PrC w0 B b lv N 31 (ndA b ka kc (r.length + 1) 25 ps num nm) (G k0 ++ [[46], Lib.itoa num]) := by
 intro W bs hst hb
 unfold ndA
 obtain ⟨kb, ko, rfl, hkB, hcell⟩ := dM hk (by simp)
 have hcap := dG hk
 obtain ⟨hcap1, hcap2⟩ := hcap
 unfold maxLen at hcap2
 simp only [List.length_cons, List.length_nil, Nat.zero_add, Nat.reduceAdd] at hcap1 hcap2
 have HK0 : Bx (∀ W, Below B w0 W -> W.cell? ⟨kb, ko, none⟩ = some (.int .i64 (k0 : Int))) := ⟨fun W hb => hcell W hb 0 (by simp)⟩
 have hne := Br num
 have HN0 : Bx _ := ⟨HC k0 (by simp)⟩
 have hS := BxS.start hst 25 ps num (.slice (some ⟨kb, ko, none⟩) (r.length + 1) kc) (.string nm)
 obtain ⟨_, _, z0, z2, z3, z4, hxl, hbl⟩ := hS.post
 have y0 := HK0.out _ hS.st.bel
 have T0 : Bx True := ⟨trivial⟩
 have T1 : Bx True := ⟨trivial⟩
 clear hk HC hst hcell
 go_enter Tryz.func31, Tryz.ntmps31
 go_wp2_with (first
  | (go_at_call 17; refine Calls.mono (s_call HN0.out hS (by simp [ay, aN] at hb ⊢; omega)) ?_; clear hS z0 z2 z3 z4 hxl hbl y0; rintro e W' ⟨rfl, hS, z0, z2, z3, z4, hxl, hbl⟩; have y0 := HK0.out W' hS.st.bel)
  | (go_at_call 53; refine Calls.mono (uL hL hi hS) ?_; clear hS z0 z2 z3 z4 hxl hbl y0; rintro e W' ⟨rfl, hS, z0, z2, z3, z4, hxl, hbl⟩; have y0 := HK0.out W' hS.st.bel)
  | (go_at_call 49; refine Calls.mono (dn hN rfl (by simp) hS (by simp [bC, hne]) (by decide) (by simp [ay, aN] at hb ⊢; omega)) ?_; clear hS z0 z2 z3 z4 hxl hbl y0; rintro e W' ⟨rfl, hS, z0, z2, z3, z4, hxl, hbl⟩; have y0 := HK0.out W' hS.st.bel))
 go_end0
 exact bV hS (by simp [ay, aN])
theorem KQ (w0 : World) (B b : Nat) (lv : Value) (N : Nat) (hN : N <= 140737488355328) (G : Nat -> List (List UInt8)) (ka : Option Addr) (kc : Nat) (ps num : Int) (k0 : Nat) (nm : ByteArray) (hnm : nm.data.toList ≠ []) 
  (hk : aO w0 B (.slice ka ([k0]).length kc) (([k0]).map fun k : Nat => (k : Int))) (HC : ∀ k ∈ [k0], NdC w0 B b lv N G k) :
  PrC w0 B b lv N 33 (ndA b ka kc (1) 32 ps num nm) ([[118, 97, 114], nm.data.toList, [58]] ++ G k0 ++ [[59]]) := by
 intro W bs hst hb
 unfold ndA
 obtain ⟨kb, ko, rfl, hkB, hcell⟩ := dM hk (by simp)
 have hcap := dG hk
 obtain ⟨hcap1, hcap2⟩ := hcap
 unfold maxLen at hcap2
 simp only [List.length_cons, List.length_nil, Nat.zero_add, Nat.reduceAdd] at hcap1 hcap2
 have HK0 : Bx (∀ W, Below B w0 W -> W.cell? ⟨kb, ko, none⟩ = some (.int .i64 (k0 : Int))) := ⟨fun W hb => hcell W hb 0 (by simp)⟩
 have HN0 : Bx _ := ⟨HC k0 (by simp)⟩
 have hS := BxS.start hst 32 ps num (.slice (some ⟨kb, ko, none⟩) (1) kc) (.string nm)
 obtain ⟨_, _, z0, z2, z3, z4, hxl, hbl⟩ := hS.post
 have y0 := HK0.out _ hS.st.bel
 have T0 : Bx True := ⟨trivial⟩
 have T1 : Bx True := ⟨trivial⟩
 clear hk HC hst hcell
 go_enter Tryz.func33, Tryz.ntmps33
 go_wp2_with (first
  | (go_at_call 17; refine Calls.mono (s_call HN0.out hS (by simp [ay, aN] at hb ⊢; omega)) ?_; clear hS z0 z2 z3 z4 hxl hbl y0; rintro e W' ⟨rfl, hS, z0, z2, z3, z4, hxl, hbl⟩; have y0 := HK0.out W' hS.st.bel)
  | (go_at_call 49; refine Calls.mono (dn hN rfl (by simp) hS (by simp [bC, hnm]) (by decide) (by simp [ay, aN] at hb ⊢; omega)) ?_; clear hS z0 z2 z3 z4 hxl hbl y0; rintro e W' ⟨rfl, hS, z0, z2, z3, z4, hxl, hbl⟩; have y0 := HK0.out W' hS.st.bel))
 go_end0
 exact bV hS (by simp [ay, aN])
theorem KR (w0 : World) (B b : Nat) (lv : Value) (N : Nat) (hN : N <= 140737488355328) (G : Nat -> List (List UInt8)) (ka : Option Addr) (kc : Nat) (ps num : Int) (k0 k1 : Nat) (nm : ByteArray) (hnm : nm.data.toList ≠ []) 
  (hk : aO w0 B (.slice ka ([k0, k1]).length kc) (([k0, k1]).map fun k : Nat => (k : Int))) (HC : ∀ k ∈ [k0, k1], NdC w0 B b lv N G k) :
  PrC w0 B b lv N 33 (ndA b ka kc (2) 32 ps num nm) ([[118, 97, 114], nm.data.toList, [58]] ++ G k0 ++ [[61]] ++ G k1 ++ [[59]]) := by
 intro W bs hst hb
 unfold ndA
 obtain ⟨kb, ko, rfl, hkB, hcell⟩ := dM hk (by simp)
 have hcap := dG hk
 obtain ⟨hcap1, hcap2⟩ := hcap
 unfold maxLen at hcap2
 simp only [List.length_cons, List.length_nil, Nat.zero_add, Nat.reduceAdd] at hcap1 hcap2
 have HK0 : Bx (∀ W, Below B w0 W -> W.cell? ⟨kb, ko, none⟩ = some (.int .i64 (k0 : Int))) := ⟨fun W hb => hcell W hb 0 (by simp)⟩
 have HK1 : Bx (∀ W, Below B w0 W -> W.cell? ⟨kb, ko + 1, none⟩ = some (.int .i64 (k1 : Int))) := ⟨fun W hb => hcell W hb 1 (by simp)⟩
 have HN0 : Bx _ := ⟨HC k0 (by simp)⟩
 have HN1 : Bx _ := ⟨HC k1 (by simp)⟩
 have hS := BxS.start hst 32 ps num (.slice (some ⟨kb, ko, none⟩) (2) kc) (.string nm)
 obtain ⟨_, _, z0, z2, z3, z4, hxl, hbl⟩ := hS.post
 have y0 := HK0.out _ hS.st.bel
 have y1 := HK1.out _ hS.st.bel
 have T0 : Bx True := ⟨trivial⟩
 have T1 : Bx True := ⟨trivial⟩
 clear hk HC hst hcell
 go_enter Tryz.func33, Tryz.ntmps33
 go_wp2_with (first
  | (go_at_call 17; clear T0; refine Calls.mono (s_call HN0.out hS (by simp [ay, aN] at hb ⊢; omega)) ?_; clear hS z0 z2 z3 z4 hxl hbl y0 y1; rintro e W' ⟨rfl, hS, z0, z2, z3, z4, hxl, hbl⟩; have y0 := HK0.out W' hS.st.bel; have y1 := HK1.out W' hS.st.bel)
  | (go_at_call 17; refine Calls.mono (s_call HN1.out hS (by simp [ay, aN] at hb ⊢; omega)) ?_; clear hS z0 z2 z3 z4 hxl hbl y0 y1; rintro e W' ⟨rfl, hS, z0, z2, z3, z4, hxl, hbl⟩; have y0 := HK0.out W' hS.st.bel; have y1 := HK1.out W' hS.st.bel)
  | (go_at_call 49; refine Calls.mono (dn hN rfl (by simp) hS (by simp [bC, hnm]) (by decide) (by simp [ay, aN] at hb ⊢; omega)) ?_; clear hS z0 z2 z3 z4 hxl hbl y0 y1; rintro e W' ⟨rfl, hS, z0, z2, z3, z4, hxl, hbl⟩; have y0 := HK0.out W' hS.st.bel; have y1 := HK1.out W' hS.st.bel))
 go_end0
 exact bV hS (by simp [ay, aN])
end Go.Proofs.YtecodpdfckjalaaGreatDoor
