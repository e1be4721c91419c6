import Derived.Test.YtfocggaocadkmaaDoorCTBox
import Derived.Deep.RegionHeld
import Derived.Deep.QuietTactic
import Derived.BigQuiet
namespace Go.Proofs.YtfocggaocadkmaaDoor
open Go.RowKit
set_option linter.unusedVariables false
set_option linter.unusedSimpArgs false

theorem kid_cells {w0 : World} {B : Nat} {ka : Option Addr} {kc : Nat} {ks : List Nat} (hk : IntsV w0 B (.slice ka ks.length kc) (ks.map fun k : Nat => (k : Int))) (h0 : 0 < ks.length) :
    ∃ kb ko, ka = some ⟨kb, ko, none⟩ ∧ kb < B ∧ ∀ W, Below B w0 W → ∀ i (h : i < ks.length), W.cell? ⟨kb, ko + i, none⟩ = some (.int .i64 ((ks[i] : Nat) : Int)) := by
  obtain ⟨a, cap, he, h1, h2, h3⟩ := hk.ex
  simp only [Value.slice.injEq] at he
  obtain ⟨rfl, -, rfl⟩ := he
  obtain ⟨kb, ko, rfl, hB, hc⟩ := h3 (by simpa using h0)
  refine ⟨kb, ko, rfl, hB, fun W hb i hi => ?_⟩
  rw [hb.cell (p := ⟨kb, ko + i, none⟩) hB]
  have := hc i (by simpa using hi)
  simpa using this

theorem slice_lh {w : World} {B : Nat} {a : Option Addr} {cap : Nat} {ks : List Nat} (h : IntsV w B (.slice a ks.length cap) (ks.map fun k : Nat => (k : Int))) (lo hi : Nat) (h1 : lo ≤ hi) (h2 : hi ≤ ks.length) (f : Value) (s : Nat)
    (hf : f = sliced a lo hi cap 1) : ∃ a' c', f = .slice a' (hi - lo) c' ∧ IntsV w B (.slice a' ((ks.drop lo).take (hi - lo)).length c') (((ks.drop lo).take (hi - lo)).map fun k : Nat => (k : Int)) := by
  obtain ⟨a0, c0, he, q1, q2, q3⟩ := h.ex
  simp only [Value.slice.injEq] at he
  obtain ⟨rfl, -, rfl⟩ := he
  simp only [List.length_map] at q1 q2 q3
  have hl : ((ks.drop lo).take (hi - lo)).length = hi - lo := by simp; omega
  refine ⟨_, _, hf, ⟨_, _, by rw [List.length_map], by rw [List.length_map, hl]; omega, by rw [List.length_map, hl]; omega, fun h0 => ?_⟩⟩
  rw [List.length_map, hl] at h0
  obtain ⟨b, o, rfl, hB, hc⟩ := q3 (by omega)
  rw [if_neg (by omega)]
  refine ⟨b, o + lo, by simp [Addr.add], hB, fun i hi' => ?_⟩
  rw [List.length_map, hl] at hi'
  have := hc (lo + i) (by omega)
  simp only [List.getElem_map] at this ⊢
  rw [show o + lo + i = o + (lo + i) by omega, this]
  simp

theorem und22 : Tryd.prog.underlying 22 = some (.slice (Tryd.prog.elem 22)) := by simp [Program.elem, Tryd.underlying22]
theorem elem22 : Tryd.prog.elem 22 = 3 := by simp [Program.elem, Tryd.underlying22]
theorem run_lh (W : World) (a : Option Addr) (n cap lo hi : Nat) (h1 : lo ≤ hi) (h2 : hi ≤ cap) : (Instr.slice 22 (.slice a n cap) (some (.int .i64 (lo : Int))) (some (.int .i64 (hi : Int))) none).run Tryd.prog W = .ok (sliced a lo hi cap 1) W := by
  rw [run_slice_lh W 22 a n cap und22 .i64 .i64 (lo : Int) (hi : Int) (by omega) (by omega) (by omega), elem22, sizeOf3]
  simp [Result.andThen]
theorem run_h (W : World) (a : Option Addr) (n cap hi : Nat) (h2 : hi ≤ cap) : (Instr.slice 22 (.slice a n cap) none (some (.int .i64 (hi : Int))) none).run Tryd.prog W = .ok (sliced a 0 hi cap 1) W := by
  rw [run_slice_h W 22 a n cap und22 .i64 (hi : Int) (by omega) (by omega), elem22, sizeOf3]
  simp [Result.andThen]
theorem run_l (W : World) (a : Option Addr) (n cap lo : Nat) (h1 : lo ≤ n) : (Instr.slice 22 (.slice a n cap) (some (.int .i64 (lo : Int))) none none).run Tryd.prog W = .ok (sliced a lo n cap 1) W := by
  rw [run_slice_l W 22 a n cap und22 .i64 (lo : Int) (by omega) (by omega), elem22, sizeOf3]
  simp [Result.andThen]
theorem ints_cap {w : World} {B : Nat} {a : Option Addr} {cap : Nat} {ks : List Nat} (h : IntsV w B (.slice a ks.length cap) (ks.map fun k : Nat => (k : Int))) : ks.length ≤ cap ∧ ks.length ≤ maxLen := by
  obtain ⟨a0, c0, he, q1, q2, q3⟩ := h.ex
  simp only [Value.slice.injEq] at he
  obtain ⟨rfl, -, rfl⟩ := he
  exact ⟨by simpa using q1, by simpa using q2⟩

set_option maxRecDepth 100000 in
set_option maxHeartbeats 2000000 in
theorem both_any (w0 : World) (B b : Nat) (lv : Value) (N : Nat) (hN : N ≤ 140737488355328) (G : Nat → List (List UInt8)) (ka : Option Addr) (kc : Nat) (kd ps num : Int) (k0 k1 : Nat) (r : List Nat) (nm sg : ByteArray) (hsg : sg.data.toList ≠ [])
    (hk : IntsV w0 B (.slice ka (k0 :: k1 :: r).length kc) ((k0 :: k1 :: r).map fun k : Nat => (k : Int))) (HC : ∀ k ∈ k0 :: k1 :: r, NdC w0 B b lv N G k) :
    PrC w0 B b lv N 56 #[.pointer (some ⟨b, 0, none⟩), .agg #[.int .i64 kd, .int .i64 ps, .slice ka (r.length + 2) kc, .string nm, .int .i64 num], .string sg] (G k0 ++ [sg.data.toList] ++ G k1) := by
  intro W bs hst hb
  obtain ⟨kb, ko, rfl, hkB, hcell⟩ := kid_cells hk (by simp)
  have hcap := (ints_cap hk).2
  unfold maxLen at hcap
  simp only [List.length_cons] at hcap
  have HK0 : Bx (∀ W, Below B w0 W → W.cell? ⟨kb, ko, none⟩ = some (.int .i64 (k0 : Int))) := ⟨fun W hb => hcell W hb 0 (by simp)⟩
  have HK1 : Bx (∀ W, Below B w0 W → W.cell? ⟨kb, ko + 1, none⟩ = some (.int .i64 (k1 : Int))) := ⟨fun W hb => hcell W hb 1 (by simp)⟩
  have HN0 : Bx _ := ⟨HC k0 (by simp)⟩
  have HN1 : Bx _ := ⟨HC k1 (by simp)⟩
  have hS := BxS.start hst kd ps num (.slice (some ⟨kb, ko, none⟩) (r.length + 2) kc) (.string nm)
  obtain ⟨_, _, z0, z2, z3, z4, hxl, hbl⟩ := hS.post
  have y0 := HK0.out _ hS.st.bel
  have y1 := HK1.out _ hS.st.bel
  have T1 : Bx True := ⟨trivial⟩
  clear hk HC hst hcell
  go_enter Tryd.func56, Tryd.ntmps56
  go_wp2_with (first
    | (go_at_call 48; refine Calls.mono (s_lay hN rfl (by simp) hS (by simp [StrsOk, hsg]) (by decide) (by simp [toksOf, strT] at hb ⊢; omega)) ?_; clear hS z0 z2 z3 z4 hxl hbl y0 y1; rintro e W' ⟨rfl, hS, z0, z2, z3, z4, hxl, hbl⟩; have y0 := HK0.out W' hS.st.bel; have y1 := HK1.out W' hS.st.bel)
    | (go_at_call 22; clear T1; refine Calls.mono (s_call HN0.out hS (by simp [toksOf, strT] at hb ⊢; omega)) ?_; clear hS z0 z2 z3 z4 hxl hbl y0 y1; rintro e W' ⟨rfl, hS, z0, z2, z3, z4, hxl, hbl⟩; have y0 := HK0.out W' hS.st.bel; have y1 := HK1.out W' hS.st.bel)
    | (go_at_call 22; refine Calls.mono (s_call HN1.out hS (by simp [toksOf, strT] at hb ⊢; omega)) ?_; clear hS z0 z2 z3 z4 hxl hbl y0 y1; rintro e W' ⟨rfl, hS, z0, z2, z3, z4, hxl, hbl⟩; have y0 := HK0.out W' hS.st.bel; have y1 := HK1.out W' hS.st.bel))
  go_end0
  exact s_end hS (by simp [toksOf, strT])

set_option maxRecDepth 100000 in
set_option maxHeartbeats 2000000 in
theorem pr_22 (w0 : World) (B b : Nat) (lv : Value) (N : Nat) (hN : N ≤ 140737488355328) (G : Nat → List (List UInt8)) (ka : Option Addr) (kc : Nat) (ps num : Int) (k0 k1 : Nat) (nm : ByteArray) 
    (hk : IntsV w0 B (.slice ka ([k0, k1]).length kc) (([k0, k1]).map fun k : Nat => (k : Int))) (HC : ∀ k ∈ [k0, k1], NdC w0 B b lv N G k) :
    PrC w0 B b lv N 30 (ndA b ka kc (2) 22 ps num nm) (G k0 ++ [opT num] ++ G k1) := by
  intro W bs hst hb
  unfold ndA
  have hne := op_ne num
  have HBoth : Bx _ := ⟨both_any w0 B b lv N hN G ka kc 22 ps num k0 k1 [] nm ⟨(opT num).toArray⟩ (by simpa using hne) hk HC⟩
  simp only [List.length_nil, Nat.zero_add] at HBoth
  have hS := BxS.start hst 22 ps num (.slice ka 2 kc) (.string nm)
  obtain ⟨_, _, z0, z2, z3, z4, hxl, hbl⟩ := hS.post
  obtain ⟨_, _, _, _, z1, _⟩ := box_cells hS.box
  have hSd := hS.ext (Below.drew (Below.refl _ _))
  have HB : Bx _ := ⟨s_call HBoth.out hSd (by simp at hb ⊢; omega)⟩
  clear hk HC hst hb
  go_enter Tryd.func30, Tryd.ntmps30
  go_wp2_with fail
  go_region_held (fun w' => w'.cell? ⟨W.heap.size, 0, none⟩ = some (.int .i64 22) ∧ w'.cell? ⟨W.heap.size, 1, none⟩ = some (.int .i64 ps) ∧ w'.cell? ⟨W.heap.size, 2, none⟩ = some (.slice ka 2 kc) ∧ w'.cell? ⟨W.heap.size, 3, none⟩ = some (.string nm) ∧ w'.cell? ⟨W.heap.size, 4, none⟩ = some (.int .i64 num))
    (first | exact ⟨z0, z1, z2, z3, z4⟩ | exact ⟨q0, q1, q2, q3, q4⟩ | (go_keep))
    (first | (go_at_call 55; refine (operator_any _ _).mono ?_; rintro e W' ⟨rfl, rfl⟩) | (go_at_call 56; refine Calls.mono HB.out ?_; rintro e W' ⟨rfl, hE, q0, q2, q3, q4, _, hbl2⟩; obtain ⟨_, _, _, _, q1, _⟩ := box_cells hE.box))
  go_wp2
  go_end0
  exact s_end hE (by simp)
end Go.Proofs.YtfocggaocadkmaaDoor
