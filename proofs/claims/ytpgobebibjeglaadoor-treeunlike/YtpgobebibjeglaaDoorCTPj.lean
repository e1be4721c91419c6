import Derived.Test.YtpgobebibjeglaaDoorCTPe
namespace Go.Proofs.YtpgobebibjeglaaDoor
open Go.RowKit
set_option linter.unusedVariables false
set_option linter.unusedSimpArgs false

set_option maxRecDepth 100000 in
set_option maxHeartbeats 2000000 in
theorem pr_7a (w0 : World) (B b : Nat) (lv : Value) (N : Nat) (hN : N ≤ 140737488355328) (G : Nat → List (List UInt8)) (ka : Option Addr) (kc : Nat) (ps : Int) (pp : List Nat) (nm : ByteArray) 
    (hk : IntsV w0 B (.slice ka (pp).length kc) ((pp).map fun k : Nat => (k : Int))) (HC : ∀ k ∈ pp, NdC w0 B b lv N G k) :
    PrC w0 B b lv N 24 (ndA b ka kc (pp.length) 7 ps 0 nm) ([[112, 114, 111, 103]] ++ ([[40]] ++ innerT G pp ++ [[41]]) ++ resT G []) := by
  intro W bs hst hb
  unfold ndA
  have hcap := ints_cap hk
  obtain ⟨hcap1, hcap2⟩ := hcap
  unfold maxLen at hcap2
  try simp only [List.length_append, List.length_cons, List.length_nil, Nat.zero_add] at hcap1 hcap2
  obtain ⟨a1, c1, he1, hi1⟩ := slice_lh hk (0) (pp.length) (by omega) (by simp) _ 0 rfl
  have hr1 : (((pp).drop (0)).take ((pp.length) - (0))) = pp := by simp
  rw [hr1] at hi1
  have hsl1 : ∀ W, (Instr.slice 41 (.slice ka (pp.length) kc) none (some (.int .i64 ((pp.length : Int)))) none).run Tryd.prog W = .ok (.slice a1 (pp).length c1) W := fun W => (run_h W ka (pp.length) kc (pp.length) (by omega)).trans (by rw [he1, show (pp.length) - (0) = (pp).length by simp])
  clear he1 hr1
  obtain ⟨a2, c2, he2, hi2⟩ := slice_lh hk (pp.length) (pp.length) (by omega) (by simp) _ 0 rfl
  have hr2 : (((pp).drop (pp.length)).take ((pp.length) - (pp.length))) = ([] : List Nat) := by simp
  rw [hr2] at hi2
  have hsl2 : ∀ W, (Instr.slice 41 (.slice ka (pp.length) kc) (some (.int .i64 ((pp.length : Int)))) none none).run Tryd.prog W = .ok (.slice a2 (([] : List Nat)).length c2) W := fun W => (run_l W ka (pp.length) kc (pp.length) (by omega)).trans (by rw [he2, show (pp.length) - (pp.length) = (([] : List Nat)).length by simp])
  clear he2 hr2
  have HList : Bx _ := ⟨list_any w0 B b lv N hN G pp a1 c1 ⟨#[40]⟩ ⟨#[41]⟩ (by simp) (by simp) hi1 (fun k hk => HC k (by simp [hk]))⟩
  have HRes : Bx _ := ⟨result_any w0 B b lv N hN G [] a2 c2 hi2 (fun k hk => by cases hk)⟩
  try simp only [List.length_cons, List.length_nil, Nat.zero_add] at hsl2 HRes
  clear hi1 hi2
  have hS := BxS.start hst 7 ps 0 (.slice ka (pp.length) kc) (.string nm)
  obtain ⟨_, _, z0, z2, z3, z4, hxl, hbl⟩ := hS.post
  clear hk HC hst
  go_enter Tryd.func24, Tryd.ntmps24
  go_wp2_with (first
    | (go_at_call 43; refine Calls.mono (s_lay hN rfl (by simp) hS (by simp [StrsOk]) (by decide) (by simp [toksOf, strT] at hb ⊢; omega)) ?_; clear hS z0 z2 z3 z4 hxl hbl ; rintro e W' ⟨rfl, hS, z0, z2, z3, z4, hxl, hbl⟩)
    | (go_at_call 45; refine Calls.mono (s_call HList.out hS (by simp [toksOf, strT] at hb ⊢; omega)) ?_; clear hS z0 z2 z3 z4 hxl hbl ; rintro e W' ⟨rfl, hS, z0, z2, z3, z4, hxl, hbl⟩)
    | (go_at_call 46; refine Calls.mono (s_call HRes.out hS (by simp [toksOf, strT] at hb ⊢; omega)) ?_; clear hS z0 z2 z3 z4 hxl hbl ; rintro e W' ⟨rfl, hS, z0, z2, z3, z4, hxl, hbl⟩))
  go_end0
  exact s_end hS (by simp [toksOf, strT])

set_option maxRecDepth 100000 in
set_option maxHeartbeats 2000000 in
theorem pr_7b (w0 : World) (B b : Nat) (lv : Value) (N : Nat) (hN : N ≤ 140737488355328) (G : Nat → List (List UInt8)) (ka : Option Addr) (kc : Nat) (ps : Int) (pp : List Nat) (kr : Nat) (nm : ByteArray) 
    (hk : IntsV w0 B (.slice ka (pp ++ [kr]).length kc) ((pp ++ [kr]).map fun k : Nat => (k : Int))) (HC : ∀ k ∈ pp ++ [kr], NdC w0 B b lv N G k) :
    PrC w0 B b lv N 24 (ndA b ka kc (pp.length + 1) 7 ps 1 nm) ([[112, 114, 111, 103]] ++ ([[40]] ++ innerT G pp ++ [[41]]) ++ resT G [kr]) := by
  intro W bs hst hb
  unfold ndA
  have hcap := ints_cap hk
  obtain ⟨hcap1, hcap2⟩ := hcap
  unfold maxLen at hcap2
  try simp only [List.length_append, List.length_cons, List.length_nil, Nat.zero_add] at hcap1 hcap2
  obtain ⟨a1, c1, he1, hi1⟩ := slice_lh hk (0) (pp.length) (by omega) (by simp) _ 0 rfl
  have hr1 : (((pp ++ [kr]).drop (0)).take ((pp.length) - (0))) = pp := by simp
  rw [hr1] at hi1
  have hsl1 : ∀ W, (Instr.slice 41 (.slice ka (pp.length + 1) kc) none (some (.int .i64 ((pp.length : Int)))) none).run Tryd.prog W = .ok (.slice a1 (pp).length c1) W := fun W => (run_h W ka (pp.length + 1) kc (pp.length) (by omega)).trans (by rw [he1, show (pp.length) - (0) = (pp).length by simp])
  clear he1 hr1
  obtain ⟨a2, c2, he2, hi2⟩ := slice_lh hk (pp.length) (pp.length + 1) (by omega) (by simp) _ 0 rfl
  have hr2 : (((pp ++ [kr]).drop (pp.length)).take ((pp.length + 1) - (pp.length))) = [kr] := by simp
  rw [hr2] at hi2
  have hsl2 : ∀ W, (Instr.slice 41 (.slice ka (pp.length + 1) kc) (some (.int .i64 ((pp.length : Int)))) none none).run Tryd.prog W = .ok (.slice a2 ([kr]).length c2) W := fun W => (run_l W ka (pp.length + 1) kc (pp.length) (by omega)).trans (by rw [he2, show (pp.length + 1) - (pp.length) = ([kr]).length by simp])
  clear he2 hr2
  have HList : Bx _ := ⟨list_any w0 B b lv N hN G pp a1 c1 ⟨#[40]⟩ ⟨#[41]⟩ (by simp) (by simp) hi1 (fun k hk => HC k (by simp [hk]))⟩
  have HRes : Bx _ := ⟨result_any w0 B b lv N hN G [kr] a2 c2 hi2 (fun k hk => HC k (by simp at hk ⊢; simp [hk]))⟩
  try simp only [List.length_cons, List.length_nil, Nat.zero_add] at hsl2 HRes
  clear hi1 hi2
  have hS := BxS.start hst 7 ps 1 (.slice ka (pp.length + 1) kc) (.string nm)
  obtain ⟨_, _, z0, z2, z3, z4, hxl, hbl⟩ := hS.post
  clear hk HC hst
  go_enter Tryd.func24, Tryd.ntmps24
  go_wp2_with (first
    | (go_at_call 43; refine Calls.mono (s_lay hN rfl (by simp) hS (by simp [StrsOk]) (by decide) (by simp [toksOf, strT] at hb ⊢; omega)) ?_; clear hS z0 z2 z3 z4 hxl hbl ; rintro e W' ⟨rfl, hS, z0, z2, z3, z4, hxl, hbl⟩)
    | (go_at_call 45; refine Calls.mono (s_call HList.out hS (by simp [toksOf, strT] at hb ⊢; omega)) ?_; clear hS z0 z2 z3 z4 hxl hbl ; rintro e W' ⟨rfl, hS, z0, z2, z3, z4, hxl, hbl⟩)
    | (go_at_call 46; refine Calls.mono (s_call HRes.out hS (by simp [toksOf, strT] at hb ⊢; omega)) ?_; clear hS z0 z2 z3 z4 hxl hbl ; rintro e W' ⟨rfl, hS, z0, z2, z3, z4, hxl, hbl⟩))
  go_end0
  exact s_end hS (by simp [toksOf, strT])

set_option maxRecDepth 100000 in
set_option maxHeartbeats 2000000 in
theorem prog_00 (w0 : World) (B b : Nat) (lv : Value) (N : Nat) (hN : N ≤ 140737488355328) (G : Nat → List (List UInt8)) (ka : Option Addr) (kc : Nat) (ps : Int) (pp : List Nat) (kz : Nat) (nm : ByteArray) (hem : nm.toList.isEmpty = true) 
    (hk : IntsV w0 B (.slice ka (pp ++ [kz]).length kc) ((pp ++ [kz]).map fun k : Nat => (k : Int))) (HC : ∀ k ∈ pp ++ [kz], NdC w0 B b lv N G k) :
    PrC w0 B b lv N 49 (ndA b ka kc (pp.length + 1) 20 ps 0 nm) ([[112, 114, 111, 103]] ++ ([[40]] ++ innerT G pp ++ [[41]]) ++ resT G ([] : List Nat) ++ G kz) := by
  intro W bs hst hb
  unfold ndA
  have hcap := ints_cap hk
  obtain ⟨hcap1, hcap2⟩ := hcap
  unfold maxLen at hcap2
  try simp only [List.length_append, List.length_cons, List.length_nil, Nat.zero_add] at hcap1 hcap2
  obtain ⟨a1, c1, he1, hi1⟩ := slice_lh hk (0) (pp.length) (by omega) (by simp) _ 0 rfl
  have hr1 : (((pp ++ [kz]).drop (0)).take ((pp.length) - (0))) = pp := by simp
  rw [hr1] at hi1
  have hsl1 : ∀ W, (Instr.slice 41 (.slice ka (pp.length + 1) kc) none (some (.int .i64 ((pp.length : Int)))) none).run Tryd.prog W = .ok (.slice a1 (pp).length c1) W := fun W => (run_h W ka (pp.length + 1) kc (pp.length) (by omega)).trans (by rw [he1, show (pp.length) - (0) = (pp).length by simp])
  clear he1 hr1
  obtain ⟨a2, c2, he2, hi2⟩ := slice_lh hk (pp.length) (pp.length) (by omega) (by simp) _ 0 rfl
  have hr2 : (((pp ++ [kz]).drop (pp.length)).take ((pp.length) - (pp.length))) = ([] : List Nat) := by simp
  rw [hr2] at hi2
  have hsl2 : ∀ W, (Instr.slice 41 (.slice ka (pp.length + 1) kc) (some (.int .i64 ((pp.length : Int)))) (some (.int .i64 ((pp.length : Int)))) none).run Tryd.prog W = .ok (.slice a2 (([] : List Nat)).length c2) W := fun W => (run_lh W ka (pp.length + 1) kc (pp.length) (pp.length) (by omega) (by omega)).trans (by rw [he2, show (pp.length) - (pp.length) = (([] : List Nat)).length by simp])
  clear he2 hr2
  have HList : Bx _ := ⟨list_any w0 B b lv N hN G pp a1 c1 ⟨#[40]⟩ ⟨#[41]⟩ (by simp) (by simp) hi1 (fun k hk => HC k (by simp [hk]))⟩
  have HRes : Bx _ := ⟨result_any w0 B b lv N hN G ([] : List Nat) a2 c2 hi2 (fun k hk => by cases hk)⟩
  try simp only [List.length_cons, List.length_nil, Nat.zero_add] at hsl2 HRes
  clear hi1 hi2
  obtain ⟨kb, ko, rfl, hkB, hcell⟩ := kid_cells hk (by simp)
  have HK0 : Bx (∀ W, Below B w0 W → W.cell? ⟨kb, ko + (pp.length), none⟩ = some (.int .i64 (kz : Int))) := ⟨fun W hb => by have := hcell W hb (pp.length) (by simp); simpa using this⟩
  have HN0 : Bx _ := ⟨HC kz (by simp)⟩
  clear hcell
  have hS := BxS.start hst 20 ps 0 (.slice (some ⟨kb, ko, none⟩) (pp.length + 1) kc) (.string nm)
  obtain ⟨_, _, z0, z2, z3, z4, hxl, hbl⟩ := hS.post
  have y0 := HK0.out _ hS.st.bel
  clear hk HC hst
  go_enter Tryd.func49, Tryd.ntmps49
  go_wp2_with (first
    | (go_at_call 43; refine Calls.mono (s_lay hN rfl (by simp) hS (by simp [StrsOk]) (by decide) (by simp [toksOf, strT] at hb ⊢; omega)) ?_; clear hS z0 z2 z3 z4 hxl hbl y0; rintro e W' ⟨rfl, hS, z0, z2, z3, z4, hxl, hbl⟩; have y0 := HK0.out W' hS.st.bel)
    | (go_at_call 45; refine Calls.mono (s_call HList.out hS (by simp [toksOf, strT] at hb ⊢; omega)) ?_; clear hS z0 z2 z3 z4 hxl hbl y0; rintro e W' ⟨rfl, hS, z0, z2, z3, z4, hxl, hbl⟩; have y0 := HK0.out W' hS.st.bel)
    | (go_at_call 46; refine Calls.mono (s_call HRes.out hS (by simp [toksOf, strT] at hb ⊢; omega)) ?_; clear hS z0 z2 z3 z4 hxl hbl y0; rintro e W' ⟨rfl, hS, z0, z2, z3, z4, hxl, hbl⟩; have y0 := HK0.out W' hS.st.bel)
    | (go_at_call 15; refine Calls.mono (s_call HN0.out hS (by simp [toksOf, strT] at hb ⊢; omega)) ?_; clear hS z0 z2 z3 z4 hxl hbl y0; rintro e W' ⟨rfl, hS, z0, z2, z3, z4, hxl, hbl⟩; have y0 := HK0.out W' hS.st.bel))
  go_end0
  exact s_end hS (by simp [toksOf, strT])

set_option maxRecDepth 100000 in
set_option maxHeartbeats 2000000 in
theorem prog_01 (w0 : World) (B b : Nat) (lv : Value) (N : Nat) (hN : N ≤ 140737488355328) (G : Nat → List (List UInt8)) (ka : Option Addr) (kc : Nat) (ps : Int) (pp : List Nat) (kz : Nat) (nm : ByteArray) (hnm : nm.data.toList ≠ []) (hem : nm.toList.isEmpty = false) 
    (hk : IntsV w0 B (.slice ka (pp ++ [kz]).length kc) ((pp ++ [kz]).map fun k : Nat => (k : Int))) (HC : ∀ k ∈ pp ++ [kz], NdC w0 B b lv N G k) :
    PrC w0 B b lv N 49 (ndA b ka kc (pp.length + 1) 20 ps 0 nm) ([[112, 114, 111, 103]] ++ [nm.data.toList] ++ ([[40]] ++ innerT G pp ++ [[41]]) ++ resT G ([] : List Nat) ++ G kz) := by
  intro W bs hst hb
  unfold ndA
  have hcap := ints_cap hk
  obtain ⟨hcap1, hcap2⟩ := hcap
  unfold maxLen at hcap2
  try simp only [List.length_append, List.length_cons, List.length_nil, Nat.zero_add] at hcap1 hcap2
  obtain ⟨a1, c1, he1, hi1⟩ := slice_lh hk (0) (pp.length) (by omega) (by simp) _ 0 rfl
  have hr1 : (((pp ++ [kz]).drop (0)).take ((pp.length) - (0))) = pp := by simp
  rw [hr1] at hi1
  have hsl1 : ∀ W, (Instr.slice 41 (.slice ka (pp.length + 1) kc) none (some (.int .i64 ((pp.length : Int)))) none).run Tryd.prog W = .ok (.slice a1 (pp).length c1) W := fun W => (run_h W ka (pp.length + 1) kc (pp.length) (by omega)).trans (by rw [he1, show (pp.length) - (0) = (pp).length by simp])
  clear he1 hr1
  obtain ⟨a2, c2, he2, hi2⟩ := slice_lh hk (pp.length) (pp.length) (by omega) (by simp) _ 0 rfl
  have hr2 : (((pp ++ [kz]).drop (pp.length)).take ((pp.length) - (pp.length))) = ([] : List Nat) := by simp
  rw [hr2] at hi2
  have hsl2 : ∀ W, (Instr.slice 41 (.slice ka (pp.length + 1) kc) (some (.int .i64 ((pp.length : Int)))) (some (.int .i64 ((pp.length : Int)))) none).run Tryd.prog W = .ok (.slice a2 (([] : List Nat)).length c2) W := fun W => (run_lh W ka (pp.length + 1) kc (pp.length) (pp.length) (by omega) (by omega)).trans (by rw [he2, show (pp.length) - (pp.length) = (([] : List Nat)).length by simp])
  clear he2 hr2
  have HList : Bx _ := ⟨list_any w0 B b lv N hN G pp a1 c1 ⟨#[40]⟩ ⟨#[41]⟩ (by simp) (by simp) hi1 (fun k hk => HC k (by simp [hk]))⟩
  have HRes : Bx _ := ⟨result_any w0 B b lv N hN G ([] : List Nat) a2 c2 hi2 (fun k hk => by cases hk)⟩
  try simp only [List.length_cons, List.length_nil, Nat.zero_add] at hsl2 HRes
  clear hi1 hi2
  obtain ⟨kb, ko, rfl, hkB, hcell⟩ := kid_cells hk (by simp)
  have HK0 : Bx (∀ W, Below B w0 W → W.cell? ⟨kb, ko + (pp.length), none⟩ = some (.int .i64 (kz : Int))) := ⟨fun W hb => by have := hcell W hb (pp.length) (by simp); simpa using this⟩
  have HN0 : Bx _ := ⟨HC kz (by simp)⟩
  clear hcell
  have hS := BxS.start hst 20 ps 0 (.slice (some ⟨kb, ko, none⟩) (pp.length + 1) kc) (.string nm)
  obtain ⟨_, _, z0, z2, z3, z4, hxl, hbl⟩ := hS.post
  have y0 := HK0.out _ hS.st.bel
  clear hk HC hst
  go_enter Tryd.func49, Tryd.ntmps49
  go_wp2_with (first
    | (go_at_call 43; refine Calls.mono (s_lay hN rfl (by simp) hS (by simp [StrsOk, hnm]) (by decide) (by simp [toksOf, strT] at hb ⊢; omega)) ?_; clear hS z0 z2 z3 z4 hxl hbl y0; rintro e W' ⟨rfl, hS, z0, z2, z3, z4, hxl, hbl⟩; have y0 := HK0.out W' hS.st.bel)
    | (go_at_call 45; refine Calls.mono (s_call HList.out hS (by simp [toksOf, strT] at hb ⊢; omega)) ?_; clear hS z0 z2 z3 z4 hxl hbl y0; rintro e W' ⟨rfl, hS, z0, z2, z3, z4, hxl, hbl⟩; have y0 := HK0.out W' hS.st.bel)
    | (go_at_call 46; refine Calls.mono (s_call HRes.out hS (by simp [toksOf, strT] at hb ⊢; omega)) ?_; clear hS z0 z2 z3 z4 hxl hbl y0; rintro e W' ⟨rfl, hS, z0, z2, z3, z4, hxl, hbl⟩; have y0 := HK0.out W' hS.st.bel)
    | (go_at_call 15; refine Calls.mono (s_call HN0.out hS (by simp [toksOf, strT] at hb ⊢; omega)) ?_; clear hS z0 z2 z3 z4 hxl hbl y0; rintro e W' ⟨rfl, hS, z0, z2, z3, z4, hxl, hbl⟩; have y0 := HK0.out W' hS.st.bel))
  go_end0
  exact s_end hS (by simp [toksOf, strT])

set_option maxRecDepth 100000 in
set_option maxHeartbeats 2000000 in
theorem prog_10 (w0 : World) (B b : Nat) (lv : Value) (N : Nat) (hN : N ≤ 140737488355328) (G : Nat → List (List UInt8)) (ka : Option Addr) (kc : Nat) (ps : Int) (pp : List Nat) (kr : Nat) (kz : Nat) (nm : ByteArray) (hem : nm.toList.isEmpty = true) 
    (hk : IntsV w0 B (.slice ka (pp ++ [kr, kz]).length kc) ((pp ++ [kr, kz]).map fun k : Nat => (k : Int))) (HC : ∀ k ∈ pp ++ [kr, kz], NdC w0 B b lv N G k) :
    PrC w0 B b lv N 49 (ndA b ka kc (pp.length + 2) 20 ps 1 nm) ([[112, 114, 111, 103]] ++ ([[40]] ++ innerT G pp ++ [[41]]) ++ resT G [kr] ++ G kz) := by
  intro W bs hst hb
  unfold ndA
  have hcap := ints_cap hk
  obtain ⟨hcap1, hcap2⟩ := hcap
  unfold maxLen at hcap2
  try simp only [List.length_append, List.length_cons, List.length_nil, Nat.zero_add] at hcap1 hcap2
  obtain ⟨a1, c1, he1, hi1⟩ := slice_lh hk (0) (pp.length) (by omega) (by simp) _ 0 rfl
  have hr1 : (((pp ++ [kr, kz]).drop (0)).take ((pp.length) - (0))) = pp := by simp
  rw [hr1] at hi1
  have hsl1 : ∀ W, (Instr.slice 41 (.slice ka (pp.length + 2) kc) none (some (.int .i64 ((pp.length : Int)))) none).run Tryd.prog W = .ok (.slice a1 (pp).length c1) W := fun W => (run_h W ka (pp.length + 2) kc (pp.length) (by omega)).trans (by rw [he1, show (pp.length) - (0) = (pp).length by simp])
  clear he1 hr1
  obtain ⟨a2, c2, he2, hi2⟩ := slice_lh hk (pp.length) (pp.length + 1) (by omega) (by simp) _ 0 rfl
  have hr2 : (((pp ++ [kr, kz]).drop (pp.length)).take ((pp.length + 1) - (pp.length))) = [kr] := by simp
  rw [hr2] at hi2
  have hsl2 : ∀ W, (Instr.slice 41 (.slice ka (pp.length + 2) kc) (some (.int .i64 ((pp.length : Int)))) (some (.int .i64 ((pp.length : Int) + 1))) none).run Tryd.prog W = .ok (.slice a2 ([kr]).length c2) W := fun W => (run_lh W ka (pp.length + 2) kc (pp.length) (pp.length + 1) (by omega) (by omega)).trans (by rw [he2, show (pp.length + 1) - (pp.length) = ([kr]).length by simp])
  clear he2 hr2
  have HList : Bx _ := ⟨list_any w0 B b lv N hN G pp a1 c1 ⟨#[40]⟩ ⟨#[41]⟩ (by simp) (by simp) hi1 (fun k hk => HC k (by simp [hk]))⟩
  have HRes : Bx _ := ⟨result_any w0 B b lv N hN G [kr] a2 c2 hi2 (fun k hk => HC k (by simp at hk ⊢; simp [hk]))⟩
  try simp only [List.length_cons, List.length_nil, Nat.zero_add] at hsl2 HRes
  clear hi1 hi2
  obtain ⟨kb, ko, rfl, hkB, hcell⟩ := kid_cells hk (by simp)
  have HK0 : Bx (∀ W, Below B w0 W → W.cell? ⟨kb, ko + (pp.length + 1), none⟩ = some (.int .i64 (kz : Int))) := ⟨fun W hb => by have := hcell W hb (pp.length + 1) (by simp); simpa using this⟩
  have HN0 : Bx _ := ⟨HC kz (by simp)⟩
  clear hcell
  have hA1 : ((pp.length : Nat) : Int) + 2 - 1 = ((pp.length : Nat) : Int) + 1 := by omega
  have hS := BxS.start hst 20 ps 1 (.slice (some ⟨kb, ko, none⟩) (pp.length + 2) kc) (.string nm)
  obtain ⟨_, _, z0, z2, z3, z4, hxl, hbl⟩ := hS.post
  have y0 := HK0.out _ hS.st.bel
  clear hk HC hst
  go_enter Tryd.func49, Tryd.ntmps49
  go_wp2_with (first
    | (go_at_call 43; refine Calls.mono (s_lay hN rfl (by simp) hS (by simp [StrsOk]) (by decide) (by simp [toksOf, strT] at hb ⊢; omega)) ?_; clear hS z0 z2 z3 z4 hxl hbl y0; rintro e W' ⟨rfl, hS, z0, z2, z3, z4, hxl, hbl⟩; have y0 := HK0.out W' hS.st.bel)
    | (go_at_call 45; refine Calls.mono (s_call HList.out hS (by simp [toksOf, strT] at hb ⊢; omega)) ?_; clear hS z0 z2 z3 z4 hxl hbl y0; rintro e W' ⟨rfl, hS, z0, z2, z3, z4, hxl, hbl⟩; have y0 := HK0.out W' hS.st.bel)
    | (go_at_call 46; refine Calls.mono (s_call HRes.out hS (by simp [toksOf, strT] at hb ⊢; omega)) ?_; clear hS z0 z2 z3 z4 hxl hbl y0; rintro e W' ⟨rfl, hS, z0, z2, z3, z4, hxl, hbl⟩; have y0 := HK0.out W' hS.st.bel)
    | (go_at_call 15; refine Calls.mono (s_call HN0.out hS (by simp [toksOf, strT] at hb ⊢; omega)) ?_; clear hS z0 z2 z3 z4 hxl hbl y0; rintro e W' ⟨rfl, hS, z0, z2, z3, z4, hxl, hbl⟩; have y0 := HK0.out W' hS.st.bel))
  go_end0
  exact s_end hS (by simp [toksOf, strT])

set_option maxRecDepth 100000 in
set_option maxHeartbeats 2000000 in
theorem prog_11 (w0 : World) (B b : Nat) (lv : Value) (N : Nat) (hN : N ≤ 140737488355328) (G : Nat → List (List UInt8)) (ka : Option Addr) (kc : Nat) (ps : Int) (pp : List Nat) (kr : Nat) (kz : Nat) (nm : ByteArray) (hnm : nm.data.toList ≠ []) (hem : nm.toList.isEmpty = false) 
    (hk : IntsV w0 B (.slice ka (pp ++ [kr, kz]).length kc) ((pp ++ [kr, kz]).map fun k : Nat => (k : Int))) (HC : ∀ k ∈ pp ++ [kr, kz], NdC w0 B b lv N G k) :
    PrC w0 B b lv N 49 (ndA b ka kc (pp.length + 2) 20 ps 1 nm) ([[112, 114, 111, 103]] ++ [nm.data.toList] ++ ([[40]] ++ innerT G pp ++ [[41]]) ++ resT G [kr] ++ G kz) := by
  intro W bs hst hb
  unfold ndA
  have hcap := ints_cap hk
  obtain ⟨hcap1, hcap2⟩ := hcap
  unfold maxLen at hcap2
  try simp only [List.length_append, List.length_cons, List.length_nil, Nat.zero_add] at hcap1 hcap2
  obtain ⟨a1, c1, he1, hi1⟩ := slice_lh hk (0) (pp.length) (by omega) (by simp) _ 0 rfl
  have hr1 : (((pp ++ [kr, kz]).drop (0)).take ((pp.length) - (0))) = pp := by simp
  rw [hr1] at hi1
  have hsl1 : ∀ W, (Instr.slice 41 (.slice ka (pp.length + 2) kc) none (some (.int .i64 ((pp.length : Int)))) none).run Tryd.prog W = .ok (.slice a1 (pp).length c1) W := fun W => (run_h W ka (pp.length + 2) kc (pp.length) (by omega)).trans (by rw [he1, show (pp.length) - (0) = (pp).length by simp])
  clear he1 hr1
  obtain ⟨a2, c2, he2, hi2⟩ := slice_lh hk (pp.length) (pp.length + 1) (by omega) (by simp) _ 0 rfl
  have hr2 : (((pp ++ [kr, kz]).drop (pp.length)).take ((pp.length + 1) - (pp.length))) = [kr] := by simp
  rw [hr2] at hi2
  have hsl2 : ∀ W, (Instr.slice 41 (.slice ka (pp.length + 2) kc) (some (.int .i64 ((pp.length : Int)))) (some (.int .i64 ((pp.length : Int) + 1))) none).run Tryd.prog W = .ok (.slice a2 ([kr]).length c2) W := fun W => (run_lh W ka (pp.length + 2) kc (pp.length) (pp.length + 1) (by omega) (by omega)).trans (by rw [he2, show (pp.length + 1) - (pp.length) = ([kr]).length by simp])
  clear he2 hr2
  have HList : Bx _ := ⟨list_any w0 B b lv N hN G pp a1 c1 ⟨#[40]⟩ ⟨#[41]⟩ (by simp) (by simp) hi1 (fun k hk => HC k (by simp [hk]))⟩
  have HRes : Bx _ := ⟨result_any w0 B b lv N hN G [kr] a2 c2 hi2 (fun k hk => HC k (by simp at hk ⊢; simp [hk]))⟩
  try simp only [List.length_cons, List.length_nil, Nat.zero_add] at hsl2 HRes
  clear hi1 hi2
  obtain ⟨kb, ko, rfl, hkB, hcell⟩ := kid_cells hk (by simp)
  have HK0 : Bx (∀ W, Below B w0 W → W.cell? ⟨kb, ko + (pp.length + 1), none⟩ = some (.int .i64 (kz : Int))) := ⟨fun W hb => by have := hcell W hb (pp.length + 1) (by simp); simpa using this⟩
  have HN0 : Bx _ := ⟨HC kz (by simp)⟩
  clear hcell
  have hA1 : ((pp.length : Nat) : Int) + 2 - 1 = ((pp.length : Nat) : Int) + 1 := by omega
  have hS := BxS.start hst 20 ps 1 (.slice (some ⟨kb, ko, none⟩) (pp.length + 2) kc) (.string nm)
  obtain ⟨_, _, z0, z2, z3, z4, hxl, hbl⟩ := hS.post
  have y0 := HK0.out _ hS.st.bel
  clear hk HC hst
  go_enter Tryd.func49, Tryd.ntmps49
  go_wp2_with (first
    | (go_at_call 43; refine Calls.mono (s_lay hN rfl (by simp) hS (by simp [StrsOk, hnm]) (by decide) (by simp [toksOf, strT] at hb ⊢; omega)) ?_; clear hS z0 z2 z3 z4 hxl hbl y0; rintro e W' ⟨rfl, hS, z0, z2, z3, z4, hxl, hbl⟩; have y0 := HK0.out W' hS.st.bel)
    | (go_at_call 45; refine Calls.mono (s_call HList.out hS (by simp [toksOf, strT] at hb ⊢; omega)) ?_; clear hS z0 z2 z3 z4 hxl hbl y0; rintro e W' ⟨rfl, hS, z0, z2, z3, z4, hxl, hbl⟩; have y0 := HK0.out W' hS.st.bel)
    | (go_at_call 46; refine Calls.mono (s_call HRes.out hS (by simp [toksOf, strT] at hb ⊢; omega)) ?_; clear hS z0 z2 z3 z4 hxl hbl y0; rintro e W' ⟨rfl, hS, z0, z2, z3, z4, hxl, hbl⟩; have y0 := HK0.out W' hS.st.bel)
    | (go_at_call 15; refine Calls.mono (s_call HN0.out hS (by simp [toksOf, strT] at hb ⊢; omega)) ?_; clear hS z0 z2 z3 z4 hxl hbl y0; rintro e W' ⟨rfl, hS, z0, z2, z3, z4, hxl, hbl⟩; have y0 := HK0.out W' hS.st.bel))
  go_end0
  exact s_end hS (by simp [toksOf, strT])

set_option maxRecDepth 100000 in
set_option maxHeartbeats 2000000 in
theorem pr_20 (w0 : World) (B b : Nat) (lv : Value) (N : Nat) (ka : Option Addr) (nk kc : Nat) (ps num : Int) (nm : ByteArray) (T : List (List UInt8)) (HP : PrC w0 B b lv N 49 (ndA b ka kc nk 20 ps num nm) T) :
    PrC w0 B b lv N 25 (ndA b ka kc nk 20 ps num nm) T := by
  intro W bs hst hb
  unfold ndA at *
  have hS := BxS.start hst 20 ps num (.slice ka nk kc) (.string nm)
  obtain ⟨_, _, z0, z2, z3, z4, hxl, hbl⟩ := hS.post
  obtain ⟨_, _, _, _, z1, _⟩ := box_cells hS.box
  have HC : Bx _ := ⟨s_call HP hS (by simpa using hb)⟩
  clear hst hS HP
  go_enter Tryd.func25, Tryd.ntmps25
  go_wp2_with (first
    | (go_at_call 49; refine Calls.mono HC.out ?_; rintro e W' ⟨rfl, hE, _⟩))
  go_end0
  exact s_end hE (by simp)
end Go.Proofs.YtpgobebibjeglaaDoor
