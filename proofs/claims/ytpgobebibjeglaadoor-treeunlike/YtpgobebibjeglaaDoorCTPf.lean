import Derived.Test.YtpgobebibjeglaaDoorCTPe
namespace Go.Proofs.YtpgobebibjeglaaDoor
open Go.RowKit
set_option linter.unusedVariables false
set_option linter.unusedSimpArgs false

set_option maxRecDepth 100000 in
set_option maxHeartbeats 2000000 in
theorem pr_33 (w0 : World) (B b : Nat) (lv : Value) (N : Nat) (hN : N ≤ 140737488355328) (G : Nat → List (List UInt8)) (ka : Option Addr) (kc : Nat) (ps num : Int) (k0 k1 : Nat) (nm : ByteArray) 
    (hk : IntsV w0 B (.slice ka ([k0, k1]).length kc) (([k0, k1]).map fun k : Nat => (k : Int))) (HC : ∀ k ∈ [k0, k1], NdC w0 B b lv N G k) :
    PrC w0 B b lv N 27 (ndA b ka kc (2) 33 ps num nm) (G k0 ++ [[61]] ++ G k1 ++ [[59]]) := by
  intro W bs hst hb
  unfold ndA
  obtain ⟨kb, ko, rfl, hkB, hcell⟩ := kid_cells hk (by simp)
  have hcap := ints_cap hk
  obtain ⟨hcap1, hcap2⟩ := hcap
  unfold maxLen at hcap2
  try simp only [List.length_cons, List.length_nil, Nat.zero_add, Nat.reduceAdd] at hcap1 hcap2
  have HK0 : Bx (∀ W, Below B w0 W → W.cell? ⟨kb, ko, none⟩ = some (.int .i64 (k0 : Int))) := ⟨fun W hb => hcell W hb 0 (by simp)⟩
  have HBoth : Bx _ := ⟨both_any w0 B b lv N hN G (some ⟨kb, ko, none⟩) kc 33 ps num k0 k1 [] nm ⟨#[61]⟩ (by simp) hk HC⟩
  simp only [List.length_nil, Nat.zero_add] at HBoth
  have hS := BxS.start hst 33 ps num (.slice (some ⟨kb, ko, none⟩) (2) kc) (.string nm)
  obtain ⟨_, _, z0, z2, z3, z4, hxl, hbl⟩ := hS.post
  have y0 := HK0.out _ hS.st.bel
  obtain ⟨_, _, _, _, z1, _⟩ := box_cells hS.box
  have T0 : Bx True := ⟨trivial⟩
  have T1 : Bx True := ⟨trivial⟩
  clear hk HC hst hcell
  go_enter Tryd.func27, Tryd.ntmps27
  go_wp2_with (first
    | (go_at_call 51; refine Calls.mono (s_call HBoth.out hS (by simp [toksOf, strT] at hb ⊢; omega)) ?_; clear hS z0 z2 z3 z4 hxl hbl y0; rintro e W' ⟨rfl, hS, z0, z2, z3, z4, hxl, hbl⟩; have y0 := HK0.out W' hS.st.bel)
    | (go_at_call 43; refine Calls.mono (s_lay hN rfl (by simp) hS (by simp [StrsOk]) (by decide) (by simp [toksOf, strT] at hb ⊢; omega)) ?_; clear hS z0 z2 z3 z4 hxl hbl y0; rintro e W' ⟨rfl, hS, z0, z2, z3, z4, hxl, hbl⟩; have y0 := HK0.out W' hS.st.bel))
  go_end0
  exact s_end hS (by simp [toksOf, strT])

set_option maxRecDepth 100000 in
set_option maxHeartbeats 2000000 in
theorem pr_34 (w0 : World) (B b : Nat) (lv : Value) (N : Nat) (hN : N ≤ 140737488355328) (G : Nat → List (List UInt8)) (ka : Option Addr) (kc : Nat) (ps num : Int) (k0 k1 : Nat) (nm : ByteArray) 
    (hk : IntsV w0 B (.slice ka ([k0, k1]).length kc) (([k0, k1]).map fun k : Nat => (k : Int))) (HC : ∀ k ∈ [k0, k1], NdC w0 B b lv N G k) :
    PrC w0 B b lv N 27 (ndA b ka kc (2) 34 ps num nm) (G k0 ++ [[60, 45, 61]] ++ G k1 ++ [[59]]) := by
  intro W bs hst hb
  unfold ndA
  obtain ⟨kb, ko, rfl, hkB, hcell⟩ := kid_cells hk (by simp)
  have hcap := ints_cap hk
  obtain ⟨hcap1, hcap2⟩ := hcap
  unfold maxLen at hcap2
  try simp only [List.length_cons, List.length_nil, Nat.zero_add, Nat.reduceAdd] at hcap1 hcap2
  have HK0 : Bx (∀ W, Below B w0 W → W.cell? ⟨kb, ko, none⟩ = some (.int .i64 (k0 : Int))) := ⟨fun W hb => hcell W hb 0 (by simp)⟩
  have HBoth : Bx _ := ⟨both_any w0 B b lv N hN G (some ⟨kb, ko, none⟩) kc 34 ps num k0 k1 [] nm ⟨#[60, 45, 61]⟩ (by simp) hk HC⟩
  simp only [List.length_nil, Nat.zero_add] at HBoth
  have hS := BxS.start hst 34 ps num (.slice (some ⟨kb, ko, none⟩) (2) kc) (.string nm)
  obtain ⟨_, _, z0, z2, z3, z4, hxl, hbl⟩ := hS.post
  have y0 := HK0.out _ hS.st.bel
  obtain ⟨_, _, _, _, z1, _⟩ := box_cells hS.box
  have T0 : Bx True := ⟨trivial⟩
  have T1 : Bx True := ⟨trivial⟩
  clear hk HC hst hcell
  go_enter Tryd.func27, Tryd.ntmps27
  go_wp2_with (first
    | (go_at_call 51; refine Calls.mono (s_call HBoth.out hS (by simp [toksOf, strT] at hb ⊢; omega)) ?_; clear hS z0 z2 z3 z4 hxl hbl y0; rintro e W' ⟨rfl, hS, z0, z2, z3, z4, hxl, hbl⟩; have y0 := HK0.out W' hS.st.bel)
    | (go_at_call 43; refine Calls.mono (s_lay hN rfl (by simp) hS (by simp [StrsOk]) (by decide) (by simp [toksOf, strT] at hb ⊢; omega)) ?_; clear hS z0 z2 z3 z4 hxl hbl y0; rintro e W' ⟨rfl, hS, z0, z2, z3, z4, hxl, hbl⟩; have y0 := HK0.out W' hS.st.bel))
  go_end0
  exact s_end hS (by simp [toksOf, strT])

set_option maxRecDepth 100000 in
set_option maxHeartbeats 2000000 in
theorem pr_44 (w0 : World) (B b : Nat) (lv : Value) (N : Nat) (hN : N ≤ 140737488355328) (G : Nat → List (List UInt8)) (ka : Option Addr) (kc : Nat) (ps num : Int) (k0 k1 k2 : Nat) (nm : ByteArray) 
    (hk : IntsV w0 B (.slice ka ([k0, k1, k2]).length kc) (([k0, k1, k2]).map fun k : Nat => (k : Int))) (HC : ∀ k ∈ [k0, k1, k2], NdC w0 B b lv N G k) :
    PrC w0 B b lv N 28 (ndA b ka kc (3) 44 ps num nm) ([[99, 97, 115, 101]] ++ (G k0 ++ [[60, 45, 61]] ++ G k1) ++ G k2) := by
  intro W bs hst hb
  unfold ndA
  obtain ⟨kb, ko, rfl, hkB, hcell⟩ := kid_cells hk (by simp)
  have hcap := ints_cap hk
  obtain ⟨hcap1, hcap2⟩ := hcap
  unfold maxLen at hcap2
  try simp only [List.length_cons, List.length_nil, Nat.zero_add, Nat.reduceAdd] at hcap1 hcap2
  have HK0 : Bx (∀ W, Below B w0 W → W.cell? ⟨kb, ko, none⟩ = some (.int .i64 (k0 : Int))) := ⟨fun W hb => hcell W hb 0 (by simp)⟩
  have HK1 : Bx (∀ W, Below B w0 W → W.cell? ⟨kb, ko + 1, none⟩ = some (.int .i64 (k1 : Int))) := ⟨fun W hb => hcell W hb 1 (by simp)⟩
  have HK2 : Bx (∀ W, Below B w0 W → W.cell? ⟨kb, ko + 2, none⟩ = some (.int .i64 (k2 : Int))) := ⟨fun W hb => hcell W hb 2 (by simp)⟩
  have HBoth : Bx _ := ⟨both_any w0 B b lv N hN G (some ⟨kb, ko, none⟩) kc 44 ps num k0 k1 [k2] nm ⟨#[60, 45, 61]⟩ (by simp) hk HC⟩
  simp only [List.length_cons, List.length_nil, Nat.zero_add, Nat.reduceAdd] at HBoth
  have HN2 : Bx _ := ⟨HC k2 (by simp)⟩
  have hS := BxS.start hst 44 ps num (.slice (some ⟨kb, ko, none⟩) (3) kc) (.string nm)
  obtain ⟨_, _, z0, z2, z3, z4, hxl, hbl⟩ := hS.post
  have y0 := HK0.out _ hS.st.bel
  have y1 := HK1.out _ hS.st.bel
  have y2 := HK2.out _ hS.st.bel
  obtain ⟨_, _, _, _, z1, _⟩ := box_cells hS.box
  have T0 : Bx True := ⟨trivial⟩
  have T1 : Bx True := ⟨trivial⟩
  clear hk HC hst hcell
  go_enter Tryd.func28, Tryd.ntmps28
  go_wp2_with (first
    | (go_at_call 51; refine Calls.mono (s_call HBoth.out hS (by simp [toksOf, strT] at hb ⊢; omega)) ?_; clear hS z1 z0 z2 z3 z4 hxl hbl y0 y1 y2; rintro e W' ⟨rfl, hS, z0, z2, z3, z4, hxl, hbl⟩; obtain ⟨_, _, _, _, z1, _⟩ := box_cells hS.box; have y0 := HK0.out W' hS.st.bel; have y1 := HK1.out W' hS.st.bel; have y2 := HK2.out W' hS.st.bel)
    | (go_at_call 43; refine Calls.mono (s_lay hN rfl (by simp) hS (by simp [StrsOk]) (by decide) (by simp [toksOf, strT] at hb ⊢; omega)) ?_; clear hS z1 z0 z2 z3 z4 hxl hbl y0 y1 y2; rintro e W' ⟨rfl, hS, z0, z2, z3, z4, hxl, hbl⟩; obtain ⟨_, _, _, _, z1, _⟩ := box_cells hS.box; have y0 := HK0.out W' hS.st.bel; have y1 := HK1.out W' hS.st.bel; have y2 := HK2.out W' hS.st.bel)
    | (go_at_call 15; refine Calls.mono (s_call HN2.out hS (by simp [toksOf, strT] at hb ⊢; omega)) ?_; clear hS z1 z0 z2 z3 z4 hxl hbl y0 y1 y2; rintro e W' ⟨rfl, hS, z0, z2, z3, z4, hxl, hbl⟩; obtain ⟨_, _, _, _, z1, _⟩ := box_cells hS.box; have y0 := HK0.out W' hS.st.bel; have y1 := HK1.out W' hS.st.bel; have y2 := HK2.out W' hS.st.bel))
  go_end0
  exact s_end hS (by simp [toksOf, strT])

end Go.Proofs.YtpgobebibjeglaaDoor
namespace Go.Proofs.YtpgobebibjeglaaDoor
open Go.RowKit
set_option linter.unusedVariables false
set_option linter.unusedSimpArgs false

set_option maxRecDepth 100000 in
set_option maxHeartbeats 2000000 in
theorem pr_23 (w0 : World) (B b : Nat) (lv : Value) (N : Nat) (hN : N ≤ 140737488355328) (G : Nat → List (List UInt8)) (ka : Option Addr) (kc : Nat) (ps num : Int) (k0 : Nat) (r : List Nat) (nm : ByteArray) 
    (hk : IntsV w0 B (.slice ka (k0 :: r).length kc) ((k0 :: r).map fun k : Nat => (k : Int))) (HC : ∀ k ∈ k0 :: r, NdC w0 B b lv N G k) :
    PrC w0 B b lv N 25 (ndA b ka kc (r.length + 1) 23 ps num nm) (G k0 ++ ([[40]] ++ innerT G r ++ [[41]])) := by
  intro W bs hst hb
  unfold ndA
  obtain ⟨kb, ko, rfl, hkB, hcell⟩ := kid_cells hk (by simp)
  have hcap := ints_cap hk
  obtain ⟨hcap1, hcap2⟩ := hcap
  unfold maxLen at hcap2
  simp only [List.length_cons, List.length_nil, Nat.zero_add, Nat.reduceAdd] at hcap1 hcap2
  have HK0 : Bx (∀ W, Below B w0 W → W.cell? ⟨kb, ko, none⟩ = some (.int .i64 (k0 : Int))) := ⟨fun W hb => hcell W hb 0 (by simp)⟩
  have hsk := slice_lh hk 1 (r.length + 1) (by omega) (by simp) _ 0 rfl
  obtain ⟨a', c', he, hi1⟩ := hsk
  have hrr : (((k0 :: r).drop 1).take (r.length + 1 - 1)) = r := by simp
  rw [hrr] at hi1
  simp only [Nat.add_sub_cancel] at he
  have hsl : ∀ W, (Instr.slice 41 (.slice (some ⟨kb, ko, none⟩) (r.length + 1) kc) (some (.int .i64 1)) none none).run Tryd.prog W = .ok (.slice a' r.length c') W := fun W => (run_l W (some ⟨kb, ko, none⟩) (r.length + 1) kc 1 (by omega)).trans (by rw [he])
  have HList : Bx _ := ⟨list_any w0 B b lv N hN G r a' c' ⟨#[40]⟩ ⟨#[41]⟩ (by simp) (by simp) hi1 (fun k hk => HC k (List.mem_cons_of_mem _ hk))⟩
  have HN0 : Bx _ := ⟨HC k0 (by simp)⟩
  clear he hi1 hrr
  have hS := BxS.start hst 23 ps num (.slice (some ⟨kb, ko, none⟩) (r.length + 1) kc) (.string nm)
  obtain ⟨_, _, z0, z2, z3, z4, hxl, hbl⟩ := hS.post
  have y0 := HK0.out _ hS.st.bel
  have T0 : Bx True := ⟨trivial⟩
  have T1 : Bx True := ⟨trivial⟩
  clear hk HC hst hcell
  go_enter Tryd.func25, Tryd.ntmps25
  go_wp2_with (first
    | (go_at_call 15; refine Calls.mono (s_call HN0.out hS (by simp [toksOf, strT] at hb ⊢; omega)) ?_; clear hS z0 z2 z3 z4 hxl hbl y0; rintro e W' ⟨rfl, hS, z0, z2, z3, z4, hxl, hbl⟩; have y0 := HK0.out W' hS.st.bel)
    | (go_at_call 45; refine Calls.mono (s_call HList.out hS (by simp [toksOf, strT] at hb ⊢; omega)) ?_; clear hS z0 z2 z3 z4 hxl hbl y0; rintro e W' ⟨rfl, hS, z0, z2, z3, z4, hxl, hbl⟩; have y0 := HK0.out W' hS.st.bel))
  go_end0
  exact s_end hS (by simp [toksOf, strT])

set_option maxRecDepth 100000 in
set_option maxHeartbeats 2000000 in
theorem pr_24 (w0 : World) (B b : Nat) (lv : Value) (N : Nat) (hN : N ≤ 140737488355328) (G : Nat → List (List UInt8)) (ka : Option Addr) (kc : Nat) (ps num : Int) (k0 : Nat) (r : List Nat) (nm : ByteArray) 
    (hk : IntsV w0 B (.slice ka (k0 :: r).length kc) ((k0 :: r).map fun k : Nat => (k : Int))) (HC : ∀ k ∈ k0 :: r, NdC w0 B b lv N G k) :
    PrC w0 B b lv N 25 (ndA b ka kc (r.length + 1) 24 ps num nm) (G k0 ++ ([[91]] ++ innerT G r ++ [[93]])) := by
  intro W bs hst hb
  unfold ndA
  obtain ⟨kb, ko, rfl, hkB, hcell⟩ := kid_cells hk (by simp)
  have hcap := ints_cap hk
  obtain ⟨hcap1, hcap2⟩ := hcap
  unfold maxLen at hcap2
  simp only [List.length_cons, List.length_nil, Nat.zero_add, Nat.reduceAdd] at hcap1 hcap2
  have HK0 : Bx (∀ W, Below B w0 W → W.cell? ⟨kb, ko, none⟩ = some (.int .i64 (k0 : Int))) := ⟨fun W hb => hcell W hb 0 (by simp)⟩
  have hsk := slice_lh hk 1 (r.length + 1) (by omega) (by simp) _ 0 rfl
  obtain ⟨a', c', he, hi1⟩ := hsk
  have hrr : (((k0 :: r).drop 1).take (r.length + 1 - 1)) = r := by simp
  rw [hrr] at hi1
  simp only [Nat.add_sub_cancel] at he
  have hsl : ∀ W, (Instr.slice 41 (.slice (some ⟨kb, ko, none⟩) (r.length + 1) kc) (some (.int .i64 1)) none none).run Tryd.prog W = .ok (.slice a' r.length c') W := fun W => (run_l W (some ⟨kb, ko, none⟩) (r.length + 1) kc 1 (by omega)).trans (by rw [he])
  have HList : Bx _ := ⟨list_any w0 B b lv N hN G r a' c' ⟨#[91]⟩ ⟨#[93]⟩ (by simp) (by simp) hi1 (fun k hk => HC k (List.mem_cons_of_mem _ hk))⟩
  have HN0 : Bx _ := ⟨HC k0 (by simp)⟩
  clear he hi1 hrr
  have hS := BxS.start hst 24 ps num (.slice (some ⟨kb, ko, none⟩) (r.length + 1) kc) (.string nm)
  obtain ⟨_, _, z0, z2, z3, z4, hxl, hbl⟩ := hS.post
  have y0 := HK0.out _ hS.st.bel
  have T0 : Bx True := ⟨trivial⟩
  have T1 : Bx True := ⟨trivial⟩
  clear hk HC hst hcell
  go_enter Tryd.func25, Tryd.ntmps25
  go_wp2_with (first
    | (go_at_call 15; refine Calls.mono (s_call HN0.out hS (by simp [toksOf, strT] at hb ⊢; omega)) ?_; clear hS z0 z2 z3 z4 hxl hbl y0; rintro e W' ⟨rfl, hS, z0, z2, z3, z4, hxl, hbl⟩; have y0 := HK0.out W' hS.st.bel)
    | (go_at_call 45; refine Calls.mono (s_call HList.out hS (by simp [toksOf, strT] at hb ⊢; omega)) ?_; clear hS z0 z2 z3 z4 hxl hbl y0; rintro e W' ⟨rfl, hS, z0, z2, z3, z4, hxl, hbl⟩; have y0 := HK0.out W' hS.st.bel))
  go_end0
  exact s_end hS (by simp [toksOf, strT])

set_option maxRecDepth 100000 in
set_option maxHeartbeats 2000000 in
theorem pr_25 (w0 : World) (B b : Nat) (lv : Value) (N : Nat) (hN : N ≤ 140737488355328) (G : Nat → List (List UInt8)) (ka : Option Addr) (kc : Nat) (ps num : Int) (k0 : Nat) (r : List Nat) (nm : ByteArray) (hL : LaidB w0 B) (hi : I64 num) 
    (hk : IntsV w0 B (.slice ka (k0 :: r).length kc) ((k0 :: r).map fun k : Nat => (k : Int))) (HC : ∀ k ∈ k0 :: r, NdC w0 B b lv N G k) :
    PrC w0 B b lv N 25 (ndA b ka kc (r.length + 1) 25 ps num nm) (G k0 ++ [[46], Lib.itoa num]) := by
  intro W bs hst hb
  unfold ndA
  obtain ⟨kb, ko, rfl, hkB, hcell⟩ := kid_cells hk (by simp)
  have hcap := ints_cap hk
  obtain ⟨hcap1, hcap2⟩ := hcap
  unfold maxLen at hcap2
  simp only [List.length_cons, List.length_nil, Nat.zero_add, Nat.reduceAdd] at hcap1 hcap2
  have HK0 : Bx (∀ W, Below B w0 W → W.cell? ⟨kb, ko, none⟩ = some (.int .i64 (k0 : Int))) := ⟨fun W hb => hcell W hb 0 (by simp)⟩
  have hne := itoa_ne num
  have HN0 : Bx _ := ⟨HC k0 (by simp)⟩
  have hS := BxS.start hst 25 ps num (.slice (some ⟨kb, ko, none⟩) (r.length + 1) kc) (.string nm)
  obtain ⟨_, _, z0, z2, z3, z4, hxl, hbl⟩ := hS.post
  have y0 := HK0.out _ hS.st.bel
  have T0 : Bx True := ⟨trivial⟩
  have T1 : Bx True := ⟨trivial⟩
  clear hk HC hst hcell
  go_enter Tryd.func25, Tryd.ntmps25
  go_wp2_with (first
    | (go_at_call 15; refine Calls.mono (s_call HN0.out hS (by simp [toksOf, strT] at hb ⊢; omega)) ?_; clear hS z0 z2 z3 z4 hxl hbl y0; rintro e W' ⟨rfl, hS, z0, z2, z3, z4, hxl, hbl⟩; have y0 := HK0.out W' hS.st.bel)
    | (go_at_call 47; refine Calls.mono (itoa_step hL hi hS) ?_; clear hS z0 z2 z3 z4 hxl hbl y0; rintro e W' ⟨rfl, hS, z0, z2, z3, z4, hxl, hbl⟩; have y0 := HK0.out W' hS.st.bel)
    | (go_at_call 43; refine Calls.mono (s_lay hN rfl (by simp) hS (by simp [StrsOk, hne]) (by decide) (by simp [toksOf, strT] at hb ⊢; omega)) ?_; clear hS z0 z2 z3 z4 hxl hbl y0; rintro e W' ⟨rfl, hS, z0, z2, z3, z4, hxl, hbl⟩; have y0 := HK0.out W' hS.st.bel))
  go_end0
  exact s_end hS (by simp [toksOf, strT])

set_option maxRecDepth 100000 in
set_option maxHeartbeats 2000000 in
theorem pr_32a (w0 : World) (B b : Nat) (lv : Value) (N : Nat) (hN : N ≤ 140737488355328) (G : Nat → List (List UInt8)) (ka : Option Addr) (kc : Nat) (ps num : Int) (k0 : Nat) (nm : ByteArray) (hnm : nm.data.toList ≠ []) 
    (hk : IntsV w0 B (.slice ka ([k0]).length kc) (([k0]).map fun k : Nat => (k : Int))) (HC : ∀ k ∈ [k0], NdC w0 B b lv N G k) :
    PrC w0 B b lv N 27 (ndA b ka kc (1) 32 ps num nm) ([[118, 97, 114], nm.data.toList, [58]] ++ G k0 ++ [[59]]) := by
  intro W bs hst hb
  unfold ndA
  obtain ⟨kb, ko, rfl, hkB, hcell⟩ := kid_cells hk (by simp)
  have hcap := ints_cap hk
  obtain ⟨hcap1, hcap2⟩ := hcap
  unfold maxLen at hcap2
  simp only [List.length_cons, List.length_nil, Nat.zero_add, Nat.reduceAdd] at hcap1 hcap2
  have HK0 : Bx (∀ W, Below B w0 W → W.cell? ⟨kb, ko, none⟩ = some (.int .i64 (k0 : Int))) := ⟨fun W hb => hcell W hb 0 (by simp)⟩
  have HN0 : Bx _ := ⟨HC k0 (by simp)⟩
  have hS := BxS.start hst 32 ps num (.slice (some ⟨kb, ko, none⟩) (1) kc) (.string nm)
  obtain ⟨_, _, z0, z2, z3, z4, hxl, hbl⟩ := hS.post
  have y0 := HK0.out _ hS.st.bel
  have T0 : Bx True := ⟨trivial⟩
  have T1 : Bx True := ⟨trivial⟩
  clear hk HC hst hcell
  go_enter Tryd.func27, Tryd.ntmps27
  go_wp2_with (first
    | (go_at_call 15; refine Calls.mono (s_call HN0.out hS (by simp [toksOf, strT] at hb ⊢; omega)) ?_; clear hS z0 z2 z3 z4 hxl hbl y0; rintro e W' ⟨rfl, hS, z0, z2, z3, z4, hxl, hbl⟩; have y0 := HK0.out W' hS.st.bel)
    | (go_at_call 43; refine Calls.mono (s_lay hN rfl (by simp) hS (by simp [StrsOk, hnm]) (by decide) (by simp [toksOf, strT] at hb ⊢; omega)) ?_; clear hS z0 z2 z3 z4 hxl hbl y0; rintro e W' ⟨rfl, hS, z0, z2, z3, z4, hxl, hbl⟩; have y0 := HK0.out W' hS.st.bel))
  go_end0
  exact s_end hS (by simp [toksOf, strT])

set_option maxRecDepth 100000 in
set_option maxHeartbeats 2000000 in
theorem pr_32b (w0 : World) (B b : Nat) (lv : Value) (N : Nat) (hN : N ≤ 140737488355328) (G : Nat → List (List UInt8)) (ka : Option Addr) (kc : Nat) (ps num : Int) (k0 k1 : Nat) (nm : ByteArray) (hnm : nm.data.toList ≠ []) 
    (hk : IntsV w0 B (.slice ka ([k0, k1]).length kc) (([k0, k1]).map fun k : Nat => (k : Int))) (HC : ∀ k ∈ [k0, k1], NdC w0 B b lv N G k) :
    PrC w0 B b lv N 27 (ndA b ka kc (2) 32 ps num nm) ([[118, 97, 114], nm.data.toList, [58]] ++ G k0 ++ [[61]] ++ G k1 ++ [[59]]) := by
  intro W bs hst hb
  unfold ndA
  obtain ⟨kb, ko, rfl, hkB, hcell⟩ := kid_cells hk (by simp)
  have hcap := ints_cap hk
  obtain ⟨hcap1, hcap2⟩ := hcap
  unfold maxLen at hcap2
  simp only [List.length_cons, List.length_nil, Nat.zero_add, Nat.reduceAdd] at hcap1 hcap2
  have HK0 : Bx (∀ W, Below B w0 W → W.cell? ⟨kb, ko, none⟩ = some (.int .i64 (k0 : Int))) := ⟨fun W hb => hcell W hb 0 (by simp)⟩
  have HK1 : Bx (∀ W, Below B w0 W → W.cell? ⟨kb, ko + 1, none⟩ = some (.int .i64 (k1 : Int))) := ⟨fun W hb => hcell W hb 1 (by simp)⟩
  have HN0 : Bx _ := ⟨HC k0 (by simp)⟩
  have HN1 : Bx _ := ⟨HC k1 (by simp)⟩
  have hS := BxS.start hst 32 ps num (.slice (some ⟨kb, ko, none⟩) (2) kc) (.string nm)
  obtain ⟨_, _, z0, z2, z3, z4, hxl, hbl⟩ := hS.post
  have y0 := HK0.out _ hS.st.bel
  have y1 := HK1.out _ hS.st.bel
  have T0 : Bx True := ⟨trivial⟩
  have T1 : Bx True := ⟨trivial⟩
  clear hk HC hst hcell
  go_enter Tryd.func27, Tryd.ntmps27
  go_wp2_with (first
    | (go_at_call 15; clear T0; refine Calls.mono (s_call HN0.out hS (by simp [toksOf, strT] at hb ⊢; omega)) ?_; clear hS z0 z2 z3 z4 hxl hbl y0 y1; rintro e W' ⟨rfl, hS, z0, z2, z3, z4, hxl, hbl⟩; have y0 := HK0.out W' hS.st.bel; have y1 := HK1.out W' hS.st.bel)
    | (go_at_call 15; refine Calls.mono (s_call HN1.out hS (by simp [toksOf, strT] at hb ⊢; omega)) ?_; clear hS z0 z2 z3 z4 hxl hbl y0 y1; rintro e W' ⟨rfl, hS, z0, z2, z3, z4, hxl, hbl⟩; have y0 := HK0.out W' hS.st.bel; have y1 := HK1.out W' hS.st.bel)
    | (go_at_call 43; refine Calls.mono (s_lay hN rfl (by simp) hS (by simp [StrsOk, hnm]) (by decide) (by simp [toksOf, strT] at hb ⊢; omega)) ?_; clear hS z0 z2 z3 z4 hxl hbl y0 y1; rintro e W' ⟨rfl, hS, z0, z2, z3, z4, hxl, hbl⟩; have y0 := HK0.out W' hS.st.bel; have y1 := HK1.out W' hS.st.bel))
  go_end0
  exact s_end hS (by simp [toksOf, strT])

end Go.Proofs.YtpgobebibjeglaaDoor
namespace Go.Proofs.YtpgobebibjeglaaDoor
open Go.RowKit
set_option linter.unusedVariables false
set_option linter.unusedSimpArgs false

set_option maxRecDepth 100000 in
set_option maxHeartbeats 2000000 in
theorem pr_36a (w0 : World) (B b : Nat) (lv : Value) (N : Nat) (hN : N ≤ 140737488355328) (G : Nat → List (List UInt8)) (ka : Option Addr) (kc : Nat) (ps num : Int) (k0 k1 : Nat) (nm : ByteArray) 
    (hk : IntsV w0 B (.slice ka ([k0, k1]).length kc) (([k0, k1]).map fun k : Nat => (k : Int))) (HC : ∀ k ∈ [k0, k1], NdC w0 B b lv N G k) :
    PrC w0 B b lv N 27 (ndA b ka kc (2) 36 ps num nm) ([[105, 102]] ++ rowT G [k0, k1]) := by
  intro W bs hst hb
  unfold ndA
  obtain ⟨kb, ko, rfl, hkB, hcell⟩ := kid_cells hk (by simp)
  have hcap := ints_cap hk
  obtain ⟨hcap1, hcap2⟩ := hcap
  unfold maxLen at hcap2
  try simp only [List.length_cons, List.length_nil, Nat.zero_add, Nat.reduceAdd] at hcap1 hcap2
  have HK0 : Bx (∀ W, Below B w0 W → W.cell? ⟨kb, ko, none⟩ = some (.int .i64 (k0 : Int))) := ⟨fun W hb => hcell W hb 0 (by simp)⟩
  have hsk := slice_lh hk 0 2 (by omega) (by simp) _ 0 rfl
  obtain ⟨a', c', he, hi1⟩ := hsk
  have hrr : ((([k0, k1]).drop 0).take (2 - 0)) = [k0, k1] := by simp
  rw [hrr] at hi1
  simp only [Nat.sub_zero] at he
  have hsl : ∀ W, (Instr.slice 41 (.slice (some ⟨kb, ko, none⟩) 2 kc) none (some (.int .i64 2)) none).run Tryd.prog W = .ok (.slice a' 2 c') W := fun W => (run_h W (some ⟨kb, ko, none⟩) 2 kc 2 (by omega)).trans (by rw [he])
  have HRow : Bx _ := ⟨row_any w0 B b lv N G [k0, k1] a' c' hi1 (fun k hk => HC k (by simp at hk ⊢; omega))⟩
  simp only [List.length_cons, List.length_nil, Nat.zero_add, Nat.reduceAdd] at HRow
  clear he hi1 hrr
  have hS := BxS.start hst 36 ps num (.slice (some ⟨kb, ko, none⟩) (2) kc) (.string nm)
  obtain ⟨_, _, z0, z2, z3, z4, hxl, hbl⟩ := hS.post
  have y0 := HK0.out _ hS.st.bel
  have T0 : Bx True := ⟨trivial⟩
  have T1 : Bx True := ⟨trivial⟩
  clear hk HC hst hcell
  go_enter Tryd.func27, Tryd.ntmps27
  go_wp2_with (first
    | (go_at_call 43; refine Calls.mono (s_lay hN rfl (by simp) hS (by simp [StrsOk]) (by decide) (by simp [toksOf, strT] at hb ⊢; omega)) ?_; clear hS z0 z2 z3 z4 hxl hbl y0; rintro e W' ⟨rfl, hS, z0, z2, z3, z4, hxl, hbl⟩; have y0 := HK0.out W' hS.st.bel)
    | (go_at_call 44; refine Calls.mono (s_call HRow.out hS (by simp [toksOf, strT] at hb ⊢; omega)) ?_; clear hS z0 z2 z3 z4 hxl hbl y0; rintro e W' ⟨rfl, hS, z0, z2, z3, z4, hxl, hbl⟩; have y0 := HK0.out W' hS.st.bel))
  go_end0
  exact s_end hS (by simp [toksOf, strT])

set_option maxRecDepth 100000 in
set_option maxHeartbeats 2000000 in
theorem pr_36b (w0 : World) (B b : Nat) (lv : Value) (N : Nat) (hN : N ≤ 140737488355328) (G : Nat → List (List UInt8)) (ka : Option Addr) (kc : Nat) (ps num : Int) (k0 k1 k2 : Nat) (nm : ByteArray) 
    (hk : IntsV w0 B (.slice ka ([k0, k1, k2]).length kc) (([k0, k1, k2]).map fun k : Nat => (k : Int))) (HC : ∀ k ∈ [k0, k1, k2], NdC w0 B b lv N G k) :
    PrC w0 B b lv N 27 (ndA b ka kc (3) 36 ps num nm) ([[105, 102]] ++ rowT G [k0, k1] ++ [[101, 108, 115, 101]] ++ G k2) := by
  intro W bs hst hb
  unfold ndA
  obtain ⟨kb, ko, rfl, hkB, hcell⟩ := kid_cells hk (by simp)
  have hcap := ints_cap hk
  obtain ⟨hcap1, hcap2⟩ := hcap
  unfold maxLen at hcap2
  try simp only [List.length_cons, List.length_nil, Nat.zero_add, Nat.reduceAdd] at hcap1 hcap2
  have HK0 : Bx (∀ W, Below B w0 W → W.cell? ⟨kb, ko, none⟩ = some (.int .i64 (k0 : Int))) := ⟨fun W hb => hcell W hb 0 (by simp)⟩
  have HK1 : Bx (∀ W, Below B w0 W → W.cell? ⟨kb, ko + 1, none⟩ = some (.int .i64 (k1 : Int))) := ⟨fun W hb => hcell W hb 1 (by simp)⟩
  have HK2 : Bx (∀ W, Below B w0 W → W.cell? ⟨kb, ko + 2, none⟩ = some (.int .i64 (k2 : Int))) := ⟨fun W hb => hcell W hb 2 (by simp)⟩
  have hsk := slice_lh hk 0 2 (by omega) (by simp) _ 0 rfl
  obtain ⟨a', c', he, hi1⟩ := hsk
  have hrr : ((([k0, k1, k2]).drop 0).take (2 - 0)) = [k0, k1] := by simp
  rw [hrr] at hi1
  simp only [Nat.sub_zero] at he
  have hsl : ∀ W, (Instr.slice 41 (.slice (some ⟨kb, ko, none⟩) 3 kc) none (some (.int .i64 2)) none).run Tryd.prog W = .ok (.slice a' 2 c') W := fun W => (run_h W (some ⟨kb, ko, none⟩) 3 kc 2 (by omega)).trans (by rw [he])
  have HRow : Bx _ := ⟨row_any w0 B b lv N G [k0, k1] a' c' hi1 (fun k hk => HC k (by simp at hk ⊢; omega))⟩
  simp only [List.length_cons, List.length_nil, Nat.zero_add, Nat.reduceAdd] at HRow
  clear he hi1 hrr
  have HN2 : Bx _ := ⟨HC k2 (by simp)⟩
  have hS := BxS.start hst 36 ps num (.slice (some ⟨kb, ko, none⟩) (3) kc) (.string nm)
  obtain ⟨_, _, z0, z2, z3, z4, hxl, hbl⟩ := hS.post
  have y0 := HK0.out _ hS.st.bel
  have y1 := HK1.out _ hS.st.bel
  have y2 := HK2.out _ hS.st.bel
  have T0 : Bx True := ⟨trivial⟩
  have T1 : Bx True := ⟨trivial⟩
  clear hk HC hst hcell
  go_enter Tryd.func27, Tryd.ntmps27
  go_wp2_with (first
    | (go_at_call 43; refine Calls.mono (s_lay hN rfl (by simp) hS (by simp [StrsOk]) (by decide) (by simp [toksOf, strT] at hb ⊢; omega)) ?_; clear hS z0 z2 z3 z4 hxl hbl y0 y1 y2; rintro e W' ⟨rfl, hS, z0, z2, z3, z4, hxl, hbl⟩; have y0 := HK0.out W' hS.st.bel; have y1 := HK1.out W' hS.st.bel; have y2 := HK2.out W' hS.st.bel)
    | (go_at_call 44; refine Calls.mono (s_call HRow.out hS (by simp [toksOf, strT] at hb ⊢; omega)) ?_; clear hS z0 z2 z3 z4 hxl hbl y0 y1 y2; rintro e W' ⟨rfl, hS, z0, z2, z3, z4, hxl, hbl⟩; have y0 := HK0.out W' hS.st.bel; have y1 := HK1.out W' hS.st.bel; have y2 := HK2.out W' hS.st.bel)
    | (go_at_call 15; refine Calls.mono (s_call HN2.out hS (by simp [toksOf, strT] at hb ⊢; omega)) ?_; clear hS z0 z2 z3 z4 hxl hbl y0 y1 y2; rintro e W' ⟨rfl, hS, z0, z2, z3, z4, hxl, hbl⟩; have y0 := HK0.out W' hS.st.bel; have y1 := HK1.out W' hS.st.bel; have y2 := HK2.out W' hS.st.bel))
  go_end0
  exact s_end hS (by simp [toksOf, strT])

set_option maxRecDepth 100000 in
set_option maxHeartbeats 2000000 in
theorem pr_43a (w0 : World) (B b : Nat) (lv : Value) (N : Nat) (hN : N ≤ 140737488355328) (G : Nat → List (List UInt8)) (ka : Option Addr) (kc : Nat) (ps num : Int) (ks : List Nat) (nm : ByteArray) (hnm : nm.data.toList ≠ []) (hem : nm.toList.isEmpty = false) 
    (hk : IntsV w0 B (.slice ka (ks).length kc) ((ks).map fun k : Nat => (k : Int))) (HC : ∀ k ∈ ks, NdC w0 B b lv N G k) :
    PrC w0 B b lv N 28 (ndA b ka kc (ks.length) 43 ps num nm) ([[99, 97, 115, 101]] ++ [nm.data.toList, [61]] ++ [[60, 45]] ++ rowT G ks) := by
  intro W bs hst hb
  unfold ndA
  have hcap := ints_cap hk
  obtain ⟨hcap1, hcap2⟩ := hcap
  unfold maxLen at hcap2
  try simp only [List.length_cons, List.length_nil, Nat.zero_add, Nat.reduceAdd] at hcap1 hcap2
  have HRow : Bx _ := ⟨row_any w0 B b lv N G ks ka kc hk HC⟩
  have hS := BxS.start hst 43 ps num (.slice ka (ks.length) kc) (.string nm)
  obtain ⟨_, _, z0, z2, z3, z4, hxl, hbl⟩ := hS.post
  have T0 : Bx True := ⟨trivial⟩
  have T1 : Bx True := ⟨trivial⟩
  clear hk HC hst
  go_enter Tryd.func28, Tryd.ntmps28
  go_wp2_with (first
    | (go_at_call 43; refine Calls.mono (s_lay hN rfl (by simp) hS (by simp [StrsOk, hnm]) (by decide) (by simp [toksOf, strT] at hb ⊢; omega)) ?_; clear hS z0 z2 z3 z4 hxl hbl ; rintro e W' ⟨rfl, hS, z0, z2, z3, z4, hxl, hbl⟩)
    | (go_at_call 44; refine Calls.mono (s_call HRow.out hS (by simp [toksOf, strT] at hb ⊢; omega)) ?_; clear hS z0 z2 z3 z4 hxl hbl ; rintro e W' ⟨rfl, hS, z0, z2, z3, z4, hxl, hbl⟩))
  go_end0
  exact s_end hS (by simp [toksOf, strT])

set_option maxRecDepth 100000 in
set_option maxHeartbeats 2000000 in
theorem pr_43b (w0 : World) (B b : Nat) (lv : Value) (N : Nat) (hN : N ≤ 140737488355328) (G : Nat → List (List UInt8)) (ka : Option Addr) (kc : Nat) (ps num : Int) (ks : List Nat) (nm : ByteArray) (hem : nm.toList.isEmpty = true) 
    (hk : IntsV w0 B (.slice ka (ks).length kc) ((ks).map fun k : Nat => (k : Int))) (HC : ∀ k ∈ ks, NdC w0 B b lv N G k) :
    PrC w0 B b lv N 28 (ndA b ka kc (ks.length) 43 ps num nm) ([[99, 97, 115, 101]] ++ [[60, 45]] ++ rowT G ks) := by
  intro W bs hst hb
  unfold ndA
  have hcap := ints_cap hk
  obtain ⟨hcap1, hcap2⟩ := hcap
  unfold maxLen at hcap2
  try simp only [List.length_cons, List.length_nil, Nat.zero_add, Nat.reduceAdd] at hcap1 hcap2
  have HRow : Bx _ := ⟨row_any w0 B b lv N G ks ka kc hk HC⟩
  have hS := BxS.start hst 43 ps num (.slice ka (ks.length) kc) (.string nm)
  obtain ⟨_, _, z0, z2, z3, z4, hxl, hbl⟩ := hS.post
  have T0 : Bx True := ⟨trivial⟩
  have T1 : Bx True := ⟨trivial⟩
  clear hk HC hst
  go_enter Tryd.func28, Tryd.ntmps28
  go_wp2_with (first
    | (go_at_call 43; refine Calls.mono (s_lay hN rfl (by simp) hS (by simp [StrsOk]) (by decide) (by simp [toksOf, strT] at hb ⊢; omega)) ?_; clear hS z0 z2 z3 z4 hxl hbl ; rintro e W' ⟨rfl, hS, z0, z2, z3, z4, hxl, hbl⟩)
    | (go_at_call 44; refine Calls.mono (s_call HRow.out hS (by simp [toksOf, strT] at hb ⊢; omega)) ?_; clear hS z0 z2 z3 z4 hxl hbl ; rintro e W' ⟨rfl, hS, z0, z2, z3, z4, hxl, hbl⟩))
  go_end0
  exact s_end hS (by simp [toksOf, strT])

end Go.Proofs.YtpgobebibjeglaaDoor
