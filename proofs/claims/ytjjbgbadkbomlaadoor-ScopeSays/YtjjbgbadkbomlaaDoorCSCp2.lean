import Derived.Test.YtjjbgbadkbomlaaDoorCSCp
import Derived.Test.YtjjbgbadkbomlaaDoorCSU3
import Derived.Test.YtjjbgbadkbomlaaDoorCSW5
namespace Go.Proofs.YtjjbgbadkbomlaaDoor
open Go.RowKit Go.Maps
set_option linter.unusedVariables false
set_option linter.unusedSimpArgs false

theorem act47 (a : Act) (h : a.tmps.size = 47) (hd : a.defers = []) : ∃ x0 x1 x2 x3 x4 x5 x6 x7 x8 x9 x10 x11 x12 x13 x14 x15 x16 x17 x18 x19 x20 x21 x22 x23 x24 x25 x26 x27 x28 x29 x30 x31 x32 x33 x34 x35 x36 x37 x38 x39 x40 x41 x42 x43 x44 x45 x46 : Value, a = { tmps := #[x0, x1, x2, x3, x4, x5, x6, x7, x8, x9, x10, x11, x12, x13, x14, x15, x16, x17, x18, x19, x20, x21, x22, x23, x24, x25, x26, x27, x28, x29, x30, x31, x32, x33, x34, x35, x36, x37, x38, x39, x40, x41, x42, x43, x44, x45, x46], defers := [] } := by
  obtain ⟨⟨l⟩, d⟩ := a
  simp only [] at hd
  subst hd
  replace h : l.length = 46 + 1 := by simpa using h
  obtain ⟨x0, l, rfl⟩ := List.exists_cons_of_length_eq_add_one h
  replace h : l.length = 45 + 1 := by simpa using h
  obtain ⟨x1, l, rfl⟩ := List.exists_cons_of_length_eq_add_one h
  replace h : l.length = 44 + 1 := by simpa using h
  obtain ⟨x2, l, rfl⟩ := List.exists_cons_of_length_eq_add_one h
  replace h : l.length = 43 + 1 := by simpa using h
  obtain ⟨x3, l, rfl⟩ := List.exists_cons_of_length_eq_add_one h
  replace h : l.length = 42 + 1 := by simpa using h
  obtain ⟨x4, l, rfl⟩ := List.exists_cons_of_length_eq_add_one h
  replace h : l.length = 41 + 1 := by simpa using h
  obtain ⟨x5, l, rfl⟩ := List.exists_cons_of_length_eq_add_one h
  replace h : l.length = 40 + 1 := by simpa using h
  obtain ⟨x6, l, rfl⟩ := List.exists_cons_of_length_eq_add_one h
  replace h : l.length = 39 + 1 := by simpa using h
  obtain ⟨x7, l, rfl⟩ := List.exists_cons_of_length_eq_add_one h
  replace h : l.length = 38 + 1 := by simpa using h
  obtain ⟨x8, l, rfl⟩ := List.exists_cons_of_length_eq_add_one h
  replace h : l.length = 37 + 1 := by simpa using h
  obtain ⟨x9, l, rfl⟩ := List.exists_cons_of_length_eq_add_one h
  replace h : l.length = 36 + 1 := by simpa using h
  obtain ⟨x10, l, rfl⟩ := List.exists_cons_of_length_eq_add_one h
  replace h : l.length = 35 + 1 := by simpa using h
  obtain ⟨x11, l, rfl⟩ := List.exists_cons_of_length_eq_add_one h
  replace h : l.length = 34 + 1 := by simpa using h
  obtain ⟨x12, l, rfl⟩ := List.exists_cons_of_length_eq_add_one h
  replace h : l.length = 33 + 1 := by simpa using h
  obtain ⟨x13, l, rfl⟩ := List.exists_cons_of_length_eq_add_one h
  replace h : l.length = 32 + 1 := by simpa using h
  obtain ⟨x14, l, rfl⟩ := List.exists_cons_of_length_eq_add_one h
  replace h : l.length = 31 + 1 := by simpa using h
  obtain ⟨x15, l, rfl⟩ := List.exists_cons_of_length_eq_add_one h
  replace h : l.length = 30 + 1 := by simpa using h
  obtain ⟨x16, l, rfl⟩ := List.exists_cons_of_length_eq_add_one h
  replace h : l.length = 29 + 1 := by simpa using h
  obtain ⟨x17, l, rfl⟩ := List.exists_cons_of_length_eq_add_one h
  replace h : l.length = 28 + 1 := by simpa using h
  obtain ⟨x18, l, rfl⟩ := List.exists_cons_of_length_eq_add_one h
  replace h : l.length = 27 + 1 := by simpa using h
  obtain ⟨x19, l, rfl⟩ := List.exists_cons_of_length_eq_add_one h
  replace h : l.length = 26 + 1 := by simpa using h
  obtain ⟨x20, l, rfl⟩ := List.exists_cons_of_length_eq_add_one h
  replace h : l.length = 25 + 1 := by simpa using h
  obtain ⟨x21, l, rfl⟩ := List.exists_cons_of_length_eq_add_one h
  replace h : l.length = 24 + 1 := by simpa using h
  obtain ⟨x22, l, rfl⟩ := List.exists_cons_of_length_eq_add_one h
  replace h : l.length = 23 + 1 := by simpa using h
  obtain ⟨x23, l, rfl⟩ := List.exists_cons_of_length_eq_add_one h
  replace h : l.length = 22 + 1 := by simpa using h
  obtain ⟨x24, l, rfl⟩ := List.exists_cons_of_length_eq_add_one h
  replace h : l.length = 21 + 1 := by simpa using h
  obtain ⟨x25, l, rfl⟩ := List.exists_cons_of_length_eq_add_one h
  replace h : l.length = 20 + 1 := by simpa using h
  obtain ⟨x26, l, rfl⟩ := List.exists_cons_of_length_eq_add_one h
  replace h : l.length = 19 + 1 := by simpa using h
  obtain ⟨x27, l, rfl⟩ := List.exists_cons_of_length_eq_add_one h
  replace h : l.length = 18 + 1 := by simpa using h
  obtain ⟨x28, l, rfl⟩ := List.exists_cons_of_length_eq_add_one h
  replace h : l.length = 17 + 1 := by simpa using h
  obtain ⟨x29, l, rfl⟩ := List.exists_cons_of_length_eq_add_one h
  replace h : l.length = 16 + 1 := by simpa using h
  obtain ⟨x30, l, rfl⟩ := List.exists_cons_of_length_eq_add_one h
  replace h : l.length = 15 + 1 := by simpa using h
  obtain ⟨x31, l, rfl⟩ := List.exists_cons_of_length_eq_add_one h
  replace h : l.length = 14 + 1 := by simpa using h
  obtain ⟨x32, l, rfl⟩ := List.exists_cons_of_length_eq_add_one h
  replace h : l.length = 13 + 1 := by simpa using h
  obtain ⟨x33, l, rfl⟩ := List.exists_cons_of_length_eq_add_one h
  replace h : l.length = 12 + 1 := by simpa using h
  obtain ⟨x34, l, rfl⟩ := List.exists_cons_of_length_eq_add_one h
  replace h : l.length = 11 + 1 := by simpa using h
  obtain ⟨x35, l, rfl⟩ := List.exists_cons_of_length_eq_add_one h
  replace h : l.length = 10 + 1 := by simpa using h
  obtain ⟨x36, l, rfl⟩ := List.exists_cons_of_length_eq_add_one h
  replace h : l.length = 9 + 1 := by simpa using h
  obtain ⟨x37, l, rfl⟩ := List.exists_cons_of_length_eq_add_one h
  replace h : l.length = 8 + 1 := by simpa using h
  obtain ⟨x38, l, rfl⟩ := List.exists_cons_of_length_eq_add_one h
  replace h : l.length = 7 + 1 := by simpa using h
  obtain ⟨x39, l, rfl⟩ := List.exists_cons_of_length_eq_add_one h
  replace h : l.length = 6 + 1 := by simpa using h
  obtain ⟨x40, l, rfl⟩ := List.exists_cons_of_length_eq_add_one h
  replace h : l.length = 5 + 1 := by simpa using h
  obtain ⟨x41, l, rfl⟩ := List.exists_cons_of_length_eq_add_one h
  replace h : l.length = 4 + 1 := by simpa using h
  obtain ⟨x42, l, rfl⟩ := List.exists_cons_of_length_eq_add_one h
  replace h : l.length = 3 + 1 := by simpa using h
  obtain ⟨x43, l, rfl⟩ := List.exists_cons_of_length_eq_add_one h
  replace h : l.length = 2 + 1 := by simpa using h
  obtain ⟨x44, l, rfl⟩ := List.exists_cons_of_length_eq_add_one h
  replace h : l.length = 1 + 1 := by simpa using h
  obtain ⟨x45, l, rfl⟩ := List.exists_cons_of_length_eq_add_one h
  replace h : l.length = 0 + 1 := by simpa using h
  obtain ⟨x46, l, rfl⟩ := List.exists_cons_of_length_eq_add_one h
  replace h : l.length = 0 := by simpa using h
  obtain rfl := List.eq_nil_of_length_eq_zero h
  exact ⟨x0, x1, x2, x3, x4, x5, x6, x7, x8, x9, x10, x11, x12, x13, x14, x15, x16, x17, x18, x19, x20, x21, x22, x23, x24, x25, x26, x27, x28, x29, x30, x31, x32, x33, x34, x35, x36, x37, x38, x39, x40, x41, x42, x43, x44, x45, x46, rfl⟩
theorem info73 : (Tryd.prog.info? 73).map (fun i => (i.zero, i.size, i.bytes)) = some (some .nilFunc, 1, 8) := by kernel_rfl
theorem three_at (W : World) (c1 c2 c3 : Array Value) (t1 t2 t3 : TypeId) : ∃ Wa W', (W.alloc (.cells c1 t1)).alloc (.cells c2 t2) = Wa ∧ Wa.alloc (.cells c3 t3) = W' ∧ Below W.heap.size W Wa ∧ Wa.heap[W.heap.size]? = some (.cells c1 t1 (0, 0)) ∧ Wa.heap.size = W.heap.size + 2 ∧ Below W.heap.size W W' ∧ W'.heap[W.heap.size]? = some (.cells c1 t1 (0, 0)) ∧ W'.heap[W.heap.size + 1]? = some (.cells c2 t2 (0, 0)) ∧ W'.heap[W.heap.size + 2]? = some (.cells c3 t3 (0, 0)) ∧ W'.heap.size = W.heap.size + 3 := by
  have e1 : (W.alloc (.cells c1 t1)).heap.size = W.heap.size + 1 := by simp
  have e2 : ((W.alloc (.cells c1 t1)).alloc (.cells c2 t2)).heap.size = W.heap.size + 2 := by simp
  have q1 := (Below.refl ((W.alloc (.cells c1 t1)).alloc (.cells c2 t2)).heap.size ((W.alloc (.cells c1 t1)).alloc (.cells c2 t2))).alloc (Nat.le_refl _) (.cells c3 t3)
  have q2 := (Below.refl (W.alloc (.cells c1 t1)).heap.size (W.alloc (.cells c1 t1))).alloc (Nat.le_refl _) (.cells c2 t2)
  refine ⟨_, _, rfl, rfl, ((Below.refl _ _).alloc (Nat.le_refl _) _).alloc (by simp) _, (q2.block _ (by rw [e1]; omega)).trans (heap_alloc_new W _), e2, (((Below.refl _ _).alloc (Nat.le_refl _) _).alloc (by simp) _).alloc (by simp; omega) _, ?_, ?_, ?_, by simp⟩
  · exact (q1.block _ (by rw [e2]; omega)).trans ((q2.block _ (by rw [e1]; omega)).trans (heap_alloc_new W _))
  · refine (q1.block _ (by rw [e2]; omega)).trans ?_
    have q3 := heap_alloc_new (W.alloc (.cells c1 t1)) (.cells c2 t2)
    rw [e1] at q3
    exact q3
  · have q3 := heap_alloc_new ((W.alloc (.cells c1 t1)).alloc (.cells c2 t2)) (.cells c3 t3)
    rw [e2] at q3
    exact q3
/-- the same, but another number of progs is cared for -/
def gnG (G : WG) (n : Nat) : WG := { G with gn := n }
theorem SRel.gnTo {B : Nat} {lv : Value} {N : Nat} {W : World} {s : SSt} {G : WG} (h : SRel B lv N W s G) (n : Nat) (hn : n ≤ s.gat.length) : SRel B lv N W s (gnG G n) :=
  ⟨h.lo, h.lwb, h.lmb, h.lrb, h.lfb, h.lmn, h.lrow, h.ldv, h.lgv, h.lwc, h.lpc, h.ltc, h.ltv, h.hw, h.hmap, h.href, h.hfree, h.hrow, h.hmn, h.hdv, h.hgv, h.hwc, h.hpc, h.htc, h.htk, hn⟩
/-- what a closed prog took is not done with any more -/
def donesP (s : SSt) (d : Nat) (T : List Nat) : SSt := T.foldl (fun s m => doneP m d s) s
theorem donesP_snoc (s : SSt) (d : Nat) (T : List Nat) (m : Nat) : donesP s d (T ++ [m]) = doneP m d (donesP s d T) := by simp [donesP, List.foldl_append]
theorem donesP_len (s : SSt) (d : Nat) (T : List Nat) : (donesP s d T).ms.length = s.ms.length := (dones_all d T s).1
structure CpL (B nb no nc : Nat) (l : List Nd) (W0 : World) (G0 G : WG) (s : SSt) (d : Nat) (T : List Nat) (j : Nat) (wr : World) : Prop where
  st : ST B nb no nc l W0 G0 wr (donesP s d (T.take j)) G
theorem CpL.next {B nb no nc : Nat} {l : List Nd} {W0 : World} {G0 G : WG} {s : SSt} {d : Nat} {T : List Nat} {j : Nat} {wr : World} (h : CpL B nb no nc l W0 G0 G s d T j wr) (hj : j < T.length) (hm : T[j] < s.ms.length) :
    (∃ x, wr.cell? ⟨G.mB T[j], 2, none⟩ = some x) ∧ wr.frozen? ⟨G.mB T[j], 2, none⟩ = false ∧ CpL B nb no nc l W0 G0 G s d T (j + 1) (wr.setCell ⟨G.mB T[j], 2, none⟩ (.int .i64 d)) := by
  have hm' : T[j] < (donesP s d (T.take j)).ms.length := by rw [donesP_len]; exact hm
  have hd := h.st.rel.setDone T[j] d hm'
  refine ⟨⟨_, (h.st.rel.c_mn hm' 2).1.trans rfl⟩, (h.st.rel.c_mn hm' 2).2, ⟨?_⟩⟩
  rw [List.take_succ_eq_append_getElem hj, donesP_snoc]
  exact h.st.step hd.1 hd.2
set_option maxHeartbeats 4000000 in
set_option maxRecDepth 100000 in
/-- **capturing** -/
theorem capturing_any {B nb no nc : Nat} {l : List Nd} {W0 W : World} {s : SSt} {G0 G : WG} (h : ST B nb no nc l W0 G0 W s G) (i : Nat) (hgl : s.gat.length < 4294967296) (caps : Array Value) (ins : SSt → SSt)
    (HI : ∀ W1 G1, ST B nb no nc l W1 G1 W1 { s with gat := s.gat ++ [(i, [])] } G1 → Fr B W G W1 (gnG G1 G.gn) → G1.wb = G.wb → Calls Tryd.prog 42 caps W1 fun e W2 => e = .returned (.tuple #[]) ∧ ∃ G2, ST B nb no nc l W1 G1 W2 (ins { s with gat := s.gat ++ [(i, [])] }) G2)
    (hwf : SWf l (ins { s with gat := s.gat ++ [(i, [])] })) (hlen : (ins { s with gat := s.gat ++ [(i, [])] }).gat.length = s.gat.length + 1) (htl : (gatS (ins { s with gat := s.gat ++ [(i, [])] }) s.gat.length).2.length < 4294967296) :
    Calls Tryd.prog 41 #[.pointer (some ⟨G.wb, 0, none⟩), .int .i64 i, .func (.func 42) #[] caps] W fun e W' => e = .returned (.tuple #[]) ∧ ∃ G', ST B nb no nc l W0 G0 W' (capP i ins s) G' := by
  have hP : capP i ins s = donesP { ins { s with gat := s.gat ++ [(i, [])] } with gat := (ins { s with gat := s.gat ++ [(i, [])] }).gat.take s.gat.length } s.gat.length (gatS (ins { s with gat := s.gat ++ [(i, [])] }) s.gat.length).2 := by
    unfold capP donesP
    simp only []
    have : ((ins { s with gat := s.gat ++ [(i, [])] }).gat.take s.gat.length).length = s.gat.length := by rw [List.length_take, hlen]; omega
    rw [this]
  obtain ⟨Wa, W1, hWa, hW1, ba, ga0, za, b1, g0, g1, g2, z1⟩ := three_at W #[.pointer (some ⟨G.wb, 0, none⟩)] #[.int .i64 i] #[.slice none 0 0] 49 3 82
  obtain ⟨ga, gc, hgf⟩ := row_form h.rel.hgv
  obtain ⟨i0, hi0, hz0, hz1, hz2⟩ := info_parts info73
  have hr1 := h.rel.below b1
  have hB := h.rel.Bs
  have w8 : W1.cell? ⟨G.wb, 8, none⟩ = some (.slice ga s.gat.length gc) := by rw [hr1.cw 8]; show some G.gv = _; rw [hgf]
  have c0 : W1.cell? ⟨W.heap.size, 0, none⟩ = some (.pointer (some ⟨G.wb, 0, none⟩)) := (cell_of_row W1 _ 0 _ _ _ g0).trans rfl
  have wa8 : Wa.cell? ⟨G.wb, 8, none⟩ = some (.slice ga s.gat.length gc) := by rw [(h.rel.below ba).cw 8]; show some G.gv = _; rw [hgf]
  have ca0 : Wa.cell? ⟨W.heap.size, 0, none⟩ = some (.pointer (some ⟨G.wb, 0, none⟩)) := (cell_of_row Wa _ 0 _ _ _ ga0).trans rfl
  have mkS : ∀ W', SRel B (.slice (some ⟨nb, no, none⟩) l.length nc) l.length W' s G → W'.heap[W.heap.size]? = W1.heap[W.heap.size]? → CpS ⟨G.wb, ga, s.gat.length, gc, W.heap.size, W.heap.size + 1, W.heap.size + 2, .func (.func 42) #[] caps, .int .i64 s.gat.length⟩ W' := fun W' hr hw =>
    ⟨by rw [World.cell?_of_block hw]; exact c0, by rw [hr.cw 8]; show some G.gv = _; rw [hgf], hr.fw 8⟩
  have hd1 := below_dr W1 1
  have hw1 : Below W1.heap.size W1 ((W1.drewN 1).alloc (.cells #[CpQ.fv ⟨G.wb, ga, s.gat.length, gc, W.heap.size, W.heap.size + 1, W.heap.size + 2, .func (.func 42) #[] caps, .int .i64 s.gat.length⟩] 73)) := hd1.alloc (Nat.le_refl _) _
  have H0 := mkS _ (hr1.below hd1) rfl
  have H1 := mkS _ (hr1.below hw1) (hw1.block _ (by omega))
  generalize hw1e : (W1.drewN 1).alloc (.cells #[CpQ.fv ⟨G.wb, ga, s.gat.length, gc, W.heap.size, W.heap.size + 1, W.heap.size + 2, .func (.func 42) #[] caps, .int .i64 s.gat.length⟩] 73) = w1 at *
  have zw1 : w1.heap.size = W1.heap.size + 1 := by rw [← hw1e]; simp
  have hrw := hr1.below hw1
  have HAA : ∀ ty, ∃ g cap W3, (Builtin.append_ #[54, 54] ty #[.slice ga s.gat.length gc, .slice (some ⟨W1.heap.size, 0, none⟩) 1 1]).run Tryd.prog w1 = .ok (.slice (some ⟨g, 0, none⟩) (s.gat.length + 1) cap) W3 ∧
      (CpS ⟨G.wb, ga, s.gat.length, gc, W.heap.size, W.heap.size + 1, W.heap.size + 2, .func (.func 42) #[] caps, .int .i64 s.gat.length⟩ W3 ∧ SRel B (.slice (some ⟨nb, no, none⟩) l.length nc) l.length (W3.setCell ⟨G.wb, 8, none⟩ (.slice (some ⟨g, 0, none⟩) (s.gat.length + 1) cap)) { s with gat := s.gat ++ [(i, [])] } (pushG G s.gat.length g W.heap.size (W.heap.size + 1) (W.heap.size + 2) (.slice (some ⟨g, 0, none⟩) (s.gat.length + 1) cap)) ∧ Fr B W G (W3.setCell ⟨G.wb, 8, none⟩ (.slice (some ⟨g, 0, none⟩) (s.gat.length + 1) cap)) (pushG G s.gat.length g W.heap.size (W.heap.size + 1) (W.heap.size + 2) (.slice (some ⟨g, 0, none⟩) (s.gat.length + 1) cap))) := fun ty => by
    obtain ⟨g, cap, W3, r1, r2, r3, r4, r5⟩ := run_append_lies (P := Tryd.prog) w1 54 ty B 73 i0 .nilFunc 1 8 Tryd.underlying54 hi0 hz0 hz1 hz2 rfl (by decide) G.gv _ _ hrw.hgv ⟨W1.heap.size, 0, none⟩ 1 1 [.func (.func 59) #[] #[ptrV W.heap.size, ptrV (W.heap.size + 1), ptrV (W.heap.size + 2)]] rfl (by rw [← hw1e]; exact World.news_of_block (heap_alloc_new (W1.drewN 1) _)) (by intro u hu; simp at hu; subst hu; rfl) (by decide) (by unfold maxLen; omega) (by omega) (by omega) w1.heap.size rfl
    rw [hgf] at r1
    have hp := h.rel.push i rfl (b1.trans (hw1.mono (by omega))) ⟨Nat.le_refl _, by omega⟩ ⟨by omega, by omega⟩ ⟨by omega, by omega⟩ (by omega) (by omega) (by omega) ((hw1.block _ (by omega)).trans g0) ((hw1.block _ (by omega)).trans g1) ((hw1.block _ (by omega)).trans g2) r2 r3 r4 r5
    have hS3 : Same w1 W3 G (fun t => t ≠ .gat) := fun b hb hp' => r3.block b (hrw.lo b hb).2 fun e => hp' (hrw.lgv b e.symm)
    refine ⟨g, cap, W3, r1, ⟨?_, ?_, ?_⟩, hp⟩
    · have hne : some W.heap.size ≠ G.gv.ownBlock := fun e => by have := h.rel.lt (h.rel.lgv _ e.symm) (by simp); omega
      show W3.cell? ⟨W.heap.size, 0, none⟩ = _
      rw [World.cell?_of_block (r3.block W.heap.size (by omega) hne), World.cell?_of_block (hw1.block W.heap.size (by omega))]; exact c0
    · rw [cell_of_row W3 _ 8 _ _ _ (hrw.k_w hS3 (by simp))]; show some G.gv = _; rw [hgf]
    · simp [World.frozen?, hrw.k_w hS3 (by simp)]
  have Hh := Bx.mk h
  have HIB := Bx.mk HI
  generalize hs0 : ({ s with gat := s.gat ++ [(i, [])] } : SSt) = s0 at *
  generalize hs1 : ins s0 = s1 at *
  have hgn := h.rel.gnl
  clear mkS h hr1 hrw hd1 HI
  go_enter Tryd.func41, Tryd.ntmps41
  go_wp2
  refine Cp_region (q := ⟨G.wb, ga, s.gat.length, gc, W.heap.size, W.heap.size + 1, W.heap.size + 2, .func (.func 42) #[] caps, .int .i64 s.gat.length⟩) H0 H1 (fun g cap W3 ha => ha.1) hw1e HAA _ rfl rfl rfl rfl rfl rfl rfl ?_ _
  intro a g cap W3 hsz hdf e2 e3 e4 e6 e7 ha
  obtain ⟨x0, x1, x2, x3, x4, x5, x6, x7, x8, x9, x10, x11, x12, x13, x14, x15, x16, x17, x18, x19, x20, x21, x22, x23, x24, x25, x26, x27, x28, x29, x30, x31, x32, x33, x34, x35, x36, x37, x38, x39, x40, x41, x42, x43, x44, x45, x46, rfl⟩ := act47 a hsz hdf
  replace e2 : x2 = .func (.func 42) #[] caps := e2
  replace e3 : x3 = .pointer (some ⟨W.heap.size, 0, none⟩) := e3
  replace e4 : x4 = .pointer (some ⟨W.heap.size + 1, 0, none⟩) := e4
  replace e6 : x6 = .int .i64 s.gat.length := e6
  replace e7 : x7 = .pointer (some ⟨W.heap.size + 2, 0, none⟩) := e7
  subst e2
  subst e3
  subst e4
  subst e6
  subst e7
  obtain ⟨W4, hW4⟩ : ∃ W4, W3.setCell ⟨G.wb, 8, none⟩ (.slice (some ⟨g, 0, none⟩) (s.gat.length + 1) cap) = W4 := ⟨_, rfl⟩
  obtain ⟨_, hr4, hf4⟩ := ha
  rw [hW4] at hr4 hf4
  clear HAA H0 H1 hsz hdf w8 c0
  show Exit.then _ _ Exit.normal _ (W3.setCell ⟨G.wb, 8, none⟩ (.slice (some ⟨g, 0, none⟩) (s.gat.length + 1) cap))
  rw [hW4]
  have hst4 : ST B nb no nc l W4 (gnG (pushG G s.gat.length g W.heap.size (W.heap.size + 1) (W.heap.size + 2) (.slice (some ⟨g, 0, none⟩) (s.gat.length + 1) cap)) (s.gat.length + 1)) W4 s0 (gnG (pushG G s.gat.length g W.heap.size (W.heap.size + 1) (W.heap.size + 2) (.slice (some ⟨g, 0, none⟩) (s.gat.length + 1) cap)) (s.gat.length + 1)) := ST.start (hr4.gnTo _ (by rw [← hs0]; simp)) (Hh.out.nds.below hf4.bel)
  have HC5 := Bx.mk (HIB.out W4 _ hst4 hf4 rfl)
  have HPOP : Bx (∀ W5 G2, ST B nb no nc l W4 (gnG (pushG G s.gat.length g W.heap.size (W.heap.size + 1) (W.heap.size + 2) (.slice (some ⟨g, 0, none⟩) (s.gat.length + 1) cap)) (s.gat.length + 1)) W5 s1 G2 →
      ∃ g' cap' ta tc', s.gat.length + 1 ≤ cap' ∧ cap' ≤ 9223372036854775807 ∧ PpS ⟨G.wb, g', s.gat.length, cap', W.heap.size, W.heap.size + 2⟩ (W5.drewN 1) ∧
        ∃ W6, (W5.drewN 1).setCell ⟨G.wb, 8, none⟩ (.slice (some ⟨g', 0, none⟩) s.gat.length cap') = W6 ∧ W6.cell? ⟨W.heap.size + 2, 0, none⟩ = some (.slice ta (gatS s1 s.gat.length).2.length tc') ∧ ∃ G3, Bx (CpL B nb no nc l W0 G0 G3 { s1 with gat := s1.gat.take s.gat.length } s.gat.length (gatS s1 s.gat.length).2 0 W6) ∧
          (0 < (gatS s1 s.gat.length).2.length → ∃ g2, ta = some ⟨g2, 0, none⟩ ∧ Bx ((∀ m, m < s1.ms.length → G3.mB m ≠ g2) ∧ ∀ j, j < (gatS s1 s.gat.length).2.length → W6.cell? ⟨g2, j, none⟩ = some (.pointer (some ⟨G3.mB ((gatS s1 s.gat.length).2.getD j 0), 0, none⟩))))) := ⟨fun W5 G2 h5 => by
    have hwb5 : G2.wb = G.wb := h5.fr.wb
    have hn5 : s.gat.length < s1.gat.length := by rw [hlen]; omega
    obtain ⟨q1, q2⟩ := h5.fr.gs s.gat.length (Nat.lt_succ_self _)
    have qw : G2.wc s.gat.length = W.heap.size := q1.trans (upd_same _ _ _)
    have qt : G2.tc s.gat.length = W.heap.size + 2 := q2.trans (upd_same _ _ _)
    rcases gat_form h5.rel with ⟨_, e⟩ | ⟨g', cap', hgv, hc1, hc2⟩
    · omega
    rw [hlen] at hgv hc1
    unfold maxLen at hc2
    have hcw : W5.cell? ⟨W.heap.size, 0, none⟩ = some (.pointer (some ⟨G.wb, 0, none⟩)) := by
      have := cell_of_row W5 _ 0 _ _ _ (h5.rel.hwc s.gat.length hn5)
      rw [qw, hwb5] at this
      rw [this]; rfl
    have hc8 : W5.cell? ⟨G.wb, 8, none⟩ = some (.slice (some ⟨g', 0, none⟩) (s.gat.length + 1) cap') := by
      have := h5.rel.cw 8
      rw [hwb5] at this
      rw [this]; show some G2.gv = _; rw [hgv]
    have hf8 : W5.frozen? ⟨G.wb, 8, none⟩ = false := by rw [← hwb5]; exact h5.rel.fw 8
    obtain ⟨ta, tc', htv⟩ := row_form (h5.rel.htk s.gat.length hn5)
    have hF : Fr B W G W5 (gnG G2 G.gn) := ⟨hf4.bel.trans h5.fr.bel, fun b hb hl => by
        obtain ⟨a1, a2⟩ := hf4.keep b hb hl
        obtain ⟨b1', b2'⟩ := h5.fr.keep b (Nat.lt_of_lt_of_le hb hf4.size) a2
        exact ⟨b1'.trans a1, b2'⟩, hwb5, fun k hk => by
        obtain ⟨a1, a2⟩ := hf4.gs k hk
        obtain ⟨b1', b2'⟩ := h5.fr.gs k (show k < s.gat.length + 1 by omega)
        exact ⟨b1'.trans a1, b2'.trans a2⟩, rfl⟩
    have h5' : ST B nb no nc l W0 G0 W5 s1 (gnG G2 G.gn) := Hh.out.step (h5.rel.gnTo _ (by omega)) hF
    have hpop := (h5'.drew 1).rel.pop (n := s.gat.length) hgn hlen (show (gnG G2 G.gn).gv = _ from hgv) (W' := (W5.drewN 1).setCell ⟨G.wb, 8, none⟩ (.slice (some ⟨g', 0, none⟩) s.gat.length cap')) (by show _ = (W5.drewN 1).setCell ⟨G2.wb, 8, none⟩ _; rw [hwb5])
    have hst6 := (h5'.drew 1).step hpop.1 hpop.2
    have htw : W.heap.size + 2 ≠ G.wb := fun e => by
      have := h5.rel.ltc s.gat.length hn5
      rw [qt, e, ← hwb5, h5.rel.lwb] at this
      cases this
    refine ⟨g', cap', ta, tc', hc1, hc2, ⟨hcw, hc8, hf8⟩, _, rfl, ?_, popG (gnG G2 G.gn) (.slice (some ⟨g', 0, none⟩) s.gat.length cap'), ⟨⟨hst6⟩⟩, fun hp => ?_⟩
    · rw [World.cell?_of_block (heap_setCell_other _ _ _ _ htw)]
      show W5.cell? ⟨W.heap.size + 2, 0, none⟩ = _
      have := cell_of_row W5 _ 0 _ _ _ (h5.rel.htc s.gat.length hn5)
      rw [qt] at this
      rw [this, htv]; rfl
    · rcases row_some (h5.rel.htk s.gat.length hn5) with ⟨_, e⟩ | ⟨g2, cap2, e⟩
      · omega
      · rw [htv] at e
        simp only [Value.slice.injEq] at e
        have hl2 : G2.lab g2 = .tk s.gat.length := h5.rel.ltv s.gat.length g2 hn5 (by rw [htv, e.1]; rfl)
        refine ⟨g2, e.1, ⟨fun m hm e2 => ?_, fun j hj => ?_⟩⟩
        · have := h5.rel.lmn m hm
          rw [show G2.mB m = g2 from e2, hl2] at this
          cases this
        · have hne : g2 ≠ G.wb := fun e2 => by rw [e2, ← hwb5, h5.rel.lwb] at hl2; cases hl2
          rw [World.cell?_of_block (heap_setCell_other _ _ _ _ hne)]
          show W5.cell? ⟨g2, j, none⟩ = _
          have hrow := h5.rel.htk s.gat.length hn5
          rw [htv, e.1] at hrow
          rw [row_cell hrow hj]
          simp [List.getD_eq_getElem?_getD, hj, ptrV, popG, gnG]⟩
  have hmsT : Bx (∀ j, j < (gatS s1 s.gat.length).2.length → (gatS s1 s.gat.length).2.getD j 0 < s1.ms.length) := ⟨fun j hj => hwf.gids s.gat.length _ (by rw [List.getD_eq_getElem?_getD, List.getElem?_eq_getElem hj]; exact List.getElem_mem hj)⟩
  have HFIN : Bx (∀ wr G3, CpL B nb no nc l W0 G0 G3 { s1 with gat := s1.gat.take s.gat.length } s.gat.length (gatS s1 s.gat.length).2 (gatS s1 s.gat.length).2.length wr → ∃ G', ST B nb no nc l W0 G0 wr (capP i ins s) G') := ⟨fun wr G3 hh => ⟨G3, by
    rw [hP]
    have := hh.st
    rw [List.take_of_length_le (Nat.le_refl _)] at this
    exact this⟩⟩
  clear hst4 hr4 hf4 HIB Hh hwf hP
  go_wp2_with (first
    | (go_at_call 42; refine Calls.mono HC5.out ?_; clear HC5; rintro e W5 ⟨rfl, G2, h5⟩; obtain ⟨g', cap', ta, tc', hc1, hc2, HS5, W6, hW6, c6, G3, HL0, HROW⟩ := HPOP.out W5 G2 h5; replace HROW := Bx.mk HROW; clear h5 HPOP))
  refine Pp_region (q := ⟨G.wb, g', s.gat.length, cap', W.heap.size, W.heap.size + 2⟩) hc1 hc2 HS5 _ rfl rfl rfl rfl rfl ?_ _
  intro a hsz hdf e3 e6 e7
  obtain ⟨y0, y1, y2, y3, y4, y5, y6, y7, y8, y9, y10, y11, y12, y13, y14, y15, y16, y17, y18, y19, y20, y21, y22, y23, y24, y25, y26, y27, y28, y29, y30, y31, y32, y33, y34, y35, y36, y37, y38, y39, y40, y41, y42, y43, y44, y45, y46, rfl⟩ := act47 a hsz hdf
  replace e3 : y3 = .pointer (some ⟨W.heap.size, 0, none⟩) := e3
  replace e6 : y6 = .int .i64 s.gat.length := e6
  replace e7 : y7 = .pointer (some ⟨W.heap.size + 2, 0, none⟩) := e7
  subst e3
  subst e6
  subst e7
  show Exit.then _ _ Exit.normal _ ((W5.drewN 1).setCell ⟨G.wb, 8, none⟩ (.slice (some ⟨g', 0, none⟩) s.gat.length cap'))
  rw [hW6]
  clear hsz hdf HS5
  have HLN : Bx (∀ j wr, CpL B nb no nc l W0 G0 G3 { s1 with gat := s1.gat.take s.gat.length } s.gat.length (gatS s1 s.gat.length).2 j wr → j < (gatS s1 s.gat.length).2.length → (∃ x, wr.cell? ⟨G3.mB ((gatS s1 s.gat.length).2.getD j 0), 2, none⟩ = some x) ∧ wr.frozen? ⟨G3.mB ((gatS s1 s.gat.length).2.getD j 0), 2, none⟩ = false ∧ CpL B nb no nc l W0 G0 G3 { s1 with gat := s1.gat.take s.gat.length } s.gat.length (gatS s1 s.gat.length).2 (j + 1) (wr.setCell ⟨G3.mB ((gatS s1 s.gat.length).2.getD j 0), 2, none⟩ (.int .i64 s.gat.length))) := ⟨fun j wr hh hj => by
    have e : (gatS s1 s.gat.length).2.getD j 0 = (gatS s1 s.gat.length).2[j] := by rw [List.getD_eq_getElem?_getD, List.getElem?_eq_getElem hj]; rfl
    have hm := hmsT.out j hj
    rw [e] at hm ⊢
    exact hh.next hj hm⟩
  generalize gatS s1 s.gat.length = gT at *
  obtain ⟨gp, T⟩ := gT
  simp only [] at *
  go_wp2
  go_loopw [38] (fun x wr => ∃ j : Nat, x = .int .i64 j ∧ j ≤ T.length ∧ Bx (CpL B nb no nc l W0 G0 G3 { s1 with gat := s1.gat.take s.gat.length } s.gat.length T j wr) ∧ Bx (∀ b, (∀ m, m < s1.ms.length → G3.mB m ≠ b) → wr.heap[b]? = W6.heap[b]?)) (fun x _ => T.length - (intOf x).toNat)
  case atStart => exact ⟨0, rfl, Nat.zero_le _, HL0, ⟨fun _ _ => rfl⟩⟩
  case round =>
    obtain ⟨j, rfl, hj, HS, HRB⟩ := hrel
    by_cases hjl : j < T.length
    · obtain ⟨g2, rfl, HRW⟩ := HROW.out (by omega)
      have hce : wr.cell? ⟨g2, j, none⟩ = some (.pointer (some ⟨G3.mB (T.getD j 0), 0, none⟩)) := by
        rw [World.cell?_of_block (HRB.out g2 HRW.out.1)]
        exact HRW.out.2 j hjl
      obtain ⟨⟨x2, cx⟩, fx, HN⟩ := HLN.out j wr HS.out hjl
      have hm := hmsT.out j hjl
      replace HN := Bx.mk HN
      have HRN : Bx (∀ b, (∀ m, m < s1.ms.length → G3.mB m ≠ b) → (wr.setCell ⟨G3.mB (T.getD j 0), 2, none⟩ (.int .i64 s.gat.length)).heap[b]? = W6.heap[b]?) := ⟨fun b hb => by
        rw [heap_setCell_other _ _ _ _ (Ne.symm (hb _ hm))]
        exact HRB.out b hb⟩
      generalize T.getD j 0 = m at *
      clear HS HRB HLN HFIN HL0 HROW HRW hmsT
      go_wp2
      go_roundw
      case rel => exact ⟨j + 1, by go_num, by omega, HN, HRN⟩
      case measure => simp [intOf]; omega
    · have hje : j = T.length := by omega
      have HZ := Bx.mk (HFIN.out wr G3 (by rw [← hje]; exact HS.out))
      clear HS HRB HLN HFIN HL0 HROW hmsT
      go_wp2
      go_end0
      exact ⟨rfl, HZ.out⟩
end Go.Proofs.YtjjbgbadkbomlaaDoor
