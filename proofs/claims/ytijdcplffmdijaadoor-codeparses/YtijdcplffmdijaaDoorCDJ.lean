import Derived.Test.YtijdcplffmdijaaDoorCDN
namespace Go.Proofs.YtijdcplffmdijaaDoor
open Go.RowKit
set_option linter.unusedVariables false
set_option linter.unusedSimpArgs false

theorem nums_app (a b : List Int) : numsT (a ++ b) = numsT a ++ numsT b := by unfold numsT; rw [List.flatMap_append]
theorem nums_one {x : Int} (h : I64 x) : (numsT [x]).length ≤ 21 := nums_le fun k hk => by
  rw [List.mem_singleton] at hk; subst hk; exact h
theorem cell_blk {w : World} {b i : Nat} {cs : Array Value} {t : TypeId} {fz : Nat × Nat} {v : Value} (h : w.heap[b]? = some (.cells cs t fz)) (hv : cs[i]? = some v) : w.cell? ⟨b, i, none⟩ = some v := by
  rw [World.cell?]
  simp only [h]
  simpa using hv
theorem heap_new (w : World) (o : Obj) : (w.alloc o).heap[w.heap.size]? = some o := heap_alloc_new w o
theorem below_heap {w w' : World} (h : Below w.heap.size w w') {b : Nat} {o : Obj} (hb : w.heap[b]? = some o) : w'.heap[b]? = some o := by
  rw [h.block b (Array.getElem?_eq_some_iff.1 hb).1]; exact hb
theorem BO.below {w w' : World} {B : Nat} {v : Value} {bs : List UInt8} (h : BO w B v bs) (hb : Below w.heap.size w w') : BO w' B v bs := owns_same h fun g _ hg => hb.block g hg
theorem numsI_text (nm : List UInt8) (i : CIn) : nm ++ numsT [] ++ numsT (if hasAI i.op then [i.a] else []) ++ numsT (if hasBI i.op then [i.b] else []) ++ numsT i.list = nm ++ numsT (numsI i) := by
  unfold numsI
  rw [nums_app, nums_app]
  simp [numsT]

set_option maxRecDepth 100000 in
set_option maxHeartbeats 8000000 in
theorem instruction_any (w : World) (B : Nat) (v : Value) (bs : List UInt8) (i : CIn) (a : Option Addr) (cap : Nat) (hB : B ≤ w.heap.size) (ho : BO w B v bs) (hs : Shp w) (hi : IntsS w B a cap i.list) (hw : i.Wf)
    (hl : bs.length + 50 + 21 * i.list.length ≤ 140737488355327) (hn : (nameI i.op).length ≤ 5) (ht : PowAt B w) :
    Calls Tryd.prog 41 #[v, insV i a cap] w fun e w' => ∃ v', e = .returned v' ∧ Bx (BO w' B v' (bs ++ (nameI i.op ++ numsT (numsI i))) ∧ KU B w w') := by
  have HT0 := numsI_text (nameI i.op) i
  obtain ⟨op, x, y, l⟩ := i
  simp only [] at *
  have hb := below1 w (.cells #[.int .i64 op, .int .i64 x, .int .i64 y, .slice a l.length cap] 28)
  have hh0 := heap_new w (.cells #[.int .i64 op, .int .i64 x, .int .i64 y, .slice a l.length cap] 28)
  have HS := shapeOf_any op (w.alloc (.cells #[.int .i64 op, .int .i64 x, .int .i64 y, .slice a l.length cap] 28)) (hs.below hb) hw.op
  have hsm := shape_small op
  have L1 := nums_one hw.a
  have L2 := nums_one hw.b
  have hwa := hw.a
  have hwb := hw.b
  have hwl : ∀ k ∈ l, I64 k := hw.list
  unfold hasAI hasBI at HT0
  obtain ⟨_, _, _, _, s1, s2⟩ := hsm
  obtain ⟨A1, A2, A3⟩ := and_bits s1 s2
  have B1 := bne_of A1
  have B2 := bne_of A2
  clear A1 A2 A3
  have hnm : nameI op = (shapeI op).1 := rfl
  rw [hnm] at HT0 hn ⊢
  generalize hR : bs ++ ((shapeI op).1 ++ numsT (numsI ⟨op, x, y, l⟩)) = R
  rw [← HT0] at hR
  clear HT0 hnm
  generalize shapeI op = s at *
  unfold shpV at HS
  obtain ⟨nm, hs1, tk, ly⟩ := s
  simp only [] at *
  -- the calls, at any world that is come to
  have HW : Bx (∀ W, KU B w W → BO W B v bs → Calls Tryd.prog 37 #[v, strV nm, .slice none 0 0] W fun e w' => ∃ v', e = .returned v' ∧ Bx (BO w' B v' (bs ++ (nm ++ numsT [])) ∧ KU B w w' ∧ KU B W w')) := ⟨fun W hk hbo => (words_any W B v bs nm none 0 [] (Nat.le_trans hB hk.size) hbo (IntsS.of (intsV_nil _ _ _ _) (Nat.le_trans hB hk.size)) (fun k hk => by cases hk) (by simp; omega) (ht.on hk.bel)).mono fun e w' ⟨v', h1, h2⟩ => ⟨v', h1, ⟨h2.out.1, hk.trans h2.out.2.ku, h2.out.2.ku⟩⟩⟩
  have HN : Bx (∀ W V cs z, KU B w W → BO W B V cs → cs.length + 21 ≤ 140737488355327 → I64 z → Calls Tryd.prog 39 #[V, .slice (some ⟨W.heap.size, 0, none⟩) 1 1] (W.alloc (.cells #[.int .i64 z] 3)) fun e w' => ∃ v', e = .returned v' ∧ Bx (BO w' B v' (cs ++ numsT [z]) ∧ KU B w w' ∧ KU B W w')) := ⟨fun W V cs z hk hbo hcl hz => by
    have hBW := Nat.le_trans hB hk.size
    have hk2 : KU B W (W.alloc (.cells #[.int .i64 z] 3)) := (KU.refl _ _).alloc hBW _
    refine (numbers_any (W.alloc (.cells #[.int .i64 z] 3)) B V cs (some ⟨W.heap.size, 0, none⟩) 1 [z] (Nat.le_trans hBW hk2.size) (hbo.alloc _) (IntsS.new (ks := [z]) (heap_new _ _) rfl (by simp [maxLen])) (fun k hk => by rw [List.mem_singleton] at hk; subst hk; exact hz) (by simpa using hcl) (ht.on (hk.trans hk2).bel)).mono ?_
    rintro e w' ⟨v', h1, h2⟩
    exact ⟨v', h1, ⟨h2.out.1, (hk.trans hk2).trans h2.out.2.ku, hk2.trans h2.out.2.ku⟩⟩⟩
  have HL : Bx (∀ W V cs, KU B w W → BO W B V cs → cs.length + 21 * l.length ≤ 140737488355327 → Calls Tryd.prog 39 #[V, .slice a l.length cap] W fun e w' => ∃ v', e = .returned v' ∧ Bx (BO w' B v' (cs ++ numsT l) ∧ KU B w w' ∧ KU B W w')) := ⟨fun W V cs hk hbo hcl => (numbers_any W B V cs a cap l (Nat.le_trans hB hk.size) hbo (hi.on hk) hwl hcl (ht.on hk.bel)).mono fun e w' ⟨v', h1, h2⟩ => ⟨v', h1, ⟨h2.out.1, hk.trans h2.out.2.ku, h2.out.2.ku⟩⟩⟩
  have HO : Bx _ := ⟨ho⟩
  have HB : Bx _ := ⟨hb⟩
  have HH0 : Bx _ := ⟨hh0⟩
  have hx0 : (numsT []).length = 0 := rfl
  clear ho hs hi hw ht hb hh0 s1 s2
  generalize hpa : (hs1 % 2 == 1) = pa at *
  generalize hpb : (hs1 / 2 % 2 == 1) = pb at *
  clear hpa hpb
  cases pa <;> cases pb
  · simp only [Bool.false_eq_true, if_false, if_true] at hR
    have T0 := fun W V hk hb => HL.out W V (bs ++ (nm ++ numsT [])) hk hb (by simp only [List.length_append]; omega)
    have H0 : Bx _ := ⟨T0⟩
    clear T0 HN HL L1 L2 hl hn hx0
    go_enter Tryd.func41, Tryd.ntmps41
    go_wp2_with (first
      | (go_at_call 31; refine HS.mono ?_; rintro e w1 ⟨rfl, hb1⟩
         have hq : w.heap.size < w1.heap.size := by have := hb1.size; simp at this; omega
         have K3 : KU B w (w1.alloc (.cells #[strV nm, .int .i64 hs1, .int .i64 tk, .int .i64 ly] 60)) := (((KU.refl B w).alloc hB _).below (by simp; omega) hb1).alloc (by omega) _
         have BO3 : BO (w1.alloc (.cells #[strV nm, .int .i64 hs1, .int .i64 tk, .int .i64 ly] 60)) B v bs := ((HO.out.alloc _).below hb1).alloc _
         have I3 : (w1.alloc (.cells #[strV nm, .int .i64 hs1, .int .i64 tk, .int .i64 ly] 60)).heap[w.heap.size]? = some (.cells #[.int .i64 op, .int .i64 x, .int .i64 y, .slice a l.length cap] 28 (0, 0)) := below_heap (below1 w1 _) (below_heap hb1 HH0.out)
         have G : Bx (∀ W, KU B (w1.alloc (.cells #[strV nm, .int .i64 hs1, .int .i64 tk, .int .i64 ly] 60)) W → (W.cell? ⟨w.heap.size, 1, none⟩ = some (.int .i64 x) ∧ W.cell? ⟨w.heap.size, 2, none⟩ = some (.int .i64 y) ∧ W.cell? ⟨w.heap.size, 3, none⟩ = some (.slice a l.length cap)) ∧ W.cell? ⟨w1.heap.size, 1, none⟩ = some (.int .i64 hs1) ∧ w1.heap.size < W.heap.size) := ⟨fun W hk => by
           have e1 := hk.block I3 (fun c fz e => by injection e with _ e; exact absurd e (by decide))
           have e2 := hk.block (heap_new w1 (.cells #[strV nm, .int .i64 hs1, .int .i64 tk, .int .i64 ly] 60)) (fun c fz e => by injection e with _ e; exact absurd e (by decide))
           exact ⟨⟨cell_blk e1 rfl, cell_blk e1 rfl, cell_blk e1 rfl⟩, cell_blk e2 rfl, (Array.getElem?_eq_some_iff.1 e2).1⟩⟩
         have K3B : Bx _ := ⟨K3⟩
         have BO3B : Bx _ := ⟨BO3⟩
         clear K3 BO3 I3 hb1)
      | (go_at_call 37; refine (HW.out _ K3B.out BO3B.out).mono ?_; rintro e w4 ⟨v4, rfl, H4⟩
         obtain ⟨⟨a1, a2, a3⟩, a4, a5⟩ := G.out _ H4.out.2.2
         have K34 := H4.out.2.2
         have KB0 : Bx (KU B _ w4) := ⟨K34⟩
         clear K34
         have CUR0 : Bx (BO w4 B v4 _ ∧ KU B w w4) := ⟨H4.out.1, H4.out.2.1⟩
         clear H4)
      | (go_at_call 39; refine (H0.out _ _ CUR0.out.2 CUR0.out.1).mono ?_; rintro e w6 ⟨v6, rfl, H6⟩
         clear H0))
    go_ret
    refine ⟨_, rfl, ⟨?_, H6.out.2.1⟩⟩
    have h6 := H6.out.1
    rw [← hR]
    simpa [numsT] using h6
  · simp only [Bool.false_eq_true, if_false, if_true] at hR
    have T0 := fun W V hk hb => HN.out W V (bs ++ (nm ++ numsT [])) y hk hb (by simp only [List.length_append]; omega) hwb
    have T1 := fun W V hk hb => HL.out W V (bs ++ (nm ++ numsT []) ++ numsT [y]) hk hb (by simp only [List.length_append]; omega)
    have H0 : Bx _ := ⟨T0⟩
    have H1 : Bx _ := ⟨T1⟩
    clear T0 T1 HN HL L1 L2 hl hn hx0
    go_enter Tryd.func41, Tryd.ntmps41
    go_wp2_with (first
      | (go_at_call 31; refine HS.mono ?_; rintro e w1 ⟨rfl, hb1⟩
         have hq : w.heap.size < w1.heap.size := by have := hb1.size; simp at this; omega
         have K3 : KU B w (w1.alloc (.cells #[strV nm, .int .i64 hs1, .int .i64 tk, .int .i64 ly] 60)) := (((KU.refl B w).alloc hB _).below (by simp; omega) hb1).alloc (by omega) _
         have BO3 : BO (w1.alloc (.cells #[strV nm, .int .i64 hs1, .int .i64 tk, .int .i64 ly] 60)) B v bs := ((HO.out.alloc _).below hb1).alloc _
         have I3 : (w1.alloc (.cells #[strV nm, .int .i64 hs1, .int .i64 tk, .int .i64 ly] 60)).heap[w.heap.size]? = some (.cells #[.int .i64 op, .int .i64 x, .int .i64 y, .slice a l.length cap] 28 (0, 0)) := below_heap (below1 w1 _) (below_heap hb1 HH0.out)
         have G : Bx (∀ W, KU B (w1.alloc (.cells #[strV nm, .int .i64 hs1, .int .i64 tk, .int .i64 ly] 60)) W → (W.cell? ⟨w.heap.size, 1, none⟩ = some (.int .i64 x) ∧ W.cell? ⟨w.heap.size, 2, none⟩ = some (.int .i64 y) ∧ W.cell? ⟨w.heap.size, 3, none⟩ = some (.slice a l.length cap)) ∧ W.cell? ⟨w1.heap.size, 1, none⟩ = some (.int .i64 hs1) ∧ w1.heap.size < W.heap.size) := ⟨fun W hk => by
           have e1 := hk.block I3 (fun c fz e => by injection e with _ e; exact absurd e (by decide))
           have e2 := hk.block (heap_new w1 (.cells #[strV nm, .int .i64 hs1, .int .i64 tk, .int .i64 ly] 60)) (fun c fz e => by injection e with _ e; exact absurd e (by decide))
           exact ⟨⟨cell_blk e1 rfl, cell_blk e1 rfl, cell_blk e1 rfl⟩, cell_blk e2 rfl, (Array.getElem?_eq_some_iff.1 e2).1⟩⟩
         have K3B : Bx _ := ⟨K3⟩
         have BO3B : Bx _ := ⟨BO3⟩
         clear K3 BO3 I3 hb1)
      | (go_at_call 37; refine (HW.out _ K3B.out BO3B.out).mono ?_; rintro e w4 ⟨v4, rfl, H4⟩
         obtain ⟨⟨a1, a2, a3⟩, a4, a5⟩ := G.out _ H4.out.2.2
         have K34 := H4.out.2.2
         have KB0 : Bx (KU B _ w4) := ⟨K34⟩
         clear K34
         have CUR0 : Bx (BO w4 B v4 _ ∧ KU B w w4) := ⟨H4.out.1, H4.out.2.1⟩
         clear H4)
      | (go_at_call 39; refine (H0.out _ _ CUR0.out.2 CUR0.out.1).mono ?_; rintro e w50 ⟨v50, rfl, J0⟩
         obtain ⟨⟨b10, b20, b30⟩, b40, b50⟩ := G.out _ (KB0.out.trans J0.out.2.2)
         have KB1 : Bx (KU B _ w50) := ⟨KB0.out.trans J0.out.2.2⟩
         have CUR1 : Bx (BO w50 B v50 _ ∧ KU B w w50) := ⟨J0.out.1, J0.out.2.1⟩
         clear H0 CUR0 KB0 J0)
      | (go_at_call 39; refine (H1.out _ _ CUR1.out.2 CUR1.out.1).mono ?_; rintro e w6 ⟨v6, rfl, H6⟩
         clear H1))
    go_ret
    refine ⟨_, rfl, ⟨?_, H6.out.2.1⟩⟩
    have h6 := H6.out.1
    rw [← hR]
    simpa [numsT] using h6
  · simp only [Bool.false_eq_true, if_false, if_true] at hR
    have T0 := fun W V hk hb => HN.out W V (bs ++ (nm ++ numsT [])) x hk hb (by simp only [List.length_append]; omega) hwa
    have T1 := fun W V hk hb => HL.out W V (bs ++ (nm ++ numsT []) ++ numsT [x]) hk hb (by simp only [List.length_append]; omega)
    have H0 : Bx _ := ⟨T0⟩
    have H1 : Bx _ := ⟨T1⟩
    clear T0 T1 HN HL L1 L2 hl hn hx0
    go_enter Tryd.func41, Tryd.ntmps41
    go_wp2_with (first
      | (go_at_call 31; refine HS.mono ?_; rintro e w1 ⟨rfl, hb1⟩
         have hq : w.heap.size < w1.heap.size := by have := hb1.size; simp at this; omega
         have K3 : KU B w (w1.alloc (.cells #[strV nm, .int .i64 hs1, .int .i64 tk, .int .i64 ly] 60)) := (((KU.refl B w).alloc hB _).below (by simp; omega) hb1).alloc (by omega) _
         have BO3 : BO (w1.alloc (.cells #[strV nm, .int .i64 hs1, .int .i64 tk, .int .i64 ly] 60)) B v bs := ((HO.out.alloc _).below hb1).alloc _
         have I3 : (w1.alloc (.cells #[strV nm, .int .i64 hs1, .int .i64 tk, .int .i64 ly] 60)).heap[w.heap.size]? = some (.cells #[.int .i64 op, .int .i64 x, .int .i64 y, .slice a l.length cap] 28 (0, 0)) := below_heap (below1 w1 _) (below_heap hb1 HH0.out)
         have G : Bx (∀ W, KU B (w1.alloc (.cells #[strV nm, .int .i64 hs1, .int .i64 tk, .int .i64 ly] 60)) W → (W.cell? ⟨w.heap.size, 1, none⟩ = some (.int .i64 x) ∧ W.cell? ⟨w.heap.size, 2, none⟩ = some (.int .i64 y) ∧ W.cell? ⟨w.heap.size, 3, none⟩ = some (.slice a l.length cap)) ∧ W.cell? ⟨w1.heap.size, 1, none⟩ = some (.int .i64 hs1) ∧ w1.heap.size < W.heap.size) := ⟨fun W hk => by
           have e1 := hk.block I3 (fun c fz e => by injection e with _ e; exact absurd e (by decide))
           have e2 := hk.block (heap_new w1 (.cells #[strV nm, .int .i64 hs1, .int .i64 tk, .int .i64 ly] 60)) (fun c fz e => by injection e with _ e; exact absurd e (by decide))
           exact ⟨⟨cell_blk e1 rfl, cell_blk e1 rfl, cell_blk e1 rfl⟩, cell_blk e2 rfl, (Array.getElem?_eq_some_iff.1 e2).1⟩⟩
         have K3B : Bx _ := ⟨K3⟩
         have BO3B : Bx _ := ⟨BO3⟩
         clear K3 BO3 I3 hb1)
      | (go_at_call 37; refine (HW.out _ K3B.out BO3B.out).mono ?_; rintro e w4 ⟨v4, rfl, H4⟩
         obtain ⟨⟨a1, a2, a3⟩, a4, a5⟩ := G.out _ H4.out.2.2
         have K34 := H4.out.2.2
         have KB0 : Bx (KU B _ w4) := ⟨K34⟩
         clear K34
         have CUR0 : Bx (BO w4 B v4 _ ∧ KU B w w4) := ⟨H4.out.1, H4.out.2.1⟩
         clear H4)
      | (go_at_call 39; refine (H0.out _ _ CUR0.out.2 CUR0.out.1).mono ?_; rintro e w50 ⟨v50, rfl, J0⟩
         obtain ⟨⟨b10, b20, b30⟩, b40, b50⟩ := G.out _ (KB0.out.trans J0.out.2.2)
         have KB1 : Bx (KU B _ w50) := ⟨KB0.out.trans J0.out.2.2⟩
         have CUR1 : Bx (BO w50 B v50 _ ∧ KU B w w50) := ⟨J0.out.1, J0.out.2.1⟩
         clear H0 CUR0 KB0 J0)
      | (go_at_call 39; refine (H1.out _ _ CUR1.out.2 CUR1.out.1).mono ?_; rintro e w6 ⟨v6, rfl, H6⟩
         clear H1))
    go_ret
    refine ⟨_, rfl, ⟨?_, H6.out.2.1⟩⟩
    have h6 := H6.out.1
    rw [← hR]
    simpa [numsT] using h6
  · simp only [Bool.false_eq_true, if_false, if_true] at hR
    have T0 := fun W V hk hb => HN.out W V (bs ++ (nm ++ numsT [])) x hk hb (by simp only [List.length_append]; omega) hwa
    have T1 := fun W V hk hb => HN.out W V (bs ++ (nm ++ numsT []) ++ numsT [x]) y hk hb (by simp only [List.length_append]; omega) hwb
    have T2 := fun W V hk hb => HL.out W V (bs ++ (nm ++ numsT []) ++ numsT [x] ++ numsT [y]) hk hb (by simp only [List.length_append]; omega)
    have H0 : Bx _ := ⟨T0⟩
    have H1 : Bx _ := ⟨T1⟩
    have H2 : Bx _ := ⟨T2⟩
    clear T0 T1 T2 HN HL L1 L2 hl hn hx0
    go_enter Tryd.func41, Tryd.ntmps41
    go_wp2_with (first
      | (go_at_call 31; refine HS.mono ?_; rintro e w1 ⟨rfl, hb1⟩
         have hq : w.heap.size < w1.heap.size := by have := hb1.size; simp at this; omega
         have K3 : KU B w (w1.alloc (.cells #[strV nm, .int .i64 hs1, .int .i64 tk, .int .i64 ly] 60)) := (((KU.refl B w).alloc hB _).below (by simp; omega) hb1).alloc (by omega) _
         have BO3 : BO (w1.alloc (.cells #[strV nm, .int .i64 hs1, .int .i64 tk, .int .i64 ly] 60)) B v bs := ((HO.out.alloc _).below hb1).alloc _
         have I3 : (w1.alloc (.cells #[strV nm, .int .i64 hs1, .int .i64 tk, .int .i64 ly] 60)).heap[w.heap.size]? = some (.cells #[.int .i64 op, .int .i64 x, .int .i64 y, .slice a l.length cap] 28 (0, 0)) := below_heap (below1 w1 _) (below_heap hb1 HH0.out)
         have G : Bx (∀ W, KU B (w1.alloc (.cells #[strV nm, .int .i64 hs1, .int .i64 tk, .int .i64 ly] 60)) W → (W.cell? ⟨w.heap.size, 1, none⟩ = some (.int .i64 x) ∧ W.cell? ⟨w.heap.size, 2, none⟩ = some (.int .i64 y) ∧ W.cell? ⟨w.heap.size, 3, none⟩ = some (.slice a l.length cap)) ∧ W.cell? ⟨w1.heap.size, 1, none⟩ = some (.int .i64 hs1) ∧ w1.heap.size < W.heap.size) := ⟨fun W hk => by
           have e1 := hk.block I3 (fun c fz e => by injection e with _ e; exact absurd e (by decide))
           have e2 := hk.block (heap_new w1 (.cells #[strV nm, .int .i64 hs1, .int .i64 tk, .int .i64 ly] 60)) (fun c fz e => by injection e with _ e; exact absurd e (by decide))
           exact ⟨⟨cell_blk e1 rfl, cell_blk e1 rfl, cell_blk e1 rfl⟩, cell_blk e2 rfl, (Array.getElem?_eq_some_iff.1 e2).1⟩⟩
         have K3B : Bx _ := ⟨K3⟩
         have BO3B : Bx _ := ⟨BO3⟩
         clear K3 BO3 I3 hb1)
      | (go_at_call 37; refine (HW.out _ K3B.out BO3B.out).mono ?_; rintro e w4 ⟨v4, rfl, H4⟩
         obtain ⟨⟨a1, a2, a3⟩, a4, a5⟩ := G.out _ H4.out.2.2
         have K34 := H4.out.2.2
         have KB0 : Bx (KU B _ w4) := ⟨K34⟩
         clear K34
         have CUR0 : Bx (BO w4 B v4 _ ∧ KU B w w4) := ⟨H4.out.1, H4.out.2.1⟩
         clear H4)
      | (go_at_call 39; refine (H0.out _ _ CUR0.out.2 CUR0.out.1).mono ?_; rintro e w50 ⟨v50, rfl, J0⟩
         obtain ⟨⟨b10, b20, b30⟩, b40, b50⟩ := G.out _ (KB0.out.trans J0.out.2.2)
         have KB1 : Bx (KU B _ w50) := ⟨KB0.out.trans J0.out.2.2⟩
         have CUR1 : Bx (BO w50 B v50 _ ∧ KU B w w50) := ⟨J0.out.1, J0.out.2.1⟩
         clear H0 CUR0 KB0 J0)
      | (go_at_call 39; refine (H1.out _ _ CUR1.out.2 CUR1.out.1).mono ?_; rintro e w51 ⟨v51, rfl, J1⟩
         obtain ⟨⟨b11, b21, b31⟩, b41, b51⟩ := G.out _ (KB1.out.trans J1.out.2.2)
         have KB2 : Bx (KU B _ w51) := ⟨KB1.out.trans J1.out.2.2⟩
         have CUR2 : Bx (BO w51 B v51 _ ∧ KU B w w51) := ⟨J1.out.1, J1.out.2.1⟩
         clear H1 CUR1 KB1 J1)
      | (go_at_call 39; refine (H2.out _ _ CUR2.out.2 CUR2.out.1).mono ?_; rintro e w6 ⟨v6, rfl, H6⟩
         clear H2))
    go_ret
    refine ⟨_, rfl, ⟨?_, H6.out.2.1⟩⟩
    have h6 := H6.out.1
    rw [← hR]
    simpa [numsT] using h6
end Go.Proofs.YtijdcplffmdijaaDoor
