import Derived.Test.YtecodpdfckjalaaGreatDoorYRLst
set_option linter.unusedVariables false
set_option linter.unusedSimpArgs false
set_option maxHeartbeats 4000000
set_option maxRecDepth 100000
namespace Go.Proofs.YtecodpdfckjalaaGreatDoor
open Go.RowKit
variable {w0 : World} {rb : Nat} {ae aa : Value} {TL : List Tok} {xs : List UInt8} {U : Nat -> Prop}
theorem au (hK : aR TL) {W : World} {s : List ai} {ns : List Nd} (h : RSs w0 rb ae aa TL xs U W s ns) (c : Nat) (hc : (10 <= c /\ c < 31) ∨ (40 <= c /\ c < 67)) (t : List UInt8) (ht : ax (c : Int) = t) : ((⟨(ax (kd s : Nat)).toArray⟩ : ByteArray).toList == t) = decide (kd s = c) := by
 rw [ByteArray.toList_eq]
 have hiff := pM (AO hK h) hc
 by_cases e : kd s = c
 ·rw [decide_eq_true e, beq_iff_eq, ← ht]
  exact hiff.2 e
 ·rw [decide_eq_false e, beq_eq_false_iff_ne, ← ht]
  exact fun h' => e (hiff.1 h')
def bf (k p : Int) (nm : ByteArray) (num : Int) : Obj := .cells #[.int .i64 k, .int .i64 p, .slice none 0 0, .string nm, .int .i64 num] 44 (0, 0)
theorem bJ {W1 W2 : World} {s : List ai} {ns : List Nd} {o : Obj} (q : RSs w0 rb ae aa TL xs U W1 s ns) (b : Below (W1.alloc o).heap.size (W1.alloc o) W2) : W2.heap[W1.heap.size]? = some o /\ cZ W2 rb ≠ some W1.heap.size /\ rb < W1.heap.size := by
 have hr := q.lt
 refine ⟨by rw [b.block _ (by simp)]; exact heap_alloc_new W1 o, fun e => ?_, hr⟩
 have e2 : cZ W2 rb = cZ W1 rb := by
  unfold cZ
  rw [b.block rb (by simp; omega), (ah W1 o).block rb hr]
 rw [e2] at e
 have := AQ q e
 omega
theorem kS {W : World} {x : Nat} {k p num num2 : Int} {nm : ByteArray} (h : W.heap[x]? = some (bf k p nm num)) : (W.setCell ⟨x, 4, none⟩ (.int .i64 num2)).heap[x]? = some (bf k p nm num2) := by
 rw [heap_setCell_same W x 4 _ 44 _ h]
 rfl
theorem FZ (hT : RT w0 rb ae aa TL xs) (hK : aR TL) {f : Nat} (HU : RC w0 rb ae aa TL xs (pF f .unary) 126 #[]) {W : World} {s : List ai} {ns : List Nd} (hS : RSs w0 rb ae aa TL xs U W s ns) (hc : kd s = 58) (hne : (aC (pF f .unary (tl s)) fun a s1 => mk1 21 s 1 [] a s1) ≠ .out) :
  Calls Tryz.prog 126 #[.pointer (some ⟨rb, 0, none⟩)] W (aj w0 rb ae aa TL xs U W s ns (aC (pF f .unary (tl s)) fun a s1 => mk1 21 s 1 [] a s1)) := by
 have hrW := hS.lt
 have d58 : ((⟨(ax (kd s : Nat)).toArray⟩ : ByteArray).toList == [45]) = true := by rw [au hK hS 58 (by decide) _ (by decide)]; exact decide_eq_true hc
 have B1 : Bx _ := ⟨eP hT hS⟩
 have hf1 := dC
 have B2 : Bx (∀ W1, RSs w0 rb ae aa TL xs U W1 s ns -> _) := ⟨fun W1 h => dO hT h⟩
 have HP : Bx (∀ W1 W2 : World, RSs w0 rb ae aa TL xs U W2 s ns -> af rb W W2 -> W2.heap[W1.heap.size]? = some (bf 21 (hd s).place ⟨#[]⟩ 0) -> cZ W2 rb ≠ some W1.heap.size -> rb < W1.heap.size -> W.heap.size <= W1.heap.size -> ∃ i2 : Nat, RSs w0 rb ae aa TL xs U ((W2.setCell ⟨W1.heap.size, 4, none⟩ (.int .i64 1)).setCell ⟨rb, 2, none⟩ (.int .i64 ((i2 : Int) + 1))) (tl s) ns /\ af rb W ((W2.setCell ⟨W1.heap.size, 4, none⟩ (.int .i64 1)).setCell ⟨rb, 2, none⟩ (.int .i64 ((i2 : Int) + 1))) /\ i2 <= 65537 /\ rb < W2.heap.size /\ W2.cell? ⟨rb, 2, none⟩ = some (.int .i64 i2) /\ W2.frozen? ⟨rb, 2, none⟩ = false /\ W2.cell? ⟨W1.heap.size, 4, none⟩ = some (.int .i64 0) /\ W2.frozen? ⟨W1.heap.size, 4, none⟩ = false /\ W1.heap.size < W2.heap.size /\ ((W2.setCell ⟨W1.heap.size, 4, none⟩ (.int .i64 1)).setCell ⟨rb, 2, none⟩ (.int .i64 ((i2 : Int) + 1))).heap[W1.heap.size]? = some (bf 21 (hd s).place ⟨#[]⟩ 1) /\ cZ ((W2.setCell ⟨W1.heap.size, 4, none⟩ (.int .i64 1)).setCell ⟨rb, 2, none⟩ (.int .i64 ((i2 : Int) + 1))) rb ≠ some W1.heap.size) := ⟨fun W1 W2 q2 k2 hb hown hrx hz => by
  obtain ⟨p1, p2⟩ := q2.nA hrx hown hb 4 (.int .i64 1)
  obtain ⟨i2, hi2, hlt, c2, fz, p3⟩ := nz hK hT p1
  obtain ⟨q4, _, k4⟩ := p3 (by omega)
  have hrh : (W2.setCell ⟨W1.heap.size, 4, none⟩ (.int .i64 1)).heap[rb]? = W2.heap[rb]? := heap_setCell_other W2 ⟨W1.heap.size, 4, none⟩ rb _ (by show rb ≠ W1.heap.size; omega)
  refine ⟨i2, q4, (p2 W k2 hz).trans k4, hi2, q2.lt, ?_, ?_, by simp [World.cell?, hb, bf], by simp [World.frozen?, hb, bf], aY hb, ?_, ?_⟩
  ·unfold World.cell? at c2 ⊢
   rw [hrh] at c2
   exact c2
  ·unfold World.frozen? at fz ⊢
   rw [hrh] at fz
   exact fz
  ·rw [heap_setCell_other _ ⟨rb, 2, none⟩ W1.heap.size _ (by show W1.heap.size ≠ rb; omega)]
   exact kS hb
  ·intro e
   have h5 := k4.own
   rw [e] at h5
   rcases h5 with h5 | ⟨g, h5, h6⟩
   ·have e3 : cZ (W2.setCell ⟨W1.heap.size, 4, none⟩ (.int .i64 1)) rb = cZ W2 rb := by unfold cZ; rw [hrh]
    rw [e3] at h5
    exact hown h5.symm
   ·simp at h5 h6
    have := aY hb
    omega⟩
 have B3 : Bx (∀ W1, RSs w0 rb ae aa TL xs U W1 (tl s) ns -> pF f .unary (tl s) ≠ .out -> Calls Tryz.prog 126 #[.pointer (some ⟨rb, 0, none⟩)] W1 (aj w0 rb ae aa TL xs U W1 (tl s) ns (pF f .unary (tl s)))) := ⟨fun W1 h hn => HU U W1 (tl s) ns h hn⟩
 generalize (⟨(ax (kd s : Nat)).toArray⟩ : ByteArray) = tx at *
 match r3 : pF f .unary (tl s) with
 | .out => rw [r3] at hne; exact absurd rfl hne
 | .err s' =>
  rw [r3] at B3
  show Calls _ _ _ _ (aj w0 rb ae aa TL xs U W s ns (.err s'))
  clear HU
  go_enter Tryz.func126, Tryz.ntmps126
  go_wp2_with (first
   | (go_at_call 84; refine Calls.mono B1.out ?_; rintro e W1 ⟨t1, rfl, b1⟩; have q1 := hS.ext b1; have k1 := af.ext hrW b1; clear B1)
   | (go_at_call 66; refine Calls.mono (B2.out _ (q1.ext (ah _ _))) ?_; rintro e W2 ⟨rfl, b2⟩; obtain ⟨hb, hown, hrx⟩ := bJ q1 b2; have q2 := (q1.ext (ah _ _)).ext b2; have k2 := k1.trans ((af.alloc q1.lt _).trans (af.ext (q1.ext (ah _ _)).lt b2)); obtain ⟨i2, q4, k4, hi2, hl2, e2, f2, x4, g4, xlt, hb4, hown4⟩ := HP.out W1 W2 q2 k2 hb hown hrx (by have := k1.size; omega); have Q4 : Bx _ := ⟨q4⟩; have K4 : Bx _ := ⟨k4⟩; have HB4 : Bx _ := ⟨hb4⟩; have HO4 : Bx _ := ⟨hown4⟩; obtain ⟨y0, y1, y2, y3, y4, ylt⟩ := dw hb4; clear B2 hb hown hb4 hown4 q4 k4 q2 k2))
  refine wp_region_any (by kernel_rfl) ?_
  try (change wpAny _ _ _ _ _ _ _ (World.drew _))
  refine wpAny_take (i := 0) (v := ?_) rfl (by kernel_rfl) (by kernel_rfl) (by kernel_rfl) (fun _ _ _ h => h) (Or.inl ⟨by rfl, ?_⟩) ?_
  case refine_2 => intro w; go_simp; try rfl
  refine wpAny_take (i := 2) (v := ?_) rfl (by kernel_rfl) (by kernel_rfl) (by kernel_rfl) (fun _ _ _ h => h) (Or.inl ⟨by rfl, ?_⟩) ?_
  case refine_2 => intro w; go_simp; try rfl
  refine wpAny_ready (rs := [1, 3]) (by kernel_rfl) (by simp) ?_
  refine AllReady.cons rfl (fun K hK => ?_) (AllReady.cons rfl (fun K hK => ?_) AllReady.nil)
  ·go_simp
   refine hK _ _ ?_
   clear hK K
   refine wpAny_ready (rs := [3]) (by kernel_rfl) (by simp) ?_
   refine AllReady.cons rfl (fun K hK => ?_) AllReady.nil
   go_simp
   go_wp2_with (go_at_call 126; refine Calls.mono (B3.out _ (Q4.out.ext ((Below.refl _ _).drew)) (by simp)) ?_; rintro e W5 ⟨rfl, b5⟩; unfold ak)
   exact ⟨rfl, rfl, b5⟩
  ·go_simp
   go_wp2_with (go_at_call 126; refine Calls.mono (B3.out _ (Q4.out.ext ((Below.refl _ _).drew)) (by simp)) ?_; rintro e W5 ⟨rfl, b5⟩; unfold ak)
   exact ⟨rfl, rfl, b5⟩
 | .ok ts s' =>
  rw [r3] at B3
  have hslen : (tl s).length + 1 = s.length := by
   obtain ⟨i, rfl, hi, _⟩ := hS
   rw [fQ hi]
   rfl
  have HD : Bx (∀ W1, RSs w0 rb ae aa TL xs U W1 s' (ns ++ ag ts ns.length) -> af rb W W1 -> ∀ v : Nat, v = (ns.length + sizes ts - 1) -> ts.length = 1 -> s'.length + sizes ts <= (tl s).length -> ∀ kv, Calls Tryz.prog 70 #[.pointer (some ⟨rb, 0, none⟩), .agg #[.int .i64 21, .int .i64 (hd s).place, kv, .string ⟨#[]⟩, .int .i64 1], .slice (some ⟨W1.heap.size, 0, none⟩) 1 1] (W1.alloc (.cells #[.int .i64 (v : Int)] 3)) fun e W' => ∃ r : Int, e = .returned (.int .i64 r) /\ aj w0 rb ae aa TL xs U W s ns (.ok [.mk 21 (hd s).place 1 [] ts] s') (.returned (.int .i64 r)) W') := ⟨fun W1 h hk v hv e3 hl kv => by
   have hI := dz (rb := rb) (W := W1) (o := #[.int .i64 (v : Int)]) (ys := ends ts ns.length) (n := 1) (by rw [aK e3]; rfl) (by decide) (by decide) h.lt (by rw [aK e3, hv]; rfl)
   exact fG hT ts (h.ext (ah _ _)) (hk.trans (af.alloc h.lt _)) (by omega) ⟨W, hS⟩ 21 (hd s).place 1 [] kv (some ⟨W1.heap.size, 0, none⟩) 1 1 e3.symm hI h.new⟩
  show Calls _ _ _ _ (aj w0 rb ae aa TL xs U W s ns (.ok [.mk 21 (hd s).place 1 [] ts] s'))
  clear HU
  go_enter Tryz.func126, Tryz.ntmps126
  go_wp2_with (first
   | (go_at_call 84; refine Calls.mono B1.out ?_; rintro e W1 ⟨t1, rfl, b1⟩; have q1 := hS.ext b1; have k1 := af.ext hrW b1; clear B1)
   | (go_at_call 66; refine Calls.mono (B2.out _ (q1.ext (ah _ _))) ?_; rintro e W2 ⟨rfl, b2⟩; obtain ⟨hb, hown, hrx⟩ := bJ q1 b2; have q2 := (q1.ext (ah _ _)).ext b2; have k2 := k1.trans ((af.alloc q1.lt _).trans (af.ext (q1.ext (ah _ _)).lt b2)); obtain ⟨i2, q4, k4, hi2, hl2, e2, f2, x4, g4, xlt, hb4, hown4⟩ := HP.out W1 W2 q2 k2 hb hown hrx (by have := k1.size; omega); have Q4 : Bx _ := ⟨q4⟩; have K4 : Bx _ := ⟨k4⟩; have HB4 : Bx _ := ⟨hb4⟩; have HO4 : Bx _ := ⟨hown4⟩; obtain ⟨y0, y1, y2, y3, y4, ylt⟩ := dw hb4; clear B2 hb hown hb4 hown4 q4 k4 q2 k2))
  go_region_with (first
   | (go_at_call 126; refine Calls.mono (B3.out _ (Q4.out.ext ((Below.refl _ _).drew)) (by simp)) ?_; rintro e W5 ⟨n5, l5, he, q5, k5⟩; obtain ⟨v5, hv⟩ : ∃ r : Nat, r = (ns.length + sizes ts - 1) := ⟨_, rfl⟩; rw [← hv] at he; subst he; have V5 : Bx _ := ⟨hv⟩; have hb5 := (k5.same W1.heap.size (by show W1.heap.size < _; simp; omega) hrx HO4.out).trans HB4.out; obtain ⟨z0, z1, z2, z3, z4, zlt⟩ := dw hb5; have k6 := K4.out.trans ((af.ext Q4.out.lt ((Below.refl _ _).drew)).trans k5); clear hv hb5)
   | (go_at_call 70; refine Calls.mono (HD.out _ q5 k6 v5 V5.out n5 l5 _) ?_; rintro e W9 ⟨r9, rfl, hp⟩))
  all_goals
   go_wp2
   go_ret
   exact hp
theorem F3 (hT : RT w0 rb ae aa TL xs) (hK : aR TL) {f : Nat} (HU : RC w0 rb ae aa TL xs (pF f .unary) 126 #[]) {W : World} {s : List ai} {ns : List Nd} (hS : RSs w0 rb ae aa TL xs U W s ns) (hc : kd s = 64) (hne : (aC (pF f .unary (tl s)) fun a s1 => mk1 21 s 2 [] a s1) ≠ .out) :
  Calls Tryz.prog 126 #[.pointer (some ⟨rb, 0, none⟩)] W (aj w0 rb ae aa TL xs U W s ns (aC (pF f .unary (tl s)) fun a s1 => mk1 21 s 2 [] a s1)) := by
 have hrW := hS.lt
 have d58 : ((⟨(ax (kd s : Nat)).toArray⟩ : ByteArray).toList == [45]) = false := by rw [au hK hS 58 (by decide) _ (by decide)]; exact decide_eq_false (by omega)
 have d64 : ((⟨(ax (kd s : Nat)).toArray⟩ : ByteArray).toList == [33]) = true := by rw [au hK hS 64 (by decide) _ (by decide)]; exact decide_eq_true hc
 have B1 : Bx _ := ⟨eP hT hS⟩
 have hf1 := dC
 have B2 : Bx (∀ W1, RSs w0 rb ae aa TL xs U W1 s ns -> _) := ⟨fun W1 h => dO hT h⟩
 have HP : Bx (∀ W1 W2 : World, RSs w0 rb ae aa TL xs U W2 s ns -> af rb W W2 -> W2.heap[W1.heap.size]? = some (bf 21 (hd s).place ⟨#[]⟩ 0) -> cZ W2 rb ≠ some W1.heap.size -> rb < W1.heap.size -> W.heap.size <= W1.heap.size -> ∃ i2 : Nat, RSs w0 rb ae aa TL xs U ((W2.setCell ⟨W1.heap.size, 4, none⟩ (.int .i64 2)).setCell ⟨rb, 2, none⟩ (.int .i64 ((i2 : Int) + 1))) (tl s) ns /\ af rb W ((W2.setCell ⟨W1.heap.size, 4, none⟩ (.int .i64 2)).setCell ⟨rb, 2, none⟩ (.int .i64 ((i2 : Int) + 1))) /\ i2 <= 65537 /\ rb < W2.heap.size /\ W2.cell? ⟨rb, 2, none⟩ = some (.int .i64 i2) /\ W2.frozen? ⟨rb, 2, none⟩ = false /\ W2.cell? ⟨W1.heap.size, 4, none⟩ = some (.int .i64 0) /\ W2.frozen? ⟨W1.heap.size, 4, none⟩ = false /\ W1.heap.size < W2.heap.size /\ ((W2.setCell ⟨W1.heap.size, 4, none⟩ (.int .i64 2)).setCell ⟨rb, 2, none⟩ (.int .i64 ((i2 : Int) + 1))).heap[W1.heap.size]? = some (bf 21 (hd s).place ⟨#[]⟩ 2) /\ cZ ((W2.setCell ⟨W1.heap.size, 4, none⟩ (.int .i64 2)).setCell ⟨rb, 2, none⟩ (.int .i64 ((i2 : Int) + 1))) rb ≠ some W1.heap.size) := ⟨fun W1 W2 q2 k2 hb hown hrx hz => by
  obtain ⟨p1, p2⟩ := q2.nA hrx hown hb 4 (.int .i64 2)
  obtain ⟨i2, hi2, hlt, c2, fz, p3⟩ := nz hK hT p1
  obtain ⟨q4, _, k4⟩ := p3 (by omega)
  have hrh : (W2.setCell ⟨W1.heap.size, 4, none⟩ (.int .i64 2)).heap[rb]? = W2.heap[rb]? := heap_setCell_other W2 ⟨W1.heap.size, 4, none⟩ rb _ (by show rb ≠ W1.heap.size; omega)
  refine ⟨i2, q4, (p2 W k2 hz).trans k4, hi2, q2.lt, ?_, ?_, by simp [World.cell?, hb, bf], by simp [World.frozen?, hb, bf], aY hb, ?_, ?_⟩
  ·unfold World.cell? at c2 ⊢
   rw [hrh] at c2
   exact c2
  ·unfold World.frozen? at fz ⊢
   rw [hrh] at fz
   exact fz
  ·rw [heap_setCell_other _ ⟨rb, 2, none⟩ W1.heap.size _ (by show W1.heap.size ≠ rb; omega)]
   exact kS hb
  ·intro e
   have h5 := k4.own
   rw [e] at h5
   rcases h5 with h5 | ⟨g, h5, h6⟩
   ·have e3 : cZ (W2.setCell ⟨W1.heap.size, 4, none⟩ (.int .i64 2)) rb = cZ W2 rb := by unfold cZ; rw [hrh]
    rw [e3] at h5
    exact hown h5.symm
   ·simp at h5 h6
    have := aY hb
    omega⟩
 have B3 : Bx (∀ W1, RSs w0 rb ae aa TL xs U W1 (tl s) ns -> pF f .unary (tl s) ≠ .out -> Calls Tryz.prog 126 #[.pointer (some ⟨rb, 0, none⟩)] W1 (aj w0 rb ae aa TL xs U W1 (tl s) ns (pF f .unary (tl s)))) := ⟨fun W1 h hn => HU U W1 (tl s) ns h hn⟩
 generalize (⟨(ax (kd s : Nat)).toArray⟩ : ByteArray) = tx at *
 match r3 : pF f .unary (tl s) with
 | .out => rw [r3] at hne; exact absurd rfl hne
 | .err s' =>
  rw [r3] at B3
  show Calls _ _ _ _ (aj w0 rb ae aa TL xs U W s ns (.err s'))
  clear HU
  go_enter Tryz.func126, Tryz.ntmps126
  go_wp2_with (first
   | (go_at_call 84; refine Calls.mono B1.out ?_; rintro e W1 ⟨t1, rfl, b1⟩; have q1 := hS.ext b1; have k1 := af.ext hrW b1; clear B1)
   | (go_at_call 66; refine Calls.mono (B2.out _ (q1.ext (ah _ _))) ?_; rintro e W2 ⟨rfl, b2⟩; obtain ⟨hb, hown, hrx⟩ := bJ q1 b2; have q2 := (q1.ext (ah _ _)).ext b2; have k2 := k1.trans ((af.alloc q1.lt _).trans (af.ext (q1.ext (ah _ _)).lt b2)); obtain ⟨i2, q4, k4, hi2, hl2, e2, f2, x4, g4, xlt, hb4, hown4⟩ := HP.out W1 W2 q2 k2 hb hown hrx (by have := k1.size; omega); have Q4 : Bx _ := ⟨q4⟩; have K4 : Bx _ := ⟨k4⟩; have HB4 : Bx _ := ⟨hb4⟩; have HO4 : Bx _ := ⟨hown4⟩; obtain ⟨y0, y1, y2, y3, y4, ylt⟩ := dw hb4; clear B2 hb hown hb4 hown4 q4 k4 q2 k2))
  refine wp_region_any (by kernel_rfl) ?_
  try (change wpAny _ _ _ _ _ _ _ (World.drew _))
  refine wpAny_take (i := 0) (v := ?_) rfl (by kernel_rfl) (by kernel_rfl) (by kernel_rfl) (fun _ _ _ h => h) (Or.inl ⟨by rfl, ?_⟩) ?_
  case refine_2 => intro w; go_simp; try rfl
  refine wpAny_take (i := 2) (v := ?_) rfl (by kernel_rfl) (by kernel_rfl) (by kernel_rfl) (fun _ _ _ h => h) (Or.inl ⟨by rfl, ?_⟩) ?_
  case refine_2 => intro w; go_simp; try rfl
  refine wpAny_ready (rs := [1, 3]) (by kernel_rfl) (by simp) ?_
  refine AllReady.cons rfl (fun K hK => ?_) (AllReady.cons rfl (fun K hK => ?_) AllReady.nil)
  ·go_simp
   refine hK _ _ ?_
   clear hK K
   refine wpAny_ready (rs := [3]) (by kernel_rfl) (by simp) ?_
   refine AllReady.cons rfl (fun K hK => ?_) AllReady.nil
   go_simp
   go_wp2_with (go_at_call 126; refine Calls.mono (B3.out _ (Q4.out.ext ((Below.refl _ _).drew)) (by simp)) ?_; rintro e W5 ⟨rfl, b5⟩; unfold ak)
   exact ⟨rfl, rfl, b5⟩
  ·go_simp
   go_wp2_with (go_at_call 126; refine Calls.mono (B3.out _ (Q4.out.ext ((Below.refl _ _).drew)) (by simp)) ?_; rintro e W5 ⟨rfl, b5⟩; unfold ak)
   exact ⟨rfl, rfl, b5⟩
 | .ok ts s' =>
  rw [r3] at B3
  have hslen : (tl s).length + 1 = s.length := by
   obtain ⟨i, rfl, hi, _⟩ := hS
   rw [fQ hi]
   rfl
  have HD : Bx (∀ W1, RSs w0 rb ae aa TL xs U W1 s' (ns ++ ag ts ns.length) -> af rb W W1 -> ∀ v : Nat, v = (ns.length + sizes ts - 1) -> ts.length = 1 -> s'.length + sizes ts <= (tl s).length -> ∀ kv, Calls Tryz.prog 70 #[.pointer (some ⟨rb, 0, none⟩), .agg #[.int .i64 21, .int .i64 (hd s).place, kv, .string ⟨#[]⟩, .int .i64 2], .slice (some ⟨W1.heap.size, 0, none⟩) 1 1] (W1.alloc (.cells #[.int .i64 (v : Int)] 3)) fun e W' => ∃ r : Int, e = .returned (.int .i64 r) /\ aj w0 rb ae aa TL xs U W s ns (.ok [.mk 21 (hd s).place 2 [] ts] s') (.returned (.int .i64 r)) W') := ⟨fun W1 h hk v hv e3 hl kv => by
   have hI := dz (rb := rb) (W := W1) (o := #[.int .i64 (v : Int)]) (ys := ends ts ns.length) (n := 1) (by rw [aK e3]; rfl) (by decide) (by decide) h.lt (by rw [aK e3, hv]; rfl)
   exact fG hT ts (h.ext (ah _ _)) (hk.trans (af.alloc h.lt _)) (by omega) ⟨W, hS⟩ 21 (hd s).place 2 [] kv (some ⟨W1.heap.size, 0, none⟩) 1 1 e3.symm hI h.new⟩
  show Calls _ _ _ _ (aj w0 rb ae aa TL xs U W s ns (.ok [.mk 21 (hd s).place 2 [] ts] s'))
  clear HU
  go_enter Tryz.func126, Tryz.ntmps126
  go_wp2_with (first
   | (go_at_call 84; refine Calls.mono B1.out ?_; rintro e W1 ⟨t1, rfl, b1⟩; have q1 := hS.ext b1; have k1 := af.ext hrW b1; clear B1)
   | (go_at_call 66; refine Calls.mono (B2.out _ (q1.ext (ah _ _))) ?_; rintro e W2 ⟨rfl, b2⟩; obtain ⟨hb, hown, hrx⟩ := bJ q1 b2; have q2 := (q1.ext (ah _ _)).ext b2; have k2 := k1.trans ((af.alloc q1.lt _).trans (af.ext (q1.ext (ah _ _)).lt b2)); obtain ⟨i2, q4, k4, hi2, hl2, e2, f2, x4, g4, xlt, hb4, hown4⟩ := HP.out W1 W2 q2 k2 hb hown hrx (by have := k1.size; omega); have Q4 : Bx _ := ⟨q4⟩; have K4 : Bx _ := ⟨k4⟩; have HB4 : Bx _ := ⟨hb4⟩; have HO4 : Bx _ := ⟨hown4⟩; obtain ⟨y0, y1, y2, y3, y4, ylt⟩ := dw hb4; clear B2 hb hown hb4 hown4 q4 k4 q2 k2))
  go_region_with (first
   | (go_at_call 126; refine Calls.mono (B3.out _ (Q4.out.ext ((Below.refl _ _).drew)) (by simp)) ?_; rintro e W5 ⟨n5, l5, he, q5, k5⟩; obtain ⟨v5, hv⟩ : ∃ r : Nat, r = (ns.length + sizes ts - 1) := ⟨_, rfl⟩; rw [← hv] at he; subst he; have V5 : Bx _ := ⟨hv⟩; have hb5 := (k5.same W1.heap.size (by show W1.heap.size < _; simp; omega) hrx HO4.out).trans HB4.out; obtain ⟨z0, z1, z2, z3, z4, zlt⟩ := dw hb5; have k6 := K4.out.trans ((af.ext Q4.out.lt ((Below.refl _ _).drew)).trans k5); clear hv hb5)
   | (go_at_call 70; refine Calls.mono (HD.out _ q5 k6 v5 V5.out n5 l5 _) ?_; rintro e W9 ⟨r9, rfl, hp⟩))
  all_goals
   go_wp2
   go_ret
   exact hp
theorem F4 (hT : RT w0 rb ae aa TL xs) (hK : aR TL) {f : Nat} (HU : RC w0 rb ae aa TL xs (pF f .unary) 126 #[]) {W : World} {s : List ai} {ns : List Nd} (hS : RSs w0 rb ae aa TL xs U W s ns) (hc : kd s = 65) (hne : (aC (pF f .unary (tl s)) fun a s1 => mk1 21 s 3 [] a s1) ≠ .out) :
  Calls Tryz.prog 126 #[.pointer (some ⟨rb, 0, none⟩)] W (aj w0 rb ae aa TL xs U W s ns (aC (pF f .unary (tl s)) fun a s1 => mk1 21 s 3 [] a s1)) := by
 have hrW := hS.lt
 have d58 : ((⟨(ax (kd s : Nat)).toArray⟩ : ByteArray).toList == [45]) = false := by rw [au hK hS 58 (by decide) _ (by decide)]; exact decide_eq_false (by omega)
 have d64 : ((⟨(ax (kd s : Nat)).toArray⟩ : ByteArray).toList == [33]) = false := by rw [au hK hS 64 (by decide) _ (by decide)]; exact decide_eq_false (by omega)
 have d65 : ((⟨(ax (kd s : Nat)).toArray⟩ : ByteArray).toList == [60, 45]) = true := by rw [au hK hS 65 (by decide) _ (by decide)]; exact decide_eq_true hc
 have B1 : Bx _ := ⟨eP hT hS⟩
 have hf1 := dC
 have B2 : Bx (∀ W1, RSs w0 rb ae aa TL xs U W1 s ns -> _) := ⟨fun W1 h => dO hT h⟩
 have HP : Bx (∀ W1 W2 : World, RSs w0 rb ae aa TL xs U W2 s ns -> af rb W W2 -> W2.heap[W1.heap.size]? = some (bf 21 (hd s).place ⟨#[]⟩ 0) -> cZ W2 rb ≠ some W1.heap.size -> rb < W1.heap.size -> W.heap.size <= W1.heap.size -> ∃ i2 : Nat, RSs w0 rb ae aa TL xs U ((W2.setCell ⟨W1.heap.size, 4, none⟩ (.int .i64 3)).setCell ⟨rb, 2, none⟩ (.int .i64 ((i2 : Int) + 1))) (tl s) ns /\ af rb W ((W2.setCell ⟨W1.heap.size, 4, none⟩ (.int .i64 3)).setCell ⟨rb, 2, none⟩ (.int .i64 ((i2 : Int) + 1))) /\ i2 <= 65537 /\ rb < W2.heap.size /\ W2.cell? ⟨rb, 2, none⟩ = some (.int .i64 i2) /\ W2.frozen? ⟨rb, 2, none⟩ = false /\ W2.cell? ⟨W1.heap.size, 4, none⟩ = some (.int .i64 0) /\ W2.frozen? ⟨W1.heap.size, 4, none⟩ = false /\ W1.heap.size < W2.heap.size /\ ((W2.setCell ⟨W1.heap.size, 4, none⟩ (.int .i64 3)).setCell ⟨rb, 2, none⟩ (.int .i64 ((i2 : Int) + 1))).heap[W1.heap.size]? = some (bf 21 (hd s).place ⟨#[]⟩ 3) /\ cZ ((W2.setCell ⟨W1.heap.size, 4, none⟩ (.int .i64 3)).setCell ⟨rb, 2, none⟩ (.int .i64 ((i2 : Int) + 1))) rb ≠ some W1.heap.size) := ⟨fun W1 W2 q2 k2 hb hown hrx hz => by
  obtain ⟨p1, p2⟩ := q2.nA hrx hown hb 4 (.int .i64 3)
  obtain ⟨i2, hi2, hlt, c2, fz, p3⟩ := nz hK hT p1
  obtain ⟨q4, _, k4⟩ := p3 (by omega)
  have hrh : (W2.setCell ⟨W1.heap.size, 4, none⟩ (.int .i64 3)).heap[rb]? = W2.heap[rb]? := heap_setCell_other W2 ⟨W1.heap.size, 4, none⟩ rb _ (by show rb ≠ W1.heap.size; omega)
  refine ⟨i2, q4, (p2 W k2 hz).trans k4, hi2, q2.lt, ?_, ?_, by simp [World.cell?, hb, bf], by simp [World.frozen?, hb, bf], aY hb, ?_, ?_⟩
  ·unfold World.cell? at c2 ⊢
   rw [hrh] at c2
   exact c2
  ·unfold World.frozen? at fz ⊢
   rw [hrh] at fz
   exact fz
  ·rw [heap_setCell_other _ ⟨rb, 2, none⟩ W1.heap.size _ (by show W1.heap.size ≠ rb; omega)]
   exact kS hb
  ·intro e
   have h5 := k4.own
   rw [e] at h5
   rcases h5 with h5 | ⟨g, h5, h6⟩
   ·have e3 : cZ (W2.setCell ⟨W1.heap.size, 4, none⟩ (.int .i64 3)) rb = cZ W2 rb := by unfold cZ; rw [hrh]
    rw [e3] at h5
    exact hown h5.symm
   ·simp at h5 h6
    have := aY hb
    omega⟩
 have B3 : Bx (∀ W1, RSs w0 rb ae aa TL xs U W1 (tl s) ns -> pF f .unary (tl s) ≠ .out -> Calls Tryz.prog 126 #[.pointer (some ⟨rb, 0, none⟩)] W1 (aj w0 rb ae aa TL xs U W1 (tl s) ns (pF f .unary (tl s)))) := ⟨fun W1 h hn => HU U W1 (tl s) ns h hn⟩
 generalize (⟨(ax (kd s : Nat)).toArray⟩ : ByteArray) = tx at *
 match r3 : pF f .unary (tl s) with
 | .out => rw [r3] at hne; exact absurd rfl hne
 | .err s' =>
  rw [r3] at B3
  show Calls _ _ _ _ (aj w0 rb ae aa TL xs U W s ns (.err s'))
  clear HU
  go_enter Tryz.func126, Tryz.ntmps126
  go_wp2_with (first
   | (go_at_call 84; refine Calls.mono B1.out ?_; rintro e W1 ⟨t1, rfl, b1⟩; have q1 := hS.ext b1; have k1 := af.ext hrW b1; clear B1)
   | (go_at_call 66; refine Calls.mono (B2.out _ (q1.ext (ah _ _))) ?_; rintro e W2 ⟨rfl, b2⟩; obtain ⟨hb, hown, hrx⟩ := bJ q1 b2; have q2 := (q1.ext (ah _ _)).ext b2; have k2 := k1.trans ((af.alloc q1.lt _).trans (af.ext (q1.ext (ah _ _)).lt b2)); obtain ⟨i2, q4, k4, hi2, hl2, e2, f2, x4, g4, xlt, hb4, hown4⟩ := HP.out W1 W2 q2 k2 hb hown hrx (by have := k1.size; omega); have Q4 : Bx _ := ⟨q4⟩; have K4 : Bx _ := ⟨k4⟩; have HB4 : Bx _ := ⟨hb4⟩; have HO4 : Bx _ := ⟨hown4⟩; obtain ⟨y0, y1, y2, y3, y4, ylt⟩ := dw hb4; clear B2 hb hown hb4 hown4 q4 k4 q2 k2))
  refine wp_region_any (by kernel_rfl) ?_
  try (change wpAny _ _ _ _ _ _ _ (World.drew _))
  refine wpAny_take (i := 0) (v := ?_) rfl (by kernel_rfl) (by kernel_rfl) (by kernel_rfl) (fun _ _ _ h => h) (Or.inl ⟨by rfl, ?_⟩) ?_
  case refine_2 => intro w; go_simp; try rfl
  refine wpAny_take (i := 2) (v := ?_) rfl (by kernel_rfl) (by kernel_rfl) (by kernel_rfl) (fun _ _ _ h => h) (Or.inl ⟨by rfl, ?_⟩) ?_
  case refine_2 => intro w; go_simp; try rfl
  refine wpAny_ready (rs := [1, 3]) (by kernel_rfl) (by simp) ?_
  refine AllReady.cons rfl (fun K hK => ?_) (AllReady.cons rfl (fun K hK => ?_) AllReady.nil)
  ·go_simp
   refine hK _ _ ?_
   clear hK K
   refine wpAny_ready (rs := [3]) (by kernel_rfl) (by simp) ?_
   refine AllReady.cons rfl (fun K hK => ?_) AllReady.nil
   go_simp
   go_wp2_with (go_at_call 126; refine Calls.mono (B3.out _ (Q4.out.ext ((Below.refl _ _).drew)) (by simp)) ?_; rintro e W5 ⟨rfl, b5⟩; unfold ak)
   exact ⟨rfl, rfl, b5⟩
  ·go_simp
   go_wp2_with (go_at_call 126; refine Calls.mono (B3.out _ (Q4.out.ext ((Below.refl _ _).drew)) (by simp)) ?_; rintro e W5 ⟨rfl, b5⟩; unfold ak)
   exact ⟨rfl, rfl, b5⟩
 | .ok ts s' =>
  rw [r3] at B3
  have hslen : (tl s).length + 1 = s.length := by
   obtain ⟨i, rfl, hi, _⟩ := hS
   rw [fQ hi]
   rfl
  have HD : Bx (∀ W1, RSs w0 rb ae aa TL xs U W1 s' (ns ++ ag ts ns.length) -> af rb W W1 -> ∀ v : Nat, v = (ns.length + sizes ts - 1) -> ts.length = 1 -> s'.length + sizes ts <= (tl s).length -> ∀ kv, Calls Tryz.prog 70 #[.pointer (some ⟨rb, 0, none⟩), .agg #[.int .i64 21, .int .i64 (hd s).place, kv, .string ⟨#[]⟩, .int .i64 3], .slice (some ⟨W1.heap.size, 0, none⟩) 1 1] (W1.alloc (.cells #[.int .i64 (v : Int)] 3)) fun e W' => ∃ r : Int, e = .returned (.int .i64 r) /\ aj w0 rb ae aa TL xs U W s ns (.ok [.mk 21 (hd s).place 3 [] ts] s') (.returned (.int .i64 r)) W') := ⟨fun W1 h hk v hv e3 hl kv => by
   have hI := dz (rb := rb) (W := W1) (o := #[.int .i64 (v : Int)]) (ys := ends ts ns.length) (n := 1) (by rw [aK e3]; rfl) (by decide) (by decide) h.lt (by rw [aK e3, hv]; rfl)
   exact fG hT ts (h.ext (ah _ _)) (hk.trans (af.alloc h.lt _)) (by omega) ⟨W, hS⟩ 21 (hd s).place 3 [] kv (some ⟨W1.heap.size, 0, none⟩) 1 1 e3.symm hI h.new⟩
  show Calls _ _ _ _ (aj w0 rb ae aa TL xs U W s ns (.ok [.mk 21 (hd s).place 3 [] ts] s'))
  clear HU
  go_enter Tryz.func126, Tryz.ntmps126
  go_wp2_with (first
   | (go_at_call 84; refine Calls.mono B1.out ?_; rintro e W1 ⟨t1, rfl, b1⟩; have q1 := hS.ext b1; have k1 := af.ext hrW b1; clear B1)
   | (go_at_call 66; refine Calls.mono (B2.out _ (q1.ext (ah _ _))) ?_; rintro e W2 ⟨rfl, b2⟩; obtain ⟨hb, hown, hrx⟩ := bJ q1 b2; have q2 := (q1.ext (ah _ _)).ext b2; have k2 := k1.trans ((af.alloc q1.lt _).trans (af.ext (q1.ext (ah _ _)).lt b2)); obtain ⟨i2, q4, k4, hi2, hl2, e2, f2, x4, g4, xlt, hb4, hown4⟩ := HP.out W1 W2 q2 k2 hb hown hrx (by have := k1.size; omega); have Q4 : Bx _ := ⟨q4⟩; have K4 : Bx _ := ⟨k4⟩; have HB4 : Bx _ := ⟨hb4⟩; have HO4 : Bx _ := ⟨hown4⟩; obtain ⟨y0, y1, y2, y3, y4, ylt⟩ := dw hb4; clear B2 hb hown hb4 hown4 q4 k4 q2 k2))
  go_region_with (first
   | (go_at_call 126; refine Calls.mono (B3.out _ (Q4.out.ext ((Below.refl _ _).drew)) (by simp)) ?_; rintro e W5 ⟨n5, l5, he, q5, k5⟩; obtain ⟨v5, hv⟩ : ∃ r : Nat, r = (ns.length + sizes ts - 1) := ⟨_, rfl⟩; rw [← hv] at he; subst he; have V5 : Bx _ := ⟨hv⟩; have hb5 := (k5.same W1.heap.size (by show W1.heap.size < _; simp; omega) hrx HO4.out).trans HB4.out; obtain ⟨z0, z1, z2, z3, z4, zlt⟩ := dw hb5; have k6 := K4.out.trans ((af.ext Q4.out.lt ((Below.refl _ _).drew)).trans k5); clear hv hb5)
   | (go_at_call 70; refine Calls.mono (HD.out _ q5 k6 v5 V5.out n5 l5 _) ?_; rintro e W9 ⟨r9, rfl, hp⟩))
  all_goals
   go_wp2
   go_ret
   exact hp
end Go.Proofs.YtecodpdfckjalaaGreatDoor
