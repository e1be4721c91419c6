import Derived.Test.YtecodpdfckjalaaGreatDoorBRBx0
import Derived.Test.YtecodpdfckjalaaGreatDoorBRUn
import Derived.Test.YtecodpdfckjalaaGreatDoorBRLst
set_option linter.unusedVariables false
set_option linter.unusedSimpArgs false
set_option maxHeartbeats 4000000
set_option maxRecDepth 100000
namespace Go.Proofs.YtecodpdfckjalaaGreatDoor
open Go.RowKit
variable {w0 : World} {rb : Nat} {ae aa : Value} {TL : List Tok} {xs : List UInt8} {U : Nat -> Prop}
theorem DW {f : Nat} (HO : RC w0 rb ae aa TL xs (pF f (.operands 1)) 125 #[.int .i64 1]) : RC w0 rb ae aa TL xs (pF f (.operands 1)) 109 #[] := by
 intro U W s ns hS hne
 show Calls Tryz.prog 109 #[.pointer (some ⟨rb, 0, none⟩)] W _
 have B1 : Bx (Calls Tryz.prog 125 #[.pointer (some ⟨rb, 0, none⟩), .int .i64 1] W (aj w0 rb ae aa TL xs U W s ns (pF f (.operands 1) s))) := ⟨HO U W s ns hS hne⟩
 generalize pF f (.operands 1) s = res at *
 clear hS hne HO
 match res, B1 with
 | .out, B1 =>
  go_enter Tryz.func109, Tryz.ntmps109
  go_wp2_with (first | (go_at_call 125; refine Calls.mono B1.out ?_; intro e W1 h; exact h.elim))
 | .err s', B1 =>
  go_enter Tryz.func109, Tryz.ntmps109
  go_wp2_with (first | (go_at_call 125; refine Calls.mono B1.out ?_; rintro e W1 ⟨rfl, b1⟩; unfold ak))
  exact ⟨rfl, rfl, b1⟩
 | .ok ts s', B1 =>
  go_enter Tryz.func109, Tryz.ntmps109
  go_wp2_with (first | (go_at_call 125; refine Calls.mono B1.out ?_; rintro e W1 ⟨n1, l1, he, q1, k1⟩; obtain ⟨v1, hv⟩ : ∃ r : Nat, r = (ns.length + sizes ts - 1) := ⟨_, rfl⟩; rw [← hv] at he; subst he; have V1 : Bx _ := ⟨hv⟩; clear hv))
  go_ret
  exact ⟨n1, l1, by rw [← V1.out]; rfl, q1, k1⟩
theorem uZ (hT : RT w0 rb ae aa TL xs) (hK : aR TL) {f : Nat} (HA : RC w0 rb ae aa TL xs (pF f .typ) 87 #[]) : RC w0 rb ae aa TL xs (pF (f + 1) .chanT) 106 #[] := by
 intro U W s ns hS hne
 show Calls Tryz.prog 106 #[.pointer (some ⟨rb, 0, none⟩)] W _
 have H := qg hT hK HA 6 14 (by decide) ⟨#[99, 104, 97, 110]⟩ (by decide)
 have B1 : Bx (Calls Tryz.prog 105 #[.pointer (some ⟨rb, 0, none⟩), .int .i64 6, .string ⟨#[99, 104, 97, 110]⟩] W (aj w0 rb ae aa TL xs U W s ns (pF (f + 1) .chanT s))) := ⟨H U W s ns hS hne⟩
 generalize pF (f + 1) .chanT s = res at *
 clear hS hne HA H hT
 match res, B1 with
 | .out, B1 =>
  go_enter Tryz.func106, Tryz.ntmps106
  go_wp2_with (first | (go_at_call 105; refine Calls.mono B1.out ?_; intro e W1 h; exact h.elim))
 | .err s', B1 =>
  go_enter Tryz.func106, Tryz.ntmps106
  go_wp2_with (first | (go_at_call 105; refine Calls.mono B1.out ?_; rintro e W1 ⟨rfl, b1⟩; unfold ak))
  exact ⟨rfl, rfl, b1⟩
 | .ok ts s', B1 =>
  go_enter Tryz.func106, Tryz.ntmps106
  go_wp2_with (first | (go_at_call 105; refine Calls.mono B1.out ?_; rintro e W1 ⟨n1, l1, he, q1, k1⟩; obtain ⟨v1, hv⟩ : ∃ r : Nat, r = (ns.length + sizes ts - 1) := ⟨_, rfl⟩; rw [← hv] at he; subst he; have V1 : Bx _ := ⟨hv⟩; clear hv))
  go_ret
  exact ⟨n1, l1, by rw [← V1.out]; rfl, q1, k1⟩
end Go.Proofs.YtecodpdfckjalaaGreatDoor
namespace Go.Proofs.YtecodpdfckjalaaGreatDoor
open Go.RowKit
variable {w0 : World} {rb : Nat} {ae aa : Value} {TL : List Tok} {xs : List UInt8} {U : Nat -> Prop}
theorem F6 (hT : RT w0 rb ae aa TL xs) (hK : aR TL) {f : Nat} (HU : RC w0 rb ae aa TL xs (pF f .postfix) 137 #[]) {W : World} {s : List ai} {ns : List Nd} (hS : RSs w0 rb ae aa TL xs U W s ns) (h1 : kd s ≠ 58) (h2 : kd s ≠ 64) (h3 : kd s ≠ 65) (hne : pF f .postfix s ≠ .out) :
  Calls Tryz.prog 126 #[.pointer (some ⟨rb, 0, none⟩)] W (aj w0 rb ae aa TL xs U W s ns (pF f .postfix s)) := by
 have hrW := hS.lt
 have d58 : ((⟨(ax (kd s : Nat)).toArray⟩ : ByteArray).toList == [45]) = false := by rw [au hK hS 58 (by decide) _ (by decide)]; exact decide_eq_false h1
 have d64 : ((⟨(ax (kd s : Nat)).toArray⟩ : ByteArray).toList == [33]) = false := by rw [au hK hS 64 (by decide) _ (by decide)]; exact decide_eq_false h2
 have d65 : ((⟨(ax (kd s : Nat)).toArray⟩ : ByteArray).toList == [60, 45]) = false := by rw [au hK hS 65 (by decide) _ (by decide)]; exact decide_eq_false h3
 have B1 : Bx _ := ⟨eP hT hS⟩
 have hf1 := dC
 have B2 : Bx (∀ W1, RSs w0 rb ae aa TL xs U W1 s ns -> _) := ⟨fun W1 h => dO hT h⟩
 have B3 : Bx (∀ W1, RSs w0 rb ae aa TL xs U W1 s ns -> af rb W W1 -> Calls Tryz.prog 137 #[.pointer (some ⟨rb, 0, none⟩)] W1 (aj w0 rb ae aa TL xs U W s ns (pF f .postfix s))) := ⟨fun W1 h hk => Calls.mono (HU U W1 s ns h hne) (fun e W' hp => by
  revert hp
  cases pF f .postfix s with
  | out => exact fun hp => hp
  | err s' => exact fun hp => hp
  | ok ts s' => exact fun ⟨a, b, c, d, k⟩ => ⟨a, b, c, d, hk.trans k⟩)⟩
 generalize (⟨(ax (kd s : Nat)).toArray⟩ : ByteArray) = tx at *
 generalize pF f .postfix s = res at *
 clear HU hne
 match res, B3 with
 | .out, B3 =>
  go_enter Tryz.func126, Tryz.ntmps126
  go_wp2_with (first
   | (go_at_call 84; refine Calls.mono B1.out ?_; rintro e W1 ⟨t1, rfl, b1⟩; have q1 := hS.ext b1; have k1 := af.ext hrW b1; clear B1)
   | (go_at_call 66; refine Calls.mono (B2.out _ (q1.ext (ah _ _))) ?_; rintro e W2 ⟨rfl, b2⟩; have q2 := (q1.ext (ah _ _)).ext b2; have k2 := k1.trans ((af.alloc q1.lt _).trans (af.ext (q1.ext (ah _ _)).lt b2)); clear B2)
   | (go_at_call 137; refine Calls.mono (B3.out _ q2 k2) ?_; intro e W3 h; exact h.elim))
 | .err s', B3 =>
  go_enter Tryz.func126, Tryz.ntmps126
  go_wp2_with (first
   | (go_at_call 84; refine Calls.mono B1.out ?_; rintro e W1 ⟨t1, rfl, b1⟩; have q1 := hS.ext b1; have k1 := af.ext hrW b1; clear B1)
   | (go_at_call 66; refine Calls.mono (B2.out _ (q1.ext (ah _ _))) ?_; rintro e W2 ⟨rfl, b2⟩; have q2 := (q1.ext (ah _ _)).ext b2; have k2 := k1.trans ((af.alloc q1.lt _).trans (af.ext (q1.ext (ah _ _)).lt b2)); clear B2)
   | (go_at_call 137; refine Calls.mono (B3.out _ q2 k2) ?_; rintro e W3 ⟨rfl, b3⟩; unfold ak))
  exact ⟨rfl, rfl, b3⟩
 | .ok ts s', B3 =>
  go_enter Tryz.func126, Tryz.ntmps126
  go_wp2_with (first
   | (go_at_call 84; refine Calls.mono B1.out ?_; rintro e W1 ⟨t1, rfl, b1⟩; have q1 := hS.ext b1; have k1 := af.ext hrW b1; clear B1)
   | (go_at_call 66; refine Calls.mono (B2.out _ (q1.ext (ah _ _))) ?_; rintro e W2 ⟨rfl, b2⟩; have q2 := (q1.ext (ah _ _)).ext b2; have k2 := k1.trans ((af.alloc q1.lt _).trans (af.ext (q1.ext (ah _ _)).lt b2)); clear B2)
   | (go_at_call 137; refine Calls.mono (B3.out _ q2 k2) ?_; rintro e W3 ⟨n3, l3, he, q3, k3⟩; obtain ⟨v3, hv⟩ : ∃ r : Nat, r = (ns.length + sizes ts - 1) := ⟨_, rfl⟩; rw [← hv] at he; subst he; have V3 : Bx _ := ⟨hv⟩; clear hv))
  go_ret
  exact ⟨n3, l3, by rw [← V3.out]; rfl, q3, k3⟩
theorem BV (hT : RT w0 rb ae aa TL xs) (hK : aR TL) {f : Nat} (HU : RC w0 rb ae aa TL xs (pF f .unary) 126 #[]) (HP : RC w0 rb ae aa TL xs (pF f .postfix) 137 #[]) : RC w0 rb ae aa TL xs (pF (f + 1) .unary) 126 #[] := by
 intro U W s ns hS hne
 show Calls Tryz.prog 126 #[.pointer (some ⟨rb, 0, none⟩)] W _
 have e : pF (f + 1) .unary s = body (pF f) .unary s := rfl
 rw [e] at hne ⊢
 simp only [body] at hne ⊢
 by_cases h1 : kd s = 58
 ·rw [if_pos h1] at hne ⊢; exact F3 hT hK HU hS h1 hne
 rw [if_neg h1] at hne ⊢
 by_cases h2 : kd s = 64
 ·rw [if_pos h2] at hne ⊢; exact F4 hT hK HU hS h2 hne
 rw [if_neg h2] at hne ⊢
 by_cases h3 : kd s = 65
 ·rw [if_pos h3] at hne ⊢; exact F5 hT hK HU hS h3 hne
 rw [if_neg h3] at hne ⊢
 exact F6 hT hK HP hS h1 h2 h3 hne
end Go.Proofs.YtecodpdfckjalaaGreatDoor
namespace Go.Proofs.YtecodpdfckjalaaGreatDoor
open Go.RowKit
variable {w0 : World} {rb : Nat} {ae aa : Value} {TL : List Tok} {xs : List UInt8} {U : Nat -> Prop}
theorem ji {W : World} {x : Nat} {k k2 p num : Int} {nm : ByteArray} (h : W.heap[x]? = some (bf k p nm num)) : (W.setCell ⟨x, 0, none⟩ (.int .i64 k2)).heap[x]? = some (bf k2 p nm num) := by
 rw [heap_setCell_same W x 0 _ 44 _ h]
 rfl
theorem tZ {W : World} {x : Nat} {k p num : Int} {nm nm2 : ByteArray} (h : W.heap[x]? = some (bf k p nm num)) : (W.setCell ⟨x, 3, none⟩ (.string nm2)).heap[x]? = some (bf k p nm2 num) := by
 rw [heap_setCell_same W x 3 _ 44 _ h]
 rfl
theorem RSs.kT {W : World} {s : List ai} {ns : List Nd} (h : RSs w0 rb ae aa TL xs U W s ns) : RSs w0 rb ae aa TL xs U W s (ns ++ ag [] ns.length) := by
 have : ns ++ ag [] ns.length = ns := by simp [ag]
 rw [this]
 exact h
theorem jV {W : World} {s : List ai} {ns : List Nd} (h : RSs w0 rb ae aa TL xs U W s ns) : (tl s).length + 1 = s.length := by
 obtain ⟨i, rfl, hi, _⟩ := h
 rw [fQ hi]
 rfl
theorem JH (hT : RT w0 rb ae aa TL xs) (hK : aR TL) {W : World} {s : List ai} {ns : List Nd} (hS : RSs w0 rb ae aa TL xs U W s ns) (hc : kd s = 19) :
  Calls Tryz.prog 87 #[.pointer (some ⟨rb, 0, none⟩)] W (aj w0 rb ae aa TL xs U W s ns (mk1 1 s 0 [] [] (tl s))) := by
 have hrW := hS.lt
 have d19 : ((⟨(ax (kd s : Nat)).toArray⟩ : ByteArray).toList == [105, 110, 116]) = true := by rw [au hK hS 19 (by decide) _ (by decide)]; exact decide_eq_true hc
 have B1 : Bx _ := ⟨eP hT hS⟩
 have hf1 := dC
 have B2 : Bx (∀ W1, RSs w0 rb ae aa TL xs U W1 s ns -> _) := ⟨fun W1 h => dO hT h⟩
 have HP : Bx (∀ W1 W2 : World, RSs w0 rb ae aa TL xs U W2 s ns -> af rb W W2 -> W2.heap[W1.heap.size]? = some (bf 0 (hd s).place ⟨#[]⟩ 0) -> cZ W2 rb ≠ some W1.heap.size -> rb < W1.heap.size -> W.heap.size <= W1.heap.size -> ∃ i2 : Nat, RSs w0 rb ae aa TL xs U ((W2.setCell ⟨W1.heap.size, 0, none⟩ (.int .i64 1)).setCell ⟨rb, 2, none⟩ (.int .i64 ((i2 : Int) + 1))) (tl s) ns /\ af rb W ((W2.setCell ⟨W1.heap.size, 0, none⟩ (.int .i64 1)).setCell ⟨rb, 2, none⟩ (.int .i64 ((i2 : Int) + 1))) /\ i2 <= 65537 /\ rb < W2.heap.size /\ W2.cell? ⟨rb, 2, none⟩ = some (.int .i64 i2) /\ W2.frozen? ⟨rb, 2, none⟩ = false /\ W2.cell? ⟨W1.heap.size, 0, none⟩ = some (.int .i64 0) /\ W2.frozen? ⟨W1.heap.size, 0, none⟩ = false /\ W1.heap.size < W2.heap.size /\ ((W2.setCell ⟨W1.heap.size, 0, none⟩ (.int .i64 1)).setCell ⟨rb, 2, none⟩ (.int .i64 ((i2 : Int) + 1))).heap[W1.heap.size]? = some (bf 1 (hd s).place ⟨#[]⟩ 0)) := ⟨fun W1 W2 q2 k2 hb hown hrx hz => by
  obtain ⟨p1, p2⟩ := q2.nA hrx hown hb 0 (.int .i64 1)
  obtain ⟨i2, hi2, hlt, c2, fz, p3⟩ := nz hK hT p1
  obtain ⟨q4, _, k4⟩ := p3 (by omega)
  have hrh : (W2.setCell ⟨W1.heap.size, 0, none⟩ (.int .i64 1)).heap[rb]? = W2.heap[rb]? := heap_setCell_other W2 ⟨W1.heap.size, 0, none⟩ rb _ (by show rb ≠ W1.heap.size; omega)
  refine ⟨i2, q4, (p2 W k2 hz).trans k4, hi2, q2.lt, ?_, ?_, by simp [World.cell?, hb, bf], by simp [World.frozen?, hb, bf], aY hb, ?_⟩
  ·unfold World.cell? at c2 ⊢
   rw [hrh] at c2
   exact c2
  ·unfold World.frozen? at fz ⊢
   rw [hrh] at fz
   exact fz
  ·rw [heap_setCell_other _ ⟨rb, 2, none⟩ W1.heap.size _ (by show W1.heap.size ≠ rb; omega)]
   exact ji hb⟩
 have HD : Bx (∀ W1, RSs w0 rb ae aa TL xs U W1 (tl s) ns -> af rb W W1 -> ∀ kv, Calls Tryz.prog 70 #[.pointer (some ⟨rb, 0, none⟩), .agg #[.int .i64 1, .int .i64 (hd s).place, kv, .string ⟨#[]⟩, .int .i64 0], .slice none 0 0] W1 fun e W' => ∃ r : Int, e = .returned (.int .i64 r) /\ aj w0 rb ae aa TL xs U W s ns (.ok [.mk 1 (hd s).place 0 [] []] (tl s)) (.returned (.int .i64 r)) W') := ⟨fun W1 h hk kv => fG hT [] h.kT hk (by have := jV hS; simp [sizes]; omega) ⟨W, hS⟩ 1 (hd s).place 0 [] kv none 0 0 rfl (World.ownsRow_nil _ _ _ _) (fun _ h => by cases h)⟩
 generalize (⟨(ax (kd s : Nat)).toArray⟩ : ByteArray) = tx at *
 show Calls _ _ _ _ (aj w0 rb ae aa TL xs U W s ns (.ok [.mk 1 (hd s).place 0 [] []] (tl s)))
 go_enter Tryz.func87, Tryz.ntmps87
 go_wp2_with (first
  | (go_at_call 84; refine Calls.mono B1.out ?_; rintro e W1 ⟨t1, rfl, b1⟩; have q1 := hS.ext b1; have k1 := af.ext hrW b1; clear B1)
  | (go_at_call 66; refine Calls.mono (B2.out _ (q1.ext (ah _ _))) ?_; rintro e W2 ⟨rfl, b2⟩; obtain ⟨hb, hown, hrx⟩ := bJ q1 b2; have q2 := (q1.ext (ah _ _)).ext b2; have k2 := k1.trans ((af.alloc q1.lt _).trans (af.ext (q1.ext (ah _ _)).lt b2)); obtain ⟨i2, q4, k4, hi2, hl2, e2, f2, x4, g4, xlt, hb4⟩ := HP.out W1 W2 q2 k2 hb hown hrx (by have := k1.size; omega); have Q4 : Bx _ := ⟨q4⟩; have K4 : Bx _ := ⟨k4⟩; obtain ⟨y0, y1, y2, y3, y4, ylt⟩ := dw hb4; clear B2 hb hown hb4 q4 k4 q2 k2)
  | (go_at_call 70; refine Calls.mono (HD.out _ Q4.out K4.out _) ?_; rintro e W9 ⟨r9, rfl, hp⟩))
 go_ret
 exact hp
theorem JI (hT : RT w0 rb ae aa TL xs) (hK : aR TL) {W : World} {s : List ai} {ns : List Nd} (hS : RSs w0 rb ae aa TL xs U W s ns) (hc : kd s = 12) :
  Calls Tryz.prog 87 #[.pointer (some ⟨rb, 0, none⟩)] W (aj w0 rb ae aa TL xs U W s ns (mk1 2 s 0 [] [] (tl s))) := by
 have hrW := hS.lt
 have d19 : ((⟨(ax (kd s : Nat)).toArray⟩ : ByteArray).toList == [105, 110, 116]) = false := by rw [au hK hS 19 (by decide) _ (by decide)]; exact decide_eq_false (by omega)
 have d12 : ((⟨(ax (kd s : Nat)).toArray⟩ : ByteArray).toList == [98, 111, 111, 108]) = true := by rw [au hK hS 12 (by decide) _ (by decide)]; exact decide_eq_true hc
 have B1 : Bx _ := ⟨eP hT hS⟩
 have hf1 := dC
 have B2 : Bx (∀ W1, RSs w0 rb ae aa TL xs U W1 s ns -> _) := ⟨fun W1 h => dO hT h⟩
 have HP : Bx (∀ W1 W2 : World, RSs w0 rb ae aa TL xs U W2 s ns -> af rb W W2 -> W2.heap[W1.heap.size]? = some (bf 0 (hd s).place ⟨#[]⟩ 0) -> cZ W2 rb ≠ some W1.heap.size -> rb < W1.heap.size -> W.heap.size <= W1.heap.size -> ∃ i2 : Nat, RSs w0 rb ae aa TL xs U ((W2.setCell ⟨W1.heap.size, 0, none⟩ (.int .i64 2)).setCell ⟨rb, 2, none⟩ (.int .i64 ((i2 : Int) + 1))) (tl s) ns /\ af rb W ((W2.setCell ⟨W1.heap.size, 0, none⟩ (.int .i64 2)).setCell ⟨rb, 2, none⟩ (.int .i64 ((i2 : Int) + 1))) /\ i2 <= 65537 /\ rb < W2.heap.size /\ W2.cell? ⟨rb, 2, none⟩ = some (.int .i64 i2) /\ W2.frozen? ⟨rb, 2, none⟩ = false /\ W2.cell? ⟨W1.heap.size, 0, none⟩ = some (.int .i64 0) /\ W2.frozen? ⟨W1.heap.size, 0, none⟩ = false /\ W1.heap.size < W2.heap.size /\ ((W2.setCell ⟨W1.heap.size, 0, none⟩ (.int .i64 2)).setCell ⟨rb, 2, none⟩ (.int .i64 ((i2 : Int) + 1))).heap[W1.heap.size]? = some (bf 2 (hd s).place ⟨#[]⟩ 0)) := ⟨fun W1 W2 q2 k2 hb hown hrx hz => by
  obtain ⟨p1, p2⟩ := q2.nA hrx hown hb 0 (.int .i64 2)
  obtain ⟨i2, hi2, hlt, c2, fz, p3⟩ := nz hK hT p1
  obtain ⟨q4, _, k4⟩ := p3 (by omega)
  have hrh : (W2.setCell ⟨W1.heap.size, 0, none⟩ (.int .i64 2)).heap[rb]? = W2.heap[rb]? := heap_setCell_other W2 ⟨W1.heap.size, 0, none⟩ rb _ (by show rb ≠ W1.heap.size; omega)
  refine ⟨i2, q4, (p2 W k2 hz).trans k4, hi2, q2.lt, ?_, ?_, by simp [World.cell?, hb, bf], by simp [World.frozen?, hb, bf], aY hb, ?_⟩
  ·unfold World.cell? at c2 ⊢
   rw [hrh] at c2
   exact c2
  ·unfold World.frozen? at fz ⊢
   rw [hrh] at fz
   exact fz
  ·rw [heap_setCell_other _ ⟨rb, 2, none⟩ W1.heap.size _ (by show W1.heap.size ≠ rb; omega)]
   exact ji hb⟩
 have HD : Bx (∀ W1, RSs w0 rb ae aa TL xs U W1 (tl s) ns -> af rb W W1 -> ∀ kv, Calls Tryz.prog 70 #[.pointer (some ⟨rb, 0, none⟩), .agg #[.int .i64 2, .int .i64 (hd s).place, kv, .string ⟨#[]⟩, .int .i64 0], .slice none 0 0] W1 fun e W' => ∃ r : Int, e = .returned (.int .i64 r) /\ aj w0 rb ae aa TL xs U W s ns (.ok [.mk 2 (hd s).place 0 [] []] (tl s)) (.returned (.int .i64 r)) W') := ⟨fun W1 h hk kv => fG hT [] h.kT hk (by have := jV hS; simp [sizes]; omega) ⟨W, hS⟩ 2 (hd s).place 0 [] kv none 0 0 rfl (World.ownsRow_nil _ _ _ _) (fun _ h => by cases h)⟩
 generalize (⟨(ax (kd s : Nat)).toArray⟩ : ByteArray) = tx at *
 show Calls _ _ _ _ (aj w0 rb ae aa TL xs U W s ns (.ok [.mk 2 (hd s).place 0 [] []] (tl s)))
 go_enter Tryz.func87, Tryz.ntmps87
 go_wp2_with (first
  | (go_at_call 84; refine Calls.mono B1.out ?_; rintro e W1 ⟨t1, rfl, b1⟩; have q1 := hS.ext b1; have k1 := af.ext hrW b1; clear B1)
  | (go_at_call 66; refine Calls.mono (B2.out _ (q1.ext (ah _ _))) ?_; rintro e W2 ⟨rfl, b2⟩; obtain ⟨hb, hown, hrx⟩ := bJ q1 b2; have q2 := (q1.ext (ah _ _)).ext b2; have k2 := k1.trans ((af.alloc q1.lt _).trans (af.ext (q1.ext (ah _ _)).lt b2)); obtain ⟨i2, q4, k4, hi2, hl2, e2, f2, x4, g4, xlt, hb4⟩ := HP.out W1 W2 q2 k2 hb hown hrx (by have := k1.size; omega); have Q4 : Bx _ := ⟨q4⟩; have K4 : Bx _ := ⟨k4⟩; obtain ⟨y0, y1, y2, y3, y4, ylt⟩ := dw hb4; clear B2 hb hown hb4 q4 k4 q2 k2)
  | (go_at_call 70; refine Calls.mono (HD.out _ Q4.out K4.out _) ?_; rintro e W9 ⟨r9, rfl, hp⟩))
 go_ret
 exact hp
end Go.Proofs.YtecodpdfckjalaaGreatDoor
namespace Go.Proofs.YtecodpdfckjalaaGreatDoor
open Go.RowKit
variable {w0 : World} {rb : Nat} {ae aa : Value} {TL : List Tok} {xs : List UInt8} {U : Nat -> Prop}
theorem bI {W W' : World} {x : Nat} {o : Obj} (hk : af rb W W') (hb : W.heap[x]? = some o) (hrx : rb < x) (ho : cZ W rb ≠ some x) : W'.heap[x]? = some o /\ cZ W' rb ≠ some x := by
 have hx := aY hb
 refine ⟨(hk.same x hx (by omega) ho).trans hb, fun e => ?_⟩
 have h5 := hk.own
 rw [e] at h5
 rcases h5 with h5 | ⟨g, h5, h6⟩
 ·exact ho h5.symm
 ·simp at h5
  omega
theorem BX {W W3 : World} {s : List ai} {ns : List Nd} {x : Nat} {k k2 p num : Int} {nm nm2 : ByteArray} (q : RSs w0 rb ae aa TL xs U W3 s ns) (hk : af rb W W3) (hb : W3.heap[x]? = some (bf k p nm num)) (hrx : rb < x) (ho : cZ W3 rb ≠ some x) (hz : W.heap.size <= x) :
  RSs w0 rb ae aa TL xs U ((W3.setCell ⟨x, 0, none⟩ (.int .i64 k2)).setCell ⟨x, 3, none⟩ (.string nm2)) s ns /\ af rb W ((W3.setCell ⟨x, 0, none⟩ (.int .i64 k2)).setCell ⟨x, 3, none⟩ (.string nm2)) /\ ((W3.setCell ⟨x, 0, none⟩ (.int .i64 k2)).setCell ⟨x, 3, none⟩ (.string nm2)).heap[x]? = some (bf k2 p nm2 num) /\ W3.frozen? ⟨x, 0, none⟩ = false /\ W3.frozen? ⟨x, 3, none⟩ = false /\ W3.cell? ⟨x, 0, none⟩ = some (.int .i64 k) /\ W3.cell? ⟨x, 3, none⟩ = some (.string nm) /\ x < W3.heap.size := by
 obtain ⟨p1, p2⟩ := q.nA hrx ho hb 0 (.int .i64 k2)
 have hb1 := ji (k2 := k2) hb
 have ho1 : cZ (W3.setCell ⟨x, 0, none⟩ (.int .i64 k2)) rb ≠ some x := by
  have hrh : (W3.setCell ⟨x, 0, none⟩ (.int .i64 k2)).heap[rb]? = W3.heap[rb]? := heap_setCell_other W3 ⟨x, 0, none⟩ rb _ (by show rb ≠ x; omega)
  unfold cZ
  rw [hrh]
  exact ho
 obtain ⟨p3, p4⟩ := p1.nA hrx ho1 hb1 3 (.string nm2)
 exact ⟨p3, p4 W (p2 W hk hz) hz, tZ hb1, by simp [World.frozen?, hb, bf], by simp [World.frozen?, hb, bf], by simp [World.cell?, hb, bf], by simp [World.cell?, hb, bf], aY hb⟩
theorem Ll (hT : RT w0 rb ae aa TL xs) (hK : aR TL) {W : World} {s : List ai} {ns : List Nd} (hS : RSs w0 rb ae aa TL xs U W s ns) (hc : kd s ≠ 19 /\ kd s ≠ 12 /\ kd s ≠ 10 /\ kd s ≠ 14 /\ kd s ≠ 40 /\ kd s ≠ 23) :
  Calls Tryz.prog 87 #[.pointer (some ⟨rb, 0, none⟩)] W (aj w0 rb ae aa TL xs U W s ns (dJ s fun n s1 => mk1 3 s 0 n [] s1)) := by
 have hrW := hS.lt
 have d19 : ((⟨(ax (kd s : Nat)).toArray⟩ : ByteArray).toList == [105, 110, 116]) = false := by rw [au hK hS 19 (by decide) _ (by decide)]; exact decide_eq_false (by omega)
 have d12 : ((⟨(ax (kd s : Nat)).toArray⟩ : ByteArray).toList == [98, 111, 111, 108]) = false := by rw [au hK hS 12 (by decide) _ (by decide)]; exact decide_eq_false (by omega)
 have d10 : ((⟨(ax (kd s : Nat)).toArray⟩ : ByteArray).toList == [97, 114, 114, 97, 121]) = false := by rw [au hK hS 10 (by decide) _ (by decide)]; exact decide_eq_false (by omega)
 have d14 : ((⟨(ax (kd s : Nat)).toArray⟩ : ByteArray).toList == [99, 104, 97, 110]) = false := by rw [au hK hS 14 (by decide) _ (by decide)]; exact decide_eq_false (by omega)
 have d40 : ((⟨(ax (kd s : Nat)).toArray⟩ : ByteArray).toList == [40]) = false := by rw [au hK hS 40 (by decide) _ (by decide)]; exact decide_eq_false (by omega)
 have d23 : ((⟨(ax (kd s : Nat)).toArray⟩ : ByteArray).toList == [112, 114, 111, 103]) = false := by rw [au hK hS 23 (by decide) _ (by decide)]; exact decide_eq_false (by omega)
 have B1 : Bx _ := ⟨eP hT hS⟩
 have hf1 := dC
 have B2 : Bx (∀ W1, RSs w0 rb ae aa TL xs U W1 s ns -> _) := ⟨fun W1 h => dO hT h⟩
 have B3 : Bx (∀ W1, RSs w0 rb ae aa TL xs U W1 s ns -> _) := ⟨fun W1 h => lV hT hK h⟩
 by_cases h1 : kd s = 1
 ·rw [gZ h1]
  have HD : Bx (∀ W1, RSs w0 rb ae aa TL xs U W1 (tl s) ns -> af rb W W1 -> ∀ kv, Calls Tryz.prog 70 #[.pointer (some ⟨rb, 0, none⟩), .agg #[.int .i64 3, .int .i64 (hd s).place, kv, .string ⟨(hd s).name.toArray⟩, .int .i64 0], .slice none 0 0] W1 fun e W' => ∃ r : Int, e = .returned (.int .i64 r) /\ aj w0 rb ae aa TL xs U W s ns (.ok [.mk 3 (hd s).place 0 (hd s).name []] (tl s)) (.returned (.int .i64 r)) W') := ⟨fun W1 h hk kv => fG hT [] h.kT hk (by have := jV hS; simp [sizes]; omega) ⟨W, hS⟩ 3 (hd s).place 0 (hd s).name kv none 0 0 rfl (World.ownsRow_nil _ _ _ _) (fun _ h => by cases h)⟩
  generalize (⟨(ax (kd s : Nat)).toArray⟩ : ByteArray) = tx at *
  show Calls _ _ _ _ (aj w0 rb ae aa TL xs U W s ns (.ok [.mk 3 (hd s).place 0 (hd s).name []] (tl s)))
  generalize (⟨(hd s).name.toArray⟩ : ByteArray) = nmB at *
  go_enter Tryz.func87, Tryz.ntmps87
  go_wp2_with (first
   | (go_at_call 84; refine Calls.mono B1.out ?_; rintro e W1 ⟨t1, rfl, b1⟩; have q1 := hS.ext b1; have k1 := af.ext hrW b1; clear B1)
   | (go_at_call 66; refine Calls.mono (B2.out _ (q1.ext (ah _ _))) ?_; rintro e W2 ⟨rfl, b2⟩; obtain ⟨hb, hown, hrx⟩ := bJ q1 b2; have q2 := (q1.ext (ah _ _)).ext b2; have k2 := k1.trans ((af.alloc q1.lt _).trans (af.ext (q1.ext (ah _ _)).lt b2)); have HB : Bx _ := ⟨hb⟩; have HO : Bx _ := ⟨hown⟩; have Q2 : Bx _ := ⟨q2⟩; have K2 : Bx _ := ⟨k2⟩; have hz1 := k1.size; clear B2 hb hown q2 k2)
   | (go_at_call 86; refine Calls.mono (B3.out _ Q2.out) ?_; rintro e W3 (⟨_, rfl, q3, l3, k3⟩ | ⟨h, _⟩); rotate_left 1; exact absurd h1 h; obtain ⟨hb3, ho3⟩ := bI k3 HB.out hrx HO.out; obtain ⟨q4, k4, hb4, f0, f3, c0, c3, x3⟩ := BX (k := 0) (k2 := 3) (num := 0) (nm := ⟨#[]⟩) (nm2 := nmB) q3 (K2.out.trans k3) hb3 hrx ho3 hz1; have Q4 : Bx _ := ⟨q4⟩; have K4 : Bx _ := ⟨k4⟩; obtain ⟨y0, y1, y2, y3, y4, ylt⟩ := dw hb4; clear hb3 ho3 q4 k4 hb4 k3 q3 B3)
   | (go_at_call 70; refine Calls.mono (HD.out _ Q4.out K4.out _) ?_; rintro e W9 ⟨r9, rfl, hp⟩))
  go_ret
  exact hp
 ·rw [jh h1]
  generalize (⟨(ax (kd s : Nat)).toArray⟩ : ByteArray) = tx at *
  go_enter Tryz.func87, Tryz.ntmps87
  go_wp2_with (first
   | (go_at_call 84; refine Calls.mono B1.out ?_; rintro e W1 ⟨t1, rfl, b1⟩; have q1 := hS.ext b1; have k1 := af.ext hrW b1; clear B1)
   | (go_at_call 66; refine Calls.mono (B2.out _ (q1.ext (ah _ _))) ?_; rintro e W2 ⟨rfl, b2⟩; have q2 := (q1.ext (ah _ _)).ext b2; clear B2)
   | (go_at_call 86; refine Calls.mono (B3.out _ q2) ?_; rintro e W3 (⟨h, _⟩ | ⟨_, rfl, b3⟩); exact absurd h h1; unfold ak))
  exact ⟨rfl, rfl, b3⟩
end Go.Proofs.YtecodpdfckjalaaGreatDoor
namespace Go.Proofs.YtecodpdfckjalaaGreatDoor
open Go.RowKit
variable {w0 : World} {rb : Nat} {ae aa : Value} {TL : List Tok} {xs : List UInt8} {U : Nat -> Prop}
theorem RSs.nC {W : World} {s : List ai} {ns : List Nd} (h : RSs w0 rb ae aa TL xs U W s ns) {a : Option Addr} {n c : Nat} (hn : ∀ y, (Value.slice a n c).ownBlock = some y -> W.heap.size <= y) : ∀ g, a = some ⟨g, 0, none⟩ -> ¬ U g := by
 obtain ⟨_, _, _, _, _, hU⟩ := h
 intro g e hg
 subst e
 have := hn g (by simp [Value.ownBlock])
 have := hU _ hg
 omega
theorem BZ (hT : RT w0 rb ae aa TL xs) (hK : aR TL) {f : Nat} (HP : LC 0 w0 rb ae aa TL xs (pF f (.parted .expr)) 122 #[.func (.func 109) #[.pointer (some ⟨rb, 0, none⟩)] #[]]) {W : World} {s : List ai} {ns : List Nd} (hS : RSs w0 rb ae aa TL xs U W s ns) (hne : (want 42 s fun s1 => aC (pF f (.parted .expr) s1) fun a s2 => want 43 s2 fun s3 => mk1 16 s 0 [] a s3) ≠ .out) :
  Calls Tryz.prog 147 #[.pointer (some ⟨rb, 0, none⟩)] W (aj w0 rb ae aa TL xs U W s ns (want 42 s fun s1 => aC (pF f (.parted .expr) s1) fun a s2 => want 43 s2 fun s3 => mk1 16 s 0 [] a s3)) := by
 have hrW := hS.lt
 have B1 : Bx (∀ W1, RSs w0 rb ae aa TL xs U W1 s ns -> _) := ⟨fun W1 h => bF hT hK h 42 (by decide) ⟨#[91]⟩ (by decide)⟩
 by_cases h1 : kd s = 42
 ·rw [aG h1] at hne ⊢
  have B3 : Bx (∀ W1, RSs w0 rb ae aa TL xs U W1 (tl s) ns -> pF f (.parted .expr) (tl s) ≠ .out -> Calls Tryz.prog 122 #[.pointer (some ⟨rb, 0, none⟩), .func (.func 109) #[.pointer (some ⟨rb, 0, none⟩)] #[]] W1 (gF 0 w0 rb ae aa TL xs U W1 (tl s) ns (pF f (.parted .expr) (tl s)))) := ⟨fun W1 h hn => HP U W1 (tl s) ns h hn⟩
  match r3 : pF f (.parted .expr) (tl s) with
  | .out => rw [r3] at hne; exact absurd rfl hne
  | .err s' =>
   rw [r3] at B3
   show Calls _ _ _ _ (aj w0 rb ae aa TL xs U W s ns (.err s'))
   clear hne HP
   go_enter Tryz.func147, Tryz.ntmps147
   go_wp2_with (first
    | (go_at_call 85; refine Calls.mono (B1.out _ hS) ?_; rintro e W1 (⟨_, rfl, q1, l1, k1⟩ | ⟨h, _⟩); rotate_left 1; exact absurd h1 h; clear B1)
    | (go_at_call 122; refine Calls.mono (B3.out _ q1 (by simp)) ?_; rintro e W3 ⟨rfl, b3⟩; unfold ak))
   exact ⟨rfl, rfl, b3⟩
  | .ok ts s' =>
   rw [r3] at B3
   simp only [aC]
   have hsl : s.length <= 65537 := by
    obtain ⟨i, rfl, hi, _⟩ := hS
    have := hT.small
    unfold pts
    simp
    omega
   have B4 : Bx (∀ U' W1 ns', RSs w0 rb ae aa TL xs U' W1 s' ns' -> _) := ⟨fun U' W1 ns' h => bF (U := U') hT hK h 43 (by decide) ⟨#[93]⟩ (by decide)⟩
   by_cases h4 : kd s' = 43
   ·rw [aG h4]
    have HD : Bx (∀ W4 a c, RSs w0 rb ae aa TL xs U W4 (tl s') (ns ++ ag ts ns.length) -> af rb W W4 -> aQ W4 rb (.slice a ts.length c) (ends ts ns.length) -> (∀ y, (Value.slice a ts.length c).ownBlock = some y -> W.heap.size <= y) -> (tl s').length + sizes ts + 1 <= s.length -> ∀ kv, Calls Tryz.prog 70 #[.pointer (some ⟨rb, 0, none⟩), .agg #[.int .i64 16, .int .i64 (hd s).place, kv, .string ⟨#[]⟩, .int .i64 0], .slice a ts.length c] W4 fun e W' => ∃ r : Int, e = .returned (.int .i64 r) /\ aj w0 rb ae aa TL xs U W s ns (.ok [.mk 16 (hd s).place 0 [] ts] (tl s')) (.returned (.int .i64 r)) W') := ⟨fun W4 a c q k r n l kv => fG hT ts q k l ⟨W, hS⟩ 16 (hd s).place 0 [] kv a ts.length c rfl r (hS.nC n)⟩
    have HQ : Bx (∀ W1 W3 W4 a c, af rb W W1 -> af rb W1 W3 -> RSs w0 rb ae aa TL xs (Uv U (.slice a ts.length c)) W3 s' (ns ++ ag ts ns.length) -> aQ W3 rb (.slice a ts.length c) (ends ts ns.length) -> (∀ y, (Value.slice a ts.length c).ownBlock = some y -> W1.heap.size <= y) -> RSs w0 rb ae aa TL xs (Uv U (.slice a ts.length c)) W4 (tl s') (ns ++ ag ts ns.length) -> af rb W3 W4 -> RSs w0 rb ae aa TL xs U W4 (tl s') (ns ++ ag ts ns.length) /\ af rb W W4 /\ aQ W4 rb (.slice a ts.length c) (ends ts ns.length) /\ (∀ y, (Value.slice a ts.length c).ownBlock = some y -> W.heap.size <= y)) := ⟨fun W1 W3 W4 a c k1 k3 q3 r3 n3 q4 k4 => ⟨q4.jD (fun y hy => .inl hy), k1.trans (k3.trans k4), q3.ints r3 k4, fun y hy => by have := n3 y hy; have := k1.size; omega⟩⟩
    show Calls _ _ _ _ (aj w0 rb ae aa TL xs U W s ns (.ok [.mk 16 (hd s).place 0 [] ts] (tl s')))
    clear hne HP
    go_enter Tryz.func147, Tryz.ntmps147
    go_wp2_with (first
     | (go_at_call 85; refine Calls.mono (B1.out _ hS) ?_; rintro e W1 (⟨_, rfl, q1, l1, k1⟩ | ⟨h, _⟩); rotate_left 1; exact absurd h1 h; clear B1)
     | (go_at_call 122; refine Calls.mono (B3.out _ q1 (by simp)) ?_; rintro e W3 ⟨l3, a3, c3, rfl, q3, r3, k3, n3⟩; clear B3)
     | (go_at_call 85; refine Calls.mono (B4.out _ _ _ q3) ?_; rintro e W4 (⟨_, rfl, q4, l4, k4⟩ | ⟨h, _⟩); rotate_left 1; exact absurd h4 h; clear B4; have hq := HQ.out _ _ _ _ _ k1 k3 q3 r3 n3 q4 k4; have Q : Bx _ := ⟨hq⟩; clear hq q3 r3 n3 q4 k3 k4)
     | (go_at_call 70; go_loud (refine Calls.mono (HD.out _ _ _ Q.out.1 Q.out.2.1 Q.out.2.2.1 Q.out.2.2.2 (by omega) _) ?_; rintro e W9 ⟨r9, rfl, hp⟩)))
    go_ret
    exact hp
   ·rw [aL h4]
    clear hne HP
    go_enter Tryz.func147, Tryz.ntmps147
    go_wp2_with (first
     | (go_at_call 85; refine Calls.mono (B1.out _ hS) ?_; rintro e W1 (⟨_, rfl, q1, l1, k1⟩ | ⟨h, _⟩); rotate_left 1; exact absurd h1 h; clear B1)
     | (go_at_call 122; refine Calls.mono (B3.out _ q1 (by simp)) ?_; rintro e W3 ⟨l3, a3, c3, rfl, q3, r3, k3, n3⟩; clear B3)
     | (go_at_call 85; refine Calls.mono (B4.out _ _ _ q3) ?_; rintro e W4 (⟨h, _⟩ | ⟨_, rfl, b4⟩); exact absurd h h4; unfold ak))
    exact ⟨rfl, rfl, b4⟩
 ·rw [aL h1]
  clear hne HP
  go_enter Tryz.func147, Tryz.ntmps147
  go_wp2_with (first
   | (go_at_call 85; refine Calls.mono (B1.out _ hS) ?_; rintro e W1 (⟨h, _⟩ | ⟨_, rfl, b1⟩); exact absurd h h1; unfold ak))
  exact ⟨rfl, rfl, b1⟩
theorem jK {W : World} {v : Value} {ys : List Int} {x k : Nat} {u : Value} (h : aQ W rb v ys) (hn : ∀ y, v.ownBlock = some y -> x < y) : aQ (W.setCell ⟨x, k, none⟩ u) rb v ys := by
 obtain ⟨q1, q2⟩ := h
 refine ⟨q1, ?_⟩
 rcases q2 with q2 | ⟨gg, cp, cur, hv2, hg2, hh, hr2⟩
 ·exact .inl q2
 ·refine .inr ⟨gg, cp, cur, hv2, hg2, ?_, hr2⟩
  have := hn gg (by rw [hv2]; rfl)
  rw [heap_setCell_other W ⟨x, k, none⟩ gg _ (by show gg ≠ x; omega)]
  exact hh
theorem Ca (hT : RT w0 rb ae aa TL xs) (hK : aR TL) {f : Nat} (HP : LC 0 w0 rb ae aa TL xs (pF f (.parted .expr)) 122 #[.func (.func 109) #[.pointer (some ⟨rb, 0, none⟩)] #[]]) {W : World} {s : List ai} {ns : List Nd} (hS : RSs w0 rb ae aa TL xs U W s ns) (hne : (want 40 s fun s1 => aC (pF f (.parted .expr) s1) fun a s2 => want 41 s2 fun s3 => mk1 (if a.length = 1 then 14 else 15) s 0 [] a s3) ≠ .out) :
  Calls Tryz.prog 146 #[.pointer (some ⟨rb, 0, none⟩)] W (aj w0 rb ae aa TL xs U W s ns (want 40 s fun s1 => aC (pF f (.parted .expr) s1) fun a s2 => want 41 s2 fun s3 => mk1 (if a.length = 1 then 14 else 15) s 0 [] a s3)) := by
 have hrW := hS.lt
 have B1 : Bx (∀ W1, RSs w0 rb ae aa TL xs U W1 s ns -> _) := ⟨fun W1 h => bF hT hK h 40 (by decide) ⟨#[40]⟩ (by decide)⟩
 by_cases h1 : kd s = 40
 ·rw [aG h1] at hne ⊢
  have B3 : Bx (∀ W1, RSs w0 rb ae aa TL xs U W1 (tl s) ns -> pF f (.parted .expr) (tl s) ≠ .out -> Calls Tryz.prog 122 #[.pointer (some ⟨rb, 0, none⟩), .func (.func 109) #[.pointer (some ⟨rb, 0, none⟩)] #[]] W1 (gF 0 w0 rb ae aa TL xs U W1 (tl s) ns (pF f (.parted .expr) (tl s)))) := ⟨fun W1 h hn => HP U W1 (tl s) ns h hn⟩
  match r3 : pF f (.parted .expr) (tl s) with
  | .out => rw [r3] at hne; exact absurd rfl hne
  | .err s' =>
   rw [r3] at B3
   show Calls _ _ _ _ (aj w0 rb ae aa TL xs U W s ns (.err s'))
   clear hne HP
   go_enter Tryz.func146, Tryz.ntmps146
   go_wp2_with (first
    | (go_at_call 85; refine Calls.mono (B1.out _ hS) ?_; rintro e W1 (⟨_, rfl, q1, l1, k1⟩ | ⟨h, _⟩); rotate_left 1; exact absurd h1 h; clear B1)
    | (go_at_call 122; refine Calls.mono (B3.out _ (q1.ext (ah _ _)) (by simp)) ?_; rintro e W3 ⟨rfl, b3⟩; unfold ak))
   exact ⟨rfl, rfl, b3⟩
  | .ok ts s' =>
   rw [r3] at B3
   simp only [aC]
   have hsl : s.length <= 65537 := by
    obtain ⟨i, rfl, hi, _⟩ := hS
    have := hT.small
    unfold pts
    simp
    omega
   have B4 : Bx (∀ U' W1 ns', RSs w0 rb ae aa TL xs U' W1 s' ns' -> _) := ⟨fun U' W1 ns' h => bF (U := U') hT hK h 41 (by decide) ⟨#[41]⟩ (by decide)⟩
   by_cases h4 : kd s' = 41
   ·rw [aG h4]
    by_cases hl : ts.length = 1
    ·rw [if_pos hl]
     have hbl : ((ts.length : Int) == 1) = true := by simp [hl]
     have HD : Bx (∀ W4 a c, RSs w0 rb ae aa TL xs U W4 (tl s') (ns ++ ag ts ns.length) -> af rb W W4 -> aQ W4 rb (.slice a ts.length c) (ends ts ns.length) -> (∀ y, (Value.slice a ts.length c).ownBlock = some y -> W.heap.size <= y) -> (tl s').length + sizes ts + 1 <= s.length -> ∀ kv, Calls Tryz.prog 70 #[.pointer (some ⟨rb, 0, none⟩), .agg #[.int .i64 14, .int .i64 (hd s).place, kv, .string ⟨#[]⟩, .int .i64 0], .slice a ts.length c] W4 fun e W' => ∃ r : Int, e = .returned (.int .i64 r) /\ aj w0 rb ae aa TL xs U W s ns (.ok [.mk 14 (hd s).place 0 [] ts] (tl s')) (.returned (.int .i64 r)) W') := ⟨fun W4 a c q k r n l kv => fG hT ts q k l ⟨W, hS⟩ 14 (hd s).place 0 [] kv a ts.length c rfl r (hS.nC n)⟩
     have HQ : Bx (∀ W1 W3 W4 a c, RSs w0 rb ae aa TL xs U W1 (tl s) ns -> af rb W W1 -> af rb (W1.alloc (bf 15 (hd s).place ⟨#[]⟩ 0)) W3 -> RSs w0 rb ae aa TL xs (Uv U (.slice a ts.length c)) W3 s' (ns ++ ag ts ns.length) -> aQ W3 rb (.slice a ts.length c) (ends ts ns.length) -> (∀ y, (Value.slice a ts.length c).ownBlock = some y -> (W1.alloc (bf 15 (hd s).place ⟨#[]⟩ 0)).heap.size <= y) -> RSs w0 rb ae aa TL xs (Uv U (.slice a ts.length c)) W4 (tl s') (ns ++ ag ts ns.length) -> af rb W3 W4 -> RSs w0 rb ae aa TL xs U (W4.setCell ⟨W1.heap.size, 0, none⟩ (.int .i64 14)) (tl s') (ns ++ ag ts ns.length) /\ af rb W (W4.setCell ⟨W1.heap.size, 0, none⟩ (.int .i64 14)) /\ aQ (W4.setCell ⟨W1.heap.size, 0, none⟩ (.int .i64 14)) rb (.slice a ts.length c) (ends ts ns.length) /\ (∀ y, (Value.slice a ts.length c).ownBlock = some y -> W.heap.size <= y) /\ (W4.setCell ⟨W1.heap.size, 0, none⟩ (.int .i64 14)).heap[W1.heap.size]? = some (bf 14 (hd s).place ⟨#[]⟩ 0) /\ W1.heap.size < W4.heap.size /\ W4.cell? ⟨W1.heap.size, 0, none⟩ = some (.int .i64 15) /\ W4.frozen? ⟨W1.heap.size, 0, none⟩ = false) := ⟨fun W1 W3 W4 a c q1 k1 k3 q3 r3 n3 q4 k4 => by
      have hz := k1.size
      have hr1 := q1.lt
      obtain ⟨hb, hown, hrx⟩ := bJ (o := bf 15 (hd s).place ⟨#[]⟩ 0) q1 (Below.refl _ _)
      obtain ⟨hb4, ho4⟩ := bI (k3.trans k4) hb hrx hown
      have q5 := q4.jD (V := U) (fun y hy => .inl hy)
      have k5 : af rb W W4 := k1.trans ((af.alloc hr1 _).trans (k3.trans k4))
      have r5 := q3.ints r3 k4
      obtain ⟨p1, p2⟩ := q5.nA hrx ho4 hb4 0 (.int .i64 14)
      refine ⟨p1, p2 W k5 hz, jK r5 (fun y hy => by have := n3 y hy; simp at this; omega), fun y hy => by have := n3 y hy; simp at this; omega, ji hb4, aY hb4, by simp [World.cell?, hb4, bf], by simp [World.frozen?, hb4, bf]⟩⟩
     show Calls _ _ _ _ (aj w0 rb ae aa TL xs U W s ns (.ok [.mk 14 (hd s).place 0 [] ts] (tl s')))
     clear hne HP hl
     go_enter Tryz.func146, Tryz.ntmps146
     go_wp2_with (first
      | (go_at_call 85; refine Calls.mono (B1.out _ hS) ?_; rintro e W1 (⟨_, rfl, q1, l1, k1⟩ | ⟨h, _⟩); rotate_left 1; exact absurd h1 h; clear B1)
      | (go_at_call 122; refine Calls.mono (B3.out _ (q1.ext (ah _ _)) (by simp)) ?_; rintro e W3 ⟨l3, a3, c3, rfl, q3, r3, k3, n3⟩; clear B3)
      | (go_at_call 85; refine Calls.mono (B4.out _ _ _ q3) ?_; rintro e W4 (⟨_, rfl, q4, l4, k4⟩ | ⟨h, _⟩); rotate_left 1; exact absurd h4 h; clear B4; obtain ⟨g1, g2, g3, g4, g5, g6, g7⟩ := HQ.out _ _ _ _ _ q1 k1 k3 q3 r3 n3 q4 k4; obtain ⟨y0, y1, y2, y3, y4, ylt⟩ := dw g5; obtain ⟨x0, x1⟩ := g7; have G1 : Bx _ := ⟨g1⟩; have G2 : Bx _ := ⟨g2⟩; have G3 : Bx _ := ⟨g3⟩; have G4 : Bx _ := ⟨g4⟩; clear g1 g2 g3 g4 g5 q3 r3 n3 q4 k3 k4)
      | (go_at_call 70; go_loud (refine Calls.mono (HD.out _ _ _ G1.out G2.out G3.out G4.out (by omega) _) ?_; rintro e W9 ⟨r9, rfl, hp⟩)))
     go_ret
     exact hp
    ·rw [if_neg hl]
     have hbl : ((ts.length : Int) == 1) = false := by simp; omega
     have HD : Bx (∀ W4 a c, RSs w0 rb ae aa TL xs U W4 (tl s') (ns ++ ag ts ns.length) -> af rb W W4 -> aQ W4 rb (.slice a ts.length c) (ends ts ns.length) -> (∀ y, (Value.slice a ts.length c).ownBlock = some y -> W.heap.size <= y) -> (tl s').length + sizes ts + 1 <= s.length -> ∀ kv, Calls Tryz.prog 70 #[.pointer (some ⟨rb, 0, none⟩), .agg #[.int .i64 15, .int .i64 (hd s).place, kv, .string ⟨#[]⟩, .int .i64 0], .slice a ts.length c] W4 fun e W' => ∃ r : Int, e = .returned (.int .i64 r) /\ aj w0 rb ae aa TL xs U W s ns (.ok [.mk 15 (hd s).place 0 [] ts] (tl s')) (.returned (.int .i64 r)) W') := ⟨fun W4 a c q k r n l kv => fG hT ts q k l ⟨W, hS⟩ 15 (hd s).place 0 [] kv a ts.length c rfl r (hS.nC n)⟩
     have HQ : Bx (∀ W1 W3 W4 a c, RSs w0 rb ae aa TL xs U W1 (tl s) ns -> af rb W W1 -> af rb (W1.alloc (bf 15 (hd s).place ⟨#[]⟩ 0)) W3 -> RSs w0 rb ae aa TL xs (Uv U (.slice a ts.length c)) W3 s' (ns ++ ag ts ns.length) -> aQ W3 rb (.slice a ts.length c) (ends ts ns.length) -> (∀ y, (Value.slice a ts.length c).ownBlock = some y -> (W1.alloc (bf 15 (hd s).place ⟨#[]⟩ 0)).heap.size <= y) -> RSs w0 rb ae aa TL xs (Uv U (.slice a ts.length c)) W4 (tl s') (ns ++ ag ts ns.length) -> af rb W3 W4 -> RSs w0 rb ae aa TL xs U W4 (tl s') (ns ++ ag ts ns.length) /\ af rb W W4 /\ aQ W4 rb (.slice a ts.length c) (ends ts ns.length) /\ (∀ y, (Value.slice a ts.length c).ownBlock = some y -> W.heap.size <= y) /\ W4.heap[W1.heap.size]? = some (bf 15 (hd s).place ⟨#[]⟩ 0) /\ W1.heap.size < W4.heap.size /\ True) := ⟨fun W1 W3 W4 a c q1 k1 k3 q3 r3 n3 q4 k4 => by
      have hz := k1.size
      have hr1 := q1.lt
      obtain ⟨hb, hown, hrx⟩ := bJ (o := bf 15 (hd s).place ⟨#[]⟩ 0) q1 (Below.refl _ _)
      obtain ⟨hb4, ho4⟩ := bI (k3.trans k4) hb hrx hown
      have q5 := q4.jD (V := U) (fun y hy => .inl hy)
      have k5 : af rb W W4 := k1.trans ((af.alloc hr1 _).trans (k3.trans k4))
      have r5 := q3.ints r3 k4
      exact ⟨q5, k5, r5, fun y hy => by have := n3 y hy; simp at this; omega, hb4, aY hb4, trivial⟩⟩
     show Calls _ _ _ _ (aj w0 rb ae aa TL xs U W s ns (.ok [.mk 15 (hd s).place 0 [] ts] (tl s')))
     clear hne HP hl
     go_enter Tryz.func146, Tryz.ntmps146
     go_wp2_with (first
      | (go_at_call 85; refine Calls.mono (B1.out _ hS) ?_; rintro e W1 (⟨_, rfl, q1, l1, k1⟩ | ⟨h, _⟩); rotate_left 1; exact absurd h1 h; clear B1)
      | (go_at_call 122; refine Calls.mono (B3.out _ (q1.ext (ah _ _)) (by simp)) ?_; rintro e W3 ⟨l3, a3, c3, rfl, q3, r3, k3, n3⟩; clear B3)
      | (go_at_call 85; refine Calls.mono (B4.out _ _ _ q3) ?_; rintro e W4 (⟨_, rfl, q4, l4, k4⟩ | ⟨h, _⟩); rotate_left 1; exact absurd h4 h; clear B4; obtain ⟨g1, g2, g3, g4, g5, g6, g7⟩ := HQ.out _ _ _ _ _ q1 k1 k3 q3 r3 n3 q4 k4; obtain ⟨y0, y1, y2, y3, y4, ylt⟩ := dw g5; have G1 : Bx _ := ⟨g1⟩; have G2 : Bx _ := ⟨g2⟩; have G3 : Bx _ := ⟨g3⟩; have G4 : Bx _ := ⟨g4⟩; clear g1 g2 g3 g4 g5 q3 r3 n3 q4 k3 k4)
      | (go_at_call 70; go_loud (refine Calls.mono (HD.out _ _ _ G1.out G2.out G3.out G4.out (by omega) _) ?_; rintro e W9 ⟨r9, rfl, hp⟩)))
     go_ret
     exact hp
   ·rw [aL h4]
    clear hne HP
    go_enter Tryz.func146, Tryz.ntmps146
    go_wp2_with (first
     | (go_at_call 85; refine Calls.mono (B1.out _ hS) ?_; rintro e W1 (⟨_, rfl, q1, l1, k1⟩ | ⟨h, _⟩); rotate_left 1; exact absurd h1 h; clear B1)
     | (go_at_call 122; refine Calls.mono (B3.out _ (q1.ext (ah _ _)) (by simp)) ?_; rintro e W3 ⟨l3, a3, c3, rfl, q3, r3, k3, n3⟩; clear B3)
     | (go_at_call 85; refine Calls.mono (B4.out _ _ _ q3) ?_; rintro e W4 (⟨h, _⟩ | ⟨_, rfl, b4⟩); exact absurd h h4; unfold ak))
    exact ⟨rfl, rfl, b4⟩
 ·rw [aL h1]
  clear hne HP
  go_enter Tryz.func146, Tryz.ntmps146
  go_wp2_with (first
   | (go_at_call 85; refine Calls.mono (B1.out _ hS) ?_; rintro e W1 (⟨h, _⟩ | ⟨_, rfl, b1⟩); exact absurd h h1; unfold ak))
  exact ⟨rfl, rfl, b1⟩
end Go.Proofs.YtecodpdfckjalaaGreatDoor
