import Derived.Test.YtecodpdfckjalaaGreatDoorYRVar
set_option linter.unusedVariables false
set_option linter.unusedSimpArgs false
set_option maxHeartbeats 4000000
set_option maxRecDepth 100000
namespace Go.Proofs.YtecodpdfckjalaaGreatDoor
open Go.RowKit
variable {w0 : World} {rb : Nat} {ae aa : Value} {TL : List Tok} {xs : List UInt8} {U : Nat -> Prop}
theorem kU {W W1 W2 W4 : World} {s1 s2 : List ai} {ns : List Nd} {a : List Tr} {k p num : Int} {nm : ByteArray} (q1 : RSs w0 rb ae aa TL xs U W1 s1 ns) (kW : af rb W W1) (k2 : af rb (W1.alloc (bf k p nm num)) W2) (q2 : RSs w0 rb ae aa TL xs U W2 s2 (ns ++ ag a ns.length)) (n2 : a.length = 1) (v : Nat) (hv : v = ns.length + sizes a - 1) (k4 : af rb (W2.alloc (.cells #[.int .i64 (v : Int)] 3)) W4) :
  af rb W W4 /\ aQ W4 rb (.slice (some ⟨W2.heap.size, 0, none⟩) 1 1) (ends a ns.length) /\ (∀ y, (Value.slice (some ⟨W2.heap.size, 0, none⟩) 1 1).ownBlock = some y -> W.heap.size <= y /\ y ≠ W1.heap.size) /\ W4.heap[W1.heap.size]? = some (bf k p nm num) /\ cZ W4 rb ≠ some W1.heap.size /\ rb < W1.heap.size /\ W.heap.size <= W1.heap.size /\ W1.heap.size < W2.heap.size := by
 obtain ⟨h1, h2, h3, h4, h5, h6⟩ := oz q1 kW k2 q2 n2 v hv k4
 have hz := k2.size
 simp at hz
 exact ⟨h1, h2, h3, h4, h5, h6, kW.size, by omega⟩
theorem lC {W W4 : World} {x : Nat} {s : List ai} {n4 : List Nd} {k p num : Int} {nm : ByteArray} {v : Value} {ys : List Int} (k2 p2 : Int) (q : RSs w0 rb ae aa TL xs (Uv U v) W4 s n4) (kW : af rb W W4) (hI : aQ W4 rb v ys) (hn : ∀ y, v.ownBlock = some y -> x < y) (hb : W4.heap[x]? = some (bf k p nm num)) (ho : cZ W4 rb ≠ some x) (hrx : rb < x) (hz : W.heap.size <= x) :
  (RSs w0 rb ae aa TL xs (Uv U v) ((W4.setCell ⟨x, 0, none⟩ (.int .i64 k2)).setCell ⟨x, 1, none⟩ (.int .i64 p2)) s n4 /\ af rb W ((W4.setCell ⟨x, 0, none⟩ (.int .i64 k2)).setCell ⟨x, 1, none⟩ (.int .i64 p2)) /\ aQ ((W4.setCell ⟨x, 0, none⟩ (.int .i64 k2)).setCell ⟨x, 1, none⟩ (.int .i64 p2)) rb v ys /\ ((W4.setCell ⟨x, 0, none⟩ (.int .i64 k2)).setCell ⟨x, 1, none⟩ (.int .i64 p2)).heap[x]? = some (bf k2 p2 nm num) /\ cZ ((W4.setCell ⟨x, 0, none⟩ (.int .i64 k2)).setCell ⟨x, 1, none⟩ (.int .i64 p2)) rb ≠ some x) /\ (W4.cell? ⟨x, 0, none⟩ = some (.int .i64 k) /\ W4.cell? ⟨x, 1, none⟩ = some (.int .i64 p) /\ W4.frozen? ⟨x, 0, none⟩ = false /\ W4.frozen? ⟨x, 1, none⟩ = false /\ x < W4.heap.size) := by
 obtain ⟨p1, p2'⟩ := q.nA hrx ho hb 0 (.int .i64 k2)
 have hb1 : (W4.setCell ⟨x, 0, none⟩ (.int .i64 k2)).heap[x]? = some (bf k2 p nm num) := ji hb
 have own1 : ∀ (X : World) (j : Nat) (u : Value), cZ (X.setCell ⟨x, j, none⟩ u) rb = cZ X rb := fun X j u => by
  have hrh : (X.setCell ⟨x, j, none⟩ u).heap[rb]? = X.heap[rb]? := heap_setCell_other X ⟨x, j, none⟩ rb _ (by show rb ≠ x; omega)
  unfold cZ
  rw [hrh]
 have ho1 : cZ (W4.setCell ⟨x, 0, none⟩ (.int .i64 k2)) rb ≠ some x := by rw [own1]; exact ho
 obtain ⟨p3, p4⟩ := p1.nA hrx ho1 hb1 1 (.int .i64 p2)
 refine ⟨⟨p3, p4 W (p2' W kW hz) hz, jK (jK hI hn) hn, ?_, by rw [own1]; exact ho1⟩, by simp [World.cell?, hb, bf], by simp [World.cell?, hb, bf], by simp [World.frozen?, hb, bf], by simp [World.frozen?, hb, bf], aY hb⟩
 simp [World.setCell, Array.getElem?_modify, hb, bf]
theorem yH (hT : RT w0 rb ae aa TL xs) (hK : aR TL) {f : Nat} (HE : RC w0 rb ae aa TL xs (pF f (.operands 1)) 109 #[]) {W : World} {s : List ai} {ns : List Nd} (hS : RSs w0 rb ae aa TL xs U W s ns) (hne : (aC (pF f (.operands 1) s) fun a s1 => if kd s1 = 50 then want 50 s1 fun s2 => aC (pF f (.operands 1) s2) fun b s3 => want 47 s3 fun s4 => mk1 33 s1 0 [] (a ++ b) s4 else if kd s1 = 66 then want 66 s1 fun s2 => aC (pF f (.operands 1) s2) fun b s3 => want 47 s3 fun s4 => mk1 34 s1 0 [] (a ++ b) s4 else want 47 s1 fun s2 => mk1 35 s 0 [] a s2) ≠ .out) :
  Calls Tryz.prog 96 #[.pointer (some ⟨rb, 0, none⟩)] W (aj w0 rb ae aa TL xs U W s ns (aC (pF f (.operands 1) s) fun a s1 => if kd s1 = 50 then want 50 s1 fun s2 => aC (pF f (.operands 1) s2) fun b s3 => want 47 s3 fun s4 => mk1 33 s1 0 [] (a ++ b) s4 else if kd s1 = 66 then want 66 s1 fun s2 => aC (pF f (.operands 1) s2) fun b s3 => want 47 s3 fun s4 => mk1 34 s1 0 [] (a ++ b) s4 else want 47 s1 fun s2 => mk1 35 s 0 [] a s2)) := by
 have hrW := hS.lt
 obtain ⟨i0, hi, hz0, hz1, hz2⟩ := info_parts gu
 have hf1 := dC
 have m1 : True := trivial
 have m2 : True := trivial
 have m4 : True := trivial
 have HS : Bx (∃ s, RSs w0 rb ae aa TL xs U W s ns) := ⟨⟨s, hS⟩⟩
 have B1 : Bx _ := ⟨eP hT hS⟩
 have B2 : Bx (∀ W1, RSs w0 rb ae aa TL xs U W1 s ns -> pF f (.operands 1) s ≠ .out -> Calls Tryz.prog 109 #[.pointer (some ⟨rb, 0, none⟩)] W1 (aj w0 rb ae aa TL xs U W1 s ns (pF f (.operands 1) s))) := ⟨fun W1 h hn => HE U W1 s ns h hn⟩
 match r2 : pF f (.operands 1) s with
 | .out => rw [r2] at hne; exact absurd rfl hne
 | .err s1 =>
  rw [r2] at B2
  show Calls _ _ _ _ (aj w0 rb ae aa TL xs U W s ns (.err s1))
  clear hne HE
  go_enter Tryz.func96, Tryz.ntmps96
  go_wp2_with (first
   | (go_at_call 84; have _t := m1; clear m1 _t; refine Calls.mono (B1.out) ?_; rintro e W1 ⟨n1, rfl, b1⟩; have q1 := hS.ext b1; have k1 := af.ext hrW b1; clear B1)
   | (go_at_call 109; refine Calls.mono (B2.out _ (q1.ext (ah _ _)) (by simp)) ?_; rintro e W2 ⟨rfl, b⟩; unfold ak))
  exact ⟨rfl, rfl, b⟩
 | .ok a s1 =>
  rw [r2] at B2 hne
  simp only [aC] at hne ⊢
  have B3 : Bx (∀ U' W1, RSs w0 rb ae aa TL xs U' W1 s1 (ns ++ ag a ns.length) -> _) := ⟨fun U' W1 h => eP (U := U') hT h⟩
  have B5 : Bx (∀ U' W1, RSs w0 rb ae aa TL xs U' W1 s1 (ns ++ ag a ns.length) -> _) := ⟨fun U' W1 h => iP (U := U') hT hK h 50 (by decide) ⟨#[61]⟩ (by decide)⟩
  have B55 : Bx (∀ U' W1, RSs w0 rb ae aa TL xs U' W1 s1 (ns ++ ag a ns.length) -> _) := ⟨fun U' W1 h => iP (U := U') hT hK h 66 (by decide) ⟨#[60, 45, 61]⟩ (by decide)⟩
  by_cases h5 : kd s1 = 50
  ·rw [if_pos h5, aG h5] at hne ⊢
   have H5 : Bx _ := ⟨h5⟩
   clear h5
   have B6 : Bx (∀ U' W1, RSs w0 rb ae aa TL xs U' W1 (tl s1) (ns ++ ag a ns.length) -> pF f (.operands 1) (tl s1) ≠ .out -> Calls Tryz.prog 109 #[.pointer (some ⟨rb, 0, none⟩)] W1 (aj w0 rb ae aa TL xs U' W1 (tl s1) (ns ++ ag a ns.length) (pF f (.operands 1) (tl s1)))) := ⟨fun U' W1 h hn => HE U' W1 (tl s1) (ns ++ ag a ns.length) h hn⟩
   match r6 : pF f (.operands 1) (tl s1) with
   | .out => rw [r6] at hne; exact absurd rfl hne
   | .err s3 =>
    rw [r6] at B6
    show Calls _ _ _ _ (aj w0 rb ae aa TL xs U W s ns (.err s3))
    clear hne HE
    go_enter Tryz.func96, Tryz.ntmps96
    go_wp2_with (first
     | (go_at_call 84; have _t := m1; clear m1 _t; refine Calls.mono (B1.out) ?_; rintro e W1 ⟨n1, rfl, b1⟩; have q1 := hS.ext b1; have k1 := af.ext hrW b1; clear B1)
     | (go_at_call 109; have _t := m2; clear m2 _t; refine Calls.mono (B2.out _ (q1.ext (ah _ _)) (by simp)) ?_; rintro e W2 ⟨n2, l2, he, q2, k2⟩; obtain ⟨v, hv⟩ : ∃ r : Nat, r = (ns.length + sizes a - 1) := ⟨_, rfl⟩; rw [← hv] at he; subst he; have V : Bx _ := ⟨hv⟩; have q2' := q2.jd (.cells #[.int .i64 (v : Int)] 3); have Q2 : Bx _ := ⟨q2'⟩; have N2 : Bx _ := ⟨n2⟩; clear hv B2 q2' n2)
     | (go_at_call 84; refine Calls.mono (B3.out _ _ Q2.out) ?_; rintro e W3 ⟨n3, rfl, b3⟩; have Q3 : Bx _ := ⟨(Q2.out.ext b3).ext (ah W3 (.cells #[.int .i64 (kd s1), .int .i64 (hd s1).place, .int .i64 n3, .int .i64 (hd s1).num] 62))⟩; have K3 : Bx _ := ⟨(af.ext Q2.out.lt b3).trans (af.alloc (Q2.out.ext b3).lt (.cells #[.int .i64 (kd s1), .int .i64 (hd s1).place, .int .i64 n3, .int .i64 (hd s1).num] 62))⟩; obtain ⟨sb, so, sr⟩ := bJ (o := (.cells #[.int .i64 (kd s1), .int .i64 (hd s1).place, .int .i64 n3, .int .i64 (hd s1).num] 62)) (Q2.out.ext b3) (Below.refl _ _); have SB : Bx _ := ⟨sb⟩; have SO : Bx _ := ⟨so⟩; clear sb so; clear B3 Q2 b3)
     | (go_at_call 102; refine Calls.mono (B5.out _ _ Q3.out) ?_; rintro e W4 (⟨_, rfl, q4, l4, k4⟩ | ⟨h, _⟩); rotate_left 1; exact absurd H5.out h; clear B5; obtain ⟨g2, g3, g4, g5, g6, hrx, hzx, hx2⟩ := kU (k := 35) (p := (hd s).place) (nm := ⟨#[]⟩) (num := 0) q1 k1 k2 q2 N2.out v V.out (K3.out.trans k4); have G2 : Bx _ := ⟨g2⟩; have G3 : Bx _ := ⟨g3⟩; have G4 : Bx _ := ⟨g4⟩; have G5 : Bx _ := ⟨g5⟩; have G6 : Bx _ := ⟨g6⟩; obtain ⟨P1, c0, c1, f0, f1, hxl⟩ := lC (W := W) 33 ((hd s1).place : Int) q4 g2 g3 (fun y hy => (by simp [Value.ownBlock] at hy; omega)) g5 g6 hrx hzx; have PP : Bx _ := ⟨P1⟩; have S4 := (bI (k4) SB.out sr SO.out).1; have sc : W4.cell? ⟨W3.heap.size, 1, none⟩ = some (.int .i64 (hd s1).place) := (by simp [World.cell?, S4]); have sl : W3.heap.size < W4.heap.size := aY S4; clear S4 P1 g2 g3 g4 g5 g6))
    go_region
    go_wp2_with (first
     | (go_at_call 109; refine Calls.mono (B6.out _ _ (PP.out.1.ext ((Below.refl _ _).drew)) (by simp)) ?_; rintro e W6 ⟨rfl, b⟩; unfold ak))
    exact ⟨rfl, rfl, b⟩
   | .ok b s3 =>
    rw [r6] at B6 hne
    simp only [] at hne ⊢
    have B7 : Bx (∀ W1, RSs w0 rb ae aa TL xs U W1 s3 (ns ++ ag (a ++ b) ns.length) -> _) := ⟨fun W1 h => bF hT hK h 47 (by decide) ⟨#[59]⟩ (by decide)⟩
    by_cases h7' : kd s3 = 47
    ·rw [aG h7']
     have h7 : Bx _ := ⟨h7'⟩
     have HD : Bx (∀ w7 W8 gb c, RSs w0 rb ae aa TL xs U w7 s3 (ns ++ ag (a ++ b) ns.length) -> af rb W w7 -> aQ w7 rb (.slice (some ⟨gb, 0, none⟩) (1 + 1) c) (ends (a ++ b) ns.length) -> (∀ g, (some ⟨gb, 0, none⟩ : Option Addr) = some ⟨g, 0, none⟩ -> ¬ U g) -> RSs w0 rb ae aa TL xs U W8 (tl s3) (ns ++ ag (a ++ b) ns.length) -> af rb w7 W8 -> a.length = 1 -> b.length = 1 -> (tl s3).length + (sizes a + sizes b) + 1 <= s.length -> ∀ kv, Calls Tryz.prog 70 #[.pointer (some ⟨rb, 0, none⟩), .agg #[.int .i64 33, .int .i64 (hd s1).place, kv, .string ⟨#[]⟩, .int .i64 0], .slice (some ⟨gb, 0, none⟩) 2 c] W8 fun e W' => ∃ r : Int, e = .returned (.int .i64 r) /\ aj w0 rb ae aa TL xs U W s ns (.ok [.mk 33 (hd s1).place 0 [] (a ++ b)] (tl s3)) (.returned (.int .i64 r)) W') := ⟨fun w7 W8 gb c g1 g2 g3 g4 q8 k8 ha hb hl kv => fG hT (a ++ b) q8 (g2.trans k8) (by rw [aI]; omega) ⟨W, hS⟩ 33 (hd s1).place 0 [] kv (some ⟨gb, 0, none⟩) 2 c (by simp [ha, hb]) (g1.ints g3 k8) g4⟩
     show Calls _ _ _ _ (aj w0 rb ae aa TL xs U W s ns (.ok [.mk 33 (hd s1).place 0 [] (a ++ b)] (tl s3)))
     clear h7'
     clear hne HE
     go_enter Tryz.func96, Tryz.ntmps96
     go_wp2_with (first
      | (go_at_call 84; have _t := m1; clear m1 _t; refine Calls.mono (B1.out) ?_; rintro e W1 ⟨n1, rfl, b1⟩; have q1 := hS.ext b1; have k1 := af.ext hrW b1; clear B1)
      | (go_at_call 109; have _t := m2; clear m2 _t; refine Calls.mono (B2.out _ (q1.ext (ah _ _)) (by simp)) ?_; rintro e W2 ⟨n2, l2, he, q2, k2⟩; obtain ⟨v, hv⟩ : ∃ r : Nat, r = (ns.length + sizes a - 1) := ⟨_, rfl⟩; rw [← hv] at he; subst he; have V : Bx _ := ⟨hv⟩; have q2' := q2.jd (.cells #[.int .i64 (v : Int)] 3); have Q2 : Bx _ := ⟨q2'⟩; have N2 : Bx _ := ⟨n2⟩; clear hv B2 q2' n2)
      | (go_at_call 84; refine Calls.mono (B3.out _ _ Q2.out) ?_; rintro e W3 ⟨n3, rfl, b3⟩; have Q3 : Bx _ := ⟨(Q2.out.ext b3).ext (ah W3 (.cells #[.int .i64 (kd s1), .int .i64 (hd s1).place, .int .i64 n3, .int .i64 (hd s1).num] 62))⟩; have K3 : Bx _ := ⟨(af.ext Q2.out.lt b3).trans (af.alloc (Q2.out.ext b3).lt (.cells #[.int .i64 (kd s1), .int .i64 (hd s1).place, .int .i64 n3, .int .i64 (hd s1).num] 62))⟩; obtain ⟨sb, so, sr⟩ := bJ (o := (.cells #[.int .i64 (kd s1), .int .i64 (hd s1).place, .int .i64 n3, .int .i64 (hd s1).num] 62)) (Q2.out.ext b3) (Below.refl _ _); have SB : Bx _ := ⟨sb⟩; have SO : Bx _ := ⟨so⟩; clear sb so; clear B3 Q2 b3)
      | (go_at_call 102; refine Calls.mono (B5.out _ _ Q3.out) ?_; rintro e W4 (⟨_, rfl, q4, l4, k4⟩ | ⟨h, _⟩); rotate_left 1; exact absurd H5.out h; clear B5; obtain ⟨g2, g3, g4, g5, g6, hrx, hzx, hx2⟩ := kU (k := 35) (p := (hd s).place) (nm := ⟨#[]⟩) (num := 0) q1 k1 k2 q2 N2.out v V.out (K3.out.trans k4); have G2 : Bx _ := ⟨g2⟩; have G3 : Bx _ := ⟨g3⟩; have G4 : Bx _ := ⟨g4⟩; have G5 : Bx _ := ⟨g5⟩; have G6 : Bx _ := ⟨g6⟩; obtain ⟨P1, c0, c1, f0, f1, hxl⟩ := lC (W := W) 33 ((hd s1).place : Int) q4 g2 g3 (fun y hy => (by simp [Value.ownBlock] at hy; omega)) g5 g6 hrx hzx; have PP : Bx _ := ⟨P1⟩; have S4 := (bI (k4) SB.out sr SO.out).1; have sc : W4.cell? ⟨W3.heap.size, 1, none⟩ = some (.int .i64 (hd s1).place) := (by simp [World.cell?, S4]); have sl : W3.heap.size < W4.heap.size := aY S4; clear S4 P1 g2 g3 g4 g5 g6))
     go_region
     go_wp2_with (first
      | (go_at_call 109; refine Calls.mono (B6.out _ _ (PP.out.1.ext ((Below.refl _ _).drew)) (by simp)) ?_; rintro e W6 ⟨n6, l6, he, q6, k6⟩; obtain ⟨v6, hv⟩ : ∃ r : Nat, r = ((ns ++ ag a ns.length).length + sizes b - 1) := ⟨_, rfl⟩; rw [← hv] at he; subst he; obtain ⟨e1, e2, e3, e4⟩ := iQ HS.out N2.out.symm PP.out.1 PP.out.2.1 PP.out.2.2.1 G4.out PP.out.2.2.2.1 PP.out.2.2.2.2 hrx q6 k6 n6 v6 hv; have E1 : Bx _ := ⟨e1⟩; have E4 : Bx _ := ⟨e4⟩; have N6 : Bx _ := ⟨n6⟩; clear e1 e2 e4 n6 hv q6 k6 B6 c0 c1 f0 f1 sc)
      | (at_builtin; refine wpList_append_lies _ rfl (.tmp 22) (.tmp 25) 39 rfl (rb + 1) 3 i0 (.int .i64 0) 1 8 Tryz.underlying39 hi hz0 hz1 hz2 rfl (by decide) (.slice (some ⟨W2.heap.size, 0, none⟩) 1 1) 1 (bM (ends a ns.length)) rfl (bO E1.out (ah W6 (.cells #[.int .i64 (v6 : Int)] 3))) ⟨W6.heap.size, 0, none⟩ 1 1 [.int .i64 (v6 : Int)] rfl rfl (dD _ _ rfl _) (eF _) (by decide) (by unfold maxLen; omega) (by omega) (by simp; omega) (W6.heap.size + 1) (by simp) ?_; intro gb cp w7 hown hgrow hat hlt7; have F0 := E4.out gb cp w7 hgrow hat hlt7 hown; have F1 : Bx _ := ⟨F0⟩; clear hown hgrow hat F0 E1 E4)
      | (go_at_call 85; refine Calls.mono (B7.out _ F1.out.1) ?_; rintro e W8 (⟨_, rfl, q8, l8, k8⟩ | ⟨h, _⟩); rotate_left 1; exact absurd h7.out h; obtain ⟨y0, y1, y2, y3, y4, ylt⟩ := dw (bI k8 F1.out.2.2.2.2.1 hrx F1.out.2.2.2.2.2).1; have Q8 : Bx _ := ⟨q8⟩; have K8 : Bx _ := ⟨k8⟩; clear B7 q8 k8)
      | (go_at_call 70; refine Calls.mono (HD.out _ _ _ _ F1.out.1 F1.out.2.1 F1.out.2.2.1 F1.out.2.2.2.1 Q8.out K8.out N2.out N6.out (by omega) _) ?_; rintro e W9 ⟨r9, rfl, hp⟩))
     go_ret
     exact hp
    ·rw [aL h7']
     have h7 : Bx _ := ⟨h7'⟩
     show Calls _ _ _ _ (aj w0 rb ae aa TL xs U W s ns (.err s3))
     clear h7'
     clear hne HE
     go_enter Tryz.func96, Tryz.ntmps96
     go_wp2_with (first
      | (go_at_call 84; have _t := m1; clear m1 _t; refine Calls.mono (B1.out) ?_; rintro e W1 ⟨n1, rfl, b1⟩; have q1 := hS.ext b1; have k1 := af.ext hrW b1; clear B1)
      | (go_at_call 109; have _t := m2; clear m2 _t; refine Calls.mono (B2.out _ (q1.ext (ah _ _)) (by simp)) ?_; rintro e W2 ⟨n2, l2, he, q2, k2⟩; obtain ⟨v, hv⟩ : ∃ r : Nat, r = (ns.length + sizes a - 1) := ⟨_, rfl⟩; rw [← hv] at he; subst he; have V : Bx _ := ⟨hv⟩; have q2' := q2.jd (.cells #[.int .i64 (v : Int)] 3); have Q2 : Bx _ := ⟨q2'⟩; have N2 : Bx _ := ⟨n2⟩; clear hv B2 q2' n2)
      | (go_at_call 84; refine Calls.mono (B3.out _ _ Q2.out) ?_; rintro e W3 ⟨n3, rfl, b3⟩; have Q3 : Bx _ := ⟨(Q2.out.ext b3).ext (ah W3 (.cells #[.int .i64 (kd s1), .int .i64 (hd s1).place, .int .i64 n3, .int .i64 (hd s1).num] 62))⟩; have K3 : Bx _ := ⟨(af.ext Q2.out.lt b3).trans (af.alloc (Q2.out.ext b3).lt (.cells #[.int .i64 (kd s1), .int .i64 (hd s1).place, .int .i64 n3, .int .i64 (hd s1).num] 62))⟩; obtain ⟨sb, so, sr⟩ := bJ (o := (.cells #[.int .i64 (kd s1), .int .i64 (hd s1).place, .int .i64 n3, .int .i64 (hd s1).num] 62)) (Q2.out.ext b3) (Below.refl _ _); have SB : Bx _ := ⟨sb⟩; have SO : Bx _ := ⟨so⟩; clear sb so; clear B3 Q2 b3)
      | (go_at_call 102; refine Calls.mono (B5.out _ _ Q3.out) ?_; rintro e W4 (⟨_, rfl, q4, l4, k4⟩ | ⟨h, _⟩); rotate_left 1; exact absurd H5.out h; clear B5; obtain ⟨g2, g3, g4, g5, g6, hrx, hzx, hx2⟩ := kU (k := 35) (p := (hd s).place) (nm := ⟨#[]⟩) (num := 0) q1 k1 k2 q2 N2.out v V.out (K3.out.trans k4); have G2 : Bx _ := ⟨g2⟩; have G3 : Bx _ := ⟨g3⟩; have G4 : Bx _ := ⟨g4⟩; have G5 : Bx _ := ⟨g5⟩; have G6 : Bx _ := ⟨g6⟩; obtain ⟨P1, c0, c1, f0, f1, hxl⟩ := lC (W := W) 33 ((hd s1).place : Int) q4 g2 g3 (fun y hy => (by simp [Value.ownBlock] at hy; omega)) g5 g6 hrx hzx; have PP : Bx _ := ⟨P1⟩; have S4 := (bI (k4) SB.out sr SO.out).1; have sc : W4.cell? ⟨W3.heap.size, 1, none⟩ = some (.int .i64 (hd s1).place) := (by simp [World.cell?, S4]); have sl : W3.heap.size < W4.heap.size := aY S4; clear S4 P1 g2 g3 g4 g5 g6))
     go_region
     go_wp2_with (first
      | (go_at_call 109; refine Calls.mono (B6.out _ _ (PP.out.1.ext ((Below.refl _ _).drew)) (by simp)) ?_; rintro e W6 ⟨n6, l6, he, q6, k6⟩; obtain ⟨v6, hv⟩ : ∃ r : Nat, r = ((ns ++ ag a ns.length).length + sizes b - 1) := ⟨_, rfl⟩; rw [← hv] at he; subst he; obtain ⟨e1, e2, e3, e4⟩ := iQ HS.out N2.out.symm PP.out.1 PP.out.2.1 PP.out.2.2.1 G4.out PP.out.2.2.2.1 PP.out.2.2.2.2 hrx q6 k6 n6 v6 hv; have E1 : Bx _ := ⟨e1⟩; have E4 : Bx _ := ⟨e4⟩; have N6 : Bx _ := ⟨n6⟩; clear e1 e2 e4 n6 hv q6 k6 B6 c0 c1 f0 f1 sc)
      | (at_builtin; refine wpList_append_lies _ rfl (.tmp 22) (.tmp 25) 39 rfl (rb + 1) 3 i0 (.int .i64 0) 1 8 Tryz.underlying39 hi hz0 hz1 hz2 rfl (by decide) (.slice (some ⟨W2.heap.size, 0, none⟩) 1 1) 1 (bM (ends a ns.length)) rfl (bO E1.out (ah W6 (.cells #[.int .i64 (v6 : Int)] 3))) ⟨W6.heap.size, 0, none⟩ 1 1 [.int .i64 (v6 : Int)] rfl rfl (dD _ _ rfl _) (eF _) (by decide) (by unfold maxLen; omega) (by omega) (by simp; omega) (W6.heap.size + 1) (by simp) ?_; intro gb cp w7 hown hgrow hat hlt7; have F0 := E4.out gb cp w7 hgrow hat hlt7 hown; have F1 : Bx _ := ⟨F0⟩; clear hown hgrow hat F0 E1 E4)
      | (go_at_call 85; refine Calls.mono (B7.out _ F1.out.1) ?_; rintro e Wx (⟨h, _⟩ | ⟨_, rfl, b⟩); exact absurd h h7.out; unfold ak))
     exact ⟨rfl, rfl, b⟩
  ·rw [if_neg h5] at hne ⊢
   have H5 : Bx _ := ⟨h5⟩
   clear h5
   by_cases h55 : kd s1 = 66
   ·rw [if_pos h55, aG h55] at hne ⊢
    have H55 : Bx _ := ⟨h55⟩
    clear h55
    have B6 : Bx (∀ U' W1, RSs w0 rb ae aa TL xs U' W1 (tl s1) (ns ++ ag a ns.length) -> pF f (.operands 1) (tl s1) ≠ .out -> Calls Tryz.prog 109 #[.pointer (some ⟨rb, 0, none⟩)] W1 (aj w0 rb ae aa TL xs U' W1 (tl s1) (ns ++ ag a ns.length) (pF f (.operands 1) (tl s1)))) := ⟨fun U' W1 h hn => HE U' W1 (tl s1) (ns ++ ag a ns.length) h hn⟩
    match r6 : pF f (.operands 1) (tl s1) with
    | .out => rw [r6] at hne; exact absurd rfl hne
    | .err s3 =>
     rw [r6] at B6
     show Calls _ _ _ _ (aj w0 rb ae aa TL xs U W s ns (.err s3))
     clear hne HE
     go_enter Tryz.func96, Tryz.ntmps96
     go_wp2_with (first
      | (go_at_call 84; have _t := m1; clear m1 _t; refine Calls.mono (B1.out) ?_; rintro e W1 ⟨n1, rfl, b1⟩; have q1 := hS.ext b1; have k1 := af.ext hrW b1; clear B1)
      | (go_at_call 109; have _t := m2; clear m2 _t; refine Calls.mono (B2.out _ (q1.ext (ah _ _)) (by simp)) ?_; rintro e W2 ⟨n2, l2, he, q2, k2⟩; obtain ⟨v, hv⟩ : ∃ r : Nat, r = (ns.length + sizes a - 1) := ⟨_, rfl⟩; rw [← hv] at he; subst he; have V : Bx _ := ⟨hv⟩; have q2' := q2.jd (.cells #[.int .i64 (v : Int)] 3); have Q2 : Bx _ := ⟨q2'⟩; have N2 : Bx _ := ⟨n2⟩; clear hv B2 q2' n2)
      | (go_at_call 84; refine Calls.mono (B3.out _ _ Q2.out) ?_; rintro e W3 ⟨n3, rfl, b3⟩; have Q3 : Bx _ := ⟨(Q2.out.ext b3).ext (ah W3 (.cells #[.int .i64 (kd s1), .int .i64 (hd s1).place, .int .i64 n3, .int .i64 (hd s1).num] 62))⟩; have K3 : Bx _ := ⟨(af.ext Q2.out.lt b3).trans (af.alloc (Q2.out.ext b3).lt (.cells #[.int .i64 (kd s1), .int .i64 (hd s1).place, .int .i64 n3, .int .i64 (hd s1).num] 62))⟩; obtain ⟨sb, so, sr⟩ := bJ (o := (.cells #[.int .i64 (kd s1), .int .i64 (hd s1).place, .int .i64 n3, .int .i64 (hd s1).num] 62)) (Q2.out.ext b3) (Below.refl _ _); have SB : Bx _ := ⟨sb⟩; have SO : Bx _ := ⟨so⟩; clear sb so; clear B3 Q2 b3)
      | (go_at_call 102; have _t := m4; clear m4 _t; refine Calls.mono (B5.out _ _ Q3.out) ?_; rintro e W4 (⟨h, _⟩ | ⟨_, rfl, q4, k4⟩); exact absurd h H5.out; have Q4 : Bx _ := ⟨q4⟩; clear B5 Q3 q4)
      | (go_at_call 102; refine Calls.mono (B55.out _ _ Q4.out) ?_; rintro e W5 (⟨_, rfl, q5, l4, k5⟩ | ⟨h, _⟩); rotate_left 1; exact absurd H55.out h; clear B55; obtain ⟨g2, g3, g4, g5, g6, hrx, hzx, hx2⟩ := kU (k := 35) (p := (hd s).place) (nm := ⟨#[]⟩) (num := 0) q1 k1 k2 q2 N2.out v V.out (K3.out.trans (k4.trans k5)); have G2 : Bx _ := ⟨g2⟩; have G3 : Bx _ := ⟨g3⟩; have G4 : Bx _ := ⟨g4⟩; have G5 : Bx _ := ⟨g5⟩; have G6 : Bx _ := ⟨g6⟩; obtain ⟨P1, c0, c1, f0, f1, hxl⟩ := lC (W := W) 34 ((hd s1).place : Int) q5 g2 g3 (fun y hy => (by simp [Value.ownBlock] at hy; omega)) g5 g6 hrx hzx; have PP : Bx _ := ⟨P1⟩; have S4 := (bI (k4.trans k5) SB.out sr SO.out).1; have sc : W5.cell? ⟨W3.heap.size, 1, none⟩ = some (.int .i64 (hd s1).place) := (by simp [World.cell?, S4]); have sl : W3.heap.size < W5.heap.size := aY S4; clear S4 P1 g2 g3 g4 g5 g6))
     go_region
     go_wp2_with (first
      | (go_at_call 109; refine Calls.mono (B6.out _ _ (PP.out.1.ext ((Below.refl _ _).drew)) (by simp)) ?_; rintro e W6 ⟨rfl, b⟩; unfold ak))
     exact ⟨rfl, rfl, b⟩
    | .ok b s3 =>
     rw [r6] at B6 hne
     simp only [] at hne ⊢
     have B7 : Bx (∀ W1, RSs w0 rb ae aa TL xs U W1 s3 (ns ++ ag (a ++ b) ns.length) -> _) := ⟨fun W1 h => bF hT hK h 47 (by decide) ⟨#[59]⟩ (by decide)⟩
     by_cases h7' : kd s3 = 47
     ·rw [aG h7']
      have h7 : Bx _ := ⟨h7'⟩
      have HD : Bx (∀ w7 W8 gb c, RSs w0 rb ae aa TL xs U w7 s3 (ns ++ ag (a ++ b) ns.length) -> af rb W w7 -> aQ w7 rb (.slice (some ⟨gb, 0, none⟩) (1 + 1) c) (ends (a ++ b) ns.length) -> (∀ g, (some ⟨gb, 0, none⟩ : Option Addr) = some ⟨g, 0, none⟩ -> ¬ U g) -> RSs w0 rb ae aa TL xs U W8 (tl s3) (ns ++ ag (a ++ b) ns.length) -> af rb w7 W8 -> a.length = 1 -> b.length = 1 -> (tl s3).length + (sizes a + sizes b) + 1 <= s.length -> ∀ kv, Calls Tryz.prog 70 #[.pointer (some ⟨rb, 0, none⟩), .agg #[.int .i64 34, .int .i64 (hd s1).place, kv, .string ⟨#[]⟩, .int .i64 0], .slice (some ⟨gb, 0, none⟩) 2 c] W8 fun e W' => ∃ r : Int, e = .returned (.int .i64 r) /\ aj w0 rb ae aa TL xs U W s ns (.ok [.mk 34 (hd s1).place 0 [] (a ++ b)] (tl s3)) (.returned (.int .i64 r)) W') := ⟨fun w7 W8 gb c g1 g2 g3 g4 q8 k8 ha hb hl kv => fG hT (a ++ b) q8 (g2.trans k8) (by rw [aI]; omega) ⟨W, hS⟩ 34 (hd s1).place 0 [] kv (some ⟨gb, 0, none⟩) 2 c (by simp [ha, hb]) (g1.ints g3 k8) g4⟩
      show Calls _ _ _ _ (aj w0 rb ae aa TL xs U W s ns (.ok [.mk 34 (hd s1).place 0 [] (a ++ b)] (tl s3)))
      clear h7'
      clear hne HE
      go_enter Tryz.func96, Tryz.ntmps96
      go_wp2_with (first
       | (go_at_call 84; have _t := m1; clear m1 _t; refine Calls.mono (B1.out) ?_; rintro e W1 ⟨n1, rfl, b1⟩; have q1 := hS.ext b1; have k1 := af.ext hrW b1; clear B1)
       | (go_at_call 109; have _t := m2; clear m2 _t; refine Calls.mono (B2.out _ (q1.ext (ah _ _)) (by simp)) ?_; rintro e W2 ⟨n2, l2, he, q2, k2⟩; obtain ⟨v, hv⟩ : ∃ r : Nat, r = (ns.length + sizes a - 1) := ⟨_, rfl⟩; rw [← hv] at he; subst he; have V : Bx _ := ⟨hv⟩; have q2' := q2.jd (.cells #[.int .i64 (v : Int)] 3); have Q2 : Bx _ := ⟨q2'⟩; have N2 : Bx _ := ⟨n2⟩; clear hv B2 q2' n2)
       | (go_at_call 84; refine Calls.mono (B3.out _ _ Q2.out) ?_; rintro e W3 ⟨n3, rfl, b3⟩; have Q3 : Bx _ := ⟨(Q2.out.ext b3).ext (ah W3 (.cells #[.int .i64 (kd s1), .int .i64 (hd s1).place, .int .i64 n3, .int .i64 (hd s1).num] 62))⟩; have K3 : Bx _ := ⟨(af.ext Q2.out.lt b3).trans (af.alloc (Q2.out.ext b3).lt (.cells #[.int .i64 (kd s1), .int .i64 (hd s1).place, .int .i64 n3, .int .i64 (hd s1).num] 62))⟩; obtain ⟨sb, so, sr⟩ := bJ (o := (.cells #[.int .i64 (kd s1), .int .i64 (hd s1).place, .int .i64 n3, .int .i64 (hd s1).num] 62)) (Q2.out.ext b3) (Below.refl _ _); have SB : Bx _ := ⟨sb⟩; have SO : Bx _ := ⟨so⟩; clear sb so; clear B3 Q2 b3)
       | (go_at_call 102; have _t := m4; clear m4 _t; refine Calls.mono (B5.out _ _ Q3.out) ?_; rintro e W4 (⟨h, _⟩ | ⟨_, rfl, q4, k4⟩); exact absurd h H5.out; have Q4 : Bx _ := ⟨q4⟩; clear B5 Q3 q4)
       | (go_at_call 102; refine Calls.mono (B55.out _ _ Q4.out) ?_; rintro e W5 (⟨_, rfl, q5, l4, k5⟩ | ⟨h, _⟩); rotate_left 1; exact absurd H55.out h; clear B55; obtain ⟨g2, g3, g4, g5, g6, hrx, hzx, hx2⟩ := kU (k := 35) (p := (hd s).place) (nm := ⟨#[]⟩) (num := 0) q1 k1 k2 q2 N2.out v V.out (K3.out.trans (k4.trans k5)); have G2 : Bx _ := ⟨g2⟩; have G3 : Bx _ := ⟨g3⟩; have G4 : Bx _ := ⟨g4⟩; have G5 : Bx _ := ⟨g5⟩; have G6 : Bx _ := ⟨g6⟩; obtain ⟨P1, c0, c1, f0, f1, hxl⟩ := lC (W := W) 34 ((hd s1).place : Int) q5 g2 g3 (fun y hy => (by simp [Value.ownBlock] at hy; omega)) g5 g6 hrx hzx; have PP : Bx _ := ⟨P1⟩; have S4 := (bI (k4.trans k5) SB.out sr SO.out).1; have sc : W5.cell? ⟨W3.heap.size, 1, none⟩ = some (.int .i64 (hd s1).place) := (by simp [World.cell?, S4]); have sl : W3.heap.size < W5.heap.size := aY S4; clear S4 P1 g2 g3 g4 g5 g6))
      go_region
      go_wp2_with (first
       | (go_at_call 109; refine Calls.mono (B6.out _ _ (PP.out.1.ext ((Below.refl _ _).drew)) (by simp)) ?_; rintro e W6 ⟨n6, l6, he, q6, k6⟩; obtain ⟨v6, hv⟩ : ∃ r : Nat, r = ((ns ++ ag a ns.length).length + sizes b - 1) := ⟨_, rfl⟩; rw [← hv] at he; subst he; obtain ⟨e1, e2, e3, e4⟩ := iQ HS.out N2.out.symm PP.out.1 PP.out.2.1 PP.out.2.2.1 G4.out PP.out.2.2.2.1 PP.out.2.2.2.2 hrx q6 k6 n6 v6 hv; have E1 : Bx _ := ⟨e1⟩; have E4 : Bx _ := ⟨e4⟩; have N6 : Bx _ := ⟨n6⟩; clear e1 e2 e4 n6 hv q6 k6 B6 c0 c1 f0 f1 sc)
       | (at_builtin; refine wpList_append_lies _ rfl (.tmp 34) (.tmp 37) 39 rfl (rb + 1) 3 i0 (.int .i64 0) 1 8 Tryz.underlying39 hi hz0 hz1 hz2 rfl (by decide) (.slice (some ⟨W2.heap.size, 0, none⟩) 1 1) 1 (bM (ends a ns.length)) rfl (bO E1.out (ah W6 (.cells #[.int .i64 (v6 : Int)] 3))) ⟨W6.heap.size, 0, none⟩ 1 1 [.int .i64 (v6 : Int)] rfl rfl (dD _ _ rfl _) (eF _) (by decide) (by unfold maxLen; omega) (by omega) (by simp; omega) (W6.heap.size + 1) (by simp) ?_; intro gb cp w7 hown hgrow hat hlt7; have F0 := E4.out gb cp w7 hgrow hat hlt7 hown; have F1 : Bx _ := ⟨F0⟩; clear hown hgrow hat F0 E1 E4)
       | (go_at_call 85; refine Calls.mono (B7.out _ F1.out.1) ?_; rintro e W8 (⟨_, rfl, q8, l8, k8⟩ | ⟨h, _⟩); rotate_left 1; exact absurd h7.out h; obtain ⟨y0, y1, y2, y3, y4, ylt⟩ := dw (bI k8 F1.out.2.2.2.2.1 hrx F1.out.2.2.2.2.2).1; have Q8 : Bx _ := ⟨q8⟩; have K8 : Bx _ := ⟨k8⟩; clear B7 q8 k8)
       | (go_at_call 70; refine Calls.mono (HD.out _ _ _ _ F1.out.1 F1.out.2.1 F1.out.2.2.1 F1.out.2.2.2.1 Q8.out K8.out N2.out N6.out (by omega) _) ?_; rintro e W9 ⟨r9, rfl, hp⟩))
      go_ret
      exact hp
     ·rw [aL h7']
      have h7 : Bx _ := ⟨h7'⟩
      show Calls _ _ _ _ (aj w0 rb ae aa TL xs U W s ns (.err s3))
      clear h7'
      clear hne HE
      go_enter Tryz.func96, Tryz.ntmps96
      go_wp2_with (first
       | (go_at_call 84; have _t := m1; clear m1 _t; refine Calls.mono (B1.out) ?_; rintro e W1 ⟨n1, rfl, b1⟩; have q1 := hS.ext b1; have k1 := af.ext hrW b1; clear B1)
       | (go_at_call 109; have _t := m2; clear m2 _t; refine Calls.mono (B2.out _ (q1.ext (ah _ _)) (by simp)) ?_; rintro e W2 ⟨n2, l2, he, q2, k2⟩; obtain ⟨v, hv⟩ : ∃ r : Nat, r = (ns.length + sizes a - 1) := ⟨_, rfl⟩; rw [← hv] at he; subst he; have V : Bx _ := ⟨hv⟩; have q2' := q2.jd (.cells #[.int .i64 (v : Int)] 3); have Q2 : Bx _ := ⟨q2'⟩; have N2 : Bx _ := ⟨n2⟩; clear hv B2 q2' n2)
       | (go_at_call 84; refine Calls.mono (B3.out _ _ Q2.out) ?_; rintro e W3 ⟨n3, rfl, b3⟩; have Q3 : Bx _ := ⟨(Q2.out.ext b3).ext (ah W3 (.cells #[.int .i64 (kd s1), .int .i64 (hd s1).place, .int .i64 n3, .int .i64 (hd s1).num] 62))⟩; have K3 : Bx _ := ⟨(af.ext Q2.out.lt b3).trans (af.alloc (Q2.out.ext b3).lt (.cells #[.int .i64 (kd s1), .int .i64 (hd s1).place, .int .i64 n3, .int .i64 (hd s1).num] 62))⟩; obtain ⟨sb, so, sr⟩ := bJ (o := (.cells #[.int .i64 (kd s1), .int .i64 (hd s1).place, .int .i64 n3, .int .i64 (hd s1).num] 62)) (Q2.out.ext b3) (Below.refl _ _); have SB : Bx _ := ⟨sb⟩; have SO : Bx _ := ⟨so⟩; clear sb so; clear B3 Q2 b3)
       | (go_at_call 102; have _t := m4; clear m4 _t; refine Calls.mono (B5.out _ _ Q3.out) ?_; rintro e W4 (⟨h, _⟩ | ⟨_, rfl, q4, k4⟩); exact absurd h H5.out; have Q4 : Bx _ := ⟨q4⟩; clear B5 Q3 q4)
       | (go_at_call 102; refine Calls.mono (B55.out _ _ Q4.out) ?_; rintro e W5 (⟨_, rfl, q5, l4, k5⟩ | ⟨h, _⟩); rotate_left 1; exact absurd H55.out h; clear B55; obtain ⟨g2, g3, g4, g5, g6, hrx, hzx, hx2⟩ := kU (k := 35) (p := (hd s).place) (nm := ⟨#[]⟩) (num := 0) q1 k1 k2 q2 N2.out v V.out (K3.out.trans (k4.trans k5)); have G2 : Bx _ := ⟨g2⟩; have G3 : Bx _ := ⟨g3⟩; have G4 : Bx _ := ⟨g4⟩; have G5 : Bx _ := ⟨g5⟩; have G6 : Bx _ := ⟨g6⟩; obtain ⟨P1, c0, c1, f0, f1, hxl⟩ := lC (W := W) 34 ((hd s1).place : Int) q5 g2 g3 (fun y hy => (by simp [Value.ownBlock] at hy; omega)) g5 g6 hrx hzx; have PP : Bx _ := ⟨P1⟩; have S4 := (bI (k4.trans k5) SB.out sr SO.out).1; have sc : W5.cell? ⟨W3.heap.size, 1, none⟩ = some (.int .i64 (hd s1).place) := (by simp [World.cell?, S4]); have sl : W3.heap.size < W5.heap.size := aY S4; clear S4 P1 g2 g3 g4 g5 g6))
      go_region
      go_wp2_with (first
       | (go_at_call 109; refine Calls.mono (B6.out _ _ (PP.out.1.ext ((Below.refl _ _).drew)) (by simp)) ?_; rintro e W6 ⟨n6, l6, he, q6, k6⟩; obtain ⟨v6, hv⟩ : ∃ r : Nat, r = ((ns ++ ag a ns.length).length + sizes b - 1) := ⟨_, rfl⟩; rw [← hv] at he; subst he; obtain ⟨e1, e2, e3, e4⟩ := iQ HS.out N2.out.symm PP.out.1 PP.out.2.1 PP.out.2.2.1 G4.out PP.out.2.2.2.1 PP.out.2.2.2.2 hrx q6 k6 n6 v6 hv; have E1 : Bx _ := ⟨e1⟩; have E4 : Bx _ := ⟨e4⟩; have N6 : Bx _ := ⟨n6⟩; clear e1 e2 e4 n6 hv q6 k6 B6 c0 c1 f0 f1 sc)
       | (at_builtin; refine wpList_append_lies _ rfl (.tmp 34) (.tmp 37) 39 rfl (rb + 1) 3 i0 (.int .i64 0) 1 8 Tryz.underlying39 hi hz0 hz1 hz2 rfl (by decide) (.slice (some ⟨W2.heap.size, 0, none⟩) 1 1) 1 (bM (ends a ns.length)) rfl (bO E1.out (ah W6 (.cells #[.int .i64 (v6 : Int)] 3))) ⟨W6.heap.size, 0, none⟩ 1 1 [.int .i64 (v6 : Int)] rfl rfl (dD _ _ rfl _) (eF _) (by decide) (by unfold maxLen; omega) (by omega) (by simp; omega) (W6.heap.size + 1) (by simp) ?_; intro gb cp w7 hown hgrow hat hlt7; have F0 := E4.out gb cp w7 hgrow hat hlt7 hown; have F1 : Bx _ := ⟨F0⟩; clear hown hgrow hat F0 E1 E4)
       | (go_at_call 85; refine Calls.mono (B7.out _ F1.out.1) ?_; rintro e Wx (⟨h, _⟩ | ⟨_, rfl, b⟩); exact absurd h h7.out; unfold ak))
      exact ⟨rfl, rfl, b⟩
   ·rw [if_neg h55] at hne ⊢
    have H55 : Bx _ := ⟨h55⟩
    clear h55
    have B7 : Bx (∀ U' W1, RSs w0 rb ae aa TL xs U' W1 s1 (ns ++ ag a ns.length) -> _) := ⟨fun U' W1 h => bF (U := U') hT hK h 47 (by decide) ⟨#[59]⟩ (by decide)⟩
    by_cases h7' : kd s1 = 47
    ·rw [aG h7']
     have h7 : Bx _ := ⟨h7'⟩
     have HD : Bx (∀ (W2 W5 W8 : World) (X : Nat), RSs w0 rb ae aa TL xs (Uv U (.slice (some ⟨W2.heap.size, 0, none⟩) 1 1)) W5 s1 (ns ++ ag a ns.length) -> af rb W W5 -> aQ W5 rb (.slice (some ⟨W2.heap.size, 0, none⟩) 1 1) (ends a ns.length) -> (∀ y, (Value.slice (some ⟨W2.heap.size, 0, none⟩) 1 1).ownBlock = some y -> W.heap.size <= y /\ y ≠ X) -> RSs w0 rb ae aa TL xs (Uv U (.slice (some ⟨W2.heap.size, 0, none⟩) 1 1)) W8 (tl s1) (ns ++ ag a ns.length) -> af rb W5 W8 -> a.length = 1 -> (tl s1).length + sizes a + 1 <= s.length -> ∀ kv, Calls Tryz.prog 70 #[.pointer (some ⟨rb, 0, none⟩), .agg #[.int .i64 35, .int .i64 (hd s).place, kv, .string ⟨#[]⟩, .int .i64 0], (.slice (some ⟨W2.heap.size, 0, none⟩) 1 1)] W8 fun e W' => ∃ r : Int, e = .returned (.int .i64 r) /\ aj w0 rb ae aa TL xs U W s ns (.ok [.mk 35 (hd s).place 0 [] a] (tl s1)) (.returned (.int .i64 r)) W') := ⟨fun W2 W5 W8 X g1 g2 g3 g4 q8 k8 ha hl kv => fG hT a (q8.jD (fun y hy => .inl hy)) (g2.trans k8) hl ⟨W, hS⟩ 35 (hd s).place 0 [] kv (some ⟨W2.heap.size, 0, none⟩) 1 1 ha.symm (g1.ints g3 k8) (hS.nC (n := 1) (c := 1) (fun y hy => (g4 y hy).1))⟩
     show Calls _ _ _ _ (aj w0 rb ae aa TL xs U W s ns (.ok [.mk 35 (hd s).place 0 [] a] (tl s1)))
     clear h7'
     clear hne HE
     go_enter Tryz.func96, Tryz.ntmps96
     go_wp2_with (first
      | (go_at_call 84; have _t := m1; clear m1 _t; refine Calls.mono (B1.out) ?_; rintro e W1 ⟨n1, rfl, b1⟩; have q1 := hS.ext b1; have k1 := af.ext hrW b1; clear B1)
      | (go_at_call 109; have _t := m2; clear m2 _t; refine Calls.mono (B2.out _ (q1.ext (ah _ _)) (by simp)) ?_; rintro e W2 ⟨n2, l2, he, q2, k2⟩; obtain ⟨v, hv⟩ : ∃ r : Nat, r = (ns.length + sizes a - 1) := ⟨_, rfl⟩; rw [← hv] at he; subst he; have V : Bx _ := ⟨hv⟩; have q2' := q2.jd (.cells #[.int .i64 (v : Int)] 3); have Q2 : Bx _ := ⟨q2'⟩; have N2 : Bx _ := ⟨n2⟩; clear hv B2 q2' n2)
      | (go_at_call 84; refine Calls.mono (B3.out _ _ Q2.out) ?_; rintro e W3 ⟨n3, rfl, b3⟩; have Q3 : Bx _ := ⟨(Q2.out.ext b3).ext (ah W3 (.cells #[.int .i64 (kd s1), .int .i64 (hd s1).place, .int .i64 n3, .int .i64 (hd s1).num] 62))⟩; have K3 : Bx _ := ⟨(af.ext Q2.out.lt b3).trans (af.alloc (Q2.out.ext b3).lt (.cells #[.int .i64 (kd s1), .int .i64 (hd s1).place, .int .i64 n3, .int .i64 (hd s1).num] 62))⟩; obtain ⟨sb, so, sr⟩ := bJ (o := (.cells #[.int .i64 (kd s1), .int .i64 (hd s1).place, .int .i64 n3, .int .i64 (hd s1).num] 62)) (Q2.out.ext b3) (Below.refl _ _); have SB : Bx _ := ⟨sb⟩; have SO : Bx _ := ⟨so⟩; clear sb so; clear B3 Q2 b3)
      | (go_at_call 102; have _t := m4; clear m4 _t; refine Calls.mono (B5.out _ _ Q3.out) ?_; rintro e W4 (⟨h, _⟩ | ⟨_, rfl, q4, k4⟩); exact absurd h H5.out; have Q4 : Bx _ := ⟨q4⟩; clear B5 Q3 q4)
      | (go_at_call 102; refine Calls.mono (B55.out _ _ Q4.out) ?_; rintro e W5 (⟨h, _⟩ | ⟨_, rfl, q5, k5⟩); exact absurd h H55.out; clear B55; obtain ⟨g2, g3, g4, g5, g6, hrx, hzx, hx2⟩ := kU (k := 35) (p := (hd s).place) (nm := ⟨#[]⟩) (num := 0) q1 k1 k2 q2 N2.out v V.out (K3.out.trans (k4.trans k5)); have G2 : Bx _ := ⟨g2⟩; have G3 : Bx _ := ⟨g3⟩; have G4 : Bx _ := ⟨g4⟩; have G5 : Bx _ := ⟨g5⟩; have G6 : Bx _ := ⟨g6⟩; have Q5 : Bx _ := ⟨q5⟩; clear g2 g3 g4 g5 g6 q5 Q4)
      | (go_at_call 85; refine Calls.mono (B7.out _ _ Q5.out) ?_; rintro e W8 (⟨_, rfl, q8, l8, k8⟩ | ⟨h, _⟩); rotate_left 1; exact absurd h7.out h; obtain ⟨y0, y1, y2, y3, y4, ylt⟩ := dw (bI k8 G5.out hrx G6.out).1; have Q8 : Bx _ := ⟨q8⟩; have K8 : Bx _ := ⟨k8⟩; clear B7 q8 k8)
      | (go_at_call 70; refine Calls.mono (HD.out _ _ _ _ Q5.out G2.out G3.out G4.out Q8.out K8.out N2.out (by omega) _) ?_; rintro e W9 ⟨r9, rfl, hp⟩))
     go_ret
     exact hp
    ·rw [aL h7']
     have h7 : Bx _ := ⟨h7'⟩
     show Calls _ _ _ _ (aj w0 rb ae aa TL xs U W s ns (.err s1))
     clear h7'
     clear hne HE
     go_enter Tryz.func96, Tryz.ntmps96
     go_wp2_with (first
      | (go_at_call 84; have _t := m1; clear m1 _t; refine Calls.mono (B1.out) ?_; rintro e W1 ⟨n1, rfl, b1⟩; have q1 := hS.ext b1; have k1 := af.ext hrW b1; clear B1)
      | (go_at_call 109; have _t := m2; clear m2 _t; refine Calls.mono (B2.out _ (q1.ext (ah _ _)) (by simp)) ?_; rintro e W2 ⟨n2, l2, he, q2, k2⟩; obtain ⟨v, hv⟩ : ∃ r : Nat, r = (ns.length + sizes a - 1) := ⟨_, rfl⟩; rw [← hv] at he; subst he; have V : Bx _ := ⟨hv⟩; have q2' := q2.jd (.cells #[.int .i64 (v : Int)] 3); have Q2 : Bx _ := ⟨q2'⟩; have N2 : Bx _ := ⟨n2⟩; clear hv B2 q2' n2)
      | (go_at_call 84; refine Calls.mono (B3.out _ _ Q2.out) ?_; rintro e W3 ⟨n3, rfl, b3⟩; have Q3 : Bx _ := ⟨(Q2.out.ext b3).ext (ah W3 (.cells #[.int .i64 (kd s1), .int .i64 (hd s1).place, .int .i64 n3, .int .i64 (hd s1).num] 62))⟩; have K3 : Bx _ := ⟨(af.ext Q2.out.lt b3).trans (af.alloc (Q2.out.ext b3).lt (.cells #[.int .i64 (kd s1), .int .i64 (hd s1).place, .int .i64 n3, .int .i64 (hd s1).num] 62))⟩; obtain ⟨sb, so, sr⟩ := bJ (o := (.cells #[.int .i64 (kd s1), .int .i64 (hd s1).place, .int .i64 n3, .int .i64 (hd s1).num] 62)) (Q2.out.ext b3) (Below.refl _ _); have SB : Bx _ := ⟨sb⟩; have SO : Bx _ := ⟨so⟩; clear sb so; clear B3 Q2 b3)
      | (go_at_call 102; have _t := m4; clear m4 _t; refine Calls.mono (B5.out _ _ Q3.out) ?_; rintro e W4 (⟨h, _⟩ | ⟨_, rfl, q4, k4⟩); exact absurd h H5.out; have Q4 : Bx _ := ⟨q4⟩; clear B5 Q3 q4)
      | (go_at_call 102; refine Calls.mono (B55.out _ _ Q4.out) ?_; rintro e W5 (⟨h, _⟩ | ⟨_, rfl, q5, k5⟩); exact absurd h H55.out; clear B55; obtain ⟨g2, g3, g4, g5, g6, hrx, hzx, hx2⟩ := kU (k := 35) (p := (hd s).place) (nm := ⟨#[]⟩) (num := 0) q1 k1 k2 q2 N2.out v V.out (K3.out.trans (k4.trans k5)); have G2 : Bx _ := ⟨g2⟩; have G3 : Bx _ := ⟨g3⟩; have G4 : Bx _ := ⟨g4⟩; have G5 : Bx _ := ⟨g5⟩; have G6 : Bx _ := ⟨g6⟩; have Q5 : Bx _ := ⟨q5⟩; clear g2 g3 g4 g5 g6 q5 Q4)
      | (go_at_call 85; refine Calls.mono (B7.out _ _ Q5.out) ?_; rintro e Wx (⟨h, _⟩ | ⟨_, rfl, b⟩); exact absurd h h7.out; unfold ak))
     exact ⟨rfl, rfl, b⟩
theorem yI (hT : RT w0 rb ae aa TL xs) (hK : aR TL) {f : Nat} (HE : RC w0 rb ae aa TL xs (pF f (.operands 1)) 109 #[]) : RC w0 rb ae aa TL xs (fun s => aC (pF f (.operands 1) s) fun a s1 => if kd s1 = 50 then want 50 s1 fun s2 => aC (pF f (.operands 1) s2) fun b s3 => want 47 s3 fun s4 => mk1 33 s1 0 [] (a ++ b) s4 else if kd s1 = 66 then want 66 s1 fun s2 => aC (pF f (.operands 1) s2) fun b s3 => want 47 s3 fun s4 => mk1 34 s1 0 [] (a ++ b) s4 else want 47 s1 fun s2 => mk1 35 s 0 [] a s2) 96 #[] := fun U W s ns hS hne => yH hT hK HE hS hne
end Go.Proofs.YtecodpdfckjalaaGreatDoor
