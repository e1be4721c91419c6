import Derived.Test.YtecodpdfckjalaaGreatDoorYRPrg
import Derived.Test.YtecodpdfckjalaaGreatDoorYRSim
set_option linter.unusedVariables false
set_option linter.unusedSimpArgs false
set_option maxHeartbeats 4000000
set_option maxRecDepth 100000
namespace Go.Proofs.YtecodpdfckjalaaGreatDoor
open Go.RowKit
variable {w0 : World} {rb : Nat} {ae aa : Value} {TL : List Tok} {xs : List UInt8} {U : Nat -> Prop}
theorem oz {W W2 W4 W5 : World} {s2 s4 : List ai} {ns : List Nd} {a : List Tr} {k p num : Int} {nm : ByteArray} (q2 : RSs w0 rb ae aa TL xs U W2 s2 ns) (kW : af rb W W2) (k4 : af rb (W2.alloc (bf k p nm num)) W4) (q4 : RSs w0 rb ae aa TL xs U W4 s4 (ns ++ ag a ns.length)) (n4 : a.length = 1) (v : Nat) (hv : v = ns.length + sizes a - 1) (k5 : af rb (W4.alloc (.cells #[.int .i64 (v : Int)] 3)) W5) :
  af rb W W5 /\ aQ W5 rb (.slice (some ⟨W4.heap.size, 0, none⟩) 1 1) (ends a ns.length) /\ (∀ y, (Value.slice (some ⟨W4.heap.size, 0, none⟩) 1 1).ownBlock = some y -> W.heap.size <= y /\ y ≠ W2.heap.size) /\ W5.heap[W2.heap.size]? = some (bf k p nm num) /\ cZ W5 rb ≠ some W2.heap.size /\ rb < W2.heap.size := by
 obtain ⟨hb, hown, hrx⟩ := bJ (o := (bf k p nm num)) q2 (Below.refl _ _)
 have ka : af rb W4 W5 := (af.alloc q4.lt _).trans k5
 obtain ⟨hb5, ho5⟩ := bI (k4.trans ka) hb hrx hown
 have hz := kW.size
 have hz4 := k4.size
 simp at hz4
 have r4 := (q4.jd (.cells #[.int .i64 (v : Int)] 3)).ints (row_one (rb := rb) (W := W4) (v := v) q4.lt) k5
 refine ⟨kW.trans ((af.alloc q2.lt _).trans (k4.trans ka)), ?_, fun y hy => ?_, hb5, ho5, hrx⟩
 ·rw [aK n4, ← hv]
  exact r4
 ·simp [Value.ownBlock] at hy
  omega
theorem af.D6 {W W' : World} (h : af rb W W') : af rb W.drew W' := ⟨h.size, h.same, h.own⟩
theorem ve (hT : RT w0 rb ae aa TL xs) (hK : aR TL) {f : Nat} (HT : RC w0 rb ae aa TL xs (pF f .typ) 87 #[]) (HE : RC w0 rb ae aa TL xs (pF f (.operands 1)) 109 #[]) {W : World} {s : List ai} {ns : List Nd} (hS : RSs w0 rb ae aa TL xs U W s ns) (hne : (want 29 s fun s1 => dJ s1 fun n s2 => want 48 s2 fun s3 => aC (pF f .typ s3) fun a s4 => if kd s4 = 50 then want 50 s4 fun s5 => aC (pF f (.operands 1) s5) fun b s6 => want 47 s6 fun s7 => mk1 32 s 0 n (a ++ b) s7 else want 47 s4 fun s5 => mk1 32 s 0 n a s5) ≠ .out) :
  Calls Tryz.prog 89 #[.pointer (some ⟨rb, 0, none⟩)] W (aj w0 rb ae aa TL xs U W s ns (want 29 s fun s1 => dJ s1 fun n s2 => want 48 s2 fun s3 => aC (pF f .typ s3) fun a s4 => if kd s4 = 50 then want 50 s4 fun s5 => aC (pF f (.operands 1) s5) fun b s6 => want 47 s6 fun s7 => mk1 32 s 0 n (a ++ b) s7 else want 47 s4 fun s5 => mk1 32 s 0 n a s5)) := by
 have hrW := hS.lt
 obtain ⟨i0, hi, hz0, hz1, hz2⟩ := info_parts gu
 have HS : Bx (∃ s, RSs w0 rb ae aa TL xs U W s ns) := ⟨⟨s, hS⟩⟩
 have B1 : Bx (∀ W1, RSs w0 rb ae aa TL xs U W1 s ns -> _) := ⟨fun W1 h => bF hT hK h 29 (by decide) ⟨#[118, 97, 114]⟩ (by decide)⟩
 by_cases h1 : kd s = 29
 ·rw [aG h1] at hne ⊢
  have B2 : Bx (∀ W1, RSs w0 rb ae aa TL xs U W1 (tl s) ns -> _) := ⟨fun W1 h => lV hT hK h⟩
  by_cases h2 : kd (tl s) = 1
  ·rw [gZ h2] at hne ⊢
   have B3 : Bx (∀ W1, RSs w0 rb ae aa TL xs U W1 (tl (tl s)) ns -> _) := ⟨fun W1 h => bF hT hK h 48 (by decide) ⟨#[58]⟩ (by decide)⟩
   by_cases h3 : kd (tl (tl s)) = 48
   ·rw [aG h3] at hne ⊢
    have B4 : Bx (∀ W1, RSs w0 rb ae aa TL xs U W1 (tl (tl (tl s))) ns -> pF f .typ (tl (tl (tl s))) ≠ .out -> Calls Tryz.prog 87 #[.pointer (some ⟨rb, 0, none⟩)] W1 (aj w0 rb ae aa TL xs U W1 (tl (tl (tl s))) ns (pF f .typ (tl (tl (tl s)))))) := ⟨fun W1 h hn => HT U W1 (tl (tl (tl s))) ns h hn⟩
    match r4 : pF f .typ (tl (tl (tl s))) with
    | .out => rw [r4] at hne; exact absurd rfl hne
    | .err s4 =>
     rw [r4] at B4
     show Calls _ _ _ _ (aj w0 rb ae aa TL xs U W s ns (.err s4))
     generalize (⟨(hd (tl s)).name.toArray⟩ : ByteArray) = nmB at *
     clear hne HE HT
     go_enter Tryz.func89, Tryz.ntmps89
     go_wp2_with (first
      | (go_at_call 85; refine Calls.mono (B1.out _ hS) ?_; rintro e W1 (⟨_, rfl, q1, l1, k1⟩ | ⟨h, _⟩); rotate_left 1; exact absurd h1 h; clear B1)
      | (go_at_call 86; refine Calls.mono (B2.out _ q1) ?_; rintro e W2 (⟨_, rfl, q2, l2, k2⟩ | ⟨h, _⟩); rotate_left 1; exact absurd h2 h; clear B2)
      | (go_at_call 85; refine Calls.mono (B3.out _ (q2.ext (ah _ _))) ?_; rintro e W3 (⟨_, rfl, q3, l3, k3⟩ | ⟨h, _⟩); rotate_left 1; exact absurd h3 h; clear B3)
      | (go_at_call 87; refine Calls.mono (B4.out _ q3 (by simp)) ?_; rintro e W4 ⟨rfl, b⟩; unfold ak))
     exact ⟨rfl, rfl, b⟩
    | .ok a s4 =>
     rw [r4] at B4 hne
     simp only [aC] at hne ⊢
     have B5 : Bx (∀ U' W1, RSs w0 rb ae aa TL xs U' W1 s4 (ns ++ ag a ns.length) -> _) := ⟨fun U' W1 h => iP (U := U') hT hK h 50 (by decide) ⟨#[61]⟩ (by decide)⟩
     by_cases h5 : kd s4 = 50
     ·rw [if_pos h5, aG h5] at hne ⊢
      have B6 : Bx (∀ U' W1, RSs w0 rb ae aa TL xs U' W1 (tl s4) (ns ++ ag a ns.length) -> pF f (.operands 1) (tl s4) ≠ .out -> Calls Tryz.prog 109 #[.pointer (some ⟨rb, 0, none⟩)] W1 (aj w0 rb ae aa TL xs U' W1 (tl s4) (ns ++ ag a ns.length) (pF f (.operands 1) (tl s4)))) := ⟨fun U' W1 h hn => HE U' W1 (tl s4) (ns ++ ag a ns.length) h hn⟩
      match r6 : pF f (.operands 1) (tl s4) with
      | .out => rw [r6] at hne; exact absurd rfl hne
      | .err s6 =>
       rw [r6] at B6
       show Calls _ _ _ _ (aj w0 rb ae aa TL xs U W s ns (.err s6))
       generalize (⟨(hd (tl s)).name.toArray⟩ : ByteArray) = nmB at *
       clear hne HE HT
       go_enter Tryz.func89, Tryz.ntmps89
       go_wp2_with (first
        | (go_at_call 85; refine Calls.mono (B1.out _ hS) ?_; rintro e W1 (⟨_, rfl, q1, l1, k1⟩ | ⟨h, _⟩); rotate_left 1; exact absurd h1 h; clear B1)
        | (go_at_call 86; refine Calls.mono (B2.out _ q1) ?_; rintro e W2 (⟨_, rfl, q2, l2, k2⟩ | ⟨h, _⟩); rotate_left 1; exact absurd h2 h; clear B2)
        | (go_at_call 85; refine Calls.mono (B3.out _ (q2.ext (ah _ _))) ?_; rintro e W3 (⟨_, rfl, q3, l3, k3⟩ | ⟨h, _⟩); rotate_left 1; exact absurd h3 h; clear B3)
        | (go_at_call 87; refine Calls.mono (B4.out _ q3 (by simp)) ?_; rintro e W4 ⟨n4, l4, he, q4, k4⟩; obtain ⟨v, hv⟩ : ∃ r : Nat, r = (ns.length + sizes a - 1) := ⟨_, rfl⟩; rw [← hv] at he; subst he; have V : Bx _ := ⟨hv⟩; have q4' := q4.jd (.cells #[.int .i64 (v : Int)] 3); have Q4 : Bx _ := ⟨q4'⟩; have N4 : Bx _ := ⟨n4⟩; clear hv B4 q4' n4)
        | (go_at_call 102; refine Calls.mono (B5.out _ _ Q4.out) ?_; rintro e W5 (⟨_, rfl, q5, l5, k5⟩ | ⟨h, _⟩); rotate_left 1; exact absurd h5 h; obtain ⟨g2, g3, g4, g5, g6, hrx⟩ := oz (k := 32) (p := (hd s).place) (nm := nmB) (num := 0) q2 (k1.trans k2) (k3.trans k4) q4 N4.out v V.out k5; have Q5 : Bx _ := ⟨q5⟩; have G2 : Bx _ := ⟨g2⟩; have G3 : Bx _ := ⟨g3⟩; have G4 : Bx _ := ⟨g4⟩; have G5 : Bx _ := ⟨g5⟩; have G6 : Bx _ := ⟨g6⟩; clear g2 g3 g4 g5 g6 B5 Q4 q4 q5)
        | (go_at_call 109; refine Calls.mono (B6.out _ _ Q5.out (by simp)) ?_; rintro e W6 ⟨rfl, b⟩; unfold ak))
       exact ⟨rfl, rfl, b⟩
      | .ok b s6 =>
       rw [r6] at B6 hne
       simp only [] at hne ⊢
       have B7 : Bx (∀ W1, RSs w0 rb ae aa TL xs U W1 s6 (ns ++ ag (a ++ b) ns.length) -> _) := ⟨fun W1 h => bF hT hK h 47 (by decide) ⟨#[59]⟩ (by decide)⟩
       by_cases h7 : kd s6 = 47
       ·rw [aG h7]
        have HD : Bx (∀ w7 W8 gb c, RSs w0 rb ae aa TL xs U w7 s6 (ns ++ ag (a ++ b) ns.length) -> af rb W w7 -> aQ w7 rb (.slice (some ⟨gb, 0, none⟩) (1 + 1) c) (ends (a ++ b) ns.length) -> (∀ g, (some ⟨gb, 0, none⟩ : Option Addr) = some ⟨g, 0, none⟩ -> ¬ U g) -> RSs w0 rb ae aa TL xs U W8 (tl s6) (ns ++ ag (a ++ b) ns.length) -> af rb w7 W8 -> a.length = 1 -> b.length = 1 -> (tl s6).length + (sizes a + sizes b) + 1 <= s.length -> ∀ kv, Calls Tryz.prog 70 #[.pointer (some ⟨rb, 0, none⟩), .agg #[.int .i64 32, .int .i64 (hd s).place, kv, .string ⟨(hd (tl s)).name.toArray⟩, .int .i64 0], .slice (some ⟨gb, 0, none⟩) 2 c] W8 fun e W' => ∃ r : Int, e = .returned (.int .i64 r) /\ aj w0 rb ae aa TL xs U W s ns (.ok [.mk 32 (hd s).place 0 (hd (tl s)).name (a ++ b)] (tl s6)) (.returned (.int .i64 r)) W') := ⟨fun w7 W8 gb c g1 g2 g3 g4 q8 k8 ha hb hl kv => fG hT (a ++ b) q8 (g2.trans k8) (by rw [aI]; omega) ⟨W, hS⟩ 32 (hd s).place 0 (hd (tl s)).name kv (some ⟨gb, 0, none⟩) 2 c (by simp [ha, hb]) (g1.ints g3 k8) g4⟩
        show Calls _ _ _ _ (aj w0 rb ae aa TL xs U W s ns (.ok [.mk 32 (hd s).place 0 (hd (tl s)).name (a ++ b)] (tl s6)))
        generalize (⟨(hd (tl s)).name.toArray⟩ : ByteArray) = nmB at *
        clear hne HE HT
        go_enter Tryz.func89, Tryz.ntmps89
        go_wp2_with (first
         | (go_at_call 85; refine Calls.mono (B1.out _ hS) ?_; rintro e W1 (⟨_, rfl, q1, l1, k1⟩ | ⟨h, _⟩); rotate_left 1; exact absurd h1 h; clear B1)
         | (go_at_call 86; refine Calls.mono (B2.out _ q1) ?_; rintro e W2 (⟨_, rfl, q2, l2, k2⟩ | ⟨h, _⟩); rotate_left 1; exact absurd h2 h; clear B2)
         | (go_at_call 85; refine Calls.mono (B3.out _ (q2.ext (ah _ _))) ?_; rintro e W3 (⟨_, rfl, q3, l3, k3⟩ | ⟨h, _⟩); rotate_left 1; exact absurd h3 h; clear B3)
         | (go_at_call 87; refine Calls.mono (B4.out _ q3 (by simp)) ?_; rintro e W4 ⟨n4, l4, he, q4, k4⟩; obtain ⟨v, hv⟩ : ∃ r : Nat, r = (ns.length + sizes a - 1) := ⟨_, rfl⟩; rw [← hv] at he; subst he; have V : Bx _ := ⟨hv⟩; have q4' := q4.jd (.cells #[.int .i64 (v : Int)] 3); have Q4 : Bx _ := ⟨q4'⟩; have N4 : Bx _ := ⟨n4⟩; clear hv B4 q4' n4)
         | (go_at_call 102; refine Calls.mono (B5.out _ _ Q4.out) ?_; rintro e W5 (⟨_, rfl, q5, l5, k5⟩ | ⟨h, _⟩); rotate_left 1; exact absurd h5 h; obtain ⟨g2, g3, g4, g5, g6, hrx⟩ := oz (k := 32) (p := (hd s).place) (nm := nmB) (num := 0) q2 (k1.trans k2) (k3.trans k4) q4 N4.out v V.out k5; have Q5 : Bx _ := ⟨q5⟩; have G2 : Bx _ := ⟨g2⟩; have G3 : Bx _ := ⟨g3⟩; have G4 : Bx _ := ⟨g4⟩; have G5 : Bx _ := ⟨g5⟩; have G6 : Bx _ := ⟨g6⟩; clear g2 g3 g4 g5 g6 B5 Q4 q4 q5)
         | (go_at_call 109; refine Calls.mono (B6.out _ _ Q5.out (by simp)) ?_; rintro e W6 ⟨n6, l6, he, q6, k6⟩; obtain ⟨v6, hv⟩ : ∃ r : Nat, r = ((ns ++ ag a ns.length).length + sizes b - 1) := ⟨_, rfl⟩; rw [← hv] at he; subst he; obtain ⟨e1, e2, e3, e4⟩ := iQ HS.out N4.out.symm Q5.out G2.out G3.out G4.out G5.out G6.out hrx q6 k6.D6 n6 v6 hv; have E1 : Bx _ := ⟨e1⟩; have E4 : Bx _ := ⟨e4⟩; have N6 : Bx _ := ⟨n6⟩; clear e1 e2 e4 n6 hv q6 k6 B6)
         | (at_builtin; refine wpList_append_lies _ rfl (.tmp 17) (.tmp 20) 39 rfl (rb + 1) 3 i0 (.int .i64 0) 1 8 Tryz.underlying39 hi hz0 hz1 hz2 rfl (by decide) (.slice (some ⟨W4.heap.size, 0, none⟩) 1 1) 1 (bM (ends a ns.length)) rfl (bO E1.out (ah W6 (.cells #[.int .i64 (v6 : Int)] 3))) ⟨W6.heap.size, 0, none⟩ 1 1 [.int .i64 (v6 : Int)] rfl rfl (dD _ _ rfl _) (eF _) (by decide) (by unfold maxLen; omega) (by omega) (by simp; omega) (W6.heap.size + 1) (by simp) ?_; intro gb cp w7 hown hgrow hat hlt7; have F0 := E4.out gb cp w7 hgrow hat hlt7 hown; have F1 : Bx _ := ⟨F0⟩; clear hown hgrow hat F0 E1 E4)
         | (go_at_call 85; refine Calls.mono (B7.out _ F1.out.1) ?_; rintro e W8 (⟨_, rfl, q8, l8, k8⟩ | ⟨h, _⟩); rotate_left 1; exact absurd h7 h; obtain ⟨y0, y1, y2, y3, y4, ylt⟩ := dw (bI k8 F1.out.2.2.2.2.1 hrx F1.out.2.2.2.2.2).1; have Q8 : Bx _ := ⟨q8⟩; have K8 : Bx _ := ⟨k8⟩; clear B7 q8 k8)
         | (go_at_call 70; go_loud (refine Calls.mono (HD.out _ _ _ _ F1.out.1 F1.out.2.1 F1.out.2.2.1 F1.out.2.2.2.1 Q8.out K8.out N4.out N6.out (by omega) _) ?_; rintro e W9 ⟨r9, rfl, hp⟩)))
        go_ret
        exact hp
       ·rw [aL h7]
        show Calls _ _ _ _ (aj w0 rb ae aa TL xs U W s ns (.err s6))
        generalize (⟨(hd (tl s)).name.toArray⟩ : ByteArray) = nmB at *
        clear hne HE HT
        go_enter Tryz.func89, Tryz.ntmps89
        go_wp2_with (first
         | (go_at_call 85; refine Calls.mono (B1.out _ hS) ?_; rintro e W1 (⟨_, rfl, q1, l1, k1⟩ | ⟨h, _⟩); rotate_left 1; exact absurd h1 h; clear B1)
         | (go_at_call 86; refine Calls.mono (B2.out _ q1) ?_; rintro e W2 (⟨_, rfl, q2, l2, k2⟩ | ⟨h, _⟩); rotate_left 1; exact absurd h2 h; clear B2)
         | (go_at_call 85; refine Calls.mono (B3.out _ (q2.ext (ah _ _))) ?_; rintro e W3 (⟨_, rfl, q3, l3, k3⟩ | ⟨h, _⟩); rotate_left 1; exact absurd h3 h; clear B3)
         | (go_at_call 87; refine Calls.mono (B4.out _ q3 (by simp)) ?_; rintro e W4 ⟨n4, l4, he, q4, k4⟩; obtain ⟨v, hv⟩ : ∃ r : Nat, r = (ns.length + sizes a - 1) := ⟨_, rfl⟩; rw [← hv] at he; subst he; have V : Bx _ := ⟨hv⟩; have q4' := q4.jd (.cells #[.int .i64 (v : Int)] 3); have Q4 : Bx _ := ⟨q4'⟩; have N4 : Bx _ := ⟨n4⟩; clear hv B4 q4' n4)
         | (go_at_call 102; refine Calls.mono (B5.out _ _ Q4.out) ?_; rintro e W5 (⟨_, rfl, q5, l5, k5⟩ | ⟨h, _⟩); rotate_left 1; exact absurd h5 h; obtain ⟨g2, g3, g4, g5, g6, hrx⟩ := oz (k := 32) (p := (hd s).place) (nm := nmB) (num := 0) q2 (k1.trans k2) (k3.trans k4) q4 N4.out v V.out k5; have Q5 : Bx _ := ⟨q5⟩; have G2 : Bx _ := ⟨g2⟩; have G3 : Bx _ := ⟨g3⟩; have G4 : Bx _ := ⟨g4⟩; have G5 : Bx _ := ⟨g5⟩; have G6 : Bx _ := ⟨g6⟩; clear g2 g3 g4 g5 g6 B5 Q4 q4 q5)
         | (go_at_call 109; refine Calls.mono (B6.out _ _ Q5.out (by simp)) ?_; rintro e W6 ⟨n6, l6, he, q6, k6⟩; obtain ⟨v6, hv⟩ : ∃ r : Nat, r = ((ns ++ ag a ns.length).length + sizes b - 1) := ⟨_, rfl⟩; rw [← hv] at he; subst he; obtain ⟨e1, e2, e3, e4⟩ := iQ HS.out N4.out.symm Q5.out G2.out G3.out G4.out G5.out G6.out hrx q6 k6.D6 n6 v6 hv; have E1 : Bx _ := ⟨e1⟩; have E4 : Bx _ := ⟨e4⟩; have N6 : Bx _ := ⟨n6⟩; clear e1 e2 e4 n6 hv q6 k6 B6)
         | (at_builtin; refine wpList_append_lies _ rfl (.tmp 17) (.tmp 20) 39 rfl (rb + 1) 3 i0 (.int .i64 0) 1 8 Tryz.underlying39 hi hz0 hz1 hz2 rfl (by decide) (.slice (some ⟨W4.heap.size, 0, none⟩) 1 1) 1 (bM (ends a ns.length)) rfl (bO E1.out (ah W6 (.cells #[.int .i64 (v6 : Int)] 3))) ⟨W6.heap.size, 0, none⟩ 1 1 [.int .i64 (v6 : Int)] rfl rfl (dD _ _ rfl _) (eF _) (by decide) (by unfold maxLen; omega) (by omega) (by simp; omega) (W6.heap.size + 1) (by simp) ?_; intro gb cp w7 hown hgrow hat hlt7; have F0 := E4.out gb cp w7 hgrow hat hlt7 hown; have F1 : Bx _ := ⟨F0⟩; clear hown hgrow hat F0 E1 E4)
         | (go_at_call 85; refine Calls.mono (B7.out _ F1.out.1) ?_; rintro e Wx (⟨h, _⟩ | ⟨_, rfl, b⟩); exact absurd h h7; unfold ak))
        exact ⟨rfl, rfl, b⟩
     ·rw [if_neg h5]
      have B7 : Bx (∀ U' W1, RSs w0 rb ae aa TL xs U' W1 s4 (ns ++ ag a ns.length) -> _) := ⟨fun U' W1 h => bF (U := U') hT hK h 47 (by decide) ⟨#[59]⟩ (by decide)⟩
      by_cases h7 : kd s4 = 47
      ·rw [aG h7]
       have HD : Bx (∀ (W4 W5 W8 : World) (X : Nat), RSs w0 rb ae aa TL xs (Uv U (.slice (some ⟨W4.heap.size, 0, none⟩) 1 1)) W5 s4 (ns ++ ag a ns.length) -> af rb W W5 -> aQ W5 rb (.slice (some ⟨W4.heap.size, 0, none⟩) 1 1) (ends a ns.length) -> (∀ y, (Value.slice (some ⟨W4.heap.size, 0, none⟩) 1 1).ownBlock = some y -> W.heap.size <= y /\ y ≠ X) -> RSs w0 rb ae aa TL xs (Uv U (.slice (some ⟨W4.heap.size, 0, none⟩) 1 1)) W8 (tl s4) (ns ++ ag a ns.length) -> af rb W5 W8 -> a.length = 1 -> (tl s4).length + sizes a + 1 <= s.length -> ∀ kv, Calls Tryz.prog 70 #[.pointer (some ⟨rb, 0, none⟩), .agg #[.int .i64 32, .int .i64 (hd s).place, kv, .string ⟨(hd (tl s)).name.toArray⟩, .int .i64 0], (.slice (some ⟨W4.heap.size, 0, none⟩) 1 1)] W8 fun e W' => ∃ r : Int, e = .returned (.int .i64 r) /\ aj w0 rb ae aa TL xs U W s ns (.ok [.mk 32 (hd s).place 0 (hd (tl s)).name a] (tl s4)) (.returned (.int .i64 r)) W') := ⟨fun W4 W5 W8 X g1 g2 g3 g4 q8 k8 ha hl kv => fG hT a (q8.jD (fun y hy => .inl hy)) (g2.trans k8) hl ⟨W, hS⟩ 32 (hd s).place 0 (hd (tl s)).name kv (some ⟨W4.heap.size, 0, none⟩) 1 1 ha.symm (g1.ints g3 k8) (hS.nC (n := 1) (c := 1) (fun y hy => (g4 y hy).1))⟩
       show Calls _ _ _ _ (aj w0 rb ae aa TL xs U W s ns (.ok [.mk 32 (hd s).place 0 (hd (tl s)).name a] (tl s4)))
       generalize (⟨(hd (tl s)).name.toArray⟩ : ByteArray) = nmB at *
       clear hne HE HT
       go_enter Tryz.func89, Tryz.ntmps89
       go_wp2_with (first
        | (go_at_call 85; refine Calls.mono (B1.out _ hS) ?_; rintro e W1 (⟨_, rfl, q1, l1, k1⟩ | ⟨h, _⟩); rotate_left 1; exact absurd h1 h; clear B1)
        | (go_at_call 86; refine Calls.mono (B2.out _ q1) ?_; rintro e W2 (⟨_, rfl, q2, l2, k2⟩ | ⟨h, _⟩); rotate_left 1; exact absurd h2 h; clear B2)
        | (go_at_call 85; refine Calls.mono (B3.out _ (q2.ext (ah _ _))) ?_; rintro e W3 (⟨_, rfl, q3, l3, k3⟩ | ⟨h, _⟩); rotate_left 1; exact absurd h3 h; clear B3)
        | (go_at_call 87; refine Calls.mono (B4.out _ q3 (by simp)) ?_; rintro e W4 ⟨n4, l4, he, q4, k4⟩; obtain ⟨v, hv⟩ : ∃ r : Nat, r = (ns.length + sizes a - 1) := ⟨_, rfl⟩; rw [← hv] at he; subst he; have V : Bx _ := ⟨hv⟩; have q4' := q4.jd (.cells #[.int .i64 (v : Int)] 3); have Q4 : Bx _ := ⟨q4'⟩; have N4 : Bx _ := ⟨n4⟩; clear hv B4 q4' n4)
        | (go_at_call 102; refine Calls.mono (B5.out _ _ Q4.out) ?_; rintro e W5 (⟨h, _⟩ | ⟨_, rfl, q5, k5⟩); exact absurd h h5; obtain ⟨g2, g3, g4, g5, g6, hrx⟩ := oz (k := 32) (p := (hd s).place) (nm := nmB) (num := 0) q2 (k1.trans k2) (k3.trans k4) q4 N4.out v V.out k5; have Q5 : Bx _ := ⟨q5⟩; have G2 : Bx _ := ⟨g2⟩; have G3 : Bx _ := ⟨g3⟩; have G4 : Bx _ := ⟨g4⟩; have G5 : Bx _ := ⟨g5⟩; have G6 : Bx _ := ⟨g6⟩; clear g2 g3 g4 g5 g6 B5 Q4 q4 q5)
        | (go_at_call 85; refine Calls.mono (B7.out _ _ Q5.out) ?_; rintro e W8 (⟨_, rfl, q8, l8, k8⟩ | ⟨h, _⟩); rotate_left 1; exact absurd h7 h; obtain ⟨y0, y1, y2, y3, y4, ylt⟩ := dw (bI k8 G5.out hrx G6.out).1; have Q8 : Bx _ := ⟨q8⟩; have K8 : Bx _ := ⟨k8⟩; clear B7 q8 k8)
        | (go_at_call 70; go_loud (refine Calls.mono (HD.out _ _ _ _ Q5.out G2.out G3.out G4.out Q8.out K8.out N4.out (by omega) _) ?_; rintro e W9 ⟨r9, rfl, hp⟩)))
       go_ret
       exact hp
      ·rw [aL h7]
       show Calls _ _ _ _ (aj w0 rb ae aa TL xs U W s ns (.err s4))
       generalize (⟨(hd (tl s)).name.toArray⟩ : ByteArray) = nmB at *
       clear hne HE HT
       go_enter Tryz.func89, Tryz.ntmps89
       go_wp2_with (first
        | (go_at_call 85; refine Calls.mono (B1.out _ hS) ?_; rintro e W1 (⟨_, rfl, q1, l1, k1⟩ | ⟨h, _⟩); rotate_left 1; exact absurd h1 h; clear B1)
        | (go_at_call 86; refine Calls.mono (B2.out _ q1) ?_; rintro e W2 (⟨_, rfl, q2, l2, k2⟩ | ⟨h, _⟩); rotate_left 1; exact absurd h2 h; clear B2)
        | (go_at_call 85; refine Calls.mono (B3.out _ (q2.ext (ah _ _))) ?_; rintro e W3 (⟨_, rfl, q3, l3, k3⟩ | ⟨h, _⟩); rotate_left 1; exact absurd h3 h; clear B3)
        | (go_at_call 87; refine Calls.mono (B4.out _ q3 (by simp)) ?_; rintro e W4 ⟨n4, l4, he, q4, k4⟩; obtain ⟨v, hv⟩ : ∃ r : Nat, r = (ns.length + sizes a - 1) := ⟨_, rfl⟩; rw [← hv] at he; subst he; have V : Bx _ := ⟨hv⟩; have q4' := q4.jd (.cells #[.int .i64 (v : Int)] 3); have Q4 : Bx _ := ⟨q4'⟩; have N4 : Bx _ := ⟨n4⟩; clear hv B4 q4' n4)
        | (go_at_call 102; refine Calls.mono (B5.out _ _ Q4.out) ?_; rintro e W5 (⟨h, _⟩ | ⟨_, rfl, q5, k5⟩); exact absurd h h5; obtain ⟨g2, g3, g4, g5, g6, hrx⟩ := oz (k := 32) (p := (hd s).place) (nm := nmB) (num := 0) q2 (k1.trans k2) (k3.trans k4) q4 N4.out v V.out k5; have Q5 : Bx _ := ⟨q5⟩; have G2 : Bx _ := ⟨g2⟩; have G3 : Bx _ := ⟨g3⟩; have G4 : Bx _ := ⟨g4⟩; have G5 : Bx _ := ⟨g5⟩; have G6 : Bx _ := ⟨g6⟩; clear g2 g3 g4 g5 g6 B5 Q4 q4 q5)
        | (go_at_call 85; refine Calls.mono (B7.out _ _ Q5.out) ?_; rintro e Wx (⟨h, _⟩ | ⟨_, rfl, b⟩); exact absurd h h7; unfold ak))
       exact ⟨rfl, rfl, b⟩
   ·rw [aL h3]
    show Calls _ _ _ _ (aj w0 rb ae aa TL xs U W s ns (.err (tl (tl s))))
    generalize (⟨(hd (tl s)).name.toArray⟩ : ByteArray) = nmB at *
    clear hne HE HT
    go_enter Tryz.func89, Tryz.ntmps89
    go_wp2_with (first
     | (go_at_call 85; refine Calls.mono (B1.out _ hS) ?_; rintro e W1 (⟨_, rfl, q1, l1, k1⟩ | ⟨h, _⟩); rotate_left 1; exact absurd h1 h; clear B1)
     | (go_at_call 86; refine Calls.mono (B2.out _ q1) ?_; rintro e W2 (⟨_, rfl, q2, l2, k2⟩ | ⟨h, _⟩); rotate_left 1; exact absurd h2 h; clear B2)
     | (go_at_call 85; refine Calls.mono (B3.out _ (q2.ext (ah _ _))) ?_; rintro e Wx (⟨h, _⟩ | ⟨_, rfl, b⟩); exact absurd h h3; unfold ak))
    exact ⟨rfl, rfl, b⟩
  ·rw [jh h2]
   show Calls _ _ _ _ (aj w0 rb ae aa TL xs U W s ns (.err (tl s)))
   clear hne HE HT
   go_enter Tryz.func89, Tryz.ntmps89
   go_wp2_with (first
    | (go_at_call 85; refine Calls.mono (B1.out _ hS) ?_; rintro e W1 (⟨_, rfl, q1, l1, k1⟩ | ⟨h, _⟩); rotate_left 1; exact absurd h1 h; clear B1)
    | (go_at_call 86; refine Calls.mono (B2.out _ q1) ?_; rintro e W2 (⟨h, _⟩ | ⟨_, rfl, b⟩); exact absurd h h2; unfold ak))
   exact ⟨rfl, rfl, b⟩
 ·rw [aL h1]
  show Calls _ _ _ _ (aj w0 rb ae aa TL xs U W s ns (.err s))
  clear hne HE HT
  go_enter Tryz.func89, Tryz.ntmps89
  go_wp2_with (first
   | (go_at_call 85; refine Calls.mono (B1.out _ hS) ?_; rintro e Wx (⟨h, _⟩ | ⟨_, rfl, b⟩); exact absurd h h1; unfold ak))
  exact ⟨rfl, rfl, b⟩
end Go.Proofs.YtecodpdfckjalaaGreatDoor
namespace Go.Proofs.YtecodpdfckjalaaGreatDoor
open Go.RowKit
variable {w0 : World} {rb : Nat} {ae aa : Value} {TL : List Tok} {xs : List UInt8} {U : Nat -> Prop}
theorem F7 {W W4 W5 : World} {s4 s5 : List ai} {ns : List Nd} {e c : List Tr} {av : Option Addr} {m cc : Nat} (hS : ∃ s, RSs w0 rb ae aa TL xs U W s ns) (hm : m = e.length) (g1 : RSs w0 rb ae aa TL xs (Uv U (.slice av m cc)) W4 s4 (ns ++ ag e ns.length)) (g2 : af rb W W4) (g3 : aQ W4 rb (.slice av m cc) (ends e ns.length)) (g4 : ∀ y, (Value.slice av m cc).ownBlock = some y -> W.heap.size <= y) (q5 : RSs w0 rb ae aa TL xs (Uv U (.slice av m cc)) W5 s5 ((ns ++ ag e ns.length) ++ ag c (ns ++ ag e ns.length).length)) (k5 : af rb W4 W5) (n5 : c.length = 1) (v : Nat) (hv : v = (ns ++ ag e ns.length).length + sizes c - 1) :
  W5.ownsRow (rb + 1) 3 1 (.slice av m cc) m (bM (ends e ns.length)) /\ rb < W5.heap.size /\ ∀ g2 cp w7, (W5.alloc (.cells #[.int .i64 (v : Int)] 3)).grownBy w7 (Value.slice av m cc).ownBlock -> ((Value.slice av m cc).ownBlock = some g2 ∨ g2 = W5.heap.size + 1) -> g2 < w7.heap.size -> w7.ownsRow (rb + 1) 3 1 (.slice (some ⟨g2, 0, none⟩) (m + 1) cp) (m + 1) (bM (ends e ns.length) ++ [.int .i64 (v : Int)]) -> RSs w0 rb ae aa TL xs U w7 s5 (ns ++ ag (e ++ c) ns.length) /\ af rb W w7 /\ aQ w7 rb (.slice (some ⟨g2, 0, none⟩) (m + 1) cp) (ends (e ++ c) ns.length) /\ (∀ g, (some ⟨g2, 0, none⟩ : Option Addr) = some ⟨g, 0, none⟩ -> ¬ U g) := by
 have hrow := g1.ints g3 k5
 refine ⟨by unfold aQ at hrow; rw [cz, ← hm] at hrow; exact hrow, q5.lt, fun g2' cp w7 hg hat hl7 hown7 => ?_⟩
 obtain ⟨p1, p2⟩ := q5.grown hrow hg g2' (m + 1) cp hat hl7
 obtain ⟨p3, p4⟩ := p2 W (g2.trans k5) g4
 have hends : ends (e ++ c) ns.length = ends e ns.length ++ [(v : Int)] := by rw [bD, aK n5, hv, dV]
 refine ⟨?_, p3, ?_, ?_⟩
 ·rw [bP] at p1
  exact p1.jD (fun y hy => .inl hy)
 ·unfold aQ
  rw [hends, List.length_append, cz, bM, List.map_append]
  subst hm
  exact hown7
 ·intro g hg' hU
  simp only [Option.some.injEq, Addr.mk.injEq] at hg'
  obtain ⟨s, _, _, _, _, _, hUb⟩ := hS
  have := hUb g hU
  omega
theorem vg {W W3 W4 : World} {s3 : List ai} {ns : List Nd} {a b : List Tr} (q3 : RSs w0 rb ae aa TL xs U W3 s3 (ns ++ ag (a ++ b) ns.length)) (k3 : af rb W W3) (na : a.length = 1) (nb : b.length = 1) (v2 v3 : Nat) (h2 : v2 = ns.length + sizes a - 1) (h3 : v3 = (ns ++ ag a ns.length).length + sizes b - 1) (k4 : af rb (W3.alloc (.cells #[.int .i64 (v2 : Int), .int .i64 (v3 : Int)] 3)) W4) :
  af rb W W4 /\ aQ W4 rb (.slice (some ⟨W3.heap.size, 0, none⟩) 2 2) (ends (a ++ b) ns.length) /\ ∀ y, (Value.slice (some ⟨W3.heap.size, 0, none⟩) 2 2).ownBlock = some y -> W.heap.size <= y := by
 have en : ends (a ++ b) ns.length = [(v2 : Int), (v3 : Int)] := by rw [bD, aK na, aK nb, h2, h3, dV]; rfl
 have hI := dz (rb := rb) (W := W3) (o := #[.int .i64 (v2 : Int), .int .i64 (v3 : Int)]) (ys := ends (a ++ b) ns.length) (n := 2) (by rw [en]; rfl) (by decide) (by decide) q3.lt (by rw [en]; rfl)
 have hz := k3.size
 exact ⟨k3.trans ((af.alloc q3.lt _).trans k4), (q3.ext (ah W3 (.cells #[.int .i64 (v2 : Int), .int .i64 (v3 : Int)] 3))).ints hI k4, fun y hy => by simp [Value.ownBlock] at hy; omega⟩
theorem RSs.wV {W : World} {s : List ai} {ns : List Nd} (h : RSs w0 rb ae aa TL xs U W s ns) (o : Obj) : RSs w0 rb ae aa TL xs (Uv U (.slice (some ⟨W.heap.size, 0, none⟩) 2 2)) (W.alloc o) s ns := h.jd o
theorem yG (hT : RT w0 rb ae aa TL xs) (hK : aR TL) {f : Nat} {O : List ai -> Res} (HE : RC w0 rb ae aa TL xs (pF f (.operands 1)) 109 #[]) (HB : RC w0 rb ae aa TL xs (pF f .block) 95 #[]) (HO : RC w0 rb ae aa TL xs O 110 #[]) {W : World} {s : List ai} {ns : List Nd} (hS : RSs w0 rb ae aa TL xs U W s ns) (hne : (want 18 s fun s1 => aC (pF f (.operands 1) s1) fun a s2 => aC (pF f .block s2) fun b s3 => if kd s3 = 15 then want 15 s3 fun s4 => aC (O s4) fun c s5 => mk1 36 s 0 [] (a ++ (b ++ c)) s5 else mk1 36 s 0 [] (a ++ b) s3) ≠ .out) :
  Calls Tryz.prog 90 #[.pointer (some ⟨rb, 0, none⟩)] W (aj w0 rb ae aa TL xs U W s ns (want 18 s fun s1 => aC (pF f (.operands 1) s1) fun a s2 => aC (pF f .block s2) fun b s3 => if kd s3 = 15 then want 15 s3 fun s4 => aC (O s4) fun c s5 => mk1 36 s 0 [] (a ++ (b ++ c)) s5 else mk1 36 s 0 [] (a ++ b) s3)) := by
 have hrW := hS.lt
 obtain ⟨i0, hi, hz0, hz1, hz2⟩ := info_parts gu
 have HS : Bx (∃ s, RSs w0 rb ae aa TL xs U W s ns) := ⟨⟨s, hS⟩⟩
 have B1 : Bx (∀ W1, RSs w0 rb ae aa TL xs U W1 s ns -> _) := ⟨fun W1 h => bF hT hK h 18 (by decide) ⟨#[105, 102]⟩ (by decide)⟩
 by_cases h1 : kd s = 18
 ·rw [aG h1] at hne ⊢
  have B2 : Bx (∀ W1, RSs w0 rb ae aa TL xs U W1 (tl s) ns -> pF f (.operands 1) (tl s) ≠ .out -> Calls Tryz.prog 109 #[.pointer (some ⟨rb, 0, none⟩)] W1 (aj w0 rb ae aa TL xs U W1 (tl s) ns (pF f (.operands 1) (tl s)))) := ⟨fun W1 h hn => HE U W1 (tl s) ns h hn⟩
  match r2 : pF f (.operands 1) (tl s) with
  | .out => rw [r2] at hne; exact absurd rfl hne
  | .err s2 =>
   rw [r2] at B2
   show Calls _ _ _ _ (aj w0 rb ae aa TL xs U W s ns (.err s2))
   clear hne HE HB HO
   go_enter Tryz.func90, Tryz.ntmps90
   go_wp2_with (first
    | (go_at_call 85; refine Calls.mono (B1.out _ hS) ?_; rintro e W1 (⟨_, rfl, q1, l1, k1⟩ | ⟨h, _⟩); rotate_left 1; exact absurd h1 h; clear B1)
    | (go_at_call 109; refine Calls.mono (B2.out _ q1 (by simp)) ?_; rintro e W2 ⟨rfl, b⟩; unfold ak))
   exact ⟨rfl, rfl, b⟩
  | .ok a s2 =>
   rw [r2] at B2 hne
   simp only [aC] at hne ⊢
   have B3 : Bx (∀ W1, RSs w0 rb ae aa TL xs U W1 s2 (ns ++ ag a ns.length) -> pF f .block s2 ≠ .out -> Calls Tryz.prog 95 #[.pointer (some ⟨rb, 0, none⟩)] W1 (aj w0 rb ae aa TL xs U W1 s2 (ns ++ ag a ns.length) (pF f .block s2))) := ⟨fun W1 h hn => HB U W1 s2 (ns ++ ag a ns.length) h hn⟩
   match r3 : pF f .block s2 with
   | .out => rw [r3] at hne; exact absurd rfl hne
   | .err s3 =>
    rw [r3] at B3
    show Calls _ _ _ _ (aj w0 rb ae aa TL xs U W s ns (.err s3))
    clear hne HE HB HO
    go_enter Tryz.func90, Tryz.ntmps90
    go_wp2_with (first
     | (go_at_call 85; refine Calls.mono (B1.out _ hS) ?_; rintro e W1 (⟨_, rfl, q1, l1, k1⟩ | ⟨h, _⟩); rotate_left 1; exact absurd h1 h; clear B1)
     | (go_at_call 109; refine Calls.mono (B2.out _ q1 (by simp)) ?_; rintro e W2 ⟨n2, l2, he, q2, k2⟩; obtain ⟨v2, hv⟩ : ∃ r : Nat, r = (ns.length + sizes a - 1) := ⟨_, rfl⟩; rw [← hv] at he; subst he; have V2 : Bx _ := ⟨hv⟩; have N2 : Bx _ := ⟨n2⟩; clear hv B2 n2)
     | (go_at_call 95; refine Calls.mono (B3.out _ q2 (by simp)) ?_; rintro e W3 ⟨rfl, b⟩; unfold ak))
    exact ⟨rfl, rfl, b⟩
   | .ok b s3 =>
    rw [r3] at B3 hne
    simp only [] at hne ⊢
    have B4 : Bx (∀ U' W1, RSs w0 rb ae aa TL xs U' W1 s3 (ns ++ ag (a ++ b) ns.length) -> _) := ⟨fun U' W1 h => iP (U := U') hT hK h 15 (by decide) ⟨#[101, 108, 115, 101]⟩ (by decide)⟩
    by_cases h4 : kd s3 = 15
    ·rw [if_pos h4, aG h4] at hne ⊢
     have B5 : Bx (∀ U' W1, RSs w0 rb ae aa TL xs U' W1 (tl s3) (ns ++ ag (a ++ b) ns.length) -> O (tl s3) ≠ .out -> Calls Tryz.prog 110 #[.pointer (some ⟨rb, 0, none⟩)] W1 (aj w0 rb ae aa TL xs U' W1 (tl s3) (ns ++ ag (a ++ b) ns.length) (O (tl s3)))) := ⟨fun U' W1 h hn => HO U' W1 (tl s3) (ns ++ ag (a ++ b) ns.length) h hn⟩
     match r5 : O (tl s3) with
     | .out => rw [r5] at hne; exact absurd rfl hne
     | .err s5 =>
      rw [r5] at B5
      show Calls _ _ _ _ (aj w0 rb ae aa TL xs U W s ns (.err s5))
      clear hne HE HB HO
      go_enter Tryz.func90, Tryz.ntmps90
      go_wp2_with (first
       | (go_at_call 85; refine Calls.mono (B1.out _ hS) ?_; rintro e W1 (⟨_, rfl, q1, l1, k1⟩ | ⟨h, _⟩); rotate_left 1; exact absurd h1 h; clear B1)
       | (go_at_call 109; refine Calls.mono (B2.out _ q1 (by simp)) ?_; rintro e W2 ⟨n2, l2, he, q2, k2⟩; obtain ⟨v2, hv⟩ : ∃ r : Nat, r = (ns.length + sizes a - 1) := ⟨_, rfl⟩; rw [← hv] at he; subst he; have V2 : Bx _ := ⟨hv⟩; have N2 : Bx _ := ⟨n2⟩; clear hv B2 n2)
       | (go_at_call 95; refine Calls.mono (B3.out _ q2 (by simp)) ?_; rintro e W3 ⟨n3, l3, he, q3, k3⟩; obtain ⟨v3, hv⟩ : ∃ r : Nat, r = ((ns ++ ag a ns.length).length + sizes b - 1) := ⟨_, rfl⟩; rw [← hv] at he; subst he; rw [bP] at q3; have V3 : Bx _ := ⟨hv⟩; have N3 : Bx _ := ⟨n3⟩; have q3' := q3.wV (.cells #[.int .i64 (v2 : Int), .int .i64 (v3 : Int)] 3); have Q3 : Bx _ := ⟨q3'⟩; clear hv B3 n3 q3')
       | (go_at_call 102; refine Calls.mono (B4.out _ _ Q3.out) ?_; rintro e W4 (⟨_, rfl, q4, l4, k4⟩ | ⟨h, _⟩); rotate_left 1; exact absurd h4 h; obtain ⟨g2, g3, g4⟩ := vg q3 (k1.trans (k2.trans k3)) N2.out N3.out v2 v3 V2.out V3.out k4; have Q4 : Bx _ := ⟨q4⟩; have G2 : Bx _ := ⟨g2⟩; have G3 : Bx _ := ⟨g3⟩; have G4 : Bx _ := ⟨g4⟩; clear g2 g3 g4 q4 B4 Q3 q3 k3 k4)
       | (go_at_call 110; refine Calls.mono (B5.out _ _ Q4.out (by simp)) ?_; rintro e W5 ⟨rfl, b⟩; unfold ak))
      exact ⟨rfl, rfl, b⟩
     | .ok c s5 =>
      rw [r5] at B5
      have HD : Bx (∀ (w7 : World) (gb cp : Nat), RSs w0 rb ae aa TL xs U w7 s5 (ns ++ ag ((a ++ b) ++ c) ns.length) -> af rb W w7 -> aQ w7 rb (.slice (some ⟨gb, 0, none⟩) (2 + 1) cp) (ends ((a ++ b) ++ c) ns.length) -> (∀ g, (some ⟨gb, 0, none⟩ : Option Addr) = some ⟨g, 0, none⟩ -> ¬ U g) -> a.length = 1 -> b.length = 1 -> c.length = 1 -> s5.length + (sizes a + sizes b + sizes c) + 1 <= s.length -> ∀ kv, Calls Tryz.prog 70 #[.pointer (some ⟨rb, 0, none⟩), .agg #[.int .i64 36, .int .i64 (hd s).place, kv, .string ⟨#[]⟩, .int .i64 0], .slice (some ⟨gb, 0, none⟩) 3 cp] w7 fun e W' => ∃ r : Int, e = .returned (.int .i64 r) /\ aj w0 rb ae aa TL xs U W s ns (.ok [.mk 36 (hd s).place 0 [] (a ++ (b ++ c))] s5) (.returned (.int .i64 r)) W') := ⟨fun w7 gb cp q k r n ha hb hc hl kv => by
       rw [List.append_assoc] at q r
       exact fG hT (a ++ (b ++ c)) q k (by rw [aI, aI]; omega) ⟨W, hS⟩ 36 (hd s).place 0 [] kv (some ⟨gb, 0, none⟩) 3 cp (by simp [ha, hb, hc]) r n⟩
      show Calls _ _ _ _ (aj w0 rb ae aa TL xs U W s ns (.ok [.mk 36 (hd s).place 0 [] (a ++ (b ++ c))] s5))
      clear hne HE HB HO
      go_enter Tryz.func90, Tryz.ntmps90
      go_wp2_with (first
       | (go_at_call 85; refine Calls.mono (B1.out _ hS) ?_; rintro e W1 (⟨_, rfl, q1, l1, k1⟩ | ⟨h, _⟩); rotate_left 1; exact absurd h1 h; clear B1)
       | (go_at_call 109; refine Calls.mono (B2.out _ q1 (by simp)) ?_; rintro e W2 ⟨n2, l2, he, q2, k2⟩; obtain ⟨v2, hv⟩ : ∃ r : Nat, r = (ns.length + sizes a - 1) := ⟨_, rfl⟩; rw [← hv] at he; subst he; have V2 : Bx _ := ⟨hv⟩; have N2 : Bx _ := ⟨n2⟩; clear hv B2 n2)
       | (go_at_call 95; refine Calls.mono (B3.out _ q2 (by simp)) ?_; rintro e W3 ⟨n3, l3, he, q3, k3⟩; obtain ⟨v3, hv⟩ : ∃ r : Nat, r = ((ns ++ ag a ns.length).length + sizes b - 1) := ⟨_, rfl⟩; rw [← hv] at he; subst he; rw [bP] at q3; have V3 : Bx _ := ⟨hv⟩; have N3 : Bx _ := ⟨n3⟩; have q3' := q3.wV (.cells #[.int .i64 (v2 : Int), .int .i64 (v3 : Int)] 3); have Q3 : Bx _ := ⟨q3'⟩; clear hv B3 n3 q3')
       | (go_at_call 102; refine Calls.mono (B4.out _ _ Q3.out) ?_; rintro e W4 (⟨_, rfl, q4, l4, k4⟩ | ⟨h, _⟩); rotate_left 1; exact absurd h4 h; obtain ⟨g2, g3, g4⟩ := vg q3 (k1.trans (k2.trans k3)) N2.out N3.out v2 v3 V2.out V3.out k4; have Q4 : Bx _ := ⟨q4⟩; have G2 : Bx _ := ⟨g2⟩; have G3 : Bx _ := ⟨g3⟩; have G4 : Bx _ := ⟨g4⟩; clear g2 g3 g4 q4 B4 Q3 q3 k3 k4)
       | (go_at_call 110; refine Calls.mono (B5.out _ _ Q4.out (by simp)) ?_; rintro e W5 ⟨n5, l5, he, q5, k5⟩; obtain ⟨v5, hv⟩ : ∃ r : Nat, r = ((ns ++ ag (a ++ b) ns.length).length + sizes c - 1) := ⟨_, rfl⟩; rw [← hv] at he; subst he; obtain ⟨e1, e3, e4⟩ := F7 HS.out (by rw [List.length_append, N2.out, N3.out]) Q4.out G2.out G3.out G4.out q5 k5 n5 v5 hv; have E1 : Bx _ := ⟨e1⟩; have E4 : Bx _ := ⟨e4⟩; have N5 : Bx _ := ⟨n5⟩; clear e1 e4 n5 hv q5 k5 B5)
       | (at_builtin; refine wpList_append_lies _ rfl (.tmp 14) (.tmp 17) 39 rfl (rb + 1) 3 i0 (.int .i64 0) 1 8 Tryz.underlying39 hi hz0 hz1 hz2 rfl (by decide) (.slice (some ⟨W3.heap.size, 0, none⟩) 2 2) 2 (bM (ends (a ++ b) ns.length)) rfl (bO E1.out (ah W5 (.cells #[.int .i64 (v5 : Int)] 3))) ⟨W5.heap.size, 0, none⟩ 1 1 [.int .i64 (v5 : Int)] rfl rfl (dD _ _ rfl _) (eF _) (by decide) (by unfold maxLen; omega) (by omega) (by simp; omega) (W5.heap.size + 1) (by simp) ?_; intro gb cp w7 hown hgrow hat hlt7; have F0 := E4.out gb cp w7 hgrow hat hlt7 hown; have F1 : Bx _ := ⟨F0⟩; clear hown hgrow hat F0 E1 E4)
       | (go_at_call 70; go_loud (refine Calls.mono (HD.out _ _ _ F1.out.1 F1.out.2.1 F1.out.2.2.1 F1.out.2.2.2 N2.out N3.out N5.out (by omega) _) ?_; rintro e W9 ⟨r9, rfl, hp⟩)))
      go_ret
      exact hp
    ·rw [if_neg h4]
     have HD : Bx (∀ W3 W4 : World, RSs w0 rb ae aa TL xs (Uv U (.slice (some ⟨W3.heap.size, 0, none⟩) 2 2)) W4 s3 (ns ++ ag (a ++ b) ns.length) -> af rb W W4 -> aQ W4 rb (.slice (some ⟨W3.heap.size, 0, none⟩) 2 2) (ends (a ++ b) ns.length) -> (∀ y, (Value.slice (some ⟨W3.heap.size, 0, none⟩) 2 2).ownBlock = some y -> W.heap.size <= y) -> a.length = 1 -> b.length = 1 -> s3.length + (sizes a + sizes b) + 1 <= s.length -> ∀ kv, Calls Tryz.prog 70 #[.pointer (some ⟨rb, 0, none⟩), .agg #[.int .i64 36, .int .i64 (hd s).place, kv, .string ⟨#[]⟩, .int .i64 0], (.slice (some ⟨W3.heap.size, 0, none⟩) 2 2)] W4 fun e W' => ∃ r : Int, e = .returned (.int .i64 r) /\ aj w0 rb ae aa TL xs U W s ns (.ok [.mk 36 (hd s).place 0 [] (a ++ b)] s3) (.returned (.int .i64 r)) W') := ⟨fun W3 W4 q k r n ha hb hl kv => fG hT (a ++ b) (q.jD (fun y hy => .inl hy)) k (by rw [aI]; omega) ⟨W, hS⟩ 36 (hd s).place 0 [] kv (some ⟨W3.heap.size, 0, none⟩) 2 2 (by simp [ha, hb]) r (hS.nC n)⟩
     show Calls _ _ _ _ (aj w0 rb ae aa TL xs U W s ns (.ok [.mk 36 (hd s).place 0 [] (a ++ b)] s3))
     clear hne HE HB HO
     go_enter Tryz.func90, Tryz.ntmps90
     go_wp2_with (first
      | (go_at_call 85; refine Calls.mono (B1.out _ hS) ?_; rintro e W1 (⟨_, rfl, q1, l1, k1⟩ | ⟨h, _⟩); rotate_left 1; exact absurd h1 h; clear B1)
      | (go_at_call 109; refine Calls.mono (B2.out _ q1 (by simp)) ?_; rintro e W2 ⟨n2, l2, he, q2, k2⟩; obtain ⟨v2, hv⟩ : ∃ r : Nat, r = (ns.length + sizes a - 1) := ⟨_, rfl⟩; rw [← hv] at he; subst he; have V2 : Bx _ := ⟨hv⟩; have N2 : Bx _ := ⟨n2⟩; clear hv B2 n2)
      | (go_at_call 95; refine Calls.mono (B3.out _ q2 (by simp)) ?_; rintro e W3 ⟨n3, l3, he, q3, k3⟩; obtain ⟨v3, hv⟩ : ∃ r : Nat, r = ((ns ++ ag a ns.length).length + sizes b - 1) := ⟨_, rfl⟩; rw [← hv] at he; subst he; rw [bP] at q3; have V3 : Bx _ := ⟨hv⟩; have N3 : Bx _ := ⟨n3⟩; have q3' := q3.wV (.cells #[.int .i64 (v2 : Int), .int .i64 (v3 : Int)] 3); have Q3 : Bx _ := ⟨q3'⟩; clear hv B3 n3 q3')
      | (go_at_call 102; refine Calls.mono (B4.out _ _ Q3.out) ?_; rintro e W4 (⟨h, _⟩ | ⟨_, rfl, q4, k4⟩); exact absurd h h4; obtain ⟨g2, g3, g4⟩ := vg q3 (k1.trans (k2.trans k3)) N2.out N3.out v2 v3 V2.out V3.out k4; have Q4 : Bx _ := ⟨q4⟩; have G2 : Bx _ := ⟨g2⟩; have G3 : Bx _ := ⟨g3⟩; have G4 : Bx _ := ⟨g4⟩; clear g2 g3 g4 q4 B4 Q3 q3 k3 k4)
      | (go_at_call 70; go_loud (refine Calls.mono (HD.out _ _ Q4.out G2.out G3.out G4.out N2.out N3.out (by omega) _) ?_; rintro e W9 ⟨r9, rfl, hp⟩)))
     go_ret
     exact hp
 ·rw [aL h1]
  show Calls _ _ _ _ (aj w0 rb ae aa TL xs U W s ns (.err s))
  clear hne HE HB HO
  go_enter Tryz.func90, Tryz.ntmps90
  go_wp2_with (first
   | (go_at_call 85; refine Calls.mono (B1.out _ hS) ?_; rintro e W1 (⟨h, _⟩ | ⟨_, rfl, b⟩); exact absurd h h1; unfold ak))
  exact ⟨rfl, rfl, b⟩
end Go.Proofs.YtecodpdfckjalaaGreatDoor
