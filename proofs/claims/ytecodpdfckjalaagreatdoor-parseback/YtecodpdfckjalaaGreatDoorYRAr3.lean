import Derived.Test.YtecodpdfckjalaaGreatDoorYRArm
set_option linter.unusedVariables false
set_option linter.unusedSimpArgs false
set_option maxHeartbeats 4000000
set_option maxRecDepth 100000
namespace Go.Proofs.YtecodpdfckjalaaGreatDoor
open Go.RowKit
variable {w0 : World} {rb : Nat} {ae aa : Value} {TL : List Tok} {xs : List UInt8} {U : Nat -> Prop}
theorem Lm (hT : RT w0 rb ae aa TL xs) (hK : aR TL) {f : Nat} (HE : RC w0 rb ae aa TL xs (pF f (.operands 1)) 109 #[]) (HB : RC w0 rb ae aa TL xs (pF f .block) 95 #[]) {W : World} {s : List ai} {ns : List Nd} (hS : RSs w0 rb ae aa TL xs U W s ns) (h1 : kd s = 13) (h2 : kd (tl s) ≠ 65) (h3 : nmB (tl s) = false) (hne : (aC (pF f (.operands 1) (tl s)) fun a s2 => want 66 s2 fun s3 => aC (pF f (.operands 1) s3) fun b s4 => aC (pF f .block s4) fun c s5 => mk1 44 s 0 [] (a ++ (b ++ c)) s5) ≠ .out) :
  Calls Tryz.prog 111 #[.pointer (some ⟨rb, 0, none⟩)] W (aj w0 rb ae aa TL xs U W s ns (aC (pF f (.operands 1) (tl s)) fun a s2 => want 66 s2 fun s3 => aC (pF f (.operands 1) s3) fun b s4 => aC (pF f .block s4) fun c s5 => mk1 44 s 0 [] (a ++ (b ++ c)) s5)) := by
 have hrW := hS.lt
 have B1 : Bx (∀ W1, RSs w0 rb ae aa TL xs U W1 s ns -> _) := ⟨fun W1 h => bF hT hK h 13 (by decide) ⟨#[99, 97, 115, 101]⟩ (by decide)⟩
 have B2 : Bx (∀ W1, RSs w0 rb ae aa TL xs U W1 (tl s) ns -> _) := ⟨fun W1 h => iP hT hK h 65 (by decide) ⟨#[60, 45]⟩ (by decide)⟩
 have H1 : Bx _ := ⟨h1⟩
 have H2 : Bx _ := ⟨h2⟩
 clear h1 h2
 have BN : Bx (∀ W1, RSs w0 rb ae aa TL xs U W1 (tl s) ns -> _) := ⟨fun W1 h => mr hT hK h⟩
 have H3 : Bx _ := ⟨h3⟩
 clear h3
 have m1 : True := trivial
 have BE : Bx (∀ W1, RSs w0 rb ae aa TL xs U W1 (tl s) ns -> pF f (.operands 1) (tl s) ≠ .out -> Calls Tryz.prog 109 #[.pointer (some ⟨rb, 0, none⟩)] W1 (aj w0 rb ae aa TL xs U W1 (tl s) ns (pF f (.operands 1) (tl s)))) := ⟨fun W1 h hn => HE U W1 (tl s) ns h hn⟩
 match r2 : pF f (.operands 1) (tl s) with
 | .out => rw [r2] at hne; exact absurd rfl hne
 | .err s2 =>
  rw [r2] at BE
  show Calls _ _ _ _ (aj w0 rb ae aa TL xs U W s ns (.err s2))
  clear hne HE HB
  go_enter Tryz.func111, Tryz.ntmps111
  go_wp2_with (first
   | (go_at_call 85; refine Calls.mono (B1.out _ hS) ?_; rintro e W1 (⟨_, rfl, q1, l1, k1⟩ | ⟨h, _⟩); rotate_left 1; exact absurd H1.out h; clear B1)
   | (go_at_call 102; refine Calls.mono (B2.out _ (q1.ext (ah _ _))) ?_; rintro e W2 (⟨h, _⟩ | ⟨_, rfl, q2, k2⟩); exact absurd h H2.out; obtain ⟨hb, hown, hrx⟩ := bJ (o := (bf 43 (hd s).place ⟨#[]⟩ 0)) q1 (Below.refl _ _); have as1 := (ArS.mk (q1.ext (ah _ _)) (k1.trans (af.alloc q1.lt _)) hb hown hrx : ArS w0 rb ae aa TL xs U W (W1.alloc (bf 43 (hd s).place ⟨#[]⟩ 0)) (tl s) ns W1.heap.size 43 (hd s).place ⟨#[]⟩).to q2 k2; have AS1 : Bx _ := ⟨as1⟩; have hz1 := k1.size; clear hb hown hrx q2 k2 B2 as1)
   | (go_at_call 127; refine Calls.mono (BN.out _ AS1.out.q) ?_; rintro e W20 ⟨he, b20⟩; rw [H3.out] at he; subst he; have as2 := AS1.out.to (AS1.out.q.ext b20) (af.ext AS1.out.q.lt b20); have AS2 : Bx _ := ⟨as2⟩; clear BN AS1 b20 as2; obtain ⟨gq, gk, gb, go, gx, gc, gf⟩ := nD 44 AS2.out.q AS2.out.kp AS2.out.b AS2.out.r AS2.out.o hz1; have AS3 : Bx _ := ⟨(ArS.mk gq gk gb go AS2.out.r : ArS w0 rb ae aa TL xs U W _ (tl s) ns W1.heap.size 44 (hd s).place ⟨#[]⟩)⟩; clear gq gk gb go AS2)
   | (go_at_call 109; have _t := m1; clear m1 _t; refine Calls.mono (BE.out _ AS3.out.q (by simp)) ?_; rintro e W30 ⟨rfl, b⟩; unfold ak))
  exact ⟨rfl, rfl, b⟩
 | .ok a s2 =>
  rw [r2] at BE hne
  simp only [aC] at hne ⊢
  have B6 : Bx (∀ W1, RSs w0 rb ae aa TL xs U W1 s2 (ns ++ ag a ns.length) -> _) := ⟨fun W1 h => bF hT hK h 66 (by decide) ⟨#[60, 45, 61]⟩ (by decide)⟩
  by_cases h6 : kd s2 = 66
  ·rw [aG h6] at hne ⊢
   have H6 : Bx _ := ⟨h6⟩
   clear h6
   have B3 : Bx (∀ W1, RSs w0 rb ae aa TL xs U W1 (tl s2) (ns ++ ag a ns.length) -> pF f (.operands 1) (tl s2) ≠ .out -> Calls Tryz.prog 109 #[.pointer (some ⟨rb, 0, none⟩)] W1 (aj w0 rb ae aa TL xs U W1 (tl s2) (ns ++ ag a ns.length) (pF f (.operands 1) (tl s2)))) := ⟨fun W1 h hn => HE U W1 (tl s2) (ns ++ ag a ns.length) h hn⟩
   match r3 : pF f (.operands 1) (tl s2) with
   | .out => rw [r3] at hne; exact absurd rfl hne
   | .err s4 =>
    rw [r3] at B3
    show Calls _ _ _ _ (aj w0 rb ae aa TL xs U W s ns (.err s4))
    clear hne HE HB
    go_enter Tryz.func111, Tryz.ntmps111
    go_wp2_with (first
     | (go_at_call 85; refine Calls.mono (B1.out _ hS) ?_; rintro e W1 (⟨_, rfl, q1, l1, k1⟩ | ⟨h, _⟩); rotate_left 1; exact absurd H1.out h; clear B1)
     | (go_at_call 102; refine Calls.mono (B2.out _ (q1.ext (ah _ _))) ?_; rintro e W2 (⟨h, _⟩ | ⟨_, rfl, q2, k2⟩); exact absurd h H2.out; obtain ⟨hb, hown, hrx⟩ := bJ (o := (bf 43 (hd s).place ⟨#[]⟩ 0)) q1 (Below.refl _ _); have as1 := (ArS.mk (q1.ext (ah _ _)) (k1.trans (af.alloc q1.lt _)) hb hown hrx : ArS w0 rb ae aa TL xs U W (W1.alloc (bf 43 (hd s).place ⟨#[]⟩ 0)) (tl s) ns W1.heap.size 43 (hd s).place ⟨#[]⟩).to q2 k2; have AS1 : Bx _ := ⟨as1⟩; have hz1 := k1.size; clear hb hown hrx q2 k2 B2 as1)
     | (go_at_call 127; refine Calls.mono (BN.out _ AS1.out.q) ?_; rintro e W20 ⟨he, b20⟩; rw [H3.out] at he; subst he; have as2 := AS1.out.to (AS1.out.q.ext b20) (af.ext AS1.out.q.lt b20); have AS2 : Bx _ := ⟨as2⟩; clear BN AS1 b20 as2; obtain ⟨gq, gk, gb, go, gx, gc, gf⟩ := nD 44 AS2.out.q AS2.out.kp AS2.out.b AS2.out.r AS2.out.o hz1; have AS3 : Bx _ := ⟨(ArS.mk gq gk gb go AS2.out.r : ArS w0 rb ae aa TL xs U W _ (tl s) ns W1.heap.size 44 (hd s).place ⟨#[]⟩)⟩; clear gq gk gb go AS2)
     | (go_at_call 109; have _t := m1; clear m1 _t; refine Calls.mono (BE.out _ AS3.out.q (by simp)) ?_; rintro e W30 ⟨n30, l30, he, q30, k30⟩; obtain ⟨v2, hv⟩ : ∃ r : Nat, r = (ns.length + sizes a - 1) := ⟨_, rfl⟩; rw [← hv] at he; subst he; have V2 : Bx _ := ⟨hv⟩; clear hv; have AS4 : Bx _ := ⟨AS3.out.to q30 k30⟩; clear BE AS3 q30 k30 gx gc gf)
     | (go_at_call 85; refine Calls.mono (B6.out _ AS4.out.q) ?_; rintro e W31 (⟨_, rfl, q31, l31, k31⟩ | ⟨h, _⟩); rotate_left 1; exact absurd H6.out h; have as0 := AS4.out.to q31 k31; clear B6 AS4 q31 k31; have AS : Bx _ := ⟨as0⟩; obtain ⟨y0, y1, y2, y3, y4, ylt⟩ := dw as0.b; clear as0))
    refine wp_region_any (by kernel_rfl) ?_
    try (change wpAny _ _ _ _ _ _ _ (World.drew _))
    refine wpAny_take (i := 0) (v := ?_) rfl (by kernel_rfl) (by kernel_rfl) (by kernel_rfl) (fun _ _ _ h => h) (Or.inl ⟨by rfl, ?_⟩) ?_
    case refine_2 => intro w; go_simp; try rfl
    refine wpAny_take (i := 2) (v := ?_) rfl (by kernel_rfl) (by kernel_rfl) (by kernel_rfl) (fun _ _ _ h => h) (Or.inl ⟨by rfl, ?_⟩) ?_
    case refine_2 => intro w; go_simp; try rfl
    refine wpAny_take (i := 3) (v := ?_) rfl (by kernel_rfl) (by kernel_rfl) (by kernel_rfl) (fun _ _ _ h => h) (Or.inl ⟨by rfl, ?_⟩) ?_
    case refine_2 => intro w; go_simp; try rfl
    refine wpAny_take (i := 5) (v := ?_) rfl (by kernel_rfl) (by kernel_rfl) (by kernel_rfl) (fun _ _ _ h => h) (Or.inl ⟨by rfl, ?_⟩) ?_
    case refine_2 => intro w; go_simp; try rfl
    refine wpAny_ready (rs := [1, 4]) (by kernel_rfl) (by simp) ?_
    refine AllReady.cons rfl (fun KK hKK => ?_) (AllReady.cons rfl (fun KK hKK => ?_) AllReady.nil)
    ·go_simp
     refine hKK _ _ ?_
     clear hKK KK
     refine wpAny_ready (rs := [4]) (by kernel_rfl) (by simp) ?_
     refine AllReady.cons rfl (fun KK hKK => ?_) AllReady.nil
     go_simp
     go_wp2_with (go_at_call 109; refine Calls.mono (B3.out _ (AS.out.q.ext ((Below.refl _ _).drew)) (by simp)) ?_; rintro e W3 ⟨rfl, b⟩; unfold ak)
     exact ⟨rfl, rfl, b⟩
    ·go_simp
     go_wp2_with (go_at_call 109; refine Calls.mono (B3.out _ (AS.out.q.ext ((Below.refl _ _).drew)) (by simp)) ?_; rintro e W3 ⟨rfl, b⟩; unfold ak)
     exact ⟨rfl, rfl, b⟩
   | .ok b s4 =>
    rw [r3] at B3 hne
    simp only [aC] at hne ⊢
    have B4 : Bx (∀ W1, RSs w0 rb ae aa TL xs U W1 s4 ((ns ++ ag a ns.length) ++ ag b (ns ++ ag a ns.length).length) -> pF f .block s4 ≠ .out -> Calls Tryz.prog 95 #[.pointer (some ⟨rb, 0, none⟩)] W1 (aj w0 rb ae aa TL xs U W1 s4 ((ns ++ ag a ns.length) ++ ag b (ns ++ ag a ns.length).length) (pF f .block s4))) := ⟨fun W1 h hn => HB U W1 s4 ((ns ++ ag a ns.length) ++ ag b (ns ++ ag a ns.length).length) h hn⟩
    match r4 : pF f .block s4 with
    | .out => rw [r4] at hne; exact absurd rfl hne
    | .err s5 =>
     rw [r4] at B4
     show Calls _ _ _ _ (aj w0 rb ae aa TL xs U W s ns (.err s5))
     clear hne HE HB
     go_enter Tryz.func111, Tryz.ntmps111
     go_wp2_with (first
      | (go_at_call 85; refine Calls.mono (B1.out _ hS) ?_; rintro e W1 (⟨_, rfl, q1, l1, k1⟩ | ⟨h, _⟩); rotate_left 1; exact absurd H1.out h; clear B1)
      | (go_at_call 102; refine Calls.mono (B2.out _ (q1.ext (ah _ _))) ?_; rintro e W2 (⟨h, _⟩ | ⟨_, rfl, q2, k2⟩); exact absurd h H2.out; obtain ⟨hb, hown, hrx⟩ := bJ (o := (bf 43 (hd s).place ⟨#[]⟩ 0)) q1 (Below.refl _ _); have as1 := (ArS.mk (q1.ext (ah _ _)) (k1.trans (af.alloc q1.lt _)) hb hown hrx : ArS w0 rb ae aa TL xs U W (W1.alloc (bf 43 (hd s).place ⟨#[]⟩ 0)) (tl s) ns W1.heap.size 43 (hd s).place ⟨#[]⟩).to q2 k2; have AS1 : Bx _ := ⟨as1⟩; have hz1 := k1.size; clear hb hown hrx q2 k2 B2 as1)
      | (go_at_call 127; refine Calls.mono (BN.out _ AS1.out.q) ?_; rintro e W20 ⟨he, b20⟩; rw [H3.out] at he; subst he; have as2 := AS1.out.to (AS1.out.q.ext b20) (af.ext AS1.out.q.lt b20); have AS2 : Bx _ := ⟨as2⟩; clear BN AS1 b20 as2; obtain ⟨gq, gk, gb, go, gx, gc, gf⟩ := nD 44 AS2.out.q AS2.out.kp AS2.out.b AS2.out.r AS2.out.o hz1; have AS3 : Bx _ := ⟨(ArS.mk gq gk gb go AS2.out.r : ArS w0 rb ae aa TL xs U W _ (tl s) ns W1.heap.size 44 (hd s).place ⟨#[]⟩)⟩; clear gq gk gb go AS2)
      | (go_at_call 109; have _t := m1; clear m1 _t; refine Calls.mono (BE.out _ AS3.out.q (by simp)) ?_; rintro e W30 ⟨n30, l30, he, q30, k30⟩; obtain ⟨v2, hv⟩ : ∃ r : Nat, r = (ns.length + sizes a - 1) := ⟨_, rfl⟩; rw [← hv] at he; subst he; have V2 : Bx _ := ⟨hv⟩; clear hv; have AS4 : Bx _ := ⟨AS3.out.to q30 k30⟩; clear BE AS3 q30 k30 gx gc gf)
      | (go_at_call 85; refine Calls.mono (B6.out _ AS4.out.q) ?_; rintro e W31 (⟨_, rfl, q31, l31, k31⟩ | ⟨h, _⟩); rotate_left 1; exact absurd H6.out h; have as0 := AS4.out.to q31 k31; clear B6 AS4 q31 k31; have AS : Bx _ := ⟨as0⟩; obtain ⟨y0, y1, y2, y3, y4, ylt⟩ := dw as0.b; clear as0))
     refine wp_region_any (by kernel_rfl) ?_
     try (change wpAny _ _ _ _ _ _ _ (World.drew _))
     refine wpAny_take (i := 0) (v := ?_) rfl (by kernel_rfl) (by kernel_rfl) (by kernel_rfl) (fun _ _ _ h => h) (Or.inl ⟨by rfl, ?_⟩) ?_
     case refine_2 => intro w; go_simp; try rfl
     refine wpAny_take (i := 2) (v := ?_) rfl (by kernel_rfl) (by kernel_rfl) (by kernel_rfl) (fun _ _ _ h => h) (Or.inl ⟨by rfl, ?_⟩) ?_
     case refine_2 => intro w; go_simp; try rfl
     refine wpAny_take (i := 3) (v := ?_) rfl (by kernel_rfl) (by kernel_rfl) (by kernel_rfl) (fun _ _ _ h => h) (Or.inl ⟨by rfl, ?_⟩) ?_
     case refine_2 => intro w; go_simp; try rfl
     refine wpAny_take (i := 5) (v := ?_) rfl (by kernel_rfl) (by kernel_rfl) (by kernel_rfl) (fun _ _ _ h => h) (Or.inl ⟨by rfl, ?_⟩) ?_
     case refine_2 => intro w; go_simp; try rfl
     refine wpAny_ready (rs := [1, 4]) (by kernel_rfl) (by simp) ?_
     refine AllReady.cons rfl (fun KK hKK => ?_) (AllReady.cons rfl (fun KK hKK => ?_) AllReady.nil)
     ·go_simp
      refine hKK _ _ ?_
      clear hKK KK
      refine wpAny_ready (rs := [4]) (by kernel_rfl) (by simp) ?_
      refine AllReady.cons rfl (fun KK hKK => ?_) AllReady.nil
      go_simp
      go_wp2_with (go_at_call 109; refine Calls.mono (B3.out _ (AS.out.q.ext ((Below.refl _ _).drew)) (by simp)) ?_; rintro e W3 ⟨n3, l3, he, q3, k3⟩; obtain ⟨v3, hv⟩ : ∃ r : Nat, r = ((ns ++ ag a ns.length).length + sizes b - 1) := ⟨_, rfl⟩; rw [← hv] at he; subst he; have V3 : Bx _ := ⟨hv⟩; clear hv; have as3 := AS.out.drew q3 k3; have AS3 : Bx _ := ⟨as3⟩; obtain ⟨x0, x1, x2, x3, x4, xlt⟩ := dw as3.b; clear as3 B3 q3 k3)
      refine wpAny_ready (rs := [6]) (by kernel_rfl) (by simp) ?_
      refine AllReady.cons rfl (fun KK hKK => ?_) AllReady.nil
      go_simp
      go_wp2_with (go_at_call 95; refine Calls.mono (B4.out _ AS3.out.q (by simp)) ?_; rintro e W4 ⟨rfl, b⟩; unfold ak)
      exact ⟨rfl, rfl, b⟩
     ·go_simp
      go_wp2_with (go_at_call 109; refine Calls.mono (B3.out _ (AS.out.q.ext ((Below.refl _ _).drew)) (by simp)) ?_; rintro e W3 ⟨n3, l3, he, q3, k3⟩; obtain ⟨v3, hv⟩ : ∃ r : Nat, r = ((ns ++ ag a ns.length).length + sizes b - 1) := ⟨_, rfl⟩; rw [← hv] at he; subst he; have V3 : Bx _ := ⟨hv⟩; clear hv; have as3 := AS.out.drew q3 k3; have AS3 : Bx _ := ⟨as3⟩; obtain ⟨x0, x1, x2, x3, x4, xlt⟩ := dw as3.b; clear as3 B3 q3 k3)
      refine wpAny_ready (rs := [1, 6]) (by kernel_rfl) (by simp) ?_
      refine AllReady.cons rfl (fun KK hKK => ?_) (AllReady.cons rfl (fun KK hKK => ?_) AllReady.nil)
      ·go_simp
       refine hKK _ _ ?_
       clear hKK KK
       refine wpAny_ready (rs := [6]) (by kernel_rfl) (by simp) ?_
       refine AllReady.cons rfl (fun KK hKK => ?_) AllReady.nil
       go_simp
       go_wp2_with (go_at_call 95; refine Calls.mono (B4.out _ AS3.out.q (by simp)) ?_; rintro e W4 ⟨rfl, b⟩; unfold ak)
       exact ⟨rfl, rfl, b⟩
      ·go_simp
       go_wp2_with (go_at_call 95; refine Calls.mono (B4.out _ AS3.out.q (by simp)) ?_; rintro e W4 ⟨rfl, b⟩; unfold ak)
       exact ⟨rfl, rfl, b⟩
    | .ok c s5 =>
     rw [r4] at B4
     have HD : Bx (∀ W1, RSs w0 rb ae aa TL xs U W1 s5 (((ns ++ ag a ns.length) ++ ag b (ns ++ ag a ns.length).length) ++ ag c ((ns ++ ag a ns.length) ++ ag b (ns ++ ag a ns.length).length).length) -> af rb W W1 -> ∀ v2 : Nat, v2 = (ns.length + sizes a - 1 : Nat) -> ∀ v3 : Nat, v3 = ((ns ++ ag a ns.length).length + sizes b - 1 : Nat) -> ∀ v4 : Nat, v4 = (((ns ++ ag a ns.length) ++ ag b (ns ++ ag a ns.length).length).length + sizes c - 1 : Nat) -> a.length = 1 -> b.length = 1 -> c.length = 1 -> s5.length + sizes (a ++ (b ++ c)) + 1 <= s.length -> ∀ kv, Calls Tryz.prog 70 #[.pointer (some ⟨rb, 0, none⟩), .agg #[.int .i64 44, .int .i64 (hd s).place, kv, .string ⟨#[]⟩, .int .i64 0], .slice (some ⟨W1.heap.size, 0, none⟩) 3 3] (W1.alloc (.cells #[.int .i64 ((v2 : Nat) : Int), .int .i64 ((v3 : Nat) : Int), .int .i64 ((v4 : Nat) : Int)] 3)) fun e W' => ∃ r : Int, e = .returned (.int .i64 r) /\ aj w0 rb ae aa TL xs U W s ns (.ok [.mk 44 (hd s).place 0 [] (a ++ (b ++ c))] s5) (.returned (.int .i64 r)) W') := ⟨fun W1 h hk v2 g2 v3 g3 v4 g4 e2 e3 e4 hsz kv => by
     have en : ends (a ++ (b ++ c)) ns.length = [((ns.length + sizes a - 1 : Nat) : Int), (((ns ++ ag a ns.length).length + sizes b - 1 : Nat) : Int), ((((ns ++ ag a ns.length) ++ ag b (ns ++ ag a ns.length).length).length + sizes c - 1 : Nat) : Int)] := by rw [bD, bD, aK e2, aK e3, aK e4, dV (ns ++ ag a ns.length) b, dV ns a]; rfl
     rw [← g2, ← g3, ← g4] at en
     have hI := dz (rb := rb) (W := W1) (o := #[.int .i64 ((v2 : Nat) : Int), .int .i64 ((v3 : Nat) : Int), .int .i64 ((v4 : Nat) : Int)]) (ys := ends (a ++ (b ++ c)) ns.length) (n := 3) (by rw [en]; rfl) (by decide) (by decide) h.lt (by rw [en]; rfl)
     have h2 := h.ext (ah W1 (.cells #[.int .i64 ((v2 : Nat) : Int), .int .i64 ((v3 : Nat) : Int), .int .i64 ((v4 : Nat) : Int)] 3))
     rw [bP ns a b, bP ns (a ++ b) c, List.append_assoc] at h2
     exact fG hT (a ++ (b ++ c)) h2 (hk.trans (af.alloc h.lt _)) hsz ⟨W, hS⟩ 44 (hd s).place 0 [] kv (some ⟨W1.heap.size, 0, none⟩) 3 3 (by simp [e2, e3, e4]) hI h.new⟩
     show Calls _ _ _ _ (aj w0 rb ae aa TL xs U W s ns (.ok [.mk 44 (hd s).place 0 [] (a ++ (b ++ c))] s5))
     clear hne HE HB
     go_enter Tryz.func111, Tryz.ntmps111
     go_wp2_with (first
      | (go_at_call 85; refine Calls.mono (B1.out _ hS) ?_; rintro e W1 (⟨_, rfl, q1, l1, k1⟩ | ⟨h, _⟩); rotate_left 1; exact absurd H1.out h; clear B1)
      | (go_at_call 102; refine Calls.mono (B2.out _ (q1.ext (ah _ _))) ?_; rintro e W2 (⟨h, _⟩ | ⟨_, rfl, q2, k2⟩); exact absurd h H2.out; obtain ⟨hb, hown, hrx⟩ := bJ (o := (bf 43 (hd s).place ⟨#[]⟩ 0)) q1 (Below.refl _ _); have as1 := (ArS.mk (q1.ext (ah _ _)) (k1.trans (af.alloc q1.lt _)) hb hown hrx : ArS w0 rb ae aa TL xs U W (W1.alloc (bf 43 (hd s).place ⟨#[]⟩ 0)) (tl s) ns W1.heap.size 43 (hd s).place ⟨#[]⟩).to q2 k2; have AS1 : Bx _ := ⟨as1⟩; have hz1 := k1.size; clear hb hown hrx q2 k2 B2 as1)
      | (go_at_call 127; refine Calls.mono (BN.out _ AS1.out.q) ?_; rintro e W20 ⟨he, b20⟩; rw [H3.out] at he; subst he; have as2 := AS1.out.to (AS1.out.q.ext b20) (af.ext AS1.out.q.lt b20); have AS2 : Bx _ := ⟨as2⟩; clear BN AS1 b20 as2; obtain ⟨gq, gk, gb, go, gx, gc, gf⟩ := nD 44 AS2.out.q AS2.out.kp AS2.out.b AS2.out.r AS2.out.o hz1; have AS3 : Bx _ := ⟨(ArS.mk gq gk gb go AS2.out.r : ArS w0 rb ae aa TL xs U W _ (tl s) ns W1.heap.size 44 (hd s).place ⟨#[]⟩)⟩; clear gq gk gb go AS2)
      | (go_at_call 109; have _t := m1; clear m1 _t; refine Calls.mono (BE.out _ AS3.out.q (by simp)) ?_; rintro e W30 ⟨n30, l30, he, q30, k30⟩; obtain ⟨v2, hv⟩ : ∃ r : Nat, r = (ns.length + sizes a - 1) := ⟨_, rfl⟩; rw [← hv] at he; subst he; have V2 : Bx _ := ⟨hv⟩; clear hv; have AS4 : Bx _ := ⟨AS3.out.to q30 k30⟩; clear BE AS3 q30 k30 gx gc gf)
      | (go_at_call 85; refine Calls.mono (B6.out _ AS4.out.q) ?_; rintro e W31 (⟨_, rfl, q31, l31, k31⟩ | ⟨h, _⟩); rotate_left 1; exact absurd H6.out h; have as0 := AS4.out.to q31 k31; clear B6 AS4 q31 k31; have AS : Bx _ := ⟨as0⟩; obtain ⟨y0, y1, y2, y3, y4, ylt⟩ := dw as0.b; clear as0))
     go_region_with (first
      | (go_at_call 109; refine Calls.mono (B3.out _ (AS.out.q.ext ((Below.refl _ _).drew)) (by simp)) ?_; rintro e W3 ⟨n3, l3, he, q3, k3⟩; obtain ⟨v3, hv⟩ : ∃ r : Nat, r = ((ns ++ ag a ns.length).length + sizes b - 1) := ⟨_, rfl⟩; rw [← hv] at he; subst he; have V3 : Bx _ := ⟨hv⟩; clear hv; have as3 := AS.out.drew q3 k3; have AS3 : Bx _ := ⟨as3⟩; obtain ⟨x0, x1, x2, x3, x4, xlt⟩ := dw as3.b; clear as3 B3 q3 k3)
      | (go_at_call 95; refine Calls.mono (B4.out _ AS3.out.q (by simp)) ?_; rintro e W4 ⟨n4, l4, he, q4, k4⟩; obtain ⟨v4, hv⟩ : ∃ r : Nat, r = (((ns ++ ag a ns.length) ++ ag b (ns ++ ag a ns.length).length).length + sizes c - 1) := ⟨_, rfl⟩; rw [← hv] at he; subst he; have V4 : Bx _ := ⟨hv⟩; clear hv; have as4 := AS3.out.to q4 k4; have AS4 : Bx _ := ⟨as4⟩; obtain ⟨z0, z1, z2, z3, z4, zlt⟩ := dw as4.b; clear as4 B4 q4 k4)
      | (go_at_call 70; refine Calls.mono (HD.out _ AS4.out.q AS4.out.kp v2 V2.out v3 V3.out v4 V4.out n30 n3 n4 (by simp only [aI]; omega) _) ?_; rintro e W9 ⟨r9, rfl, hp⟩))
     all_goals
      go_wp2
      go_ret
      exact hp
  ·rw [aL h6]
   have H6 : Bx _ := ⟨h6⟩
   clear h6
   show Calls _ _ _ _ (aj w0 rb ae aa TL xs U W s ns (.err s2))
   clear hne HE HB
   go_enter Tryz.func111, Tryz.ntmps111
   go_wp2_with (first
    | (go_at_call 85; refine Calls.mono (B1.out _ hS) ?_; rintro e W1 (⟨_, rfl, q1, l1, k1⟩ | ⟨h, _⟩); rotate_left 1; exact absurd H1.out h; clear B1)
    | (go_at_call 102; refine Calls.mono (B2.out _ (q1.ext (ah _ _))) ?_; rintro e W2 (⟨h, _⟩ | ⟨_, rfl, q2, k2⟩); exact absurd h H2.out; obtain ⟨hb, hown, hrx⟩ := bJ (o := (bf 43 (hd s).place ⟨#[]⟩ 0)) q1 (Below.refl _ _); have as1 := (ArS.mk (q1.ext (ah _ _)) (k1.trans (af.alloc q1.lt _)) hb hown hrx : ArS w0 rb ae aa TL xs U W (W1.alloc (bf 43 (hd s).place ⟨#[]⟩ 0)) (tl s) ns W1.heap.size 43 (hd s).place ⟨#[]⟩).to q2 k2; have AS1 : Bx _ := ⟨as1⟩; have hz1 := k1.size; clear hb hown hrx q2 k2 B2 as1)
    | (go_at_call 127; refine Calls.mono (BN.out _ AS1.out.q) ?_; rintro e W20 ⟨he, b20⟩; rw [H3.out] at he; subst he; have as2 := AS1.out.to (AS1.out.q.ext b20) (af.ext AS1.out.q.lt b20); have AS2 : Bx _ := ⟨as2⟩; clear BN AS1 b20 as2; obtain ⟨gq, gk, gb, go, gx, gc, gf⟩ := nD 44 AS2.out.q AS2.out.kp AS2.out.b AS2.out.r AS2.out.o hz1; have AS3 : Bx _ := ⟨(ArS.mk gq gk gb go AS2.out.r : ArS w0 rb ae aa TL xs U W _ (tl s) ns W1.heap.size 44 (hd s).place ⟨#[]⟩)⟩; clear gq gk gb go AS2)
    | (go_at_call 109; have _t := m1; clear m1 _t; refine Calls.mono (BE.out _ AS3.out.q (by simp)) ?_; rintro e W30 ⟨n30, l30, he, q30, k30⟩; obtain ⟨v2, hv⟩ : ∃ r : Nat, r = (ns.length + sizes a - 1) := ⟨_, rfl⟩; rw [← hv] at he; subst he; have V2 : Bx _ := ⟨hv⟩; clear hv; have AS4 : Bx _ := ⟨AS3.out.to q30 k30⟩; clear BE AS3 q30 k30 gx gc gf)
    | (go_at_call 85; refine Calls.mono (B6.out _ AS4.out.q) ?_; rintro e W31 (⟨h, _⟩ | ⟨_, rfl, b⟩); exact absurd h H6.out; unfold ak))
   exact ⟨rfl, rfl, b⟩
theorem JI (hT : RT w0 rb ae aa TL xs) (hK : aR TL) {W : World} {s : List ai} {ns : List Nd} (hS : RSs w0 rb ae aa TL xs U W s ns) (h1 : kd s ≠ 13) : Calls Tryz.prog 111 #[.pointer (some ⟨rb, 0, none⟩)] W (aj w0 rb ae aa TL xs U W s ns (.err s)) := by
 have hrW := hS.lt
 have B1 : Bx (∀ W1, RSs w0 rb ae aa TL xs U W1 s ns -> _) := ⟨fun W1 h => bF hT hK h 13 (by decide) ⟨#[99, 97, 115, 101]⟩ (by decide)⟩
 have H1 : Bx _ := ⟨h1⟩
 clear h1
 go_enter Tryz.func111, Tryz.ntmps111
 go_wp2_with (first | (go_at_call 85; refine Calls.mono (B1.out _ hS) ?_; rintro e W1 (⟨h, _⟩ | ⟨_, rfl, b⟩); exact absurd h H1.out; unfold ak))
 exact ⟨rfl, rfl, b⟩
theorem F9 (hT : RT w0 rb ae aa TL xs) (hK : aR TL) {f : Nat} (HU : RC w0 rb ae aa TL xs (pF f .unary) 126 #[]) (HE : RC w0 rb ae aa TL xs (pF f (.operands 1)) 109 #[]) (HB : RC w0 rb ae aa TL xs (pF f .block) 95 #[]) : RC w0 rb ae aa TL xs (pF (f + 1) .arm) 111 #[] := by
 intro U W s ns hS hne
 show Calls Tryz.prog 111 #[.pointer (some ⟨rb, 0, none⟩)] W (aj w0 rb ae aa TL xs U W s ns (body (pF f) .arm s))
 change body (pF f) .arm s ≠ .out at hne
 simp only [body] at hne ⊢
 by_cases h1 : kd s = 13
 ·rw [aG h1] at hne ⊢
  by_cases h2 : kd (tl s) = 65
  ·rw [if_pos h2, aG h2] at hne ⊢
   exact Lj hT hK HU HB hS h1 h2 hne
  ·rw [if_neg h2] at hne ⊢
   by_cases h3 : kd (tl s) = 1 /\ kd (tl (tl s)) = 50
   ·rw [if_pos h3, gZ h3.1, aG h3.2] at hne ⊢
    by_cases h6 : kd (tl (tl (tl s))) = 65
    ·rw [aG h6] at hne ⊢
     exact Ll hT hK HU HB hS h1 h2 (decide_eq_true h3) h6 hne
    ·rw [aL h6]
     exact F8 hT hK HU HB hS h1 h2 (decide_eq_true h3) h6
   ·rw [if_neg h3] at hne ⊢
    exact Lm hT hK HE HB hS h1 h2 (decide_eq_false h3) hne
 ·rw [aL h1]
  exact JI hT hK hS h1
end Go.Proofs.YtecodpdfckjalaaGreatDoor
