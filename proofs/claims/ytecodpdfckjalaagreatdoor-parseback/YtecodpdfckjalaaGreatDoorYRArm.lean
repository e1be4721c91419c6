import Derived.Test.YtecodpdfckjalaaGreatDoorYRAct
import Derived.Test.YtecodpdfckjalaaGreatDoorYRBetw
set_option linter.unusedVariables false
set_option linter.unusedSimpArgs false
set_option maxHeartbeats 4000000
set_option maxRecDepth 100000
namespace Go.Proofs.YtecodpdfckjalaaGreatDoor
open Go.RowKit
variable {w0 : World} {rb : Nat} {ae aa : Value} {TL : List Tok} {xs : List UInt8} {U : Nat -> Prop}
theorem D7 (hT : RT w0 rb ae aa TL xs) (hK : aR TL) {W : World} {s : List ai} {ns : List Nd} (hS : RSs w0 rb ae aa TL xs U W s ns) (h0 : kd s ≠ 23) : Calls Tryz.prog 150 #[.pointer (some ⟨rb, 0, none⟩)] W (aj w0 rb ae aa TL xs U W s ns (.err s)) := by
 have hrW := hS.lt
 have B1 : Bx (∀ W1, RSs w0 rb ae aa TL xs U W1 s ns -> _) := ⟨fun W1 h => bF hT hK h 23 (by decide) ⟨#[112, 114, 111, 103]⟩ (by decide)⟩
 have H0 : Bx _ := ⟨h0⟩
 clear h0
 go_enter Tryz.func150, Tryz.ntmps150
 go_wp2_with (first | (go_at_call 85; refine Calls.mono (B1.out _ hS) ?_; rintro e W1 (⟨h, _⟩ | ⟨_, rfl, b⟩); exact absurd h H0.out; unfold ak))
 exact ⟨rfl, rfl, b⟩
structure ArS (w0 : World) (rb : Nat) (ae aa : Value) (TL : List Tok) (xs : List UInt8) (U : Nat -> Prop) (W Wh : World) (s : List ai) (ns : List Nd) (x : Nat) (k p : Int) (nm : ByteArray) : Prop where
 q : RSs w0 rb ae aa TL xs U Wh s ns
 kp : af rb W Wh
 b : Wh.heap[x]? = some (bf k p nm 0)
 o : cZ Wh rb ≠ some x
 r : rb < x
theorem ArS.to {W Wh W3 : World} {s s3 : List ai} {ns n3 : List Nd} {x : Nat} {k p : Int} {nm : ByteArray} (h : ArS w0 rb ae aa TL xs U W Wh s ns x k p nm) (q : RSs w0 rb ae aa TL xs U W3 s3 n3) (k3 : af rb Wh W3) : ArS w0 rb ae aa TL xs U W W3 s3 n3 x k p nm :=
 ⟨q, h.kp.trans k3, (bI k3 h.b h.r h.o).1, (bI k3 h.b h.r h.o).2, h.r⟩
theorem ArS.drew {W Wh W3 : World} {s s3 : List ai} {ns n3 : List Nd} {x : Nat} {k p : Int} {nm : ByteArray} (h : ArS w0 rb ae aa TL xs U W Wh s ns x k p nm) (q : RSs w0 rb ae aa TL xs U W3 s3 n3) (k3 : af rb Wh.drew W3) : ArS w0 rb ae aa TL xs U W W3 s3 n3 x k p nm :=
 h.to q ((af.ext h.q.lt ((Below.refl _ _).drew)).trans k3)
theorem Lj (hT : RT w0 rb ae aa TL xs) (hK : aR TL) {f : Nat} (HU : RC w0 rb ae aa TL xs (pF f .unary) 126 #[]) (HB : RC w0 rb ae aa TL xs (pF f .block) 95 #[]) {W : World} {s : List ai} {ns : List Nd} (hS : RSs w0 rb ae aa TL xs U W s ns) (h1 : kd s = 13) (h2 : kd (tl s) = 65) (hne : (aC (pF f .unary (tl (tl s))) fun a s3 => aC (pF f .block s3) fun b s4 => mk1 43 s 0 [] (a ++ b) s4) ≠ .out) :
  Calls Tryz.prog 111 #[.pointer (some ⟨rb, 0, none⟩)] W (aj w0 rb ae aa TL xs U W s ns (aC (pF f .unary (tl (tl s))) fun a s3 => aC (pF f .block s3) fun b s4 => mk1 43 s 0 [] (a ++ b) s4)) := by
 have hrW := hS.lt
 have B1 : Bx (∀ W1, RSs w0 rb ae aa TL xs U W1 s ns -> _) := ⟨fun W1 h => bF hT hK h 13 (by decide) ⟨#[99, 97, 115, 101]⟩ (by decide)⟩
 have B2 : Bx (∀ W1, RSs w0 rb ae aa TL xs U W1 (tl s) ns -> _) := ⟨fun W1 h => iP hT hK h 65 (by decide) ⟨#[60, 45]⟩ (by decide)⟩
 have H1 : Bx _ := ⟨h1⟩
 have H2 : Bx _ := ⟨h2⟩
 clear h1 h2
 have B3 : Bx (∀ W1, RSs w0 rb ae aa TL xs U W1 (tl (tl s)) ns -> pF f .unary (tl (tl s)) ≠ .out -> Calls Tryz.prog 126 #[.pointer (some ⟨rb, 0, none⟩)] W1 (aj w0 rb ae aa TL xs U W1 (tl (tl s)) ns (pF f .unary (tl (tl s))))) := ⟨fun W1 h hn => HU U W1 (tl (tl s)) ns h hn⟩
 match r3 : pF f .unary (tl (tl s)) with
 | .out => rw [r3] at hne; exact absurd rfl hne
 | .err s3 =>
  rw [r3] at B3
  show Calls _ _ _ _ (aj w0 rb ae aa TL xs U W s ns (.err s3))
  clear hne HU HB
  go_enter Tryz.func111, Tryz.ntmps111
  go_wp2_with (first
   | (go_at_call 85; refine Calls.mono (B1.out _ hS) ?_; rintro e W1 (⟨_, rfl, q1, l1, k1⟩ | ⟨h, _⟩); rotate_left 1; exact absurd H1.out h; clear B1)
   | (go_at_call 102; refine Calls.mono (B2.out _ (q1.ext (ah _ _))) ?_; rintro e W2 (⟨_, rfl, q2, l2, k2⟩ | ⟨h, _⟩); rotate_left 1; exact absurd H2.out h; obtain ⟨hb, hown, hrx⟩ := bJ (o := (bf 43 (hd s).place ⟨#[]⟩ 0)) q1 (Below.refl _ _); have as0 := (ArS.mk (q1.ext (ah _ _)) (k1.trans (af.alloc q1.lt _)) hb hown hrx : ArS w0 rb ae aa TL xs U W (W1.alloc (bf 43 (hd s).place ⟨#[]⟩ 0)) (tl s) ns W1.heap.size 43 (hd s).place ⟨#[]⟩).to q2 k2; clear hb hown hrx q2 k2 B2; have AS : Bx _ := ⟨as0⟩; obtain ⟨y0, y1, y2, y3, y4, ylt⟩ := dw as0.b; clear as0))
  refine wp_region_any (by kernel_rfl) ?_
  try (change wpAny _ _ _ _ _ _ _ (World.drew _))
  refine wpAny_take (i := 0) (v := ?_) rfl (by kernel_rfl) (by kernel_rfl) (by kernel_rfl) (fun _ _ _ h => h) (Or.inl ⟨by rfl, ?_⟩) ?_
  case refine_2 => intro w; go_simp; try rfl
  refine wpAny_take (i := 2) (v := ?_) rfl (by kernel_rfl) (by kernel_rfl) (by kernel_rfl) (fun _ _ _ h => h) (Or.inl ⟨by rfl, ?_⟩) ?_
  case refine_2 => intro w; go_simp; try rfl
  refine wpAny_take (i := 4) (v := ?_) rfl (by kernel_rfl) (by kernel_rfl) (by kernel_rfl) (fun _ _ _ h => h) (Or.inl ⟨by rfl, ?_⟩) ?_
  case refine_2 => intro w; go_simp; try rfl
  refine wpAny_ready (rs := [1, 3]) (by kernel_rfl) (by simp) ?_
  refine AllReady.cons rfl (fun KK hKK => ?_) (AllReady.cons rfl (fun KK hKK => ?_) AllReady.nil)
  ·go_simp
   refine hKK _ _ ?_
   clear hKK KK
   refine wpAny_ready (rs := [3]) (by kernel_rfl) (by simp) ?_
   refine AllReady.cons rfl (fun KK hKK => ?_) AllReady.nil
   go_simp
   go_wp2_with (go_at_call 126; refine Calls.mono (B3.out _ (AS.out.q.ext ((Below.refl _ _).drew)) (by simp)) ?_; rintro e W3 ⟨rfl, b⟩; unfold ak)
   exact ⟨rfl, rfl, b⟩
  ·go_simp
   go_wp2_with (go_at_call 126; refine Calls.mono (B3.out _ (AS.out.q.ext ((Below.refl _ _).drew)) (by simp)) ?_; rintro e W3 ⟨rfl, b⟩; unfold ak)
   exact ⟨rfl, rfl, b⟩
 | .ok a s3 =>
  rw [r3] at B3 hne
  simp only [aC] at hne ⊢
  have B4 : Bx (∀ W1, RSs w0 rb ae aa TL xs U W1 s3 (ns ++ ag a ns.length) -> pF f .block s3 ≠ .out -> Calls Tryz.prog 95 #[.pointer (some ⟨rb, 0, none⟩)] W1 (aj w0 rb ae aa TL xs U W1 s3 (ns ++ ag a ns.length) (pF f .block s3))) := ⟨fun W1 h hn => HB U W1 s3 (ns ++ ag a ns.length) h hn⟩
  match r4 : pF f .block s3 with
  | .out => rw [r4] at hne; exact absurd rfl hne
  | .err s4 =>
   rw [r4] at B4
   show Calls _ _ _ _ (aj w0 rb ae aa TL xs U W s ns (.err s4))
   clear hne HU HB
   go_enter Tryz.func111, Tryz.ntmps111
   go_wp2_with (first
    | (go_at_call 85; refine Calls.mono (B1.out _ hS) ?_; rintro e W1 (⟨_, rfl, q1, l1, k1⟩ | ⟨h, _⟩); rotate_left 1; exact absurd H1.out h; clear B1)
    | (go_at_call 102; refine Calls.mono (B2.out _ (q1.ext (ah _ _))) ?_; rintro e W2 (⟨_, rfl, q2, l2, k2⟩ | ⟨h, _⟩); rotate_left 1; exact absurd H2.out h; obtain ⟨hb, hown, hrx⟩ := bJ (o := (bf 43 (hd s).place ⟨#[]⟩ 0)) q1 (Below.refl _ _); have as0 := (ArS.mk (q1.ext (ah _ _)) (k1.trans (af.alloc q1.lt _)) hb hown hrx : ArS w0 rb ae aa TL xs U W (W1.alloc (bf 43 (hd s).place ⟨#[]⟩ 0)) (tl s) ns W1.heap.size 43 (hd s).place ⟨#[]⟩).to q2 k2; clear hb hown hrx q2 k2 B2; have AS : Bx _ := ⟨as0⟩; obtain ⟨y0, y1, y2, y3, y4, ylt⟩ := dw as0.b; clear as0))
   refine wp_region_any (by kernel_rfl) ?_
   try (change wpAny _ _ _ _ _ _ _ (World.drew _))
   refine wpAny_take (i := 0) (v := ?_) rfl (by kernel_rfl) (by kernel_rfl) (by kernel_rfl) (fun _ _ _ h => h) (Or.inl ⟨by rfl, ?_⟩) ?_
   case refine_2 => intro w; go_simp; try rfl
   refine wpAny_take (i := 2) (v := ?_) rfl (by kernel_rfl) (by kernel_rfl) (by kernel_rfl) (fun _ _ _ h => h) (Or.inl ⟨by rfl, ?_⟩) ?_
   case refine_2 => intro w; go_simp; try rfl
   refine wpAny_take (i := 4) (v := ?_) rfl (by kernel_rfl) (by kernel_rfl) (by kernel_rfl) (fun _ _ _ h => h) (Or.inl ⟨by rfl, ?_⟩) ?_
   case refine_2 => intro w; go_simp; try rfl
   refine wpAny_ready (rs := [1, 3]) (by kernel_rfl) (by simp) ?_
   refine AllReady.cons rfl (fun KK hKK => ?_) (AllReady.cons rfl (fun KK hKK => ?_) AllReady.nil)
   ·go_simp
    refine hKK _ _ ?_
    clear hKK KK
    refine wpAny_ready (rs := [3]) (by kernel_rfl) (by simp) ?_
    refine AllReady.cons rfl (fun KK hKK => ?_) AllReady.nil
    go_simp
    go_wp2_with (go_at_call 126; refine Calls.mono (B3.out _ (AS.out.q.ext ((Below.refl _ _).drew)) (by simp)) ?_; rintro e W3 ⟨n3, l3, he, q3, k3⟩; obtain ⟨v3, hv⟩ : ∃ r : Nat, r = (ns.length + sizes a - 1) := ⟨_, rfl⟩; rw [← hv] at he; subst he; have V3 : Bx _ := ⟨hv⟩; clear hv; have as3 := AS.out.drew q3 k3; have AS3 : Bx _ := ⟨as3⟩; obtain ⟨x0, x1, x2, x3, x4, xlt⟩ := dw as3.b; clear as3 B3 q3 k3)
    refine wpAny_ready (rs := [5]) (by kernel_rfl) (by simp) ?_
    refine AllReady.cons rfl (fun KK hKK => ?_) AllReady.nil
    go_simp
    go_wp2_with (go_at_call 95; refine Calls.mono (B4.out _ AS3.out.q (by simp)) ?_; rintro e W4 ⟨rfl, b⟩; unfold ak)
    exact ⟨rfl, rfl, b⟩
   ·go_simp
    go_wp2_with (go_at_call 126; refine Calls.mono (B3.out _ (AS.out.q.ext ((Below.refl _ _).drew)) (by simp)) ?_; rintro e W3 ⟨n3, l3, he, q3, k3⟩; obtain ⟨v3, hv⟩ : ∃ r : Nat, r = (ns.length + sizes a - 1) := ⟨_, rfl⟩; rw [← hv] at he; subst he; have V3 : Bx _ := ⟨hv⟩; clear hv; have as3 := AS.out.drew q3 k3; have AS3 : Bx _ := ⟨as3⟩; obtain ⟨x0, x1, x2, x3, x4, xlt⟩ := dw as3.b; clear as3 B3 q3 k3)
    refine wpAny_ready (rs := [1, 5]) (by kernel_rfl) (by simp) ?_
    refine AllReady.cons rfl (fun KK hKK => ?_) (AllReady.cons rfl (fun KK hKK => ?_) AllReady.nil)
    ·go_simp
     refine hKK _ _ ?_
     clear hKK KK
     refine wpAny_ready (rs := [5]) (by kernel_rfl) (by simp) ?_
     refine AllReady.cons rfl (fun KK hKK => ?_) AllReady.nil
     go_simp
     go_wp2_with (go_at_call 95; refine Calls.mono (B4.out _ AS3.out.q (by simp)) ?_; rintro e W4 ⟨rfl, b⟩; unfold ak)
     exact ⟨rfl, rfl, b⟩
    ·go_simp
     go_wp2_with (go_at_call 95; refine Calls.mono (B4.out _ AS3.out.q (by simp)) ?_; rintro e W4 ⟨rfl, b⟩; unfold ak)
     exact ⟨rfl, rfl, b⟩
  | .ok b s4 =>
   rw [r4] at B4
   have HD : Bx (∀ W1, RSs w0 rb ae aa TL xs U W1 s4 ((ns ++ ag a (ns).length) ++ ag b ((ns ++ ag a (ns).length)).length) -> af rb W W1 -> ∀ v2 : Nat, v2 = ((ns).length + sizes a - 1 : Nat) -> ∀ v3 : Nat, v3 = ((ns ++ ag a (ns).length).length + sizes b - 1 : Nat) -> a.length = 1 -> b.length = 1 -> (s4).length + sizes (a ++ b) + 1 <= s.length -> ∀ kv, Calls Tryz.prog 70 #[.pointer (some ⟨rb, 0, none⟩), .agg #[.int .i64 43, .int .i64 (hd s).place, kv, .string ⟨([]).toArray⟩, .int .i64 0], .slice (some ⟨W1.heap.size, 0, none⟩) 2 2] (W1.alloc (.cells #[.int .i64 ((v2 : Nat) : Int), .int .i64 ((v3 : Nat) : Int)] 3)) fun e W' => ∃ r : Int, e = .returned (.int .i64 r) /\ aj w0 rb ae aa TL xs U W s ns (.ok [.mk 43 (hd s).place 0 ([]) (a ++ b)] (s4)) (.returned (.int .i64 r)) W') := ⟨fun W1 h hk v2 g2 v3 g3 e2 e3 hsz kv => by
     have en : ends (a ++ b) ns.length = [(((ns).length + sizes a - 1 : Nat) : Int), (((ns ++ ag a (ns).length).length + sizes b - 1 : Nat) : Int)] := by rw [bD, aK e2, aK e3, dV]; rfl
     rw [← g2, ← g3] at en
     have hI := dz (rb := rb) (W := W1) (o := #[.int .i64 ((v2 : Nat) : Int), .int .i64 ((v3 : Nat) : Int)]) (ys := ends (a ++ b) ns.length) (n := 2) (by rw [en]; rfl) (by decide) (by decide) h.lt (by rw [en]; rfl)
     have h2 := h.ext (ah W1 (.cells #[.int .i64 ((v2 : Nat) : Int), .int .i64 ((v3 : Nat) : Int)] 3))
     rw [bP] at h2
     exact fG hT (a ++ b) h2 (hk.trans (af.alloc h.lt _)) hsz ⟨W, hS⟩ 43 (hd s).place 0 ([]) kv (some ⟨W1.heap.size, 0, none⟩) 2 2 (by simp [e2, e3]) hI h.new⟩
   show Calls _ _ _ _ (aj w0 rb ae aa TL xs U W s ns (.ok [.mk 43 (hd s).place 0 ([]) (a ++ b)] s4))
   clear hne HU HB
   go_enter Tryz.func111, Tryz.ntmps111
   go_wp2_with (first
    | (go_at_call 85; refine Calls.mono (B1.out _ hS) ?_; rintro e W1 (⟨_, rfl, q1, l1, k1⟩ | ⟨h, _⟩); rotate_left 1; exact absurd H1.out h; clear B1)
    | (go_at_call 102; refine Calls.mono (B2.out _ (q1.ext (ah _ _))) ?_; rintro e W2 (⟨_, rfl, q2, l2, k2⟩ | ⟨h, _⟩); rotate_left 1; exact absurd H2.out h; obtain ⟨hb, hown, hrx⟩ := bJ (o := (bf 43 (hd s).place ⟨#[]⟩ 0)) q1 (Below.refl _ _); have as0 := (ArS.mk (q1.ext (ah _ _)) (k1.trans (af.alloc q1.lt _)) hb hown hrx : ArS w0 rb ae aa TL xs U W (W1.alloc (bf 43 (hd s).place ⟨#[]⟩ 0)) (tl s) ns W1.heap.size 43 (hd s).place ⟨#[]⟩).to q2 k2; clear hb hown hrx q2 k2 B2; have AS : Bx _ := ⟨as0⟩; obtain ⟨y0, y1, y2, y3, y4, ylt⟩ := dw as0.b; clear as0))
   go_region_with (first
    | (go_at_call 126; refine Calls.mono (B3.out _ (AS.out.q.ext ((Below.refl _ _).drew)) (by simp)) ?_; rintro e W3 ⟨n3, l3, he, q3, k3⟩; obtain ⟨v3, hv⟩ : ∃ r : Nat, r = (ns.length + sizes a - 1) := ⟨_, rfl⟩; rw [← hv] at he; subst he; have V3 : Bx _ := ⟨hv⟩; clear hv; have as3 := AS.out.drew q3 k3; have AS3 : Bx _ := ⟨as3⟩; obtain ⟨x0, x1, x2, x3, x4, xlt⟩ := dw as3.b; clear as3 B3 q3 k3)
    | (go_at_call 95; refine Calls.mono (B4.out _ AS3.out.q (by simp)) ?_; rintro e W4 ⟨n4, l4, he, q4, k4⟩; obtain ⟨v4, hv⟩ : ∃ r : Nat, r = ((ns ++ ag a ns.length).length + sizes b - 1) := ⟨_, rfl⟩; rw [← hv] at he; subst he; have V4 : Bx _ := ⟨hv⟩; clear hv; have as4 := AS3.out.to q4 k4; have AS4 : Bx _ := ⟨as4⟩; obtain ⟨z0, z1, z2, z3, z4, zlt⟩ := dw as4.b; clear as4 B4 q4 k4)
    | (go_at_call 70; refine Calls.mono (HD.out _ AS4.out.q AS4.out.kp v3 V3.out v4 V4.out n3 n4 (by simp only [aI]; omega) _) ?_; rintro e W9 ⟨r9, rfl, hp⟩))
   all_goals
    go_wp2
    go_ret
    exact hp
theorem nD {W W3 : World} {s : List ai} {ns : List Nd} {x : Nat} {k p num : Int} {nm : ByteArray} (k2 : Int) (q : RSs w0 rb ae aa TL xs U W3 s ns) (hk : af rb W W3) (hb : W3.heap[x]? = some (bf k p nm num)) (hrx : rb < x) (ho : cZ W3 rb ≠ some x) (hz : W.heap.size <= x) :
  RSs w0 rb ae aa TL xs U (W3.setCell ⟨x, 0, none⟩ (.int .i64 k2)) s ns /\ af rb W (W3.setCell ⟨x, 0, none⟩ (.int .i64 k2)) /\ (W3.setCell ⟨x, 0, none⟩ (.int .i64 k2)).heap[x]? = some (bf k2 p nm num) /\ cZ (W3.setCell ⟨x, 0, none⟩ (.int .i64 k2)) rb ≠ some x /\ x < W3.heap.size /\ W3.cell? ⟨x, 0, none⟩ = some (.int .i64 k) /\ W3.frozen? ⟨x, 0, none⟩ = false := by
 obtain ⟨p1, p2⟩ := q.nA hrx ho hb 0 (.int .i64 k2)
 refine ⟨p1, p2 W hk hz, ji hb, ?_, aY hb, by simp [World.cell?, hb, bf], by simp [World.frozen?, hb, bf]⟩
 have hrh : (W3.setCell ⟨x, 0, none⟩ (.int .i64 k2)).heap[rb]? = W3.heap[rb]? := heap_setCell_other W3 ⟨x, 0, none⟩ rb _ (by show rb ≠ x; omega)
 unfold cZ
 rw [hrh]
 exact ho
theorem Ll (hT : RT w0 rb ae aa TL xs) (hK : aR TL) {f : Nat} (HU : RC w0 rb ae aa TL xs (pF f .unary) 126 #[]) (HB : RC w0 rb ae aa TL xs (pF f .block) 95 #[]) {W : World} {s : List ai} {ns : List Nd} (hS : RSs w0 rb ae aa TL xs U W s ns) (h1 : kd s = 13) (h2 : kd (tl s) ≠ 65) (h3 : nmB (tl s) = true) (h6 : kd (tl (tl (tl s))) = 65) (hne : (aC (pF f .unary (tl (tl (tl (tl s))))) fun a s3 => aC (pF f .block s3) fun b s4 => mk1 43 s 0 (hd (tl s)).name (a ++ b) s4) ≠ .out) :
  Calls Tryz.prog 111 #[.pointer (some ⟨rb, 0, none⟩)] W (aj w0 rb ae aa TL xs U W s ns (aC (pF f .unary (tl (tl (tl (tl s))))) fun a s3 => aC (pF f .block s3) fun b s4 => mk1 43 s 0 (hd (tl s)).name (a ++ b) s4)) := by
 have hrW := hS.lt
 have B1 : Bx (∀ W1, RSs w0 rb ae aa TL xs U W1 s ns -> _) := ⟨fun W1 h => bF hT hK h 13 (by decide) ⟨#[99, 97, 115, 101]⟩ (by decide)⟩
 have B2 : Bx (∀ W1, RSs w0 rb ae aa TL xs U W1 (tl s) ns -> _) := ⟨fun W1 h => iP hT hK h 65 (by decide) ⟨#[60, 45]⟩ (by decide)⟩
 have H1 : Bx _ := ⟨h1⟩
 have H2 : Bx _ := ⟨h2⟩
 clear h1 h2
 have BN : Bx (∀ W1, RSs w0 rb ae aa TL xs U W1 (tl s) ns -> _) := ⟨fun W1 h => mr hT hK h⟩
 have h34 := of_decide_eq_true (p := kd (tl s) = 1 /\ kd (tl (tl s)) = 50) h3
 have H3 : Bx _ := ⟨h3⟩
 have H4 : Bx _ := ⟨h34.1⟩
 have H5 : Bx _ := ⟨h34.2⟩
 have H6 : Bx _ := ⟨h6⟩
 clear h3 h34 h6
 have BM : Bx (∀ W1, RSs w0 rb ae aa TL xs U W1 (tl s) ns -> _) := ⟨fun W1 h => lV hT hK h⟩
 have B5 : Bx (∀ W1, RSs w0 rb ae aa TL xs U W1 (tl (tl s)) ns -> _) := ⟨fun W1 h => bF hT hK h 50 (by decide) ⟨#[61]⟩ (by decide)⟩
 have B6 : Bx (∀ W1, RSs w0 rb ae aa TL xs U W1 (tl (tl (tl s))) ns -> _) := ⟨fun W1 h => bF hT hK h 65 (by decide) ⟨#[60, 45]⟩ (by decide)⟩
 have B3 : Bx (∀ W1, RSs w0 rb ae aa TL xs U W1 (tl (tl (tl (tl s)))) ns -> pF f .unary (tl (tl (tl (tl s)))) ≠ .out -> Calls Tryz.prog 126 #[.pointer (some ⟨rb, 0, none⟩)] W1 (aj w0 rb ae aa TL xs U W1 (tl (tl (tl (tl s)))) ns (pF f .unary (tl (tl (tl (tl s))))))) := ⟨fun W1 h hn => HU U W1 (tl (tl (tl (tl s)))) ns h hn⟩
 match r3 : pF f .unary (tl (tl (tl (tl s)))) with
 | .out => rw [r3] at hne; exact absurd rfl hne
 | .err s3 =>
  rw [r3] at B3
  show Calls _ _ _ _ (aj w0 rb ae aa TL xs U W s ns (.err s3))
  generalize (⟨(hd (tl s)).name.toArray⟩ : ByteArray) = nmZ at *
  clear hne HU HB
  go_enter Tryz.func111, Tryz.ntmps111
  go_wp2_with (first
   | (go_at_call 85; refine Calls.mono (B1.out _ hS) ?_; rintro e W1 (⟨_, rfl, q1, l1, k1⟩ | ⟨h, _⟩); rotate_left 1; exact absurd H1.out h; clear B1)
   | (go_at_call 102; refine Calls.mono (B2.out _ (q1.ext (ah _ _))) ?_; rintro e W2 (⟨h, _⟩ | ⟨_, rfl, q2, k2⟩); exact absurd h H2.out; obtain ⟨hb, hown, hrx⟩ := bJ (o := (bf 43 (hd s).place ⟨#[]⟩ 0)) q1 (Below.refl _ _); have as1 := (ArS.mk (q1.ext (ah _ _)) (k1.trans (af.alloc q1.lt _)) hb hown hrx : ArS w0 rb ae aa TL xs U W (W1.alloc (bf 43 (hd s).place ⟨#[]⟩ 0)) (tl s) ns W1.heap.size 43 (hd s).place ⟨#[]⟩).to q2 k2; have AS1 : Bx _ := ⟨as1⟩; have hz1 := k1.size; clear hb hown hrx q2 k2 B2 as1)
   | (go_at_call 127; refine Calls.mono (BN.out _ AS1.out.q) ?_; rintro e W20 ⟨he, b20⟩; rw [H3.out] at he; subst he; have as2 := AS1.out.to (AS1.out.q.ext b20) (af.ext AS1.out.q.lt b20); have AS2 : Bx _ := ⟨as2⟩; clear BN AS1 b20 as2)
   | (go_at_call 86; refine Calls.mono (BM.out _ AS2.out.q) ?_; rintro e W21 (⟨_, rfl, q21, l21, k21⟩ | ⟨h, _⟩); rotate_left 1; exact absurd H4.out h; have as3 := AS2.out.to q21 k21; obtain ⟨gq, gk, gb, go, gx, gc, gf⟩ := jw nmZ as3.q as3.kp as3.b as3.r as3.o hz1; have AS3 : Bx _ := ⟨(ArS.mk gq gk gb go as3.r : ArS w0 rb ae aa TL xs U W _ (tl (tl s)) ns W1.heap.size 43 (hd s).place nmZ)⟩; clear gq gk gb go AS2 as3 BM q21 k21)
   | (go_at_call 85; refine Calls.mono (B5.out _ AS3.out.q) ?_; rintro e W22 (⟨_, rfl, q22, l22, k22⟩ | ⟨h, _⟩); rotate_left 1; exact absurd H5.out h; have AS4 : Bx _ := ⟨AS3.out.to q22 k22⟩; clear B5 AS3 q22 k22)
   | (go_at_call 85; refine Calls.mono (B6.out _ AS4.out.q) ?_; rintro e W23 (⟨_, rfl, q23, l23, k23⟩ | ⟨h, _⟩); rotate_left 1; exact absurd H6.out h; have as0 := AS4.out.to q23 k23; clear B6 AS4 q23 k23; have AS : Bx _ := ⟨as0⟩; obtain ⟨y0, y1, y2, y3, y4, ylt⟩ := dw as0.b; clear as0))
  refine wp_region_any (by kernel_rfl) ?_
  try (change wpAny _ _ _ _ _ _ _ (World.drew _))
  refine wpAny_take (i := 0) (v := ?_) rfl (by kernel_rfl) (by kernel_rfl) (by kernel_rfl) (fun _ _ _ h => h) (Or.inl ⟨by rfl, ?_⟩) ?_
  case refine_2 => intro w; go_simp; try rfl
  refine wpAny_take (i := 2) (v := ?_) rfl (by kernel_rfl) (by kernel_rfl) (by kernel_rfl) (fun _ _ _ h => h) (Or.inl ⟨by rfl, ?_⟩) ?_
  case refine_2 => intro w; go_simp; try rfl
  refine wpAny_take (i := 4) (v := ?_) rfl (by kernel_rfl) (by kernel_rfl) (by kernel_rfl) (fun _ _ _ h => h) (Or.inl ⟨by rfl, ?_⟩) ?_
  case refine_2 => intro w; go_simp; try rfl
  refine wpAny_ready (rs := [1, 3]) (by kernel_rfl) (by simp) ?_
  refine AllReady.cons rfl (fun KK hKK => ?_) (AllReady.cons rfl (fun KK hKK => ?_) AllReady.nil)
  ·go_simp
   refine hKK _ _ ?_
   clear hKK KK
   refine wpAny_ready (rs := [3]) (by kernel_rfl) (by simp) ?_
   refine AllReady.cons rfl (fun KK hKK => ?_) AllReady.nil
   go_simp
   go_wp2_with (go_at_call 126; refine Calls.mono (B3.out _ (AS.out.q.ext ((Below.refl _ _).drew)) (by simp)) ?_; rintro e W3 ⟨rfl, b⟩; unfold ak)
   exact ⟨rfl, rfl, b⟩
  ·go_simp
   go_wp2_with (go_at_call 126; refine Calls.mono (B3.out _ (AS.out.q.ext ((Below.refl _ _).drew)) (by simp)) ?_; rintro e W3 ⟨rfl, b⟩; unfold ak)
   exact ⟨rfl, rfl, b⟩
 | .ok a s3 =>
  rw [r3] at B3 hne
  simp only [aC] at hne ⊢
  have B4 : Bx (∀ W1, RSs w0 rb ae aa TL xs U W1 s3 (ns ++ ag a ns.length) -> pF f .block s3 ≠ .out -> Calls Tryz.prog 95 #[.pointer (some ⟨rb, 0, none⟩)] W1 (aj w0 rb ae aa TL xs U W1 s3 (ns ++ ag a ns.length) (pF f .block s3))) := ⟨fun W1 h hn => HB U W1 s3 (ns ++ ag a ns.length) h hn⟩
  match r4 : pF f .block s3 with
  | .out => rw [r4] at hne; exact absurd rfl hne
  | .err s4 =>
   rw [r4] at B4
   show Calls _ _ _ _ (aj w0 rb ae aa TL xs U W s ns (.err s4))
   generalize (⟨(hd (tl s)).name.toArray⟩ : ByteArray) = nmZ at *
   clear hne HU HB
   go_enter Tryz.func111, Tryz.ntmps111
   go_wp2_with (first
    | (go_at_call 85; refine Calls.mono (B1.out _ hS) ?_; rintro e W1 (⟨_, rfl, q1, l1, k1⟩ | ⟨h, _⟩); rotate_left 1; exact absurd H1.out h; clear B1)
    | (go_at_call 102; refine Calls.mono (B2.out _ (q1.ext (ah _ _))) ?_; rintro e W2 (⟨h, _⟩ | ⟨_, rfl, q2, k2⟩); exact absurd h H2.out; obtain ⟨hb, hown, hrx⟩ := bJ (o := (bf 43 (hd s).place ⟨#[]⟩ 0)) q1 (Below.refl _ _); have as1 := (ArS.mk (q1.ext (ah _ _)) (k1.trans (af.alloc q1.lt _)) hb hown hrx : ArS w0 rb ae aa TL xs U W (W1.alloc (bf 43 (hd s).place ⟨#[]⟩ 0)) (tl s) ns W1.heap.size 43 (hd s).place ⟨#[]⟩).to q2 k2; have AS1 : Bx _ := ⟨as1⟩; have hz1 := k1.size; clear hb hown hrx q2 k2 B2 as1)
    | (go_at_call 127; refine Calls.mono (BN.out _ AS1.out.q) ?_; rintro e W20 ⟨he, b20⟩; rw [H3.out] at he; subst he; have as2 := AS1.out.to (AS1.out.q.ext b20) (af.ext AS1.out.q.lt b20); have AS2 : Bx _ := ⟨as2⟩; clear BN AS1 b20 as2)
    | (go_at_call 86; refine Calls.mono (BM.out _ AS2.out.q) ?_; rintro e W21 (⟨_, rfl, q21, l21, k21⟩ | ⟨h, _⟩); rotate_left 1; exact absurd H4.out h; have as3 := AS2.out.to q21 k21; obtain ⟨gq, gk, gb, go, gx, gc, gf⟩ := jw nmZ as3.q as3.kp as3.b as3.r as3.o hz1; have AS3 : Bx _ := ⟨(ArS.mk gq gk gb go as3.r : ArS w0 rb ae aa TL xs U W _ (tl (tl s)) ns W1.heap.size 43 (hd s).place nmZ)⟩; clear gq gk gb go AS2 as3 BM q21 k21)
    | (go_at_call 85; refine Calls.mono (B5.out _ AS3.out.q) ?_; rintro e W22 (⟨_, rfl, q22, l22, k22⟩ | ⟨h, _⟩); rotate_left 1; exact absurd H5.out h; have AS4 : Bx _ := ⟨AS3.out.to q22 k22⟩; clear B5 AS3 q22 k22)
    | (go_at_call 85; refine Calls.mono (B6.out _ AS4.out.q) ?_; rintro e W23 (⟨_, rfl, q23, l23, k23⟩ | ⟨h, _⟩); rotate_left 1; exact absurd H6.out h; have as0 := AS4.out.to q23 k23; clear B6 AS4 q23 k23; have AS : Bx _ := ⟨as0⟩; obtain ⟨y0, y1, y2, y3, y4, ylt⟩ := dw as0.b; clear as0))
   refine wp_region_any (by kernel_rfl) ?_
   try (change wpAny _ _ _ _ _ _ _ (World.drew _))
   refine wpAny_take (i := 0) (v := ?_) rfl (by kernel_rfl) (by kernel_rfl) (by kernel_rfl) (fun _ _ _ h => h) (Or.inl ⟨by rfl, ?_⟩) ?_
   case refine_2 => intro w; go_simp; try rfl
   refine wpAny_take (i := 2) (v := ?_) rfl (by kernel_rfl) (by kernel_rfl) (by kernel_rfl) (fun _ _ _ h => h) (Or.inl ⟨by rfl, ?_⟩) ?_
   case refine_2 => intro w; go_simp; try rfl
   refine wpAny_take (i := 4) (v := ?_) rfl (by kernel_rfl) (by kernel_rfl) (by kernel_rfl) (fun _ _ _ h => h) (Or.inl ⟨by rfl, ?_⟩) ?_
   case refine_2 => intro w; go_simp; try rfl
   refine wpAny_ready (rs := [1, 3]) (by kernel_rfl) (by simp) ?_
   refine AllReady.cons rfl (fun KK hKK => ?_) (AllReady.cons rfl (fun KK hKK => ?_) AllReady.nil)
   ·go_simp
    refine hKK _ _ ?_
    clear hKK KK
    refine wpAny_ready (rs := [3]) (by kernel_rfl) (by simp) ?_
    refine AllReady.cons rfl (fun KK hKK => ?_) AllReady.nil
    go_simp
    go_wp2_with (go_at_call 126; refine Calls.mono (B3.out _ (AS.out.q.ext ((Below.refl _ _).drew)) (by simp)) ?_; rintro e W3 ⟨n3, l3, he, q3, k3⟩; obtain ⟨v3, hv⟩ : ∃ r : Nat, r = (ns.length + sizes a - 1) := ⟨_, rfl⟩; rw [← hv] at he; subst he; have V3 : Bx _ := ⟨hv⟩; clear hv; have as3 := AS.out.drew q3 k3; have AS3 : Bx _ := ⟨as3⟩; obtain ⟨x0, x1, x2, x3, x4, xlt⟩ := dw as3.b; clear as3 B3 q3 k3)
    refine wpAny_ready (rs := [5]) (by kernel_rfl) (by simp) ?_
    refine AllReady.cons rfl (fun KK hKK => ?_) AllReady.nil
    go_simp
    go_wp2_with (go_at_call 95; refine Calls.mono (B4.out _ AS3.out.q (by simp)) ?_; rintro e W4 ⟨rfl, b⟩; unfold ak)
    exact ⟨rfl, rfl, b⟩
   ·go_simp
    go_wp2_with (go_at_call 126; refine Calls.mono (B3.out _ (AS.out.q.ext ((Below.refl _ _).drew)) (by simp)) ?_; rintro e W3 ⟨n3, l3, he, q3, k3⟩; obtain ⟨v3, hv⟩ : ∃ r : Nat, r = (ns.length + sizes a - 1) := ⟨_, rfl⟩; rw [← hv] at he; subst he; have V3 : Bx _ := ⟨hv⟩; clear hv; have as3 := AS.out.drew q3 k3; have AS3 : Bx _ := ⟨as3⟩; obtain ⟨x0, x1, x2, x3, x4, xlt⟩ := dw as3.b; clear as3 B3 q3 k3)
    refine wpAny_ready (rs := [1, 5]) (by kernel_rfl) (by simp) ?_
    refine AllReady.cons rfl (fun KK hKK => ?_) (AllReady.cons rfl (fun KK hKK => ?_) AllReady.nil)
    ·go_simp
     refine hKK _ _ ?_
     clear hKK KK
     refine wpAny_ready (rs := [5]) (by kernel_rfl) (by simp) ?_
     refine AllReady.cons rfl (fun KK hKK => ?_) AllReady.nil
     go_simp
     go_wp2_with (go_at_call 95; refine Calls.mono (B4.out _ AS3.out.q (by simp)) ?_; rintro e W4 ⟨rfl, b⟩; unfold ak)
     exact ⟨rfl, rfl, b⟩
    ·go_simp
     go_wp2_with (go_at_call 95; refine Calls.mono (B4.out _ AS3.out.q (by simp)) ?_; rintro e W4 ⟨rfl, b⟩; unfold ak)
     exact ⟨rfl, rfl, b⟩
  | .ok b s4 =>
   rw [r4] at B4
   have HD : Bx (∀ W1, RSs w0 rb ae aa TL xs U W1 s4 ((ns ++ ag a (ns).length) ++ ag b ((ns ++ ag a (ns).length)).length) -> af rb W W1 -> ∀ v2 : Nat, v2 = ((ns).length + sizes a - 1 : Nat) -> ∀ v3 : Nat, v3 = ((ns ++ ag a (ns).length).length + sizes b - 1 : Nat) -> a.length = 1 -> b.length = 1 -> (s4).length + sizes (a ++ b) + 1 <= s.length -> ∀ kv, Calls Tryz.prog 70 #[.pointer (some ⟨rb, 0, none⟩), .agg #[.int .i64 43, .int .i64 (hd s).place, kv, .string ⟨((hd (tl s)).name).toArray⟩, .int .i64 0], .slice (some ⟨W1.heap.size, 0, none⟩) 2 2] (W1.alloc (.cells #[.int .i64 ((v2 : Nat) : Int), .int .i64 ((v3 : Nat) : Int)] 3)) fun e W' => ∃ r : Int, e = .returned (.int .i64 r) /\ aj w0 rb ae aa TL xs U W s ns (.ok [.mk 43 (hd s).place 0 ((hd (tl s)).name) (a ++ b)] (s4)) (.returned (.int .i64 r)) W') := ⟨fun W1 h hk v2 g2 v3 g3 e2 e3 hsz kv => by
     have en : ends (a ++ b) ns.length = [(((ns).length + sizes a - 1 : Nat) : Int), (((ns ++ ag a (ns).length).length + sizes b - 1 : Nat) : Int)] := by rw [bD, aK e2, aK e3, dV]; rfl
     rw [← g2, ← g3] at en
     have hI := dz (rb := rb) (W := W1) (o := #[.int .i64 ((v2 : Nat) : Int), .int .i64 ((v3 : Nat) : Int)]) (ys := ends (a ++ b) ns.length) (n := 2) (by rw [en]; rfl) (by decide) (by decide) h.lt (by rw [en]; rfl)
     have h2 := h.ext (ah W1 (.cells #[.int .i64 ((v2 : Nat) : Int), .int .i64 ((v3 : Nat) : Int)] 3))
     rw [bP] at h2
     exact fG hT (a ++ b) h2 (hk.trans (af.alloc h.lt _)) hsz ⟨W, hS⟩ 43 (hd s).place 0 ((hd (tl s)).name) kv (some ⟨W1.heap.size, 0, none⟩) 2 2 (by simp [e2, e3]) hI h.new⟩
   show Calls _ _ _ _ (aj w0 rb ae aa TL xs U W s ns (.ok [.mk 43 (hd s).place 0 ((hd (tl s)).name) (a ++ b)] s4))
   generalize (⟨(hd (tl s)).name.toArray⟩ : ByteArray) = nmZ at *
   clear hne HU HB
   go_enter Tryz.func111, Tryz.ntmps111
   go_wp2_with (first
    | (go_at_call 85; refine Calls.mono (B1.out _ hS) ?_; rintro e W1 (⟨_, rfl, q1, l1, k1⟩ | ⟨h, _⟩); rotate_left 1; exact absurd H1.out h; clear B1)
    | (go_at_call 102; refine Calls.mono (B2.out _ (q1.ext (ah _ _))) ?_; rintro e W2 (⟨h, _⟩ | ⟨_, rfl, q2, k2⟩); exact absurd h H2.out; obtain ⟨hb, hown, hrx⟩ := bJ (o := (bf 43 (hd s).place ⟨#[]⟩ 0)) q1 (Below.refl _ _); have as1 := (ArS.mk (q1.ext (ah _ _)) (k1.trans (af.alloc q1.lt _)) hb hown hrx : ArS w0 rb ae aa TL xs U W (W1.alloc (bf 43 (hd s).place ⟨#[]⟩ 0)) (tl s) ns W1.heap.size 43 (hd s).place ⟨#[]⟩).to q2 k2; have AS1 : Bx _ := ⟨as1⟩; have hz1 := k1.size; clear hb hown hrx q2 k2 B2 as1)
    | (go_at_call 127; refine Calls.mono (BN.out _ AS1.out.q) ?_; rintro e W20 ⟨he, b20⟩; rw [H3.out] at he; subst he; have as2 := AS1.out.to (AS1.out.q.ext b20) (af.ext AS1.out.q.lt b20); have AS2 : Bx _ := ⟨as2⟩; clear BN AS1 b20 as2)
    | (go_at_call 86; refine Calls.mono (BM.out _ AS2.out.q) ?_; rintro e W21 (⟨_, rfl, q21, l21, k21⟩ | ⟨h, _⟩); rotate_left 1; exact absurd H4.out h; have as3 := AS2.out.to q21 k21; obtain ⟨gq, gk, gb, go, gx, gc, gf⟩ := jw nmZ as3.q as3.kp as3.b as3.r as3.o hz1; have AS3 : Bx _ := ⟨(ArS.mk gq gk gb go as3.r : ArS w0 rb ae aa TL xs U W _ (tl (tl s)) ns W1.heap.size 43 (hd s).place nmZ)⟩; clear gq gk gb go AS2 as3 BM q21 k21)
    | (go_at_call 85; refine Calls.mono (B5.out _ AS3.out.q) ?_; rintro e W22 (⟨_, rfl, q22, l22, k22⟩ | ⟨h, _⟩); rotate_left 1; exact absurd H5.out h; have AS4 : Bx _ := ⟨AS3.out.to q22 k22⟩; clear B5 AS3 q22 k22)
    | (go_at_call 85; refine Calls.mono (B6.out _ AS4.out.q) ?_; rintro e W23 (⟨_, rfl, q23, l23, k23⟩ | ⟨h, _⟩); rotate_left 1; exact absurd H6.out h; have as0 := AS4.out.to q23 k23; clear B6 AS4 q23 k23; have AS : Bx _ := ⟨as0⟩; obtain ⟨y0, y1, y2, y3, y4, ylt⟩ := dw as0.b; clear as0))
   go_region_with (first
    | (go_at_call 126; refine Calls.mono (B3.out _ (AS.out.q.ext ((Below.refl _ _).drew)) (by simp)) ?_; rintro e W3 ⟨n3, l3, he, q3, k3⟩; obtain ⟨v3, hv⟩ : ∃ r : Nat, r = (ns.length + sizes a - 1) := ⟨_, rfl⟩; rw [← hv] at he; subst he; have V3 : Bx _ := ⟨hv⟩; clear hv; have as3 := AS.out.drew q3 k3; have AS3 : Bx _ := ⟨as3⟩; obtain ⟨x0, x1, x2, x3, x4, xlt⟩ := dw as3.b; clear as3 B3 q3 k3)
    | (go_at_call 95; refine Calls.mono (B4.out _ AS3.out.q (by simp)) ?_; rintro e W4 ⟨n4, l4, he, q4, k4⟩; obtain ⟨v4, hv⟩ : ∃ r : Nat, r = ((ns ++ ag a ns.length).length + sizes b - 1) := ⟨_, rfl⟩; rw [← hv] at he; subst he; have V4 : Bx _ := ⟨hv⟩; clear hv; have as4 := AS3.out.to q4 k4; have AS4 : Bx _ := ⟨as4⟩; obtain ⟨z0, z1, z2, z3, z4, zlt⟩ := dw as4.b; clear as4 B4 q4 k4)
    | (go_at_call 70; refine Calls.mono (HD.out _ AS4.out.q AS4.out.kp v3 V3.out v4 V4.out n3 n4 (by simp only [aI]; omega) _) ?_; rintro e W9 ⟨r9, rfl, hp⟩))
   all_goals
    go_wp2
    go_ret
    exact hp
theorem F8 (hT : RT w0 rb ae aa TL xs) (hK : aR TL) {f : Nat} (HU : RC w0 rb ae aa TL xs (pF f .unary) 126 #[]) (HB : RC w0 rb ae aa TL xs (pF f .block) 95 #[]) {W : World} {s : List ai} {ns : List Nd} (hS : RSs w0 rb ae aa TL xs U W s ns) (h1 : kd s = 13) (h2 : kd (tl s) ≠ 65) (h3 : nmB (tl s) = true) (h6 : kd (tl (tl (tl s))) ≠ 65) :
  Calls Tryz.prog 111 #[.pointer (some ⟨rb, 0, none⟩)] W (aj w0 rb ae aa TL xs U W s ns (.err (tl (tl (tl s))))) := by
 have hrW := hS.lt
 have B1 : Bx (∀ W1, RSs w0 rb ae aa TL xs U W1 s ns -> _) := ⟨fun W1 h => bF hT hK h 13 (by decide) ⟨#[99, 97, 115, 101]⟩ (by decide)⟩
 have B2 : Bx (∀ W1, RSs w0 rb ae aa TL xs U W1 (tl s) ns -> _) := ⟨fun W1 h => iP hT hK h 65 (by decide) ⟨#[60, 45]⟩ (by decide)⟩
 have H1 : Bx _ := ⟨h1⟩
 have H2 : Bx _ := ⟨h2⟩
 clear h1 h2
 have BN : Bx (∀ W1, RSs w0 rb ae aa TL xs U W1 (tl s) ns -> _) := ⟨fun W1 h => mr hT hK h⟩
 have h34 := of_decide_eq_true (p := kd (tl s) = 1 /\ kd (tl (tl s)) = 50) h3
 have H3 : Bx _ := ⟨h3⟩
 have H4 : Bx _ := ⟨h34.1⟩
 have H5 : Bx _ := ⟨h34.2⟩
 have H6 : Bx _ := ⟨h6⟩
 clear h3 h34 h6
 have BM : Bx (∀ W1, RSs w0 rb ae aa TL xs U W1 (tl s) ns -> _) := ⟨fun W1 h => lV hT hK h⟩
 have B5 : Bx (∀ W1, RSs w0 rb ae aa TL xs U W1 (tl (tl s)) ns -> _) := ⟨fun W1 h => bF hT hK h 50 (by decide) ⟨#[61]⟩ (by decide)⟩
 have B6 : Bx (∀ W1, RSs w0 rb ae aa TL xs U W1 (tl (tl (tl s))) ns -> _) := ⟨fun W1 h => bF hT hK h 65 (by decide) ⟨#[60, 45]⟩ (by decide)⟩
 generalize (⟨(hd (tl s)).name.toArray⟩ : ByteArray) = nmZ at *
 clear HU HB
 go_enter Tryz.func111, Tryz.ntmps111
 go_wp2_with (first
  | (go_at_call 85; refine Calls.mono (B1.out _ hS) ?_; rintro e W1 (⟨_, rfl, q1, l1, k1⟩ | ⟨h, _⟩); rotate_left 1; exact absurd H1.out h; clear B1)
  | (go_at_call 102; refine Calls.mono (B2.out _ (q1.ext (ah _ _))) ?_; rintro e W2 (⟨h, _⟩ | ⟨_, rfl, q2, k2⟩); exact absurd h H2.out; obtain ⟨hb, hown, hrx⟩ := bJ (o := (bf 43 (hd s).place ⟨#[]⟩ 0)) q1 (Below.refl _ _); have as1 := (ArS.mk (q1.ext (ah _ _)) (k1.trans (af.alloc q1.lt _)) hb hown hrx : ArS w0 rb ae aa TL xs U W (W1.alloc (bf 43 (hd s).place ⟨#[]⟩ 0)) (tl s) ns W1.heap.size 43 (hd s).place ⟨#[]⟩).to q2 k2; have AS1 : Bx _ := ⟨as1⟩; have hz1 := k1.size; clear hb hown hrx q2 k2 B2 as1)
  | (go_at_call 127; refine Calls.mono (BN.out _ AS1.out.q) ?_; rintro e W20 ⟨he, b20⟩; rw [H3.out] at he; subst he; have as2 := AS1.out.to (AS1.out.q.ext b20) (af.ext AS1.out.q.lt b20); have AS2 : Bx _ := ⟨as2⟩; clear BN AS1 b20 as2)
  | (go_at_call 86; refine Calls.mono (BM.out _ AS2.out.q) ?_; rintro e W21 (⟨_, rfl, q21, l21, k21⟩ | ⟨h, _⟩); rotate_left 1; exact absurd H4.out h; have as3 := AS2.out.to q21 k21; obtain ⟨gq, gk, gb, go, gx, gc, gf⟩ := jw nmZ as3.q as3.kp as3.b as3.r as3.o hz1; have AS3 : Bx _ := ⟨(ArS.mk gq gk gb go as3.r : ArS w0 rb ae aa TL xs U W _ (tl (tl s)) ns W1.heap.size 43 (hd s).place nmZ)⟩; clear gq gk gb go AS2 as3 BM q21 k21)
  | (go_at_call 85; refine Calls.mono (B5.out _ AS3.out.q) ?_; rintro e W22 (⟨_, rfl, q22, l22, k22⟩ | ⟨h, _⟩); rotate_left 1; exact absurd H5.out h; have AS4 : Bx _ := ⟨AS3.out.to q22 k22⟩; clear B5 AS3 q22 k22)
  | (go_at_call 85; refine Calls.mono (B6.out _ AS4.out.q) ?_; rintro e W23 (⟨h, _⟩ | ⟨_, rfl, b⟩); exact absurd h H6.out; unfold ak))
 exact ⟨rfl, rfl, b⟩
end Go.Proofs.YtecodpdfckjalaaGreatDoor
