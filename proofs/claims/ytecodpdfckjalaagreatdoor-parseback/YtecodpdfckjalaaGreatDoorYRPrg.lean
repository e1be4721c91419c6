import Derived.Test.YtecodpdfckjalaaGreatDoorYRKid
import Derived.Deep.AppendLies
import Derived.Deep.RegionHeld3
set_option linter.unusedVariables false
set_option linter.unusedSimpArgs false
set_option maxHeartbeats 4000000
set_option maxRecDepth 100000
namespace Go.Proofs.YtecodpdfckjalaaGreatDoor
open Go.RowKit
variable {w0 : World} {rb : Nat} {ae aa : Value} {TL : List Tok} {xs : List UInt8} {U : Nat -> Prop}
theorem lw {W Wh W4 : World} {x : Nat} {s3 : List ai} {ns : List Nd} {k p num : Int} {nm : ByteArray} {v : Value} {ys : List Int} (z : Int) (hb : Wh.heap[x]? = some (bf k p nm num)) (hown : cZ Wh rb ≠ some x) (hrx : rb < x) (hz : W.heap.size <= x) (kW : af rb W Wh) (k3 : af rb Wh W4) (q3 : RSs w0 rb ae aa TL xs (Uv U v) W4 s3 ns) (r3 : aQ W4 rb v ys) (n3 : ∀ y, v.ownBlock = some y -> Wh.heap.size <= y) :
  RSs w0 rb ae aa TL xs (Uv U v) (W4.setCell ⟨x, 4, none⟩ (.int .i64 z)) s3 ns /\ af rb W (W4.setCell ⟨x, 4, none⟩ (.int .i64 z)) /\ aQ (W4.setCell ⟨x, 4, none⟩ (.int .i64 z)) rb v ys /\ (∀ y, v.ownBlock = some y -> W.heap.size <= y /\ y ≠ x) /\ (W4.setCell ⟨x, 4, none⟩ (.int .i64 z)).heap[x]? = some (bf k p nm z) /\ x < W4.heap.size /\ W4.cell? ⟨x, 4, none⟩ = some (.int .i64 num) /\ W4.frozen? ⟨x, 4, none⟩ = false /\ cZ (W4.setCell ⟨x, 4, none⟩ (.int .i64 z)) rb ≠ some x := by
 have hx := aY hb
 have hkz := kW.size
 obtain ⟨hb3, ho3⟩ := bI k3 hb hrx hown
 obtain ⟨p1, p2⟩ := q3.nA hrx ho3 hb3 4 (.int .i64 z)
 refine ⟨p1, p2 W (kW.trans k3) hz, jK r3 (fun y hy => by have := n3 y hy; omega), fun y hy => by have := n3 y hy; constructor <;> omega, kS hb3, aY hb3, by simp [World.cell?, hb3, bf], by simp [World.frozen?, hb3, bf], ?_⟩
 have hrh : (W4.setCell ⟨x, 4, none⟩ (.int .i64 z)).heap[rb]? = W4.heap[rb]? := heap_setCell_other W4 ⟨x, 4, none⟩ rb _ (by show rb ≠ x; omega)
 unfold cZ
 rw [hrh]
 exact ho3
theorem iQ {W W5 W6 : World} {x : Nat} {s5 s6 : List ai} {ns : List Nd} {k p num : Int} {nm : ByteArray} {e c : List Tr} {av : Option Addr} {m cc : Nat} (hS : ∃ s, RSs w0 rb ae aa TL xs U W s ns) (hm : m = e.length) (g1 : RSs w0 rb ae aa TL xs (Uv U (.slice av m cc)) W5 s5 (ns ++ ag e ns.length)) (g2 : af rb W W5) (g3 : aQ W5 rb (.slice av m cc) (ends e ns.length)) (g4 : ∀ y, (Value.slice av m cc).ownBlock = some y -> W.heap.size <= y /\ y ≠ x) (hb : W5.heap[x]? = some (bf k p nm num)) (hown : cZ W5 rb ≠ some x) (hrx : rb < x) (q6 : RSs w0 rb ae aa TL xs (Uv U (.slice av m cc)) W6 s6 ((ns ++ ag e ns.length) ++ ag c (ns ++ ag e ns.length).length)) (k6 : af rb W5.drew W6) (n6 : c.length = 1) (v : Nat) (hv : v = (ns ++ ag e ns.length).length + sizes c - 1) :
  W6.ownsRow (rb + 1) 3 1 (.slice av m cc) m (bM (ends e ns.length)) /\ W6.heap[x]? = some (bf k p nm num) /\ rb < W6.heap.size /\ ∀ g2 cp w7, (W6.alloc (.cells #[.int .i64 (v : Int)] 3)).grownBy w7 (Value.slice av m cc).ownBlock -> ((Value.slice av m cc).ownBlock = some g2 ∨ g2 = W6.heap.size + 1) -> g2 < w7.heap.size -> w7.ownsRow (rb + 1) 3 1 (.slice (some ⟨g2, 0, none⟩) (m + 1) cp) (m + 1) (bM (ends e ns.length) ++ [.int .i64 (v : Int)]) -> RSs w0 rb ae aa TL xs U w7 s6 (ns ++ ag (e ++ c) ns.length) /\ af rb W w7 /\ aQ w7 rb (.slice (some ⟨g2, 0, none⟩) (m + 1) cp) (ends (e ++ c) ns.length) /\ (∀ g, (some ⟨g2, 0, none⟩ : Option Addr) = some ⟨g, 0, none⟩ -> ¬ U g) /\ w7.heap[x]? = some (bf k p nm num) /\ cZ w7 rb ≠ some x := by
 have kd5 : af rb W5 W5.drew := af.ext g1.lt ((Below.refl _ _).drew)
 have hrow := g1.ints g3 (kd5.trans k6)
 obtain ⟨hb6, ho6⟩ := bI (kd5.trans k6) hb hrx hown
 have hx6 := aY hb6
 refine ⟨by unfold aQ at hrow; rw [cz, ← hm] at hrow; exact hrow, hb6, q6.lt, fun g2' cp w7 hg hat hl7 hown7 => ?_⟩
 obtain ⟨p1, p2⟩ := q6.grown hrow hg g2' (m + 1) cp hat hl7
 obtain ⟨p3, p4⟩ := p2 W (g2.trans (kd5.trans k6)) (fun y hy => (g4 y hy).1)
 have hends : ends (e ++ c) ns.length = ends e ns.length ++ [(v : Int)] := by rw [bD, aK n6, hv, dV]
 refine ⟨?_, p3, ?_, ?_, ?_, ?_⟩
 ·rw [bP] at p1
  exact p1.jD (fun y hy => .inl hy)
 ·unfold aQ
  rw [hends, List.length_append, cz, bM, List.map_append]
  subst hm
  exact hown7
 ·intro g hg' hU
  simp only [Option.some.injEq, Addr.mk.injEq] at hg'
  obtain ⟨s, _, _, _, _, _, hUb⟩ := hS
  have := hUb g hU
  omega
 ·rw [hg.block x (by simp; omega) (fun e' => (g4 x e'.symm).2 rfl), (ah W6 _).block x hx6]
  exact hb6
 ·obtain ⟨s0, hS0⟩ := hS
  have hrW := hS0.lt
  have hr6 := q6.lt
  have hrh : w7.heap[rb]? = W6.heap[rb]? := by
   rw [hg.block rb (by simp; omega) (fun e' => by have := (g4 rb e'.symm).1; omega), (ah W6 _).block rb hr6]
  unfold cZ
  rw [hrh]
  exact ho6
theorem Cg (hT : RT w0 rb ae aa TL xs) (hK : aR TL) {f : Nat} (HT : ∀ f', f' < f -> RC w0 rb ae aa TL xs (pF f' .typ) 87 #[]) (HL : LC 1 w0 rb ae aa TL xs (pF f (.listed .param)) 123 #[.func (.func 152) #[.pointer (some ⟨rb, 0, none⟩)] #[]]) (HB : RC w0 rb ae aa TL xs (pF f .block) 95 #[]) {W : World} {s : List ai} {ns : List Nd} (hS : RSs w0 rb ae aa TL xs U W s ns) (h0 : kd s = 23) (h1 : kd (tl s) ≠ 1) (hne : (aC (pF f (.listed .param) (tl s)) fun a s3 => aC (pF f .result s3) fun b s4 => aC (pF f .block s4) fun c s5 => mk1 20 s b.length [] (a ++ (b ++ c)) s5) ≠ .out) :
  Calls Tryz.prog 150 #[.pointer (some ⟨rb, 0, none⟩)] W (aj w0 rb ae aa TL xs U W s ns (aC (pF f (.listed .param) (tl s)) fun a s3 => aC (pF f .result s3) fun b s4 => aC (pF f .block s4) fun c s5 => mk1 20 s b.length [] (a ++ (b ++ c)) s5)) := by
 have hrW := hS.lt
 have hf0 := mg
 have hsl : s.length <= 65537 := by
  obtain ⟨i, rfl, hi, _⟩ := hS
  have := hT.small
  unfold pts
  simp
  omega
 have hkb : (((kd (tl s) : Nat) : Int) == 1) = false := by simp; omega
 have HK0 : Bx (kd s = 23) := ⟨h0⟩
 have HK1 : Bx (kd (tl s) ≠ 1) := ⟨h1⟩
 have B1 : Bx (∀ W1, RSs w0 rb ae aa TL xs U W1 s ns -> _) := ⟨fun W1 h => bF hT hK h 23 (by decide) ⟨#[112, 114, 111, 103]⟩ (by decide)⟩
 have B2 : Bx (∀ W1, RSs w0 rb ae aa TL xs U W1 (tl s) ns -> _) := ⟨fun W1 h => eP hT h⟩
 have BN : Bx (∀ W1, RSs w0 rb ae aa TL xs U W1 (tl s) ns -> _) := ⟨fun W1 h => lV hT hK h⟩
 have hne' := hne
 obtain ⟨kt, hkt⟩ : ∃ r : Nat, r = kd (tl s) := ⟨_, rfl⟩
 have B3 : Bx (∀ W1, RSs w0 rb ae aa TL xs U W1 (tl s) ns -> pF f (.listed .param) (tl s) ≠ .out -> Calls Tryz.prog 123 #[.pointer (some ⟨rb, 0, none⟩), .func (.func 152) #[.pointer (some ⟨rb, 0, none⟩)] #[]] W1 (gF 1 w0 rb ae aa TL xs U W1 (tl s) ns (pF f (.listed .param) (tl s)))) := ⟨fun W1 h hn => HL U W1 (tl s) ns h hn⟩
 match r3 : pF f (.listed .param) (tl s) with
 | .out => rw [r3] at hne; exact absurd rfl hne
 | .err s3 =>
  rw [r3] at B3
  show Calls _ _ _ _ (aj w0 rb ae aa TL xs U W s ns (.err s3))
  clear hne hne' HL HT HB h0 h1 hkt
  go_enter Tryz.func150, Tryz.ntmps150
  go_wp2_with (first
   | (go_at_call 85; refine Calls.mono (B1.out _ hS) ?_; rintro e W1 (⟨_, rfl, q1, l1, k1⟩ | ⟨h, _⟩); rotate_left 1; exact absurd HK0.out h; clear B1)
   | (go_at_call 84; refine Calls.mono (B2.out _ (q1.ext (ah _ _))) ?_; rintro e W2 ⟨t2, rfl, b2⟩; obtain ⟨hb2, ho2, hrx⟩ := bJ q1 b2; have q2 := (q1.ext (ah _ _)).ext b2; have k2 := k1.trans ((af.alloc q1.lt _).trans (af.ext (q1.ext (ah _ _)).lt b2)); have hz1 := k1.size; have QH : Bx _ := ⟨q2⟩; have KH : Bx _ := ⟨k2⟩; have HBX : Bx _ := ⟨hb2⟩; have HOX : Bx _ := ⟨ho2⟩; clear B2 hb2 ho2 q2 k2)
   | (go_at_call 123; refine Calls.mono (B3.out _ QH.out (by simp)) ?_; rintro e W3 ⟨rfl, b⟩; unfold ak))
  exact ⟨rfl, rfl, b⟩
 | .ok a s3 =>
  rw [r3] at B3 hne
  simp only [aC] at hne ⊢
  have hge := dR a
  have B4 : Bx (∀ W0 W2 av c, RSs w0 rb ae aa TL xs (Uv U (.slice av a.length c)) W2 s3 (ns ++ ag a ns.length) -> aQ W2 rb (.slice av a.length c) (ends a ns.length) -> af rb W0 W2 -> (∀ y, (Value.slice av a.length c).ownBlock = some y -> W0.heap.size <= y) -> a.length <= 100000 -> pF f .result s3 ≠ .out -> Calls Tryz.prog 124 #[.pointer (some ⟨rb, 0, none⟩), .slice av a.length c] W2 (uf w0 rb ae aa TL xs U W0 s3 ns a (pF f .result s3))) := ⟨fun W0 W2 av c q r k n hl hn => mq hT hK HT U W0 W2 s3 ns a av a.length c rfl q r k n hl hn⟩
  match r4 : pF f .result s3 with
  | .out => rw [r4] at hne; exact absurd rfl hne
  | .err s4 =>
   rw [r4] at B4
   show Calls _ _ _ _ (aj w0 rb ae aa TL xs U W s ns (.err s4))
   clear hne hne' HL HT HB h0 h1 hkt
   go_enter Tryz.func150, Tryz.ntmps150
   go_wp2_with (first
    | (go_at_call 85; refine Calls.mono (B1.out _ hS) ?_; rintro e W1 (⟨_, rfl, q1, l1, k1⟩ | ⟨h, _⟩); rotate_left 1; exact absurd HK0.out h; clear B1)
    | (go_at_call 84; refine Calls.mono (B2.out _ (q1.ext (ah _ _))) ?_; rintro e W2 ⟨t2, rfl, b2⟩; obtain ⟨hb2, ho2, hrx⟩ := bJ q1 b2; have q2 := (q1.ext (ah _ _)).ext b2; have k2 := k1.trans ((af.alloc q1.lt _).trans (af.ext (q1.ext (ah _ _)).lt b2)); have hz1 := k1.size; have QH : Bx _ := ⟨q2⟩; have KH : Bx _ := ⟨k2⟩; have HBX : Bx _ := ⟨hb2⟩; have HOX : Bx _ := ⟨ho2⟩; clear B2 hb2 ho2 q2 k2)
    | (go_at_call 123; refine Calls.mono (B3.out _ QH.out (by simp)) ?_; rintro e W3 ⟨l3, a3, c3, rfl, q3, r3, k3, n3⟩; have hB4 := B4.out _ _ _ _ q3 r3 k3 n3 (by omega); have B5 : Bx _ := ⟨hB4⟩; clear B3 B4 hB4 q3 r3 n3 k3)
    | (go_at_call 124; refine Calls.mono (B5.out (by simp)) ?_; rintro e W4 ⟨rfl, b⟩; unfold ak))
   exact ⟨rfl, rfl, b⟩
  | .ok b s4 =>
   rw [r4] at B4 hne
   simp only [] at hne ⊢
   have B6 : Bx (∀ U' W1 ns', RSs w0 rb ae aa TL xs U' W1 s4 ns' -> pF f .block s4 ≠ .out -> Calls Tryz.prog 95 #[.pointer (some ⟨rb, 0, none⟩)] W1 (aj w0 rb ae aa TL xs U' W1 s4 ns' (pF f .block s4))) := ⟨fun U' W1 ns' h hn => HB U' W1 s4 ns' h hn⟩
   match r6 : pF f .block s4 with
   | .out => rw [r6] at hne; exact absurd rfl hne
   | .err s5 =>
    rw [r6] at B6
    show Calls _ _ _ _ (aj w0 rb ae aa TL xs U W s ns (.err s5))
    clear hne hne' HL HT HB h0 h1 hkt
    go_enter Tryz.func150, Tryz.ntmps150
    go_wp2_with (first
     | (go_at_call 85; refine Calls.mono (B1.out _ hS) ?_; rintro e W1 (⟨_, rfl, q1, l1, k1⟩ | ⟨h, _⟩); rotate_left 1; exact absurd HK0.out h; clear B1)
     | (go_at_call 84; refine Calls.mono (B2.out _ (q1.ext (ah _ _))) ?_; rintro e W2 ⟨t2, rfl, b2⟩; obtain ⟨hb2, ho2, hrx⟩ := bJ q1 b2; have q2 := (q1.ext (ah _ _)).ext b2; have k2 := k1.trans ((af.alloc q1.lt _).trans (af.ext (q1.ext (ah _ _)).lt b2)); have hz1 := k1.size; have QH : Bx _ := ⟨q2⟩; have KH : Bx _ := ⟨k2⟩; have HBX : Bx _ := ⟨hb2⟩; have HOX : Bx _ := ⟨ho2⟩; clear B2 hb2 ho2 q2 k2)
     | (go_at_call 123; refine Calls.mono (B3.out _ QH.out (by simp)) ?_; rintro e W3 ⟨l3, a3, c3, rfl, q3, r3, k3, n3⟩; have hB4 := B4.out _ _ _ _ q3 r3 k3 n3 (by omega); have B5 : Bx _ := ⟨hB4⟩; clear B3 B4 hB4 q3 r3 n3 k3)
     | (go_at_call 124; go_loud (refine Calls.mono (B5.out (by simp)) ?_; rintro e W4 ⟨l4, n1, a4, m4, c4, hm4, he, q4, r4, k4, n4⟩; obtain ⟨z, hz⟩ : ∃ r : Int, r = (b.length : Int) := ⟨_, rfl⟩; rw [← hz] at he; subst he; obtain ⟨g1, g2, g3, g4, g5, g6, g7, g8, g9⟩ := lw z HBX.out HOX.out hrx hz1 KH.out k4 q4 r4 n4; obtain ⟨y0, y1, y2, y3, y4, ylt⟩ := dw g5; have G1 : Bx _ := ⟨g1⟩; have G2 : Bx _ := ⟨g2⟩; have G3 : Bx _ := ⟨g3⟩; have G4 : Bx _ := ⟨g4⟩; have G5 : Bx _ := ⟨g5⟩; have G9 : Bx _ := ⟨g9⟩; have HM : Bx _ := ⟨hm4⟩; have HZ : Bx _ := ⟨hz⟩; have hm4b : m4 <= 100001 := (by omega); clear g1 g2 g3 g4 g5 g9 hm4 hz n1 q4 r4 k4 n4 B5)))
    refine wp_region_any (by kernel_rfl) ?_
    try (change wpAny _ _ _ _ _ _ _ (World.drew _))
    refine wpAny_take (i := 0) (v := ?_) rfl (by kernel_rfl) (by kernel_rfl) (by kernel_rfl) (fun _ _ _ h => h) (Or.inl ⟨by rfl, ?_⟩) ?_
    case refine_2 => intro w; go_simp; try rfl
    refine wpAny_take (i := 2) (v := ?_) rfl (by kernel_rfl) (by kernel_rfl) (by kernel_rfl) (fun _ _ _ h => h) (Or.inl ⟨by rfl, ?_⟩) ?_
    case refine_2 => intro w; go_simp; try rfl
    refine wpAny_take (i := 3) (v := ?_) rfl (by kernel_rfl) (by kernel_rfl) (by kernel_rfl) (fun _ _ _ h => h) (Or.inl ⟨by rfl, ?_⟩) ?_
    case refine_2 => intro w; go_simp; try rfl
    refine wpAny_ready (rs := [1, 4]) (by kernel_rfl) (by simp) ?_
    refine AllReady.cons rfl (fun K hK => ?_) (AllReady.cons rfl (fun K hK => ?_) AllReady.nil)
    ·go_simp
     refine hK _ _ ?_
     clear hK K
     refine wpAny_ready (rs := [4]) (by kernel_rfl) (by simp) ?_
     refine AllReady.cons rfl (fun K hK => ?_) AllReady.nil
     go_simp
     go_wp2_with (go_at_call 95; refine Calls.mono (B6.out _ _ _ (G1.out.ext ((Below.refl _ _).drew)) (by simp)) ?_; rintro e W6 ⟨rfl, b6⟩; unfold ak)
     exact ⟨rfl, rfl, b6⟩
    ·go_simp
     go_wp2_with (go_at_call 95; refine Calls.mono (B6.out _ _ _ (G1.out.ext ((Below.refl _ _).drew)) (by simp)) ?_; rintro e W6 ⟨rfl, b6⟩; unfold ak)
     exact ⟨rfl, rfl, b6⟩
   | .ok c s5 =>
    rw [r6] at B6
    obtain ⟨i0, hi, hz0, hz1', hz2⟩ := info_parts gu
    have HD : Bx (∀ w7 g2 m cp z, RSs w0 rb ae aa TL xs U w7 s5 (ns ++ ag ((a ++ b) ++ c) ns.length) -> af rb W w7 -> m + 1 = ((a ++ b) ++ c).length -> z = (b.length : Int) -> aQ w7 rb (.slice (some ⟨g2, 0, none⟩) (m + 1) cp) (ends ((a ++ b) ++ c) ns.length) -> (∀ g, (some ⟨g2, 0, none⟩ : Option Addr) = some ⟨g, 0, none⟩ -> ¬ U g) -> ∀ x, w7.heap[x]? = some (bf 20 (hd s).place ⟨([]).toArray⟩ z) -> cZ w7 rb ≠ some x -> rb < x -> s5.length + (sizes a + sizes b + sizes c) + 1 <= s.length -> ∀ kv, Calls Tryz.prog 70 #[.pointer (some ⟨rb, 0, none⟩), .agg #[.int .i64 20, .int .i64 (hd s).place, kv, .string ⟨([]).toArray⟩, .int .i64 z], .slice (some ⟨g2, 0, none⟩) (m + 1) cp] w7 fun e W' => ∃ r : Int, e = .returned (.int .i64 r) /\ aj w0 rb ae aa TL xs U W s ns (.ok [.mk 20 (hd s).place b.length [] (a ++ (b ++ c))] s5) (.returned (.int .i64 r)) W' /\ W'.heap[x]? = some (bf 20 (hd s).place ⟨([]).toArray⟩ z)) := ⟨fun w7 g2 m cp z q k hm hz r n x hbx hox hrx hl kv => by
     subst hz
     rw [List.append_assoc] at q hm r
     refine (fG (W0 := w7) hT (a ++ (b ++ c)) q (af.ext q.lt (Below.refl _ _)) (by rw [aI, aI]; omega) ⟨W, hS⟩ 20 (hd s).place b.length ([]) kv (some ⟨g2, 0, none⟩) (m + 1) cp hm r n).mono ?_
     rintro e W' ⟨r', rfl, p1, p2, p3, p4, p5⟩
     exact ⟨r', rfl, ⟨p1, p2, p3, p4, k.trans p5⟩, (bI p5 hbx hrx hox).1⟩⟩
    have HS : Bx (∃ s, RSs w0 rb ae aa TL xs U W s ns) := ⟨⟨s, hS⟩⟩
    show Calls _ _ _ _ (aj w0 rb ae aa TL xs U W s ns (.ok [.mk 20 (hd s).place b.length [] (a ++ (b ++ c))] s5))
    clear hne hne' HL HT HB h0 h1 hkt
    go_enter Tryz.func150, Tryz.ntmps150
    go_wp2_with (first
     | (go_at_call 85; refine Calls.mono (B1.out _ hS) ?_; rintro e W1 (⟨_, rfl, q1, l1, k1⟩ | ⟨h, _⟩); rotate_left 1; exact absurd HK0.out h; clear B1)
     | (go_at_call 84; refine Calls.mono (B2.out _ (q1.ext (ah _ _))) ?_; rintro e W2 ⟨t2, rfl, b2⟩; obtain ⟨hb2, ho2, hrx⟩ := bJ q1 b2; have q2 := (q1.ext (ah _ _)).ext b2; have k2 := k1.trans ((af.alloc q1.lt _).trans (af.ext (q1.ext (ah _ _)).lt b2)); have hz1 := k1.size; have QH : Bx _ := ⟨q2⟩; have KH : Bx _ := ⟨k2⟩; have HBX : Bx _ := ⟨hb2⟩; have HOX : Bx _ := ⟨ho2⟩; clear B2 hb2 ho2 q2 k2)
     | (go_at_call 123; refine Calls.mono (B3.out _ QH.out (by simp)) ?_; rintro e W3 ⟨l3, a3, c3, rfl, q3, r3, k3, n3⟩; have hB4 := B4.out _ _ _ _ q3 r3 k3 n3 (by omega); have B5 : Bx _ := ⟨hB4⟩; clear B3 B4 hB4 q3 r3 n3 k3)
     | (go_at_call 124; go_loud (refine Calls.mono (B5.out (by simp)) ?_; rintro e W4 ⟨l4, n1, a4, m4, c4, hm4, he, q4, r4, k4, n4⟩; obtain ⟨z, hz⟩ : ∃ r : Int, r = (b.length : Int) := ⟨_, rfl⟩; rw [← hz] at he; subst he; obtain ⟨g1, g2, g3, g4, g5, g6, g7, g8, g9⟩ := lw z HBX.out HOX.out hrx hz1 KH.out k4 q4 r4 n4; obtain ⟨y0, y1, y2, y3, y4, ylt⟩ := dw g5; have G1 : Bx _ := ⟨g1⟩; have G2 : Bx _ := ⟨g2⟩; have G3 : Bx _ := ⟨g3⟩; have G4 : Bx _ := ⟨g4⟩; have G5 : Bx _ := ⟨g5⟩; have G9 : Bx _ := ⟨g9⟩; have HM : Bx _ := ⟨hm4⟩; have HZ : Bx _ := ⟨hz⟩; have hm4b : m4 <= 100001 := (by omega); clear g1 g2 g3 g4 g5 g9 hm4 hz n1 q4 r4 k4 n4 B5)))
    clear KH HBX HOX QH q1 k1
    generalize W1.heap.size = x at *
    have KP : Bx (∀ w' : World, w'.heap[x]? = some (bf 20 (hd s).place ⟨#[]⟩ z) -> w'.cell? ⟨x, 0, none⟩ = some (.int .i64 20) /\ w'.cell? ⟨x, 1, none⟩ = some (.int .i64 (hd s).place) /\ w'.cell? ⟨x, 2, none⟩ = some (.slice none 0 0) /\ w'.cell? ⟨x, 3, none⟩ = some (.string ⟨#[]⟩) /\ w'.cell? ⟨x, 4, none⟩ = some (.int .i64 z)) := ⟨fun w' h => by obtain ⟨c0, c1, c2, c3, c4, _⟩ := dw h; exact ⟨c0, c1, c2, c3, c4⟩⟩
    have KA : Bx (∀ (w' : World) (o : Obj) (b : Obj), w'.heap[x]? = some b -> (w'.alloc o).heap[x]? = some b) := ⟨fun w' o b h => ((ah w' o).block x (aY h)).trans h⟩
    go_region_held3 (fun w' => w'.cell? ⟨x, 0, none⟩ = some (.int .i64 20) /\ w'.cell? ⟨x, 1, none⟩ = some (.int .i64 (hd s).place) /\ w'.cell? ⟨x, 2, none⟩ = some (.slice none 0 0) /\ w'.cell? ⟨x, 3, none⟩ = some (.string ⟨#[]⟩) /\ w'.cell? ⟨x, 4, none⟩ = some (.int .i64 z)) (first | exact KP.out _ G5.out | exact KP.out _ E2.out | exact KP.out _ (KA.out _ _ _ E2.out) | exact KP.out _ F1.out.2.2.2.2.1 | exact KP.out _ HB9.out)
     (first
      | (go_at_call 95; refine Calls.mono (B6.out _ _ _ (G1.out.ext ((Below.refl _ _).drew)) (by simp)) ?_; rintro e W6 ⟨n6, l6, he, q6, k6⟩; obtain ⟨v, hv⟩ : ∃ r : Nat, r = ((ns ++ ag (a ++ b) ns.length).length + sizes c - 1) := ⟨_, rfl⟩; rw [← hv] at he; subst he; obtain ⟨e1, e2, e3, e4⟩ := iQ HS.out (by rw [HM.out, List.length_append]) G1.out G2.out G3.out G4.out G5.out G9.out hrx q6 k6 n6 v hv; obtain ⟨x0, x1, x2, x3, x4, xlt⟩ := dw e2; have E1 : Bx _ := ⟨e1⟩; have E2 : Bx _ := ⟨e2⟩; have E4 : Bx _ := ⟨e4⟩; have N6 : Bx _ := ⟨n6⟩; clear e1 e2 e4 n6 hv q6 k6)
      | (go_at_call 70; refine Calls.mono (HD.out _ _ _ _ z F1.out.1 F1.out.2.1 (by rw [List.length_append, List.length_append, N6.out, HM.out]) HZ.out F1.out.2.2.1 F1.out.2.2.2.1 x F1.out.2.2.2.2.1 F1.out.2.2.2.2.2 hrx (by omega) _) ?_; rintro e W9 ⟨r9, rfl, hp, hb9⟩; have HB9 : Bx _ := ⟨hb9⟩; clear hb9; have HPB : Bx _ := ⟨hp⟩; clear hp)
      | (refine step_append_lies _ (by rfl) (.tmp 28) (.tmp 31) 39 (by rfl) (rb + 1) 3 i0 (.int .i64 0) 1 8 Tryz.underlying39 hi hz0 hz1' hz2 rfl (by decide) (.slice a4 m4 c4) m4 (bM (ends (a ++ b) ns.length)) (by simp [Act.eval, Act.put]) (bO E1.out (ah W6 (.cells #[.int .i64 (v : Int)] 3))) ⟨W6.heap.size, 0, none⟩ 1 1 [.int .i64 (v : Int)] (by simp [Act.eval, Act.put]) rfl (dD _ _ rfl _) (eF _) (by decide) (by unfold maxLen; omega) (by omega) (by simp; omega) (W6.heap.size + 1) (by simp) ?_; intro g2 cp w7 hown hgrow hat hlt7; have F0 := E4.out g2 cp w7 hgrow hat hlt7 hown; obtain ⟨z0, z1, z2, z3, z4, zlt⟩ := dw F0.2.2.2.2.1; have F1 : Bx _ := ⟨F0⟩; clear hown hgrow hat F0))
    all_goals
     go_wp2
     go_ret
     exact HPB.out
theorem jw {W W3 : World} {s : List ai} {ns : List Nd} {x : Nat} {k p num : Int} {nm : ByteArray} (nm2 : ByteArray) (q : RSs w0 rb ae aa TL xs U W3 s ns) (hk : af rb W W3) (hb : W3.heap[x]? = some (bf k p nm num)) (hrx : rb < x) (ho : cZ W3 rb ≠ some x) (hz : W.heap.size <= x) :
  RSs w0 rb ae aa TL xs U (W3.setCell ⟨x, 3, none⟩ (.string nm2)) s ns /\ af rb W (W3.setCell ⟨x, 3, none⟩ (.string nm2)) /\ (W3.setCell ⟨x, 3, none⟩ (.string nm2)).heap[x]? = some (bf k p nm2 num) /\ cZ (W3.setCell ⟨x, 3, none⟩ (.string nm2)) rb ≠ some x /\ x < W3.heap.size /\ W3.cell? ⟨x, 3, none⟩ = some (.string nm) /\ W3.frozen? ⟨x, 3, none⟩ = false := by
 obtain ⟨p1, p2⟩ := q.nA hrx ho hb 3 (.string nm2)
 refine ⟨p1, p2 W hk hz, tZ hb, ?_, aY hb, by simp [World.cell?, hb, bf], by simp [World.frozen?, hb, bf]⟩
 have hrh : (W3.setCell ⟨x, 3, none⟩ (.string nm2)).heap[rb]? = W3.heap[rb]? := heap_setCell_other W3 ⟨x, 3, none⟩ rb _ (by show rb ≠ x; omega)
 unfold cZ
 rw [hrh]
 exact ho
theorem yF (hT : RT w0 rb ae aa TL xs) (hK : aR TL) {f : Nat} (HT : ∀ f', f' < f -> RC w0 rb ae aa TL xs (pF f' .typ) 87 #[]) (HL : LC 1 w0 rb ae aa TL xs (pF f (.listed .param)) 123 #[.func (.func 152) #[.pointer (some ⟨rb, 0, none⟩)] #[]]) (HB : RC w0 rb ae aa TL xs (pF f .block) 95 #[]) {W : World} {s : List ai} {ns : List Nd} (hS : RSs w0 rb ae aa TL xs U W s ns) (h0 : kd s = 23) (h1 : kd (tl s) = 1) (hne : (aC (pF f (.listed .param) (tl (tl s))) fun a s3 => aC (pF f .result s3) fun b s4 => aC (pF f .block s4) fun c s5 => mk1 20 s b.length (hd (tl s)).name (a ++ (b ++ c)) s5) ≠ .out) :
  Calls Tryz.prog 150 #[.pointer (some ⟨rb, 0, none⟩)] W (aj w0 rb ae aa TL xs U W s ns (aC (pF f (.listed .param) (tl (tl s))) fun a s3 => aC (pF f .result s3) fun b s4 => aC (pF f .block s4) fun c s5 => mk1 20 s b.length (hd (tl s)).name (a ++ (b ++ c)) s5)) := by
 have hrW := hS.lt
 have hf0 := mg
 have hsl : s.length <= 65537 := by
  obtain ⟨i, rfl, hi, _⟩ := hS
  have := hT.small
  unfold pts
  simp
  omega
 have hkb : (((kd (tl s) : Nat) : Int) == 1) = true := by simp; omega
 have HK0 : Bx (kd s = 23) := ⟨h0⟩
 have HK1 : Bx (kd (tl s) = 1) := ⟨h1⟩
 have B1 : Bx (∀ W1, RSs w0 rb ae aa TL xs U W1 s ns -> _) := ⟨fun W1 h => bF hT hK h 23 (by decide) ⟨#[112, 114, 111, 103]⟩ (by decide)⟩
 have B2 : Bx (∀ W1, RSs w0 rb ae aa TL xs U W1 (tl s) ns -> _) := ⟨fun W1 h => eP hT h⟩
 have BN : Bx (∀ W1, RSs w0 rb ae aa TL xs U W1 (tl s) ns -> _) := ⟨fun W1 h => lV hT hK h⟩
 have hne' := hne
 obtain ⟨kt, hkt⟩ : ∃ r : Nat, r = kd (tl s) := ⟨_, rfl⟩
 have B3 : Bx (∀ W1, RSs w0 rb ae aa TL xs U W1 (tl (tl s)) ns -> pF f (.listed .param) (tl (tl s)) ≠ .out -> Calls Tryz.prog 123 #[.pointer (some ⟨rb, 0, none⟩), .func (.func 152) #[.pointer (some ⟨rb, 0, none⟩)] #[]] W1 (gF 1 w0 rb ae aa TL xs U W1 (tl (tl s)) ns (pF f (.listed .param) (tl (tl s))))) := ⟨fun W1 h hn => HL U W1 (tl (tl s)) ns h hn⟩
 match r3 : pF f (.listed .param) (tl (tl s)) with
 | .out => rw [r3] at hne; exact absurd rfl hne
 | .err s3 =>
  rw [r3] at B3
  show Calls _ _ _ _ (aj w0 rb ae aa TL xs U W s ns (.err s3))
  generalize (⟨(hd (tl s)).name.toArray⟩ : ByteArray) = nmB at *
  clear hne hne' HL HT HB h0 h1 hkt
  go_enter Tryz.func150, Tryz.ntmps150
  go_wp2_with (first
   | (go_at_call 85; refine Calls.mono (B1.out _ hS) ?_; rintro e W1 (⟨_, rfl, q1, l1, k1⟩ | ⟨h, _⟩); rotate_left 1; exact absurd HK0.out h; clear B1)
   | (go_at_call 84; refine Calls.mono (B2.out _ (q1.ext (ah _ _))) ?_; rintro e W2 ⟨t2, rfl, b2⟩; obtain ⟨hb2, ho2, hrx⟩ := bJ q1 b2; have q2 := (q1.ext (ah _ _)).ext b2; have k2 := k1.trans ((af.alloc q1.lt _).trans (af.ext (q1.ext (ah _ _)).lt b2)); have hz1 := k1.size; have HB2 : Bx _ := ⟨hb2⟩; have HO2 : Bx _ := ⟨ho2⟩; have Q2 : Bx _ := ⟨q2⟩; have K2 : Bx _ := ⟨k2⟩; clear B2 hb2 ho2 q2 k2)
   | (go_at_call 86; refine Calls.mono (BN.out _ Q2.out) ?_; rintro e W2a (⟨_, rfl, q2a, l2a, k2a⟩ | ⟨h, _⟩); rotate_left 1; exact absurd HK1.out h; obtain ⟨hb2a, ho2a⟩ := bI k2a HB2.out hrx HO2.out; obtain ⟨gq, gk, gb, go, gx, gc, gf⟩ := jw nmB q2a (K2.out.trans k2a) hb2a hrx ho2a hz1; have QH : Bx _ := ⟨gq⟩; have KH : Bx _ := ⟨gk⟩; have HBX : Bx _ := ⟨gb⟩; have HOX : Bx _ := ⟨go⟩; clear gq gk gb go hb2a ho2a q2a k2a BN)
   | (go_at_call 123; refine Calls.mono (B3.out _ QH.out (by simp)) ?_; rintro e W3 ⟨rfl, b⟩; unfold ak))
  exact ⟨rfl, rfl, b⟩
 | .ok a s3 =>
  rw [r3] at B3 hne
  simp only [aC] at hne ⊢
  have hge := dR a
  have B4 : Bx (∀ W0 W2 av c, RSs w0 rb ae aa TL xs (Uv U (.slice av a.length c)) W2 s3 (ns ++ ag a ns.length) -> aQ W2 rb (.slice av a.length c) (ends a ns.length) -> af rb W0 W2 -> (∀ y, (Value.slice av a.length c).ownBlock = some y -> W0.heap.size <= y) -> a.length <= 100000 -> pF f .result s3 ≠ .out -> Calls Tryz.prog 124 #[.pointer (some ⟨rb, 0, none⟩), .slice av a.length c] W2 (uf w0 rb ae aa TL xs U W0 s3 ns a (pF f .result s3))) := ⟨fun W0 W2 av c q r k n hl hn => mq hT hK HT U W0 W2 s3 ns a av a.length c rfl q r k n hl hn⟩
  match r4 : pF f .result s3 with
  | .out => rw [r4] at hne; exact absurd rfl hne
  | .err s4 =>
   rw [r4] at B4
   show Calls _ _ _ _ (aj w0 rb ae aa TL xs U W s ns (.err s4))
   generalize (⟨(hd (tl s)).name.toArray⟩ : ByteArray) = nmB at *
   clear hne hne' HL HT HB h0 h1 hkt
   go_enter Tryz.func150, Tryz.ntmps150
   go_wp2_with (first
    | (go_at_call 85; refine Calls.mono (B1.out _ hS) ?_; rintro e W1 (⟨_, rfl, q1, l1, k1⟩ | ⟨h, _⟩); rotate_left 1; exact absurd HK0.out h; clear B1)
    | (go_at_call 84; refine Calls.mono (B2.out _ (q1.ext (ah _ _))) ?_; rintro e W2 ⟨t2, rfl, b2⟩; obtain ⟨hb2, ho2, hrx⟩ := bJ q1 b2; have q2 := (q1.ext (ah _ _)).ext b2; have k2 := k1.trans ((af.alloc q1.lt _).trans (af.ext (q1.ext (ah _ _)).lt b2)); have hz1 := k1.size; have HB2 : Bx _ := ⟨hb2⟩; have HO2 : Bx _ := ⟨ho2⟩; have Q2 : Bx _ := ⟨q2⟩; have K2 : Bx _ := ⟨k2⟩; clear B2 hb2 ho2 q2 k2)
    | (go_at_call 86; refine Calls.mono (BN.out _ Q2.out) ?_; rintro e W2a (⟨_, rfl, q2a, l2a, k2a⟩ | ⟨h, _⟩); rotate_left 1; exact absurd HK1.out h; obtain ⟨hb2a, ho2a⟩ := bI k2a HB2.out hrx HO2.out; obtain ⟨gq, gk, gb, go, gx, gc, gf⟩ := jw nmB q2a (K2.out.trans k2a) hb2a hrx ho2a hz1; have QH : Bx _ := ⟨gq⟩; have KH : Bx _ := ⟨gk⟩; have HBX : Bx _ := ⟨gb⟩; have HOX : Bx _ := ⟨go⟩; clear gq gk gb go hb2a ho2a q2a k2a BN)
    | (go_at_call 123; refine Calls.mono (B3.out _ QH.out (by simp)) ?_; rintro e W3 ⟨l3, a3, c3, rfl, q3, r3, k3, n3⟩; have hB4 := B4.out _ _ _ _ q3 r3 k3 n3 (by omega); have B5 : Bx _ := ⟨hB4⟩; clear B3 B4 hB4 q3 r3 n3 k3)
    | (go_at_call 124; refine Calls.mono (B5.out (by simp)) ?_; rintro e W4 ⟨rfl, b⟩; unfold ak))
   exact ⟨rfl, rfl, b⟩
  | .ok b s4 =>
   rw [r4] at B4 hne
   simp only [] at hne ⊢
   have B6 : Bx (∀ U' W1 ns', RSs w0 rb ae aa TL xs U' W1 s4 ns' -> pF f .block s4 ≠ .out -> Calls Tryz.prog 95 #[.pointer (some ⟨rb, 0, none⟩)] W1 (aj w0 rb ae aa TL xs U' W1 s4 ns' (pF f .block s4))) := ⟨fun U' W1 ns' h hn => HB U' W1 s4 ns' h hn⟩
   match r6 : pF f .block s4 with
   | .out => rw [r6] at hne; exact absurd rfl hne
   | .err s5 =>
    rw [r6] at B6
    show Calls _ _ _ _ (aj w0 rb ae aa TL xs U W s ns (.err s5))
    generalize (⟨(hd (tl s)).name.toArray⟩ : ByteArray) = nmB at *
    clear hne hne' HL HT HB h0 h1 hkt
    go_enter Tryz.func150, Tryz.ntmps150
    go_wp2_with (first
     | (go_at_call 85; refine Calls.mono (B1.out _ hS) ?_; rintro e W1 (⟨_, rfl, q1, l1, k1⟩ | ⟨h, _⟩); rotate_left 1; exact absurd HK0.out h; clear B1)
     | (go_at_call 84; refine Calls.mono (B2.out _ (q1.ext (ah _ _))) ?_; rintro e W2 ⟨t2, rfl, b2⟩; obtain ⟨hb2, ho2, hrx⟩ := bJ q1 b2; have q2 := (q1.ext (ah _ _)).ext b2; have k2 := k1.trans ((af.alloc q1.lt _).trans (af.ext (q1.ext (ah _ _)).lt b2)); have hz1 := k1.size; have HB2 : Bx _ := ⟨hb2⟩; have HO2 : Bx _ := ⟨ho2⟩; have Q2 : Bx _ := ⟨q2⟩; have K2 : Bx _ := ⟨k2⟩; clear B2 hb2 ho2 q2 k2)
     | (go_at_call 86; refine Calls.mono (BN.out _ Q2.out) ?_; rintro e W2a (⟨_, rfl, q2a, l2a, k2a⟩ | ⟨h, _⟩); rotate_left 1; exact absurd HK1.out h; obtain ⟨hb2a, ho2a⟩ := bI k2a HB2.out hrx HO2.out; obtain ⟨gq, gk, gb, go, gx, gc, gf⟩ := jw nmB q2a (K2.out.trans k2a) hb2a hrx ho2a hz1; have QH : Bx _ := ⟨gq⟩; have KH : Bx _ := ⟨gk⟩; have HBX : Bx _ := ⟨gb⟩; have HOX : Bx _ := ⟨go⟩; clear gq gk gb go hb2a ho2a q2a k2a BN)
     | (go_at_call 123; refine Calls.mono (B3.out _ QH.out (by simp)) ?_; rintro e W3 ⟨l3, a3, c3, rfl, q3, r3, k3, n3⟩; have hB4 := B4.out _ _ _ _ q3 r3 k3 n3 (by omega); have B5 : Bx _ := ⟨hB4⟩; clear B3 B4 hB4 q3 r3 n3 k3)
     | (go_at_call 124; go_loud (refine Calls.mono (B5.out (by simp)) ?_; rintro e W4 ⟨l4, n1, a4, m4, c4, hm4, he, q4, r4, k4, n4⟩; obtain ⟨z, hz⟩ : ∃ r : Int, r = (b.length : Int) := ⟨_, rfl⟩; rw [← hz] at he; subst he; obtain ⟨g1, g2, g3, g4, g5, g6, g7, g8, g9⟩ := lw z HBX.out HOX.out hrx hz1 KH.out k4 q4 r4 n4; obtain ⟨y0, y1, y2, y3, y4, ylt⟩ := dw g5; have G1 : Bx _ := ⟨g1⟩; have G2 : Bx _ := ⟨g2⟩; have G3 : Bx _ := ⟨g3⟩; have G4 : Bx _ := ⟨g4⟩; have G5 : Bx _ := ⟨g5⟩; have G9 : Bx _ := ⟨g9⟩; have HM : Bx _ := ⟨hm4⟩; have HZ : Bx _ := ⟨hz⟩; have hm4b : m4 <= 100001 := (by omega); clear g1 g2 g3 g4 g5 g9 hm4 hz n1 q4 r4 k4 n4 B5)))
    refine wp_region_any (by kernel_rfl) ?_
    try (change wpAny _ _ _ _ _ _ _ (World.drew _))
    refine wpAny_take (i := 0) (v := ?_) rfl (by kernel_rfl) (by kernel_rfl) (by kernel_rfl) (fun _ _ _ h => h) (Or.inl ⟨by rfl, ?_⟩) ?_
    case refine_2 => intro w; go_simp; try rfl
    refine wpAny_take (i := 2) (v := ?_) rfl (by kernel_rfl) (by kernel_rfl) (by kernel_rfl) (fun _ _ _ h => h) (Or.inl ⟨by rfl, ?_⟩) ?_
    case refine_2 => intro w; go_simp; try rfl
    refine wpAny_take (i := 3) (v := ?_) rfl (by kernel_rfl) (by kernel_rfl) (by kernel_rfl) (fun _ _ _ h => h) (Or.inl ⟨by rfl, ?_⟩) ?_
    case refine_2 => intro w; go_simp; try rfl
    refine wpAny_ready (rs := [1, 4]) (by kernel_rfl) (by simp) ?_
    refine AllReady.cons rfl (fun K hK => ?_) (AllReady.cons rfl (fun K hK => ?_) AllReady.nil)
    ·go_simp
     refine hK _ _ ?_
     clear hK K
     refine wpAny_ready (rs := [4]) (by kernel_rfl) (by simp) ?_
     refine AllReady.cons rfl (fun K hK => ?_) AllReady.nil
     go_simp
     go_wp2_with (go_at_call 95; refine Calls.mono (B6.out _ _ _ (G1.out.ext ((Below.refl _ _).drew)) (by simp)) ?_; rintro e W6 ⟨rfl, b6⟩; unfold ak)
     exact ⟨rfl, rfl, b6⟩
    ·go_simp
     go_wp2_with (go_at_call 95; refine Calls.mono (B6.out _ _ _ (G1.out.ext ((Below.refl _ _).drew)) (by simp)) ?_; rintro e W6 ⟨rfl, b6⟩; unfold ak)
     exact ⟨rfl, rfl, b6⟩
   | .ok c s5 =>
    rw [r6] at B6
    obtain ⟨i0, hi, hz0, hz1', hz2⟩ := info_parts gu
    have HD : Bx (∀ w7 g2 m cp z, RSs w0 rb ae aa TL xs U w7 s5 (ns ++ ag ((a ++ b) ++ c) ns.length) -> af rb W w7 -> m + 1 = ((a ++ b) ++ c).length -> z = (b.length : Int) -> aQ w7 rb (.slice (some ⟨g2, 0, none⟩) (m + 1) cp) (ends ((a ++ b) ++ c) ns.length) -> (∀ g, (some ⟨g2, 0, none⟩ : Option Addr) = some ⟨g, 0, none⟩ -> ¬ U g) -> ∀ x, w7.heap[x]? = some (bf 20 (hd s).place ⟨((hd (tl s)).name).toArray⟩ z) -> cZ w7 rb ≠ some x -> rb < x -> s5.length + (sizes a + sizes b + sizes c) + 1 <= s.length -> ∀ kv, Calls Tryz.prog 70 #[.pointer (some ⟨rb, 0, none⟩), .agg #[.int .i64 20, .int .i64 (hd s).place, kv, .string ⟨((hd (tl s)).name).toArray⟩, .int .i64 z], .slice (some ⟨g2, 0, none⟩) (m + 1) cp] w7 fun e W' => ∃ r : Int, e = .returned (.int .i64 r) /\ aj w0 rb ae aa TL xs U W s ns (.ok [.mk 20 (hd s).place b.length (hd (tl s)).name (a ++ (b ++ c))] s5) (.returned (.int .i64 r)) W' /\ W'.heap[x]? = some (bf 20 (hd s).place ⟨((hd (tl s)).name).toArray⟩ z)) := ⟨fun w7 g2 m cp z q k hm hz r n x hbx hox hrx hl kv => by
     subst hz
     rw [List.append_assoc] at q hm r
     refine (fG (W0 := w7) hT (a ++ (b ++ c)) q (af.ext q.lt (Below.refl _ _)) (by rw [aI, aI]; omega) ⟨W, hS⟩ 20 (hd s).place b.length ((hd (tl s)).name) kv (some ⟨g2, 0, none⟩) (m + 1) cp hm r n).mono ?_
     rintro e W' ⟨r', rfl, p1, p2, p3, p4, p5⟩
     exact ⟨r', rfl, ⟨p1, p2, p3, p4, k.trans p5⟩, (bI p5 hbx hrx hox).1⟩⟩
    have HS : Bx (∃ s, RSs w0 rb ae aa TL xs U W s ns) := ⟨⟨s, hS⟩⟩
    show Calls _ _ _ _ (aj w0 rb ae aa TL xs U W s ns (.ok [.mk 20 (hd s).place b.length (hd (tl s)).name (a ++ (b ++ c))] s5))
    generalize (⟨(hd (tl s)).name.toArray⟩ : ByteArray) = nmB at *
    clear hne hne' HL HT HB h0 h1 hkt
    go_enter Tryz.func150, Tryz.ntmps150
    go_wp2_with (first
     | (go_at_call 85; refine Calls.mono (B1.out _ hS) ?_; rintro e W1 (⟨_, rfl, q1, l1, k1⟩ | ⟨h, _⟩); rotate_left 1; exact absurd HK0.out h; clear B1)
     | (go_at_call 84; refine Calls.mono (B2.out _ (q1.ext (ah _ _))) ?_; rintro e W2 ⟨t2, rfl, b2⟩; obtain ⟨hb2, ho2, hrx⟩ := bJ q1 b2; have q2 := (q1.ext (ah _ _)).ext b2; have k2 := k1.trans ((af.alloc q1.lt _).trans (af.ext (q1.ext (ah _ _)).lt b2)); have hz1 := k1.size; have HB2 : Bx _ := ⟨hb2⟩; have HO2 : Bx _ := ⟨ho2⟩; have Q2 : Bx _ := ⟨q2⟩; have K2 : Bx _ := ⟨k2⟩; clear B2 hb2 ho2 q2 k2)
     | (go_at_call 86; refine Calls.mono (BN.out _ Q2.out) ?_; rintro e W2a (⟨_, rfl, q2a, l2a, k2a⟩ | ⟨h, _⟩); rotate_left 1; exact absurd HK1.out h; obtain ⟨hb2a, ho2a⟩ := bI k2a HB2.out hrx HO2.out; obtain ⟨gq, gk, gb, go, gx, gc, gf⟩ := jw nmB q2a (K2.out.trans k2a) hb2a hrx ho2a hz1; have QH : Bx _ := ⟨gq⟩; have KH : Bx _ := ⟨gk⟩; have HBX : Bx _ := ⟨gb⟩; have HOX : Bx _ := ⟨go⟩; clear gq gk gb go hb2a ho2a q2a k2a BN)
     | (go_at_call 123; refine Calls.mono (B3.out _ QH.out (by simp)) ?_; rintro e W3 ⟨l3, a3, c3, rfl, q3, r3, k3, n3⟩; have hB4 := B4.out _ _ _ _ q3 r3 k3 n3 (by omega); have B5 : Bx _ := ⟨hB4⟩; clear B3 B4 hB4 q3 r3 n3 k3)
     | (go_at_call 124; go_loud (refine Calls.mono (B5.out (by simp)) ?_; rintro e W4 ⟨l4, n1, a4, m4, c4, hm4, he, q4, r4, k4, n4⟩; obtain ⟨z, hz⟩ : ∃ r : Int, r = (b.length : Int) := ⟨_, rfl⟩; rw [← hz] at he; subst he; obtain ⟨g1, g2, g3, g4, g5, g6, g7, g8, g9⟩ := lw z HBX.out HOX.out hrx hz1 KH.out k4 q4 r4 n4; obtain ⟨y0, y1, y2, y3, y4, ylt⟩ := dw g5; have G1 : Bx _ := ⟨g1⟩; have G2 : Bx _ := ⟨g2⟩; have G3 : Bx _ := ⟨g3⟩; have G4 : Bx _ := ⟨g4⟩; have G5 : Bx _ := ⟨g5⟩; have G9 : Bx _ := ⟨g9⟩; have HM : Bx _ := ⟨hm4⟩; have HZ : Bx _ := ⟨hz⟩; have hm4b : m4 <= 100001 := (by omega); clear g1 g2 g3 g4 g5 g9 hm4 hz n1 q4 r4 k4 n4 B5)))
    clear KH HBX HOX QH q1 k1
    generalize W1.heap.size = x at *
    have KP : Bx (∀ w' : World, w'.heap[x]? = some (bf 20 (hd s).place nmB z) -> w'.cell? ⟨x, 0, none⟩ = some (.int .i64 20) /\ w'.cell? ⟨x, 1, none⟩ = some (.int .i64 (hd s).place) /\ w'.cell? ⟨x, 2, none⟩ = some (.slice none 0 0) /\ w'.cell? ⟨x, 3, none⟩ = some (.string nmB) /\ w'.cell? ⟨x, 4, none⟩ = some (.int .i64 z)) := ⟨fun w' h => by obtain ⟨c0, c1, c2, c3, c4, _⟩ := dw h; exact ⟨c0, c1, c2, c3, c4⟩⟩
    have KA : Bx (∀ (w' : World) (o : Obj) (b : Obj), w'.heap[x]? = some b -> (w'.alloc o).heap[x]? = some b) := ⟨fun w' o b h => ((ah w' o).block x (aY h)).trans h⟩
    go_region_held3 (fun w' => w'.cell? ⟨x, 0, none⟩ = some (.int .i64 20) /\ w'.cell? ⟨x, 1, none⟩ = some (.int .i64 (hd s).place) /\ w'.cell? ⟨x, 2, none⟩ = some (.slice none 0 0) /\ w'.cell? ⟨x, 3, none⟩ = some (.string nmB) /\ w'.cell? ⟨x, 4, none⟩ = some (.int .i64 z)) (first | exact KP.out _ G5.out | exact KP.out _ E2.out | exact KP.out _ (KA.out _ _ _ E2.out) | exact KP.out _ F1.out.2.2.2.2.1 | exact KP.out _ HB9.out)
     (first
      | (go_at_call 95; refine Calls.mono (B6.out _ _ _ (G1.out.ext ((Below.refl _ _).drew)) (by simp)) ?_; rintro e W6 ⟨n6, l6, he, q6, k6⟩; obtain ⟨v, hv⟩ : ∃ r : Nat, r = ((ns ++ ag (a ++ b) ns.length).length + sizes c - 1) := ⟨_, rfl⟩; rw [← hv] at he; subst he; obtain ⟨e1, e2, e3, e4⟩ := iQ HS.out (by rw [HM.out, List.length_append]) G1.out G2.out G3.out G4.out G5.out G9.out hrx q6 k6 n6 v hv; obtain ⟨x0, x1, x2, x3, x4, xlt⟩ := dw e2; have E1 : Bx _ := ⟨e1⟩; have E2 : Bx _ := ⟨e2⟩; have E4 : Bx _ := ⟨e4⟩; have N6 : Bx _ := ⟨n6⟩; clear e1 e2 e4 n6 hv q6 k6)
      | (go_at_call 70; refine Calls.mono (HD.out _ _ _ _ z F1.out.1 F1.out.2.1 (by rw [List.length_append, List.length_append, N6.out, HM.out]) HZ.out F1.out.2.2.1 F1.out.2.2.2.1 x F1.out.2.2.2.2.1 F1.out.2.2.2.2.2 hrx (by omega) _) ?_; rintro e W9 ⟨r9, rfl, hp, hb9⟩; have HB9 : Bx _ := ⟨hb9⟩; clear hb9; have HPB : Bx _ := ⟨hp⟩; clear hp)
      | (refine step_append_lies _ (by rfl) (.tmp 28) (.tmp 31) 39 (by rfl) (rb + 1) 3 i0 (.int .i64 0) 1 8 Tryz.underlying39 hi hz0 hz1' hz2 rfl (by decide) (.slice a4 m4 c4) m4 (bM (ends (a ++ b) ns.length)) (by simp [Act.eval, Act.put]) (bO E1.out (ah W6 (.cells #[.int .i64 (v : Int)] 3))) ⟨W6.heap.size, 0, none⟩ 1 1 [.int .i64 (v : Int)] (by simp [Act.eval, Act.put]) rfl (dD _ _ rfl _) (eF _) (by decide) (by unfold maxLen; omega) (by omega) (by simp; omega) (W6.heap.size + 1) (by simp) ?_; intro g2 cp w7 hown hgrow hat hlt7; have F0 := E4.out g2 cp w7 hgrow hat hlt7 hown; obtain ⟨z0, z1, z2, z3, z4, zlt⟩ := dw F0.2.2.2.2.1; have F1 : Bx _ := ⟨F0⟩; clear hown hgrow hat F0))
    all_goals
     go_wp2
     go_ret
     exact HPB.out
end Go.Proofs.YtecodpdfckjalaaGreatDoor
