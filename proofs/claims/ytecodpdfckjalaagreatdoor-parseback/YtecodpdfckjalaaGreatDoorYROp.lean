import Derived.Test.YtecodpdfckjalaaGreatDoorYRBetw
import Derived.Test.YtecodpdfckjalaaGreatDoorYRKid
import Derived.Test.YtecodpdfckjalaaGreatDoorYRBx0
set_option linter.unusedVariables false
set_option linter.unusedSimpArgs false
set_option maxHeartbeats 4000000
set_option maxRecDepth 100000
namespace Go.Proofs.YtecodpdfckjalaaGreatDoor
open Go.RowKit
variable {w0 : World} {rb : Nat} {ae aa : Value} {TL : List Tok} {xs : List UInt8} {U : Nat -> Prop}
structure Ea (w0 : World) (rb : Nat) (ae aa : Value) (TL : List Tok) (xs : List UInt8) (U : Nat -> Prop) (W : World) (s : List ai) (ns : List Nd) (least : Int) (f : Nat) (R : Res) (wr : World) (f' : Nat) (left : List Tr) (most : Int) (cur : List ai) (v : Nat) : Prop where
 eq : R = pF f' (.ops least left most) cur
 le : f' <= f
 one : left.length = 1
 val : v = ns.length + sizes left - 1
 pos : 1 <= sizes left
 st : RSs w0 rb ae aa TL xs U wr cur (ns ++ ag left ns.length)
 keep : af rb W wr
 sz : cur.length + sizes left <= s.length
def JN : Value -> Nat
 | .int _ x => x.toNat
 | _ => 0
theorem Cx (n : Int) : 0 <= aP n /\ aP n <= 5 := by
 unfold aP
 repeat' split
 all_goals decide
theorem vG (hT : RT w0 rb ae aa TL xs) (hK : aR TL) {f : Nat} (least : Int) (hle : 1 <= least) (HU : RC w0 rb ae aa TL xs (pF f .unary) 126 #[]) (HO : ∀ f', f' < f -> ∀ l : Int, 1 <= l -> RC w0 rb ae aa TL xs (pF f' (.operands l)) 125 #[.int .i64 l]) :
  RC w0 rb ae aa TL xs (pF (f + 1) (.operands least)) 125 #[.int .i64 least] := by
 intro U W s ns hS hne
 show Calls Tryz.prog 125 #[.pointer (some ⟨rb, 0, none⟩), .int .i64 least] W _
 generalize hR : pF (f + 1) (.operands least) s = R at hne ⊢
 have hR' : aC (pF f .unary s) (fun a s1 => pF f (.ops least a 5) s1) = R := hR
 clear hR
 have B1 : Bx (∀ W1, RSs w0 rb ae aa TL xs U W1 s ns -> pF f .unary s ≠ .out -> Calls Tryz.prog 126 #[.pointer (some ⟨rb, 0, none⟩)] W1 (aj w0 rb ae aa TL xs U W1 s ns (pF f .unary s))) := ⟨fun W1 h hn => HU U W1 s ns h hn⟩
 match r1 : pF f .unary s with
 | .out => rw [r1] at hR'; exact absurd hR'.symm hne
 | .err s' =>
  rw [r1] at B1 hR'
  have eR : Bx (R = .err s') := ⟨hR'.symm⟩
  clear HU HO hR'
  go_enter Tryz.func125, Tryz.ntmps125
  go_wp2_with (first
   | (go_at_call 126; refine Calls.mono (B1.out _ hS (by simp)) ?_; rintro e W1 ⟨rfl, b1⟩; unfold ak))
  exact ⟨rfl, by rw [eR.out]; exact ⟨rfl, b1⟩⟩
 | .ok ts s1 =>
  rw [r1] at B1 hR'
  have HNE : Bx (R ≠ .out) := ⟨hne⟩
  have H0 : Bx (∀ W1 (v : Nat), v = ns.length + sizes ts - 1 -> ts.length = 1 -> s1.length + sizes ts <= s.length -> RSs w0 rb ae aa TL xs U W1 s1 (ns ++ ag ts ns.length) -> af rb W W1 -> Ea w0 rb ae aa TL xs U W s ns least f R W1 f ts 5 s1 v) := ⟨fun W1 v hv n l q k => ⟨hR'.symm, Nat.le_refl _, n, hv, by have := dR ts; omega, q, k, l⟩⟩
  clear HU hR' hne
  go_enter Tryz.func125, Tryz.ntmps125
  go_wp2_with (first
   | (go_at_call 126; refine Calls.mono (B1.out _ hS (by simp)) ?_; rintro e W1 ⟨n1, l1, he, q1, k1⟩; obtain ⟨v1, hv⟩ : ∃ r : Nat, r = (ns.length + sizes ts - 1) := ⟨_, rfl⟩; rw [← hv] at he; subst he; have L0 := H0.out W1 v1 hv n1 l1 q1 k1; have LB : Bx _ := ⟨L0⟩; clear hv B1 L0 H0 q1 k1))
  go_loopw [5, 6] (fun lv mv wr => ∃ f' : Nat, ∃ left : List Tr, ∃ most : Int, ∃ cur : List ai, ∃ v : Nat, lv = .int .i64 v /\ mv = .int .i64 most /\ Bx (Ea w0 rb ae aa TL xs U W s ns least f R wr f' left most cur v)) (fun lv _ _ => s.length + ns.length - JN lv)
  case atStart => exact ⟨f, ts, 5, s1, v1, rfl, rfl, LB⟩
  case round =>
   obtain ⟨f', left, most, cur, v, rfl, rfl, HL⟩ := hrel
   have hf1 := dC
   match f', HL with
   | 0, HL => exact absurd HL.out.eq HNE.out
   | g + 1, HL =>
    have st : Bx _ := ⟨HL.out.st⟩
    have B4 : Bx (∀ W1, RSs w0 rb ae aa TL xs U W1 cur (ns ++ ag left ns.length) -> _) := ⟨fun W1 h => eP hT h⟩
    have B5 : Bx (∀ W1, RSs w0 rb ae aa TL xs U W1 cur (ns ++ ag left ns.length) -> _) := ⟨fun W1 h => dO hT h⟩
    have B6 : Bx (∀ W1, _) := ⟨fun W1 => wW (AO hK st.out) W1⟩
    have e1 : R = body (pF g) (.ops least left most) cur := HL.out.eq
    simp only [body] at e1
    have hlv := Cx (fe (kd cur))
    have B7 : Bx (∀ W1, Calls Tryz.prog 39 #[.agg #[.int .i64 22, .int .i64 ((hd cur).place : Int), .slice none 0 0, .string ⟨#[]⟩, .int .i64 (fe (kd cur))]] W1 fun e w' => e = .returned (.int .i64 (aP (fe (kd cur)))) /\ Below W1.heap.size W1 w') := ⟨fun W1 => lu none 0 ⟨22, ((hd cur).place : Int), [], ⟨#[]⟩, fe (kd cur)⟩ W1⟩
    have hkd : aP (fe (kd cur)) ≠ 0 -> kd cur ≠ 0 := fun h e => h (by rw [e]; rfl)
    generalize fe (kd cur) = bt at *
    generalize aP bt = lev at *
    by_cases hst : lev < least ∨ most < lev
    ·rw [if_pos hst] at e1
     have HF : Bx (∀ W1, af rb wr W1 -> RSs w0 rb ae aa TL xs U W1 cur (ns ++ ag left ns.length) -> aj w0 rb ae aa TL xs U W s ns R (.returned (.int .i64 (v : Int))) W1) := ⟨fun W1 k q => by
      rw [e1]
      exact ⟨HL.out.one, HL.out.sz, by rw [HL.out.val], q, HL.out.keep.trans k⟩⟩
     clear HL HO e1
     by_cases h1 : lev < least
     ·go_wp2_with (first
       | (go_at_call 84; refine Calls.mono (B4.out _ st.out) ?_; rintro e W4 ⟨t4, rfl, b4⟩; have q4 := st.out.ext b4; have k4 := af.ext st.out.lt b4; clear B4)
       | (go_at_call 66; refine Calls.mono (B5.out _ q4) ?_; rintro e W5 ⟨rfl, b5⟩; have q5 := q4.ext b5; have k5 := k4.trans (af.ext q4.lt b5); clear B5)
       | (go_at_call 136; refine Calls.mono (B6.out _) ?_; rintro e W5' ⟨rfl, rfl⟩)
       | (go_at_call 39; refine Calls.mono (B7.out _) ?_; rintro e W6 ⟨rfl, b6⟩))
      go_ret
      exact HF.out _ (k5.trans ((af.alloc q5.lt _).trans (af.ext (q5.ext (ah _ _)).lt b6))) ((q5.ext (ah _ _)).ext b6)
     ·have h2 : most < lev := by omega
      go_wp2_with (first
       | (go_at_call 84; refine Calls.mono (B4.out _ st.out) ?_; rintro e W4 ⟨t4, rfl, b4⟩; have q4 := st.out.ext b4; have k4 := af.ext st.out.lt b4; clear B4)
       | (go_at_call 66; refine Calls.mono (B5.out _ q4) ?_; rintro e W5 ⟨rfl, b5⟩; have q5 := q4.ext b5; have k5 := k4.trans (af.ext q4.lt b5); clear B5)
       | (go_at_call 136; refine Calls.mono (B6.out _) ?_; rintro e W5' ⟨rfl, rfl⟩)
       | (go_at_call 39; refine Calls.mono (B7.out _) ?_; rintro e W6 ⟨rfl, b6⟩))
      go_ret
      exact HF.out _ (k5.trans ((af.alloc q5.lt _).trans (af.ext (q5.ext (ah _ _)).lt b6))) ((q5.ext (ah _ _)).ext b6)
    ·rw [if_neg hst] at e1
     have hgf : g < f := by have := HL.out.le; omega
     have hln := jV st.out
     have HP : Bx (∀ W5 W6 : World, RSs w0 rb ae aa TL xs U W6 cur (ns ++ ag left ns.length) -> af rb wr W6 -> W6.heap[W5.heap.size]? = some (Obj.cells #[.int .i64 22, .int .i64 ((hd cur).place : Int), .slice none 0 0, .string ⟨#[]⟩, .int .i64 bt] 44) -> cZ W6 rb ≠ some W5.heap.size -> rb < W5.heap.size -> ∃ i6 : Nat, RSs w0 rb ae aa TL xs U (W6.setCell ⟨rb, 2, none⟩ (.int .i64 ((i6 : Int) + 1))) (tl cur) (ns ++ ag left ns.length) /\ af rb wr (W6.setCell ⟨rb, 2, none⟩ (.int .i64 ((i6 : Int) + 1))) /\ i6 <= 65537 /\ rb < W6.heap.size /\ W6.cell? ⟨rb, 2, none⟩ = some (.int .i64 i6) /\ W6.frozen? ⟨rb, 2, none⟩ = false /\ (W6.setCell ⟨rb, 2, none⟩ (.int .i64 ((i6 : Int) + 1))).heap[W5.heap.size]? = some (Obj.cells #[.int .i64 22, .int .i64 ((hd cur).place : Int), .slice none 0 0, .string ⟨#[]⟩, .int .i64 bt] 44) /\ cZ (W6.setCell ⟨rb, 2, none⟩ (.int .i64 ((i6 : Int) + 1))) rb ≠ some W5.heap.size) := ⟨fun W5 W6 q6 k6 hb hown hrx => by
      obtain ⟨i6, hi6, hlt, c6, fz, p6⟩ := nz hK hT q6
      obtain ⟨q7, _, k7⟩ := p6 (hkd (by omega))
      obtain ⟨h8, h9⟩ := bI k7 hb hrx hown
      exact ⟨i6, q7, k6.trans k7, hi6, hlt, c6, fz, h8, h9⟩⟩
     have B3 : Bx (∀ W1, RSs w0 rb ae aa TL xs U W1 (tl cur) (ns ++ ag left ns.length) -> pF g (.operands (lev + 1)) (tl cur) ≠ .out -> Calls Tryz.prog 125 #[.pointer (some ⟨rb, 0, none⟩), .int .i64 (lev + 1)] W1 (aj w0 rb ae aa TL xs U W1 (tl cur) (ns ++ ag left ns.length) (pF g (.operands (lev + 1)) (tl cur)))) := ⟨fun W1 h hn => HO g hgf (lev + 1) (by omega) U W1 (tl cur) (ns ++ ag left ns.length) h hn⟩
     have hwr : IntKind.i64.wrap (lev + 1) = lev + 1 := by rw [IntKind.wrap_i64]; omega
     have h1 : ¬ lev < least := fun h => hst (.inl h)
     have h2 : ¬ most < lev := fun h => hst (.inr h)
     match r3 : pF g (.operands (lev + 1)) (tl cur) with
     | .out => rw [r3] at e1; exact absurd e1 HNE.out
     | .err s' =>
      rw [r3] at B3 e1
      have eR : Bx (R = .err s') := ⟨e1⟩
      clear HL HO e1 r3
      go_wp2_with (first
       | (go_at_call 84; refine Calls.mono (B4.out _ st.out) ?_; rintro e W4 ⟨t4, rfl, b4⟩; have q4 := st.out.ext b4; have k4 := af.ext st.out.lt b4; clear B4)
       | (go_at_call 66; refine Calls.mono (B5.out _ q4) ?_; rintro e W5 ⟨rfl, b5⟩; have q5 := q4.ext b5; have k5 := k4.trans (af.ext q4.lt b5); clear B5)
       | (go_at_call 136; refine Calls.mono (B6.out _) ?_; rintro e W5' ⟨rfl, rfl⟩)
       | (go_at_call 39; refine Calls.mono (B7.out _) ?_; rintro e W6 ⟨rfl, b6⟩; obtain ⟨hb, hown, hrx⟩ := bJ q5 b6; have q6 := (q5.ext (ah _ _)).ext b6; have k6 := k5.trans ((af.alloc q5.lt _).trans (af.ext (q5.ext (ah _ _)).lt b6)); obtain ⟨i6, q7, k7, hi6, hl6, e6, f6, hb7, ho7⟩ := HP.out W5' W6 q6 k6 hb hown hrx; have Q7 : Bx _ := ⟨q7⟩; have K7 : Bx _ := ⟨k7⟩; have HB7 : Bx _ := ⟨hb7⟩; have HO7 : Bx _ := ⟨ho7⟩; obtain ⟨y0, y1, y2, y3, y4, ylt⟩ := dw hb7; clear hb hown hb7 ho7 q7 k7 q6 k6 k5 q5 HP))
      refine wp_region_any (by kernel_rfl) ?_
      try (change wpAny _ _ _ _ _ _ _ (World.drew _))
      refine wpAny_take (i := 0) (v := ?_) rfl (by kernel_rfl) (by kernel_rfl) (by kernel_rfl) (fun _ _ _ h => h) (Or.inl ⟨by rfl, ?_⟩) ?_
      case refine_2 => intro w; go_simp; try rfl
      refine wpAny_take (i := 2) (v := ?_) rfl (by kernel_rfl) (by kernel_rfl) (by kernel_rfl) (fun _ _ _ h => h) (Or.inl ⟨by rfl, ?_⟩) ?_
      case refine_2 => intro w; go_simp; try rfl
      refine wpAny_take (i := 3) (v := ?_) rfl (by kernel_rfl) (by kernel_rfl) (by kernel_rfl) (fun _ _ _ h => h) (Or.inl ⟨by rfl, ?_⟩) ?_
      case refine_2 => intro w; go_simp; try rfl
      refine wpAny_take (i := 4) (v := ?_) rfl (by kernel_rfl) (by kernel_rfl) (by kernel_rfl) (fun _ _ _ h => h) (Or.inl ⟨by rfl, ?_⟩) ?_
      case refine_2 => intro w; go_simp; try rfl
      refine wpAny_take (i := 5) (v := .int .i64 (lev + 1)) rfl (by kernel_rfl) (by kernel_rfl) (by kernel_rfl) (fun _ _ _ h => h) (Or.inl ⟨by rfl, ?_⟩) ?_
      case refine_1 => intro w; go_simp; try exact hwr
      refine wpAny_ready (rs := [1, 6]) (by kernel_rfl) (by simp) ?_
      refine AllReady.cons rfl (fun K hK => ?_) (AllReady.cons rfl (fun K hK => ?_) AllReady.nil)
      ·go_simp
       refine hK _ _ ?_
       clear hK K
       refine wpAny_ready (rs := [6]) (by kernel_rfl) (by simp) ?_
       refine AllReady.cons rfl (fun K hK => ?_) AllReady.nil
       go_simp
       go_wp2_with (go_at_call 125; refine Calls.mono (B3.out _ (Q7.out.ext ((Below.refl _ _).drew)) (by simp)) ?_; rintro e W8 ⟨rfl, b8⟩; unfold ak)
       exact ⟨rfl, by rw [eR.out]; exact ⟨rfl, b8⟩⟩
      ·go_simp
       go_wp2_with (go_at_call 125; refine Calls.mono (B3.out _ (Q7.out.ext ((Below.refl _ _).drew)) (by simp)) ?_; rintro e W8 ⟨rfl, b8⟩; unfold ak)
       exact ⟨rfl, by rw [eR.out]; exact ⟨rfl, b8⟩⟩
     | .ok b s2 =>
      rw [r3] at B3 e1
      have HD : Bx (∀ W8, RSs w0 rb ae aa TL xs U W8 s2 ((ns ++ ag left ns.length) ++ ag b (ns ++ ag left ns.length).length) -> af rb wr W8 -> ∀ v2 : Nat, v2 = ((ns ++ ag left ns.length).length + sizes b - 1) -> b.length = 1 -> s2.length + sizes b + 1 <= cur.length -> ∀ kv, Calls Tryz.prog 70 #[.pointer (some ⟨rb, 0, none⟩), .agg #[.int .i64 22, .int .i64 ((hd cur).place : Int), kv, .string ⟨#[]⟩, .int .i64 bt], .slice (some ⟨W8.heap.size, 0, none⟩) 2 2] (W8.alloc (.cells #[.int .i64 (v : Int), .int .i64 (v2 : Int)] 3)) fun e W' => ∃ r : Nat, e = .returned (.int .i64 (r : Int)) /\ Bx (Ea w0 rb ae aa TL xs U W s ns least f R W' g [.mk 22 (hd cur).place bt [] (left ++ b)] (if lev = 3 then 2 else lev) s2 r) /\ v < r /\ r <= s.length + ns.length) := ⟨fun W8 h hk v2 hv2 e2 hl kv => by
       have hval := HL.out.val
       have hone := HL.out.one
       have hsz := HL.out.sz
       have hps := HL.out.pos
       have en : ends (left ++ b) ns.length = [(v : Int), (v2 : Int)] := by rw [bD, aK hone, aK e2, hval, hv2, dV]; rfl
       have hI := dz (rb := rb) (W := W8) (o := #[.int .i64 (v : Int), .int .i64 (v2 : Int)]) (ys := ends (left ++ b) ns.length) (n := 2) (by rw [en]; rfl) (by decide) (by decide) h.lt (by rw [en]; rfl)
       have h2 := h.ext (ah W8 (.cells #[.int .i64 (v : Int), .int .i64 (v2 : Int)] 3))
       rw [bP] at h2
       refine (F6 hT left b h2 ((HL.out.keep.trans hk).trans (af.alloc h.lt _)) hl ⟨wr, st.out⟩ 22 (hd cur).place bt [] kv (some ⟨W8.heap.size, 0, none⟩) 2 2 (by simp [hone, e2]) hI h.new).mono ?_
       rintro e W9 ⟨r, rfl, n9, l9, he9, q9, k9⟩
       have hs1 : sizes [Tr.mk 22 (hd cur).place bt [] (left ++ b)] = sizes left + sizes b + 1 := by simp [sizes, Tr.size, aI]
       refine ⟨ns.length + sizes [Tr.mk 22 (hd cur).place bt [] (left ++ b)] - 1, he9, ⟨⟨e1, by omega, rfl, rfl, by rw [hs1]; omega, q9, k9, by omega⟩⟩, by rw [hs1]; omega, by omega⟩⟩
      have hac : v <= s.length + ns.length := by have := HL.out.val; have := HL.out.sz; omega
      clear HL HO e1 r3
      by_cases h3 : lev = 3
      ·subst h3
       go_wp2_with (first
        | (go_at_call 84; refine Calls.mono (B4.out _ st.out) ?_; rintro e W4 ⟨t4, rfl, b4⟩; have q4 := st.out.ext b4; have k4 := af.ext st.out.lt b4; clear B4)
        | (go_at_call 66; refine Calls.mono (B5.out _ q4) ?_; rintro e W5 ⟨rfl, b5⟩; have q5 := q4.ext b5; have k5 := k4.trans (af.ext q4.lt b5); clear B5)
        | (go_at_call 136; refine Calls.mono (B6.out _) ?_; rintro e W5' ⟨rfl, rfl⟩)
        | (go_at_call 39; refine Calls.mono (B7.out _) ?_; rintro e W6 ⟨rfl, b6⟩; obtain ⟨hb, hown, hrx⟩ := bJ q5 b6; have q6 := (q5.ext (ah _ _)).ext b6; have k6 := k5.trans ((af.alloc q5.lt _).trans (af.ext (q5.ext (ah _ _)).lt b6)); obtain ⟨i6, q7, k7, hi6, hl6, e6, f6, hb7, ho7⟩ := HP.out W5' W6 q6 k6 hb hown hrx; have Q7 : Bx _ := ⟨q7⟩; have K7 : Bx _ := ⟨k7⟩; have HB7 : Bx _ := ⟨hb7⟩; have HO7 : Bx _ := ⟨ho7⟩; obtain ⟨y0, y1, y2, y3, y4, ylt⟩ := dw hb7; clear hb hown hb7 ho7 q7 k7 q6 k6 k5 q5 HP))
       go_region_with (first
        | (go_at_call 125; refine Calls.mono (B3.out _ (Q7.out.ext ((Below.refl _ _).drew)) (by simp)) ?_; rintro e W8 ⟨n8, l8, he, q8, k8⟩; obtain ⟨v8, hv⟩ : ∃ r : Nat, r = ((ns ++ ag left ns.length).length + sizes b - 1) := ⟨_, rfl⟩; rw [← hv] at he; subst he; have V8 : Bx _ := ⟨hv⟩; have kk := (af.ext Q7.out.lt ((Below.refl _ _).drew)).trans k8; obtain ⟨hb8, _⟩ := bI kk HB7.out hrx HO7.out; obtain ⟨z0, z1, z2, z3, z4, zlt⟩ := dw hb8; have k9 := K7.out.trans kk; clear hv hb8 kk)
        | (go_at_call 70; refine Calls.mono (HD.out _ q8 k9 v8 V8.out n8 (by omega) _) ?_; rintro e W9 ⟨r9, rfl, LN, hlt9, hle9⟩))
       all_goals
        go_wp2
        go_roundw
        case rel => exact ⟨g, _, _, s2, r9, rfl, rfl, LN⟩
        case measure => simp [JN]; omega
      ·rw [if_neg h3] at HD
       go_wp2_with (first
        | (go_at_call 84; refine Calls.mono (B4.out _ st.out) ?_; rintro e W4 ⟨t4, rfl, b4⟩; have q4 := st.out.ext b4; have k4 := af.ext st.out.lt b4; clear B4)
        | (go_at_call 66; refine Calls.mono (B5.out _ q4) ?_; rintro e W5 ⟨rfl, b5⟩; have q5 := q4.ext b5; have k5 := k4.trans (af.ext q4.lt b5); clear B5)
        | (go_at_call 136; refine Calls.mono (B6.out _) ?_; rintro e W5' ⟨rfl, rfl⟩)
        | (go_at_call 39; refine Calls.mono (B7.out _) ?_; rintro e W6 ⟨rfl, b6⟩; obtain ⟨hb, hown, hrx⟩ := bJ q5 b6; have q6 := (q5.ext (ah _ _)).ext b6; have k6 := k5.trans ((af.alloc q5.lt _).trans (af.ext (q5.ext (ah _ _)).lt b6)); obtain ⟨i6, q7, k7, hi6, hl6, e6, f6, hb7, ho7⟩ := HP.out W5' W6 q6 k6 hb hown hrx; have Q7 : Bx _ := ⟨q7⟩; have K7 : Bx _ := ⟨k7⟩; have HB7 : Bx _ := ⟨hb7⟩; have HO7 : Bx _ := ⟨ho7⟩; obtain ⟨y0, y1, y2, y3, y4, ylt⟩ := dw hb7; clear hb hown hb7 ho7 q7 k7 q6 k6 k5 q5 HP))
       go_region_with (first
        | (go_at_call 125; refine Calls.mono (B3.out _ (Q7.out.ext ((Below.refl _ _).drew)) (by simp)) ?_; rintro e W8 ⟨n8, l8, he, q8, k8⟩; obtain ⟨v8, hv⟩ : ∃ r : Nat, r = ((ns ++ ag left ns.length).length + sizes b - 1) := ⟨_, rfl⟩; rw [← hv] at he; subst he; have V8 : Bx _ := ⟨hv⟩; have kk := (af.ext Q7.out.lt ((Below.refl _ _).drew)).trans k8; obtain ⟨hb8, _⟩ := bI kk HB7.out hrx HO7.out; obtain ⟨z0, z1, z2, z3, z4, zlt⟩ := dw hb8; have k9 := K7.out.trans kk; clear hv hb8 kk)
        | (go_at_call 70; refine Calls.mono (HD.out _ q8 k9 v8 V8.out n8 (by omega) _) ?_; rintro e W9 ⟨r9, rfl, LN, hlt9, hle9⟩))
       all_goals
        go_wp2
        go_roundw
        case rel => exact ⟨g, _, _, s2, r9, rfl, rfl, LN⟩
        case measure => simp [JN]; omega
end Go.Proofs.YtecodpdfckjalaaGreatDoor
