import Derived.Test.YtadmpgegolmkgaaDoorBWyXe
import Derived.Test.YtadmpgegolmkgaaDoorBWyXa
import Derived.Test.YtadmpgegolmkgaaDoorBWyXc
set_option linter.unusedVariables false
set_option linter.unusedSimpArgs false
set_option maxHeartbeats 4000000
set_option maxRecDepth 100000
namespace Go.Proofs.YtadmpgegolmkgaaDoor
open Go.RowKit
theorem q8 (w : World) (B : Nat) (hB : B <= w.heap.size) (pg : CPg) (ca : Option Addr) (cc : Nat) (hc : Row (cu w B) B 4 ca cc pg.code) (hcl : pg.code.length <= 268435456) (v : Value) (B' : Nat) (hB' : B' <= w.heap.size) (hBB : B <= B') (S : List RSt) (h : StO w B' v S) (hS : S.length = pg.code.length) (i : Nat) (hi : i < S.length) (x : CIn) (hx : pg.code[i]'(by omega) = x) (hw : x.Wf) (hll : x.list.length <= 281474976710656) (hpop : ¬ S[i].height < ax x) (h25 : x.op ≠ 25) (hneed : (∃ (m : Nat) (d : Nat), x.a = (m : Int) /\ Hv pg.params S m d (i : Nat) true) ∨ (x.op ≠ 4 /\ x.op ≠ 6 /\ x.op ≠ 16)) (h1 : IntKind.i64.wrap (S[i].height - ax x) = S[i].height - ax x) (h2 : IntKind.i64.wrap (S[i].height - ax x + au x) = S[i].height - ax x + au x) {L sl : Nat} {P : Prs} {K : List Wy} {D : Nat -> Bool} (hR : Rel pg.code.length L sl pg.params S ⟨P, K, D⟩) (hsl : pg.slots = (sl : Int)) (hsl2 : sl <= 65536) (hL : sl <= 2 ^ (6 + L)) {p : Wy} (hT : di pg.code.length L sl pg.params S P (toS S i x) p) (hT2 : di pg.code.length L sl pg.params S P { toS S i x with height := (toS S i x).height + 1 } (p.1 + 1, p.2)) (hop : x.op = 27) (hE : bC x.list = true) (hev : x.list.length % 2 = 0) (htg : ∀ j (q : 2 * j + 1 < x.list.length), 0 <= x.list[2 * j + 1] /\ x.list[2 * j + 1] < (pg.code.length : Int)) (hh1 : IntKind.i64.wrap (S[i].height - ax x + au x + 1) = S[i].height - ax x + au x + 1) : Calls Tryd.prog 38 #[.agg (pgC pg ca cc), v, .int .i64 (i : Nat)] w fun e w' => e = .returned (.int .i64 (if (aC (eX x.list p) K D).1 then 0 else 95)) /\ Bx (∃ S', StO w' B' v S' /\ w.grownBy w' v.ownBlock /\ S'.length = S.length /\ ((aC (eX x.list p) K D).1 = true -> Rel pg.code.length L sl pg.params S' ⟨P, (aC (eX x.list p) K D).2.1, (aC (eX x.list p) K D).2.2⟩)) := by
 have hgs : ∀ g, v.ownBlock = some g -> g < w.heap.size := fun g hg => (aD h hg).2
 have HGS : Bx _ := ⟨hgs⟩
 have htS : toS S i x = ⟨true, false, S[i].height - ax x + au x, i, if x.op = 5 ∨ x.op = 6 then x.a else -1, decide (x.op = 5)⟩ := by unfold toS; rw [dD hi]
 have hvs := aN h
 have hvb : ∀ g, v.ownBlock = some g -> B' <= g := fun g hg => (aD h hg).1
 refine dH w B hB pg ca cc hc hcl v B' hB' S h hS i hi x hx hw hll hpop h25 hneed h1 h2 _ ?_
 intro ka kc hks r0 r1 r2 r3 r4 r5 c hbody X ib yb tb u14 u15 u16 u17 u18 u19 u20 u21 u22 u23 u24 u25 u26 u27 u28 u29 u30 u31 u32 u33 u34 u35 u36 u37 u38 u39 u40 u41 u42 u43 u44 u45 u46 u47 u48 u49 u50 u51 u52 u53 u54 u55 u56 u57 u58 u59 u60 u61 u62 u63 u64 u65 u66 u67 u68 hX
 unfold Tryd.f38 at hbody
 simp only [Option.some.injEq, Code.seq.injEq] at hbody
 obtain ⟨-, -, -, -, -, -, rfl⟩ := hbody
 have q0 : gW i (S[i].height - ax x + au x) = toS S i x := by rw [htS, if_neg (by omega), decide_eq_false (by omega)]
 have hXT := hX
 rw [q0] at hXT hX
 have b5 : (x.op == 5) = false := by simp; omega
 have b6 : (x.op == 6) = false := by simp; omega
 obtain ⟨tt, htt⟩ : ∃ tt, toS S i x = tt := ⟨_, rfl⟩
 rw [htt] at hXT hT
 rw [htt] at q0
 rw [htt] at hX
 rw [htt] at hT2
 have hth : tt.height = S[i].height - ax x + au x := by rw [← htt, htS]
 rw [← hth] at hh1
 have hh0 : IntKind.i64.wrap tt.height = tt.height := by rw [hth]; exact h2
 have n19 : (x.op != 19) = true := by simp; omega
 have n21 : (x.op != 21) = true := by simp; omega
 have n27 : (x.op != 27) = false := by simp [hop]
 have b19 : (x.op == 19) = false := by simp; omega
 have b21 : (x.op == 21) = false := by simp; omega
 have b20 : (x.op == 20) = false := by simp; omega
 have b27 : (x.op == 27) = true := by simpa using hop
 obtain ⟨⟨p0, p1, p2, p3, p4, p5⟩, ⟨i0, i1, i2, i3, i4⟩, ⟨z0, z1, z2, z3, z4, z5, z6⟩⟩ := hX.cells
 have HLI : Bx (∀ Y t', RLG w Y pg ca cc x ka kc t' ib tb v.ownBlock -> aF Y B ka kc x.list) := ⟨fun Y t' hY => hks.below ⟨hY.gr.os, hY.gr.tape, hY.gr.output, hY.gr.size, fun k hk => hY.gr.block k (by omega) (fun e => by have := hvb k e.symm; omega)⟩⟩
 have HSB : Bx (B <= w.heap.size /\ S.length = pg.code.length /\ S.length <= 281474976710656) := ⟨hB, hS, by omega⟩
 have HMT : Bx (∀ (Y : World) (S1 : List RSt) (K1 : List Wy) (D1 : Nat -> Bool) (t1 : RSt) (pj : Wy) (tg : Nat), tg < pg.code.length -> B' <= Y.heap.size -> StO Y B' v S1 -> S1.length = S.length -> Rel pg.code.length L sl pg.params S1 ⟨P, K1, D1⟩ -> di pg.code.length L sl pg.params S1 P t1 pj -> Calls Tryd.prog 58 #[.agg #[.int .i64 pg.params, .int .i64 pg.slots, .int .i64 pg.caps, .bool pg.res, .slice ca pg.code.length cc], v, .int .i64 (tg : Nat), .agg #[.bool t1.come, .bool t1.seen, .int .i64 t1.height, .int .i64 t1.frm, .int .i64 t1.slot, .bool t1.given]] Y fun e w' => e = .returned (.bool (bI K1 tg pj)) /\ Bx (∃ S', StO w' B' v S' /\ Y.grownBy w' v.ownBlock /\ Rel pg.code.length L sl pg.params S' ⟨P, aI K1 tg pj, aP K1 tg D1⟩ /\ S'.length = S1.length /\ ∀ t' p', di pg.code.length L sl pg.params S1 P t' p' -> di pg.code.length L sl pg.params S' P t' p')) := ⟨fun Y S1 K1 D1 t1 pj tg htg2 hY hO hl1 hR1 hT1 => fw Y B' hY pg ca cc v S1 hO (by have := HSB.out.2.2; omega) hR1 hsl hsl2 hL hT1 tg htg2⟩
 have HTG : Bx _ := ⟨htg⟩
 have hwB : B' <= w.heap.size := hB'
 have hlm := hks.max
 have hlc := hks.cap
 unfold maxLen at hlm
 obtain ⟨TT, hTT⟩ : ∃ TT, aC (eX x.list p) K D = TT := ⟨_, rfl⟩
 have HST : Bx (aC (eX (x.list.drop (2 * 0)) p) K D = TT /\ bC (x.list.drop (2 * 0)) = true) := ⟨by rw [Nat.mul_zero, List.drop_zero]; exact hTT, by rw [Nat.mul_zero, List.drop_zero]; exact hE⟩
 rw [hTT]
 obtain ⟨tb0, tK, tD⟩ := TT
 simp only
 obtain ⟨av, cv, rfl⟩ := hvs
 have HIN : Bx (RLG w X pg ca cc x ka kc tt ib tb (Value.slice av S.length cv).ownBlock /\ StO X B' (Value.slice av S.length cv) S /\ S.length = S.length /\ Rel pg.code.length L sl pg.params S ⟨P, K, D⟩ /\ di pg.code.length L sl pg.params S P tt p /\ di pg.code.length L sl pg.params S P { tt with height := tt.height + 1 } (p.1 + 1, p.2)) := ⟨hXT.gr _, aZ h hXT.bel, rfl, hR, hT, hT2⟩
 clear hTT hth hT2 htg hvb hE h hx hS h1 h2 hks hc hpop h25 hneed hop htS hgs q0 hR hT htt hX hXT hsl
 go_wp2
 go_loopg [13] (x.list.length + 1) (fun f v13 wr => ∃ (j : Nat) (S1 : List RSt) (K1 : List Wy) (D1 : Nat -> Bool) (hO : Int), f = x.list.length + 1 - 2 * j /\ 2 * j <= x.list.length /\ v13 = .int .i64 (2 * (j : Int)) /\ Bx (aC (eX (x.list.drop (2 * j)) p) K1 D1 = (tb0, tK, tD) /\ bC (x.list.drop (2 * j)) = true) /\ Bx (RLG w wr pg ca cc x ka kc { tt with height := hO } ib tb (Value.slice av S.length cv).ownBlock /\ StO wr B' (Value.slice av S.length cv) S1 /\ S1.length = S.length /\ Rel pg.code.length L sl pg.params S1 ⟨P, K1, D1⟩ /\ di pg.code.length L sl pg.params S1 P tt p /\ di pg.code.length L sl pg.params S1 P { tt with height := tt.height + 1 } (p.1 + 1, p.2)))
 case atStart => exact ⟨0, S, K, D, tt.height, by simp, Nat.zero_le _, rfl, HST, ⟨HIN.out.1, HIN.out.2.1, rfl, HIN.out.2.2.2⟩⟩
 case round =>
  clear HST HIN p0 p1 p2 p3 p4 p5 i0 i1 i2 i3 i4 z0 z1 z2 z3 z4 z5 z6
  obtain ⟨j, S1, K1, D1, hO, hf, hj, rfl, HC, HR⟩ := hrel
  obtain ⟨⟨p0, p1, p2, p3, p4, p5⟩, ⟨i0, i1, i2, i3, i4⟩, ⟨z0, z1, z2, z3, z4, z5, z6⟩⟩ := HR.out.1.cells
  have hw1 : IntKind.i64.wrap (2 * (j : Int) + 1) = 2 * (j : Int) + 1 := by rw [IntKind.wrap_i64]; omega
  by_cases hlt : 2 * j < x.list.length
  ·have hlt1 : 2 * j + 1 < x.list.length := by omega
   obtain ⟨lb, lo, rfl, hlb, hlcell⟩ := (HLI.out wr _ HR.out.1).at_ (by omega)
   have l0 := hlcell (2 * j) hlt
   have hlbw : lb < wr.heap.size := by have := HR.out.1.gr.size; have := HSB.out.1; omega
   have hcI : (2 * (j : Int) + 1) < (x.list.length : Int) := by omega
   have hcI2 : 2 * (j : Int) < (x.list.length : Int) := by omega
   have htj := HTG.out j hlt1
   have hC1 := HC.out.1
   have hC2 := HC.out.2
   rw [l7 hlt1, aC] at hC1
   rw [jC hlt, Bool.and_eq_true] at hC2
   obtain ⟨hin, hC2⟩ := hC2
   have hL1 : Bx (∀ Y t', RLG w Y pg ca cc x (some ⟨lb, lo, none⟩) kc t' ib tb (Value.slice av S.length cv).ownBlock -> Y.cell? ⟨lb, lo + (2 * j + 1), none⟩ = some (.int .i64 x.list[2 * j + 1]) /\ lb < Y.heap.size) := ⟨fun Y t' hY => by
    obtain ⟨b2, o2, e2, hb2, hc2⟩ := (HLI.out Y _ hY).at_ (by omega)
    simp only [Option.some.injEq, Addr.mk.injEq] at e2
    obtain ⟨rfl, rfl, _⟩ := e2
    exact ⟨hc2 (2 * j + 1) hlt1, by have := hY.gr.size; have := HSB.out.1; omega⟩⟩
   clear HC hlcell
   generalize hA0 : x.list[2 * j] = a0 at *
   generalize hTGG : x.list[2 * j + 1] = tg at *
   have ha0 : a0 = 0 ∨ a0 = 1 := by unfold inI at hin; simp at hin; omega
   obtain ⟨hN, hhN⟩ : ∃ hN, tt.height + 1 - a0 = hN := ⟨_, rfl⟩
   obtain ⟨pj, hpj⟩ : ∃ pj : Wy, (if a0 = 0 then (p.1 + 1, p.2) else p) = pj := ⟨_, rfl⟩
   rw [hpj] at hC1
   have hTJ : di pg.code.length L sl pg.params S1 P { tt with height := hN } pj := by
    rcases ha0 with e | e
    ·rw [← hpj, if_pos e, ← hhN, e, Int.sub_zero]; exact HR.out.2.2.2.2.2
    ·rw [← hpj, if_neg (by omega), ← hhN, e, show tt.height + 1 - 1 = tt.height by omega]; exact HR.out.2.2.2.2.1
   have hw2 : IntKind.i64.wrap (tt.height + 1 - a0) = hN := by
    rw [IntKind.wrap_i64] at hh1 hh0 ⊢
    omega
   obtain ⟨W5, hW5⟩ : ∃ W5, wr.setCell ⟨tb, 2, none⟩ (.int .i64 hN) = W5 := ⟨_, rfl⟩
   have hfz : wr.frozen? ⟨tb, 2, none⟩ = false := aL HR.out.1.bt
   have hR5 := HR.out.1.nO 2 (.int .i64 hN) { tt with height := hN } rfl
   rw [hW5] at hR5
   have hO5 : StO W5 B' (Value.slice av S.length cv) S1 := by
    refine bS HR.out.2.1 fun y o hy ho => ?_
    rw [← hW5, Below.heap_setCell wr ⟨tb, 2, none⟩ _ y (fun e => by
     have h1 := HGS.out y hy
     have h2 := HR.out.1.lo.2
     have e : y = tb := e
     omega)]
    exact ho
   obtain ⟨bv, hbv⟩ : ∃ bv, bI K1 tg.toNat pj = bv := ⟨_, rfl⟩
   rw [hbv] at hC1
   have HI5 : Bx (RLG w W5 pg ca cc x (some ⟨lb, lo, none⟩) kc { tt with height := hN } ib tb (Value.slice av S.length cv).ownBlock /\ StO W5 B' (Value.slice av S.length cv) S1) := ⟨hR5, hO5⟩
   have HCALL : Bx (∀ Y, RLG w Y pg ca cc x (some ⟨lb, lo, none⟩) kc { tt with height := hN } ib tb (Value.slice av S.length cv).ownBlock /\ StO Y B' (Value.slice av S.length cv) S1 -> Calls Tryd.prog 58 #[.agg #[.int .i64 pg.params, .int .i64 pg.slots, .int .i64 pg.caps, .bool pg.res, .slice ca pg.code.length cc], .slice av S.length cv, .int .i64 tg, .agg #[.bool tt.come, .bool tt.seen, .int .i64 hN, .int .i64 tt.frm, .int .i64 tt.slot, .bool tt.given]] Y fun e Y' => e = .returned (.bool bv) /\ ∃ S2, RLG w Y' pg ca cc x (some ⟨lb, lo, none⟩) kc { tt with height := hN } ib tb (Value.slice av S.length cv).ownBlock /\ StO Y' B' (Value.slice av S.length cv) S2 /\ S2.length = S.length /\ Rel pg.code.length L sl pg.params S2 ⟨P, aI K1 tg.toNat pj, aP K1 tg.toNat D1⟩ /\ di pg.code.length L sl pg.params S2 P tt p /\ di pg.code.length L sl pg.params S2 P { tt with height := tt.height + 1 } (p.1 + 1, p.2)) := ⟨fun Y hY => by
    have := HMT.out Y S1 K1 D1 { tt with height := hN } pj tg.toNat (by omega) (Nat.le_trans hwB hY.1.gr.size) hY.2 HR.out.2.2.1 HR.out.2.2.2.1 hTJ
    rw [show ((tg.toNat : Nat) : Int) = tg by omega, hbv] at this
    refine this.mono ?_
    rintro e Y' ⟨rfl, hq⟩
    obtain ⟨S2, s1, s2, s3, s4, s5⟩ := hq.out
    exact ⟨rfl, S2, hY.1.step s2 HGS.out, s1, by rw [s4]; exact HR.out.2.2.1, s3, s5 _ _ HR.out.2.2.2.2.1, s5 _ _ HR.out.2.2.2.2.2⟩⟩
   have HC3 : Bx ((bv = true -> aC (eX (x.list.drop (2 * (j + 1))) p) (aI K1 tg.toNat pj) (aP K1 tg.toNat D1) = (tb0, tK, tD)) /\ (bv = false -> (false, aI K1 tg.toNat pj, aP K1 tg.toNat D1) = (tb0, tK, tD)) /\ bC (x.list.drop (2 * (j + 1))) = true) := ⟨fun e => by rw [e] at hC1; exact hC1, fun e => by rw [e] at hC1; exact hC1, by rw [show 2 * (j + 1) = 2 * j + 2 by omega]; exact hC2⟩
   clear HMT HTG HLI HR hR5 hO5 hTJ hC1 hC2 hin ha0 hbv hpj hA0 hTGG hhN
   clear htj
   go_wp2_with fail
   refine eT (CaS (fun Y => RLG w Y pg ca cc x (some ⟨lb, lo, none⟩) kc { tt with height := hN } ib tb (Value.slice av S.length cv).ownBlock /\ StO Y B' (Value.slice av S.length cv) S1) (fun Y => ∃ S2, RLG w Y pg ca cc x (some ⟨lb, lo, none⟩) kc { tt with height := hN } ib tb (Value.slice av S.length cv).ownBlock /\ StO Y B' (Value.slice av S.length cv) S2 /\ S2.length = S.length /\ Rel pg.code.length L sl pg.params S2 ⟨P, aI K1 tg.toNat pj, aP K1 tg.toNat D1⟩ /\ di pg.code.length L sl pg.params S2 P tt p /\ di pg.code.length L sl pg.params S2 P { tt with height := tt.height + 1 } (p.1 + 1, p.2)) (BU pg ca cc (.slice av S.length cv) ib lb lo x kc j tg hN tt bv) 9 jZ) (by kernel_rfl) (by decide +kernel) ⟨(fun _ _ h => by cases h), fun _ => ⟨HI5.out.1.step ⟨rfl, rfl, rfl, Nat.le_refl _, fun _ _ _ => rfl⟩ HGS.out, bS HI5.out.2 fun y o _ ho => ho⟩, fun h => absurd rfl h, fun _ h => absurd rfl h⟩ ?stp ?fin
   case stp =>
    clear HC3 p0 p1 p2 p3 p4 p5 i0 i1 i2 i3 i4 z0 z1 z2 z3 z4 z5 z6
    intro u wz jj op bb hS hnu ho hdep hA
    rcases jj with _ | _ | _ | _ | _ | _ | _ | _ | _ | _ | _ | jj
    ·simp only [List.getElem?_cons_succ, List.getElem?_cons_zero, Option.some.injEq] at ho
     subst ho
     have hI := hS.i hnu (by decide)
     obtain ⟨⟨p0, p1, p2, p3, p4, p5⟩, ⟨i0, i1, i2, i3, i4⟩, ⟨z0, z1, z2, z3, z4, z5, z6⟩⟩ := hI.1.cells
     obtain ⟨l1, l2⟩ := hL1.out _ _ hI.1
     have f3 := hA.was (t := 3) (by decide +kernel)
     simp only [Act.eval] at f3
     refine ⟨rfl, .inl ⟨.agg #[.int .i64 pg.params, .int .i64 pg.slots, .int .i64 pg.caps, .bool pg.res, .slice ca pg.code.length cc], wz, ?_, hS.pure (by decide) rfl (fun e he => by simp [jZ] at he)⟩⟩
     simp only [execOp, f3]
     go_simp
     try rfl
    ·simp only [List.getElem?_cons_succ, List.getElem?_cons_zero, Option.some.injEq] at ho
     subst ho
     have hI := hS.i hnu (by decide)
     obtain ⟨⟨p0, p1, p2, p3, p4, p5⟩, ⟨i0, i1, i2, i3, i4⟩, ⟨z0, z1, z2, z3, z4, z5, z6⟩⟩ := hI.1.cells
     obtain ⟨l1, l2⟩ := hL1.out _ _ hI.1
     have f1 := hA.was (t := 1) (by decide +kernel)
     simp only [Act.eval] at f1
     refine ⟨rfl, .inl ⟨.slice av S.length cv, wz, ?_, hS.pure (by decide) rfl (fun e he => by simp [jZ] at he)⟩⟩
     simp only [execOp, f1]
     go_simp
     try rfl
    ·simp only [List.getElem?_cons_succ, List.getElem?_cons_zero, Option.some.injEq] at ho
     subst ho
     have hI := hS.i hnu (by decide)
     obtain ⟨⟨p0, p1, p2, p3, p4, p5⟩, ⟨i0, i1, i2, i3, i4⟩, ⟨z0, z1, z2, z3, z4, z5, z6⟩⟩ := hI.1.cells
     obtain ⟨l1, l2⟩ := hL1.out _ _ hI.1
     have f7 := hA.was (t := 7) (by decide +kernel)
     simp only [Act.eval] at f7
     refine ⟨rfl, .inl ⟨.pointer (some ⟨ib, 3, none⟩), wz, ?_, hS.pure (by decide) rfl (fun e he => by simp [jZ] at he)⟩⟩
     simp only [execOp, f7]
     go_simp
     try rfl
    ·simp only [List.getElem?_cons_succ, List.getElem?_cons_zero, Option.some.injEq] at ho
     subst ho
     have hI := hS.i hnu (by decide)
     obtain ⟨⟨p0, p1, p2, p3, p4, p5⟩, ⟨i0, i1, i2, i3, i4⟩, ⟨z0, z1, z2, z3, z4, z5, z6⟩⟩ := hI.1.cells
     obtain ⟨l1, l2⟩ := hL1.out _ _ hI.1
     have e2 := hA.at_ (j := 2) (t := 149) rfl rfl (hS.get (hdep ⟨2, Ground.data⟩ (by simp) rfl) (c := .pointer (some ⟨ib, 3, none⟩)) rfl) (Nat.le_of_ble_eq_true rfl)
     refine ⟨rfl, .inl ⟨.slice (some ⟨lb, lo, none⟩) x.list.length kc, wz, ?_, hS.pure (by decide) rfl (fun e he => by
      obtain rfl : e = 2 := by simpa [jZ] using he
      obtain ⟨z, hz⟩ := hdep ⟨2, Ground.data⟩ (by simp) rfl
      rw [hz]; simp)⟩⟩
     simp only [execOp, e2]
     go_simp
     try rfl
    ·simp only [List.getElem?_cons_succ, List.getElem?_cons_zero, Option.some.injEq] at ho
     subst ho
     have hI := hS.i hnu (by decide)
     obtain ⟨⟨p0, p1, p2, p3, p4, p5⟩, ⟨i0, i1, i2, i3, i4⟩, ⟨z0, z1, z2, z3, z4, z5, z6⟩⟩ := hI.1.cells
     obtain ⟨l1, l2⟩ := hL1.out _ _ hI.1
     have f13 := hA.was (t := 13) (by decide +kernel)
     simp only [Act.eval] at f13
     refine ⟨rfl, .inl ⟨.int .i64 (2 * (j : Int)), wz, ?_, hS.pure (by decide) rfl (fun e he => by simp [jZ] at he)⟩⟩
     simp only [execOp, f13]
     go_simp
     try rfl
    ·simp only [List.getElem?_cons_succ, List.getElem?_cons_zero, Option.some.injEq] at ho
     subst ho
     have hI := hS.i hnu (by decide)
     obtain ⟨⟨p0, p1, p2, p3, p4, p5⟩, ⟨i0, i1, i2, i3, i4⟩, ⟨z0, z1, z2, z3, z4, z5, z6⟩⟩ := hI.1.cells
     obtain ⟨l1, l2⟩ := hL1.out _ _ hI.1
     have e4 := hA.at_ (j := 4) (t := 151) rfl rfl (hS.get (hdep ⟨4, Ground.data⟩ (by simp) rfl) (c := .int .i64 (2 * (j : Int))) rfl) (Nat.le_of_ble_eq_true rfl)
     refine ⟨rfl, .inl ⟨.int .i64 (2 * (j : Int) + 1), wz, ?_, hS.pure (by decide) rfl (fun e he => by
      obtain rfl : e = 4 := by simpa [jZ] using he
      obtain ⟨z, hz⟩ := hdep ⟨4, Ground.data⟩ (by simp) rfl
      rw [hz]; simp)⟩⟩
     simp only [execOp, e4]
     go_simp
     try rfl
    ·simp only [List.getElem?_cons_succ, List.getElem?_cons_zero, Option.some.injEq] at ho
     subst ho
     have hI := hS.i hnu (by decide)
     obtain ⟨⟨p0, p1, p2, p3, p4, p5⟩, ⟨i0, i1, i2, i3, i4⟩, ⟨z0, z1, z2, z3, z4, z5, z6⟩⟩ := hI.1.cells
     obtain ⟨l1, l2⟩ := hL1.out _ _ hI.1
     have e3 := hA.at_ (j := 3) (t := 150) rfl rfl (hS.get (hdep ⟨3, Ground.data⟩ (by simp) rfl) (c := .slice (some ⟨lb, lo, none⟩) x.list.length kc) rfl) (Nat.le_of_ble_eq_true rfl)
     have e5 := hA.at_ (j := 5) (t := 152) rfl rfl (hS.get (hdep ⟨5, Ground.data⟩ (by simp) rfl) (c := .int .i64 (2 * (j : Int) + 1)) rfl) (Nat.le_of_ble_eq_true rfl)
     refine ⟨rfl, .inl ⟨.pointer (some ⟨lb, lo + (2 * j + 1), none⟩), wz, ?_, hS.pure (by decide) rfl (fun e he => by
      have he2 : e = 3 ∨ e = 5 := by simpa [jZ] using he
      rcases he2 with rfl | rfl
      ·obtain ⟨z, hz⟩ := hdep ⟨3, Ground.data⟩ (by simp) rfl
       rw [hz]; simp
      ·obtain ⟨z, hz⟩ := hdep ⟨5, Ground.data⟩ (by simp) rfl
       rw [hz]; simp)⟩⟩
     simp only [execOp, e3, e5]
     go_simp
     try rfl
    ·simp only [List.getElem?_cons_succ, List.getElem?_cons_zero, Option.some.injEq] at ho
     subst ho
     have hI := hS.i hnu (by decide)
     obtain ⟨⟨p0, p1, p2, p3, p4, p5⟩, ⟨i0, i1, i2, i3, i4⟩, ⟨z0, z1, z2, z3, z4, z5, z6⟩⟩ := hI.1.cells
     obtain ⟨l1, l2⟩ := hL1.out _ _ hI.1
     have e6 := hA.at_ (j := 6) (t := 153) rfl rfl (hS.get (hdep ⟨6, Ground.data⟩ (by simp) rfl) (c := .pointer (some ⟨lb, lo + (2 * j + 1), none⟩)) rfl) (Nat.le_of_ble_eq_true rfl)
     refine ⟨rfl, .inl ⟨.int .i64 tg, wz, ?_, hS.pure (by decide) rfl (fun e he => by
      obtain rfl : e = 6 := by simpa [jZ] using he
      obtain ⟨z, hz⟩ := hdep ⟨6, Ground.data⟩ (by simp) rfl
      rw [hz]; simp)⟩⟩
     simp only [execOp, e6]
     go_simp
     try rfl
    ·simp only [List.getElem?_cons_succ, List.getElem?_cons_zero, Option.some.injEq] at ho
     subst ho
     have hI := hS.i hnu (by decide)
     obtain ⟨⟨p0, p1, p2, p3, p4, p5⟩, ⟨i0, i1, i2, i3, i4⟩, ⟨z0, z1, z2, z3, z4, z5, z6⟩⟩ := hI.1.cells
     obtain ⟨l1, l2⟩ := hL1.out _ _ hI.1
     have f10 := hA.was (t := 10) (by decide +kernel)
     simp only [Act.eval] at f10
     refine ⟨rfl, .inl ⟨.agg #[.bool tt.come, .bool tt.seen, .int .i64 hN, .int .i64 tt.frm, .int .i64 tt.slot, .bool tt.given], wz, ?_, hS.pure (by decide) rfl (fun e he => by simp [jZ] at he)⟩⟩
     simp only [execOp, f10]
     go_simp
     try rfl
    ·simp only [List.getElem?_cons_succ, List.getElem?_cons_zero, Option.some.injEq] at ho
     subst ho
     have e0 := hA.at_ (j := 0) (t := 147) rfl rfl (hS.get (hdep ⟨0, Ground.data⟩ (by simp) rfl) (c := .agg #[.int .i64 pg.params, .int .i64 pg.slots, .int .i64 pg.caps, .bool pg.res, .slice ca pg.code.length cc]) rfl) (Nat.le_of_ble_eq_true rfl)
     have b0 : bb.tmps[147]?.getD undef = .agg #[.int .i64 pg.params, .int .i64 pg.slots, .int .i64 pg.caps, .bool pg.res, .slice ca pg.code.length cc] := by simpa [Act.eval, Array.getD_eq_getD_getElem?] using e0
     have g0 : u 0 ≠ none := by
      obtain ⟨z, hz⟩ := hdep ⟨0, Ground.data⟩ (by simp) rfl
      rw [hz]; simp
     have e1 := hA.at_ (j := 1) (t := 148) rfl rfl (hS.get (hdep ⟨1, Ground.data⟩ (by simp) rfl) (c := .slice av S.length cv) rfl) (Nat.le_of_ble_eq_true rfl)
     have b1 : bb.tmps[148]?.getD undef = .slice av S.length cv := by simpa [Act.eval, Array.getD_eq_getD_getElem?] using e1
     have g1 : u 1 ≠ none := by
      obtain ⟨z, hz⟩ := hdep ⟨1, Ground.data⟩ (by simp) rfl
      rw [hz]; simp
     have e7 := hA.at_ (j := 7) (t := 154) rfl rfl (hS.get (hdep ⟨7, Ground.data⟩ (by simp) rfl) (c := .int .i64 tg) rfl) (Nat.le_of_ble_eq_true rfl)
     have b7 : bb.tmps[154]?.getD undef = .int .i64 tg := by simpa [Act.eval, Array.getD_eq_getD_getElem?] using e7
     have g7 : u 7 ≠ none := by
      obtain ⟨z, hz⟩ := hdep ⟨7, Ground.data⟩ (by simp) rfl
      rw [hz]; simp
     have e8 := hA.at_ (j := 8) (t := 155) rfl rfl (hS.get (hdep ⟨8, Ground.data⟩ (by simp) rfl) (c := .agg #[.bool tt.come, .bool tt.seen, .int .i64 hN, .int .i64 tt.frm, .int .i64 tt.slot, .bool tt.given]) rfl) (Nat.le_of_ble_eq_true rfl)
     have b8 : bb.tmps[155]?.getD undef = .agg #[.bool tt.come, .bool tt.seen, .int .i64 hN, .int .i64 tt.frm, .int .i64 tt.slot, .bool tt.given] := by simpa [Act.eval, Array.getD_eq_getD_getElem?] using e8
     have g8 : u 8 ≠ none := by
      obtain ⟨z, hz⟩ := hdep ⟨8, Ground.data⟩ (by simp) rfl
      rw [hz]; simp
     have g6 := hS.cl 7 g7 6 (by decide)
     have g3 := hS.cl 6 g6 3 (by decide)
     have g5 := hS.cl 6 g6 5 (by decide)
     have g2 := hS.cl 3 g3 2 (by decide)
     have g4 := hS.cl 5 g5 4 (by decide)
     have hI := hS.pre hnu
     refine ⟨rfl, .inr (.inr ⟨58, #[.agg #[.int .i64 pg.params, .int .i64 pg.slots, .int .i64 pg.caps, .bool pg.res, .slice ca pg.code.length cc], .slice av S.length cv, .int .i64 tg, .agg #[.bool tt.come, .bool tt.seen, .int .i64 hN, .int .i64 tt.frm, .int .i64 tt.slot, .bool tt.given]], ?_, ?_⟩)⟩
     ·simp only [execOp]
      go_simp
     ·refine Calls.mono (HCALL.out wz hI) ?_
      rintro e z ⟨rfl, hJ⟩
      refine ⟨_, rfl, hS.call rfl (fun e he => ?_) hJ⟩
      have he2 : e = 0 ∨ e = 1 ∨ e = 2 ∨ e = 3 ∨ e = 4 ∨ e = 5 ∨ e = 6 ∨ e = 7 ∨ e = 8 := by simpa [jZ] using he
      rcases he2 with rfl | rfl | rfl | rfl | rfl | rfl | rfl | rfl | rfl <;> assumption
    ·simp only [List.getElem?_cons_succ, List.getElem?_cons_zero, Option.some.injEq] at ho
     subst ho
     have e9 := hA.at_ (j := 9) (t := 156) rfl rfl (hS.get (hdep ⟨9, Ground.data⟩ (by simp) rfl) (c := .bool bv) rfl) (Nat.le_of_ble_eq_true rfl)
     refine ⟨rfl, .inl ⟨.bool (!bv), wz, ?_, hS.pure (by decide) rfl (fun e he => by
      obtain rfl : e = 9 := by simpa [jZ] using he
      obtain ⟨z, hz⟩ := hdep ⟨9, Ground.data⟩ (by simp) rfl
      rw [hz]; simp)⟩⟩
     simp only [execOp, e9]
     go_simp
     try rfl
    ·simp at ho
   case fin =>
    intro u vs wz hvl hvs hS
    match vs, hvl with
    | [x0, x1, x2, x3, x4, x5, x6, x7, x8, x9, x10], _ =>
     have f0 : x0 = .agg #[.int .i64 pg.params, .int .i64 pg.slots, .int .i64 pg.caps, .bool pg.res, .slice ca pg.code.length cc] := hS.pur 0 x0 (hvs 0 (Nat.le_of_ble_eq_true rfl)) _ rfl
     have f1 : x1 = .slice av S.length cv := hS.pur 1 x1 (hvs 1 (Nat.le_of_ble_eq_true rfl)) _ rfl
     have f2 : x2 = .pointer (some ⟨ib, 3, none⟩) := hS.pur 2 x2 (hvs 2 (Nat.le_of_ble_eq_true rfl)) _ rfl
     have f3 : x3 = .slice (some ⟨lb, lo, none⟩) x.list.length kc := hS.pur 3 x3 (hvs 3 (Nat.le_of_ble_eq_true rfl)) _ rfl
     have f4 : x4 = .int .i64 (2 * (j : Int)) := hS.pur 4 x4 (hvs 4 (Nat.le_of_ble_eq_true rfl)) _ rfl
     have f5 : x5 = .int .i64 (2 * (j : Int) + 1) := hS.pur 5 x5 (hvs 5 (Nat.le_of_ble_eq_true rfl)) _ rfl
     have f6 : x6 = .pointer (some ⟨lb, lo + (2 * j + 1), none⟩) := hS.pur 6 x6 (hvs 6 (Nat.le_of_ble_eq_true rfl)) _ rfl
     have f7 : x7 = .int .i64 tg := hS.pur 7 x7 (hvs 7 (Nat.le_of_ble_eq_true rfl)) _ rfl
     have f8 : x8 = .agg #[.bool tt.come, .bool tt.seen, .int .i64 hN, .int .i64 tt.frm, .int .i64 tt.slot, .bool tt.given] := hS.pur 8 x8 (hvs 8 (Nat.le_of_ble_eq_true rfl)) _ rfl
     have f9 : x9 = .bool bv := hS.pur 9 x9 (hvs 9 (Nat.le_of_ble_eq_true rfl)) _ rfl
     have f10 : x10 = .bool (!bv) := hS.pur 10 x10 (hvs 10 (Nat.le_of_ble_eq_true rfl)) _ rfl
     have hJ := hS.post (by rw [hvs 9 (Nat.le_of_ble_eq_true rfl)]; simp)
     subst f0
     subst f1
     subst f2
     subst f3
     subst f4
     subst f5
     subst f6
     subst f7
     subst f8
     subst f9
     subst f10
     refine ⟨_, dG 147 11 (by decide +kernel) (by rfl) (by exact Nat.le_of_ble_eq_true rfl) (by exact Nat.le_of_ble_eq_true rfl) (by simp only [List.drop_succ_cons, List.drop_zero, List.drop_nil, List.take_succ_cons, List.take_zero, List.cons_append, List.nil_append, aH, Act.put, List.setIfInBounds_toArray, List.set_cons_zero, List.set_cons_succ]; rfl), ?_⟩
     have HJ : Bx _ := ⟨hJ⟩
     clear hJ hS hvs HCALL HI5 p0 p1 p2 p3 p4 p5 i0 i1 i2 i3 i4 z0 z1 z2 z3 z4 z5 z6 hW5 hfz hw2 l0 hL1
     cases bv with
     | true =>
      have HC4 : Bx _ := ⟨HC3.out.1 rfl⟩
      have HC5 : Bx _ := ⟨HC3.out.2.2⟩
      clear HC3
      obtain ⟨S2, r1, r2, r3, r4, r5, r6⟩ := HJ.out
      have HFN : Bx _ := ⟨And.intro r1 (And.intro r2 (And.intro r3 (And.intro r4 (And.intro r5 r6))))⟩
      clear r1 r2 r3 r4 r5 r6 HJ
      have hw3 : IntKind.i64.wrap (2 * (j : Int) + 2) = 2 * (j : Int) + 2 := by rw [IntKind.wrap_i64]; omega
      go_wp2
      go_roundg (x.list.length + 1 - 2 * (j + 1))
      case measure => omega
      case rel => exact ⟨j + 1, S2, _, _, hN, rfl, by omega, by simp; omega, ⟨HC4.out, HC5.out⟩, HFN⟩
     | false =>
      have := HC3.out.2.1 rfl
      cases this
      clear HC3
      go_wp2
      go_ret
      obtain ⟨S2, r1, r2, r3, _⟩ := HJ.out
      first | exact ⟨rfl, ⟨S2, r2, r1.gr, r3⟩⟩ | exact ⟨rfl, ⟨S2, r2, r1.gr, r3, fun e => (by cases e)⟩⟩
  ·have hcI : decide ((2 * (j : Int) + 1) < (x.list.length : Int)) = false := decide_eq_false (by omega)
   have HTE : Bx ((true, K1, D1) = (tb0, tK, tD)) := ⟨by have := HC.out.1; rw [List.drop_eq_nil_of_le (by omega)] at this; exact this⟩
   have HF : Bx (StO wr B' (Value.slice av S.length cv) S1 /\ w.grownBy wr (Value.slice av S.length cv).ownBlock /\ S1.length = S.length /\ Rel pg.code.length L sl pg.params S1 ⟨P, K1, D1⟩) := ⟨HR.out.2.1, HR.out.1.gr, HR.out.2.2.1, HR.out.2.2.2.1⟩
   clear HC HR HMT HTG HLI
   have := HTE.out
   cases this
   go_wp2
   go_ret
   first | exact ⟨rfl, ⟨S1, HF.out.1, HF.out.2.1, HF.out.2.2.1, HF.out.2.2.2⟩⟩ | exact ⟨rfl, ⟨S1, HF.out.1, HF.out.2.1, HF.out.2.2.1, fun _ => HF.out.2.2.2⟩⟩
theorem uW (w : World) (B : Nat) (hB : B <= w.heap.size) (pg : CPg) (ca : Option Addr) (cc : Nat) (hc : Row (cu w B) B 4 ca cc pg.code) (hcl : pg.code.length <= 268435456) (v : Value) (B' : Nat) (hB' : B' <= w.heap.size) (hBB : B <= B') (S : List RSt) (h : StO w B' v S) {L sl : Nat} {s : Wst} (hR : Rel pg.code.length L sl pg.params S s) (hsl : pg.slots = (sl : Int)) (hsl2 : sl <= 65536) (hL : sl <= 2 ^ (6 + L)) (i : Nat) (hi : i < pg.code.length) (hz : (kA s.K i).1 ≠ 0) (hb : (kA s.K i).1 < 4611686018427387904) (hw : (inA pg.code i).Wf) (hll : (inA pg.code i).list.length <= 281474976710656) (hlk : LkX pg.code.length sl i (inA pg.code i)) (h27 : (inA pg.code i).op = 27 -> bC (inA pg.code i).list = true) :
  Calls Tryd.prog 38 #[.agg (pgC pg ca cc), v, .int .i64 (i : Nat)] w fun e w' => e = .returned (.int .i64 (bY pg.code.length pg.res L i (inA pg.code i) (kA s.K i) s).1) /\ Bx (∃ S', StO w' B' v S' /\ w.grownBy w' v.ownBlock /\ S'.length = S.length /\ ((bY pg.code.length pg.res L i (inA pg.code i) (kA s.K i) s).1 = 0 -> Rel pg.code.length L sl pg.params S' (bY pg.code.length pg.res L i (inA pg.code i) (kA s.K i) s).2)) := by
 have hS : S.length = pg.code.length := hR.len
 have hiS : i < S.length := by omega
 obtain ⟨x, hx⟩ : ∃ x, inA pg.code i = x := ⟨_, rfl⟩
 have hx' : pg.code[i]'(by omega) = x := by rw [← hx]; unfold inA; rw [List.getElem?_eq_getElem hi]; rfl
 rw [hx] at hw hll hlk h27 ⊢
 have hhi : S[i].height = ((kA s.K i).1 : Int) - 1 := by
  have := hR.high i hi hz
  rw [dD hiS] at this
  exact this
 have hpp := hlk.push
 have hpo := hlk.pop
 have old : ∀ w', Below w.heap.size w w' -> StO w' B' v S /\ w.grownBy w' v.ownBlock /\ S.length = S.length := fun w' hb => ⟨aZ h hb, dP hb, rfl⟩
 unfold bY
 by_cases hl : ((kA s.K i).1 : Int) - 1 < ax x
 ·simp only [if_pos hl]
  refine (yn w B hB pg ca cc hc hcl v B' hB' S h hS i hiS x hx' hw hll (by omega)).mono ?_
  rintro e w' ⟨rfl, hb2⟩
  exact ⟨rfl, ⟨S, (old w' hb2.out).1, (old w' hb2.out).2.1, rfl, fun e => absurd e (by decide)⟩⟩
 simp only [if_neg hl]
 have hpop : ¬ S[i].height < ax x := by omega
 by_cases h25 : x.op = 25
 ·simp only [if_pos h25]
  refine (yo w B hB pg ca cc hc hcl v B' hB' S h hS i hiS x hx' hw hll hpop h25).mono ?_
  rintro e w' ⟨rfl, hb2⟩
  rw [hhi]
  exact ⟨rfl, ⟨S, (old w' hb2.out).1, (old w' hb2.out).2.1, rfl, fun _ => hR⟩⟩
 simp only [if_neg h25]
 have hnd : iB x.op = true -> x.op = 4 ∨ x.op = 6 ∨ x.op = 16 := fun e => by unfold iB at e; simp at e; omega
 have hma : x.op = 4 ∨ x.op = 6 ∨ x.op = 16 -> ∃ m : Nat, x.a = (m : Int) /\ m < sl := fun e => by
  have := hlk.a (by omega)
  exact ⟨x.a.toNat, by omega, by omega⟩
 by_cases h93 : iB x.op = true /\ den L s.P (kA s.K i).2 x.a.toNat = false
 ·simp only [if_pos h93]
  have hop := hnd h93.1
  obtain ⟨m, hm1, hm2⟩ := hma hop
  obtain ⟨d, hd⟩ := hR.hv i hi hz m hm2
  have : den L s.P (kA s.K i).2 m = false := by have := h93.2; rw [hm1] at this; simpa using this
  rw [this] at hd
  refine (yt w B hB pg ca cc hc hcl v B' hB' S h hS i hiS x hx' hw hll hpop hop ⟨m, d, hm1, hd⟩).mono ?_
  rintro e w' ⟨rfl, hb2⟩
  exact ⟨rfl, ⟨S, (old w' hb2.out).1, (old w' hb2.out).2.1, rfl, fun e => absurd e (by decide)⟩⟩
 simp only [if_neg h93]
 have hneed : (∃ (m : Nat) (d : Nat), x.a = (m : Int) /\ Hv pg.params S m d (i : Nat) true) ∨ (x.op ≠ 4 /\ x.op ≠ 6 /\ x.op ≠ 16) := by
  by_cases e : x.op = 4 ∨ x.op = 6 ∨ x.op = 16
  ·obtain ⟨m, hm1, hm2⟩ := hma e
   obtain ⟨d, hd⟩ := hR.hv i hi hz m hm2
   have hdt : den L s.P (kA s.K i).2 m = true := by
    cases hq : den L s.P (kA s.K i).2 m with
    | true => rfl
    | false => exact absurd ⟨by unfold iB; simp; omega, by rw [hm1]; simpa using hq⟩ h93
   rw [hdt] at hd
   exact .inl ⟨m, d, hm1, hd⟩
  ·exact .inr (by omega)
 have h1 : IntKind.i64.wrap (S[i].height - ax x) = S[i].height - ax x := by rw [IntKind.wrap_i64]; omega
 have h2 : IntKind.i64.wrap (S[i].height - ax x + au x) = S[i].height - ax x + au x := by rw [IntKind.wrap_i64]; omega
 by_cases h96 : oL x.op = true /\ i + 1 = pg.code.length
 ·simp only [if_pos h96]
  have hbh : x.op ≠ 19 /\ x.op ≠ 21 /\ x.op ≠ 27 := by have := h96.1; unfold oL at this; simp at this; omega
  have fin : ∀ e w', e = Ending.returned (Value.int .i64 96) /\ Bx (Below w.heap.size w w') -> e = Ending.returned (Value.int .i64 96) /\ Bx (∃ S', StO w' B' v S' /\ w.grownBy w' v.ownBlock /\ S'.length = S.length /\ ((96 : Int) = 0 -> Rel pg.code.length L sl pg.params S' s)) := by
   rintro e w' ⟨rfl, hb2⟩
   exact ⟨rfl, ⟨S, (old w' hb2.out).1, (old w' hb2.out).2.1, rfl, fun e => absurd e (by decide)⟩⟩
  by_cases o5 : x.op = 5
  ·exact (uQ w B hB pg ca cc hc hcl v B' hB' hBB S h hS i hiS x hx' hw hll hpop h25 hneed h1 h2 o5 h96.2).mono fin
  ·by_cases o6 : x.op = 6
   ·exact (uR w B hB pg ca cc hc hcl v B' hB' hBB S h hS i hiS x hx' hw hll hpop h25 hneed h1 h2 o6 h96.2).mono fin
   ·exact (uS w B hB pg ca cc hc hcl v B' hB' hBB S h hS i hiS x hx' hw hll hpop h25 hneed h1 h2 (by omega) h96.2).mono fin
 simp only [if_neg h96]
 obtain ⟨G1, G2, G3⟩ := hR.goes hL hi hz hlk hl
 have htg := hlk.tY hi h96
 unfold goP
 have fin : ∀ (nx : List (Nat × Wy)), aQ i x (abN x (kA s.K i), (past L s.P (kA s.K i).2 x.op x.a).2) = nx -> ∀ e w', e = Ending.returned (Value.int .i64 (if (aC nx s.K s.D).1 = true then 0 else 95)) /\ Bx (∃ S', StO w' B' v S' /\ w.grownBy w' v.ownBlock /\ S'.length = S.length /\ ((aC nx s.K s.D).1 = true -> Rel pg.code.length L sl pg.params S' ⟨(past L s.P (kA s.K i).2 x.op x.a).1, (aC nx s.K s.D).2.1, (aC nx s.K s.D).2.2⟩)) ->
   e = Ending.returned (Value.int .i64 (if (aC (aQ i x (abN x (kA s.K i), (past L s.P (kA s.K i).2 x.op x.a).2)) s.K s.D).1 = true then 0 else 95)) /\ Bx (∃ S', StO w' B' v S' /\ w.grownBy w' v.ownBlock /\ S'.length = S.length /\ ((if (aC (aQ i x (abN x (kA s.K i), (past L s.P (kA s.K i).2 x.op x.a).2)) s.K s.D).1 = true then (0 : Int) else 95) = 0 -> Rel pg.code.length L sl pg.params S' ⟨(past L s.P (kA s.K i).2 x.op x.a).1, (aC (aQ i x (abN x (kA s.K i), (past L s.P (kA s.K i).2 x.op x.a).2)) s.K s.D).2.1, (aC (aQ i x (abN x (kA s.K i), (past L s.P (kA s.K i).2 x.op x.a).2)) s.K s.D).2.2⟩)) := by
  rintro nx hnx e w' ⟨rfl, hq⟩
  rw [hnx]
  obtain ⟨S', q1, q2, q3, q4⟩ := hq.out
  refine ⟨rfl, ⟨S', q1, q2, q3, fun e => q4 ?_⟩⟩
  cases hcc : (aC nx s.K s.D).1 with
  | true => rfl
  | false => rw [hcc] at e; exact absurd e (by decide)
 by_cases o5 : x.op = 5
 ·exact (uT w B hB pg ca cc hc hcl v B' hB' hBB S h hS i hiS x hx' hw hll hpop h25 hneed h1 h2 G1 hsl hsl2 hL G2 o5 (htg.on (by omega) (by omega) (by omega) (by omega))).mono (fin _ (by unfold aQ; rw [if_neg h25, if_neg (by omega), if_neg (by omega), if_neg (by omega)]))
 by_cases o6 : x.op = 6
 ·exact (uU w B hB pg ca cc hc hcl v B' hB' hBB S h hS i hiS x hx' hw hll hpop h25 hneed h1 h2 G1 hsl hsl2 hL G2 o6 (htg.on (by omega) (by omega) (by omega) (by omega))).mono (fin _ (by unfold aQ; rw [if_neg h25, if_neg (by omega), if_neg (by omega), if_neg (by omega)]))
 by_cases o19 : x.op = 19
 ·exact (qW w B hB pg ca cc hc hcl v B' hB' hBB S h hS i hiS x hx' hw hll hpop h25 hneed h1 h2 G1 hsl hsl2 hL G2 o19 (htg.a (by omega))).mono (fin _ (by unfold aQ; rw [if_neg h25, if_pos (by omega)]))
 by_cases o21 : x.op = 21
 ·exact (qY w B hB pg ca cc hc hcl v B' hB' hBB S h hS i hiS x hx' hw hll hpop h25 hneed h1 h2 G1 hsl hsl2 hL G2 o21 (htg.a (by omega))).mono (fin _ (by unfold aQ; rw [if_neg h25, if_pos (by omega)]))
 by_cases o20 : x.op = 20
 ·exact (qZ w B hB pg ca cc hc hcl v B' hB' hBB S h hS i hiS x hx' hw hll hpop h25 hneed h1 h2 G1 hsl hsl2 hL G2 o20 (htg.on (by omega) (by omega) (by omega) (by omega)) (htg.a (by omega))).mono (fin _ (by unfold aQ; rw [if_neg h25, if_neg (by omega), if_pos o20]))
 by_cases o27 : x.op = 27
 ·exact (q8 w B hB pg ca cc hc hcl v B' hB' hBB S h hS i hiS x hx' hw hll hpop h25 hneed h1 h2 G1 hsl hsl2 hL G2 G3 o27 (h27 o27) (htg.arms o27).1 (htg.arms o27).2 (by rw [IntKind.wrap_i64]; omega)).mono (fin _ (by unfold aQ; rw [if_neg h25, if_neg (by omega), if_neg (by omega), if_pos o27]))
 ·exact (uV w B hB pg ca cc hc hcl v B' hB' hBB S h hS i hiS x hx' hw hll hpop h25 hneed h1 h2 G1 hsl hsl2 hL G2 (by omega) (htg.on (by omega) (by omega) (by omega) (by omega))).mono (fin _ (by unfold aQ; rw [if_neg h25, if_neg (by omega), if_neg (by omega), if_neg (by omega)]))
end Go.Proofs.YtadmpgegolmkgaaDoor
