import Derived.Test.YtadmpgegolmkgaaDoorBWyV
set_option linter.unusedVariables false
set_option linter.unusedSimpArgs false
set_option maxHeartbeats 4000000
set_option maxRecDepth 100000
namespace Go.Proofs.YtadmpgegolmkgaaDoor
open Go.RowKit
theorem uT (w : World) (B : Nat) (hB : B <= w.heap.size) (pg : CPg) (ca : Option Addr) (cc : Nat) (hc : Row (cu w B) B 4 ca cc pg.code) (hcl : pg.code.length <= 268435456) (v : Value) (B' : Nat) (hB' : B' <= w.heap.size) (hBB : B <= B') (S : List RSt) (h : StO w B' v S) (hS : S.length = pg.code.length) (i : Nat) (hi : i < S.length) (x : CIn) (hx : pg.code[i]'(by omega) = x) (hw : x.Wf) (hll : x.list.length <= 281474976710656) (hpop : ¬ S[i].height < ax x) (h25 : x.op ≠ 25) (hneed : (∃ (m : Nat) (d : Nat), x.a = (m : Int) /\ Hv pg.params S m d (i : Nat) true) ∨ (x.op ≠ 4 /\ x.op ≠ 6 /\ x.op ≠ 16)) (h1 : IntKind.i64.wrap (S[i].height - ax x) = S[i].height - ax x) (h2 : IntKind.i64.wrap (S[i].height - ax x + au x) = S[i].height - ax x + au x) {L sl : Nat} {P : Prs} {K : List Wy} {D : Nat -> Bool} (hR : Rel pg.code.length L sl pg.params S ⟨P, K, D⟩) (hsl : pg.slots = (sl : Int)) (hsl2 : sl <= 65536) (hL : sl <= 2 ^ (6 + L)) {p : Wy} (hT : di pg.code.length L sl pg.params S P (toS S i x) p) (hop : x.op = 5) (he : i + 1 < pg.code.length) : Calls Tryd.prog 38 #[.agg (pgC pg ca cc), v, .int .i64 (i : Nat)] w fun e w' => e = .returned (.int .i64 (if (aC [(i + 1, p)] K D).1 then 0 else 95)) /\ Bx (∃ S', StO w' B' v S' /\ w.grownBy w' v.ownBlock /\ S'.length = S.length /\ ((aC [(i + 1, p)] K D).1 = true -> Rel pg.code.length L sl pg.params S' ⟨P, (aC [(i + 1, p)] K D).2.1, (aC [(i + 1, p)] K D).2.2⟩)) := by
 have hgs : ∀ g, v.ownBlock = some g -> g < w.heap.size := fun g hg => (aD h hg).2
 have HGS : Bx _ := ⟨hgs⟩
 have htS : toS S i x = ⟨true, false, S[i].height - ax x + au x, i, if x.op = 5 ∨ x.op = 6 then x.a else -1, decide (x.op = 5)⟩ := by unfold toS; rw [dD hi]
 have heI : ((i : Int) + 1 == (S.length : Int)) = false := by simp; omega
 have hvs := aN h
 refine dH w B hB pg ca cc hc hcl v B' hB' S h hS i hi x hx hw hll hpop h25 hneed h1 h2 _ ?_
 intro ka kc hks r0 r1 r2 r3 r4 r5 c hbody X ib yb tb u14 u15 u16 u17 u18 u19 u20 u21 u22 u23 u24 u25 u26 u27 u28 u29 u30 u31 u32 u33 u34 u35 u36 u37 u38 u39 u40 u41 u42 u43 u44 u45 u46 u47 u48 u49 u50 u51 u52 u53 u54 u55 u56 u57 u58 u59 u60 u61 u62 u63 u64 u65 u66 u67 u68 hX
 unfold Tryd.f38 at hbody
 simp only [Option.some.injEq, Code.seq.injEq] at hbody
 obtain ⟨-, -, -, -, -, -, rfl⟩ := hbody
 have q0 : (stA (gW i (S[i].height - ax x + au x))).setIfInBounds 4 (.int .i64 x.a) = stA ⟨true, false, S[i].height - ax x + au x, i, x.a, false⟩ := rfl
 have q1 : (stA ⟨true, false, S[i].height - ax x + au x, i, x.a, false⟩).setIfInBounds 5 (.bool true) = stA (toS S i x) := by rw [htS, if_pos (.inl hop), decide_eq_true hop]; rfl
 obtain ⟨W5, hW5⟩ : ∃ W5, X.setCell ⟨tb, 4, none⟩ (.int .i64 x.a) = W5 := ⟨_, rfl⟩
 obtain ⟨WT, hWT⟩ : ∃ WT, W5.setCell ⟨tb, 5, none⟩ (.bool true) = WT := ⟨_, rfl⟩
 have hX5 := hX.nO 4 (.int .i64 x.a) _ q0
 rw [hW5] at hX5
 have hXT := hX5.nO 5 (.bool true) _ q1
 rw [hWT] at hXT
 have c5 := hX5.cells.2.2.2.2.2.2.2.1
 have f5 : W5.frozen? ⟨tb, 5, none⟩ = false := aL hX5.bt
 have l5 : tb < W5.heap.size := ah hX5.bt
 have f4 : X.frozen? ⟨tb, 4, none⟩ = false := aL hX.bt
 have b5 : (x.op == 5) = true := by simpa using hop
 obtain ⟨tt, htt⟩ : ∃ tt, toS S i x = tt := ⟨_, rfl⟩
 rw [htt] at hXT hT
 rw [htt] at q1
 have HM1 : Bx (∀ Y, Below w.heap.size w Y -> Calls Tryd.prog 58 #[.agg #[.int .i64 pg.params, .int .i64 pg.slots, .int .i64 pg.caps, .bool pg.res, .slice ca pg.code.length cc], v, .int .i64 ((i : Int) + 1), .agg #[.bool tt.come, .bool tt.seen, .int .i64 tt.height, .int .i64 tt.frm, .int .i64 tt.slot, .bool tt.given]] Y fun e w' => e = .returned (.bool (bI K (i + 1) p)) /\ Bx (∃ S', StO w' B' v S' /\ Y.grownBy w' v.ownBlock /\ Rel pg.code.length L sl pg.params S' ⟨P, aI K (i + 1) p, aP K (i + 1) D⟩ /\ S'.length = S.length /\ ∀ t' p', di pg.code.length L sl pg.params S P t' p' -> di pg.code.length L sl pg.params S' P t' p')) := ⟨fun Y hY => by
  have := fw Y B' (Nat.le_trans hB' hY.size) pg ca cc v S (aZ h hY) (by omega) hR hsl hsl2 hL hT (i + 1) (by omega)
  rw [show (((i + 1 : Nat)) : Int) = (i : Int) + 1 by omega] at this
  exact this⟩
 have n19 : (x.op != 19) = true := by simp; omega
 have n21 : (x.op != 21) = true := by simp; omega
 have n27 : (x.op != 27) = true := by simp; omega
 have b19 : (x.op == 19) = false := by simp; omega
 have b20 : (x.op == 20) = false := by simp; omega
 have b21 : (x.op == 21) = false := by simp; omega
 have b27 : (x.op == 27) = false := by simp; omega
 obtain ⟨⟨p0, p1, p2, p3, p4, p5⟩, ⟨i0, i1, i2, i3, i4⟩, ⟨z0, z1, z2, z3, z4, z5, z6⟩⟩ := hX.cells
 obtain ⟨⟨p0', p1', p2', p3', p4', p5'⟩, ⟨i0', i1', i2', i3', i4'⟩, ⟨z0', z1', z2', z3', z4', z5', z6'⟩⟩ := hXT.cells
 have HXT : Bx _ := ⟨hXT⟩
 have hiw : IntKind.i64.wrap ((i : Int) + 1) = (i : Int) + 1 := by rw [IntKind.wrap_i64]; omega
 rw [eG]
 generalize bI K (i + 1) p = b at *
 generalize aI K (i + 1) p = K2 at *
 generalize aP K (i + 1) D = D2 at *
 obtain ⟨av, cv, rfl⟩ := hvs
 have HRM : Bx _ := ⟨HM1.out _ hXT.bel⟩
 clear HM1 h hx hS h1 h2 hks hc hpop h25 hneed hop htS hgs q0 hR hT htt hX hXT hsl q1 hX5
 have HG2 : Bx (∀ Y, w.grownBy Y (Value.slice av S.length cv).ownBlock -> True) := ⟨fun _ _ => trivial⟩
 have HRG : Bx (∀ Y, WT.grownBy Y (Value.slice av S.length cv).ownBlock -> RLG w Y pg ca cc x ka kc tt ib tb (Value.slice av S.length cv).ownBlock) := ⟨fun Y hY => (HXT.out.gr _).step hY HGS.out⟩
 cases b with
 | true =>
  go_wp2_with (first
   | (go_at_call 58; refine HRM.out.mono ?_; rintro e w2 ⟨rfl, HS2⟩; obtain ⟨⟨d0, d1, d2, d3, d4, d5⟩, ⟨e0, e1, e2, e3, e4⟩, _⟩ := (HRG.out w2 (by obtain ⟨_, _, k, _⟩ := HS2.out; exact k)).cells)
   | fail)
  go_ret
  obtain ⟨S', s1, s2, s3, s4, _⟩ := HS2.out
  first | exact ⟨rfl, ⟨S', s1, az (HXT.out.gr _).gr s2, s4, fun _ => s3⟩⟩ | exact ⟨rfl, ⟨S', s1, az (HXT.out.gr _).gr s2, s4, s3⟩⟩ | exact ⟨rfl, ⟨S', s1, az (HXT.out.gr _).gr s2, s4, fun e => (by cases e)⟩⟩ | exact ⟨rfl, ⟨S', s1, az (HXT.out.gr _).gr s2, s4⟩⟩
 | false =>
  go_wp2_with (first
   | (go_at_call 58; refine HRM.out.mono ?_; rintro e w2 ⟨rfl, HS2⟩; obtain ⟨⟨d0, d1, d2, d3, d4, d5⟩, ⟨e0, e1, e2, e3, e4⟩, _⟩ := (HRG.out w2 (by obtain ⟨_, _, k, _⟩ := HS2.out; exact k)).cells)
   | fail)
  go_ret
  obtain ⟨S', s1, s2, s3, s4, _⟩ := HS2.out
  first | exact ⟨rfl, ⟨S', s1, az (HXT.out.gr _).gr s2, s4, fun _ => s3⟩⟩ | exact ⟨rfl, ⟨S', s1, az (HXT.out.gr _).gr s2, s4, s3⟩⟩ | exact ⟨rfl, ⟨S', s1, az (HXT.out.gr _).gr s2, s4, fun e => (by cases e)⟩⟩ | exact ⟨rfl, ⟨S', s1, az (HXT.out.gr _).gr s2, s4⟩⟩
theorem uU (w : World) (B : Nat) (hB : B <= w.heap.size) (pg : CPg) (ca : Option Addr) (cc : Nat) (hc : Row (cu w B) B 4 ca cc pg.code) (hcl : pg.code.length <= 268435456) (v : Value) (B' : Nat) (hB' : B' <= w.heap.size) (hBB : B <= B') (S : List RSt) (h : StO w B' v S) (hS : S.length = pg.code.length) (i : Nat) (hi : i < S.length) (x : CIn) (hx : pg.code[i]'(by omega) = x) (hw : x.Wf) (hll : x.list.length <= 281474976710656) (hpop : ¬ S[i].height < ax x) (h25 : x.op ≠ 25) (hneed : (∃ (m : Nat) (d : Nat), x.a = (m : Int) /\ Hv pg.params S m d (i : Nat) true) ∨ (x.op ≠ 4 /\ x.op ≠ 6 /\ x.op ≠ 16)) (h1 : IntKind.i64.wrap (S[i].height - ax x) = S[i].height - ax x) (h2 : IntKind.i64.wrap (S[i].height - ax x + au x) = S[i].height - ax x + au x) {L sl : Nat} {P : Prs} {K : List Wy} {D : Nat -> Bool} (hR : Rel pg.code.length L sl pg.params S ⟨P, K, D⟩) (hsl : pg.slots = (sl : Int)) (hsl2 : sl <= 65536) (hL : sl <= 2 ^ (6 + L)) {p : Wy} (hT : di pg.code.length L sl pg.params S P (toS S i x) p) (hop : x.op = 6) (he : i + 1 < pg.code.length) : Calls Tryd.prog 38 #[.agg (pgC pg ca cc), v, .int .i64 (i : Nat)] w fun e w' => e = .returned (.int .i64 (if (aC [(i + 1, p)] K D).1 then 0 else 95)) /\ Bx (∃ S', StO w' B' v S' /\ w.grownBy w' v.ownBlock /\ S'.length = S.length /\ ((aC [(i + 1, p)] K D).1 = true -> Rel pg.code.length L sl pg.params S' ⟨P, (aC [(i + 1, p)] K D).2.1, (aC [(i + 1, p)] K D).2.2⟩)) := by
 have hgs : ∀ g, v.ownBlock = some g -> g < w.heap.size := fun g hg => (aD h hg).2
 have HGS : Bx _ := ⟨hgs⟩
 have htS : toS S i x = ⟨true, false, S[i].height - ax x + au x, i, if x.op = 5 ∨ x.op = 6 then x.a else -1, decide (x.op = 5)⟩ := by unfold toS; rw [dD hi]
 have heI : ((i : Int) + 1 == (S.length : Int)) = false := by simp; omega
 have hvs := aN h
 refine dH w B hB pg ca cc hc hcl v B' hB' S h hS i hi x hx hw hll hpop h25 hneed h1 h2 _ ?_
 intro ka kc hks r0 r1 r2 r3 r4 r5 c hbody X ib yb tb u14 u15 u16 u17 u18 u19 u20 u21 u22 u23 u24 u25 u26 u27 u28 u29 u30 u31 u32 u33 u34 u35 u36 u37 u38 u39 u40 u41 u42 u43 u44 u45 u46 u47 u48 u49 u50 u51 u52 u53 u54 u55 u56 u57 u58 u59 u60 u61 u62 u63 u64 u65 u66 u67 u68 hX
 unfold Tryd.f38 at hbody
 simp only [Option.some.injEq, Code.seq.injEq] at hbody
 obtain ⟨-, -, -, -, -, -, rfl⟩ := hbody
 have q0 : (stA (gW i (S[i].height - ax x + au x))).setIfInBounds 4 (.int .i64 x.a) = stA (toS S i x) := by rw [htS, if_pos (.inr hop), decide_eq_false (by omega)]; rfl
 obtain ⟨WT, hWT⟩ : ∃ WT, X.setCell ⟨tb, 4, none⟩ (.int .i64 x.a) = WT := ⟨_, rfl⟩
 have hXT := hX.nO 4 (.int .i64 x.a) _ q0
 rw [hWT] at hXT
 have f4 : X.frozen? ⟨tb, 4, none⟩ = false := aL hX.bt
 have b5 : (x.op == 5) = false := by simp; omega
 have b6 : (x.op == 6) = true := by simpa using hop
 obtain ⟨tt, htt⟩ : ∃ tt, toS S i x = tt := ⟨_, rfl⟩
 rw [htt] at hXT hT
 rw [htt] at q0
 have HM1 : Bx (∀ Y, Below w.heap.size w Y -> Calls Tryd.prog 58 #[.agg #[.int .i64 pg.params, .int .i64 pg.slots, .int .i64 pg.caps, .bool pg.res, .slice ca pg.code.length cc], v, .int .i64 ((i : Int) + 1), .agg #[.bool tt.come, .bool tt.seen, .int .i64 tt.height, .int .i64 tt.frm, .int .i64 tt.slot, .bool tt.given]] Y fun e w' => e = .returned (.bool (bI K (i + 1) p)) /\ Bx (∃ S', StO w' B' v S' /\ Y.grownBy w' v.ownBlock /\ Rel pg.code.length L sl pg.params S' ⟨P, aI K (i + 1) p, aP K (i + 1) D⟩ /\ S'.length = S.length /\ ∀ t' p', di pg.code.length L sl pg.params S P t' p' -> di pg.code.length L sl pg.params S' P t' p')) := ⟨fun Y hY => by
  have := fw Y B' (Nat.le_trans hB' hY.size) pg ca cc v S (aZ h hY) (by omega) hR hsl hsl2 hL hT (i + 1) (by omega)
  rw [show (((i + 1 : Nat)) : Int) = (i : Int) + 1 by omega] at this
  exact this⟩
 have n19 : (x.op != 19) = true := by simp; omega
 have n21 : (x.op != 21) = true := by simp; omega
 have n27 : (x.op != 27) = true := by simp; omega
 have b19 : (x.op == 19) = false := by simp; omega
 have b20 : (x.op == 20) = false := by simp; omega
 have b21 : (x.op == 21) = false := by simp; omega
 have b27 : (x.op == 27) = false := by simp; omega
 obtain ⟨⟨p0, p1, p2, p3, p4, p5⟩, ⟨i0, i1, i2, i3, i4⟩, ⟨z0, z1, z2, z3, z4, z5, z6⟩⟩ := hX.cells
 obtain ⟨⟨p0', p1', p2', p3', p4', p5'⟩, ⟨i0', i1', i2', i3', i4'⟩, ⟨z0', z1', z2', z3', z4', z5', z6'⟩⟩ := hXT.cells
 have HXT : Bx _ := ⟨hXT⟩
 have hiw : IntKind.i64.wrap ((i : Int) + 1) = (i : Int) + 1 := by rw [IntKind.wrap_i64]; omega
 rw [eG]
 generalize bI K (i + 1) p = b at *
 generalize aI K (i + 1) p = K2 at *
 generalize aP K (i + 1) D = D2 at *
 obtain ⟨av, cv, rfl⟩ := hvs
 have HRM : Bx _ := ⟨HM1.out _ hXT.bel⟩
 clear HM1 h hx hS h1 h2 hks hc hpop h25 hneed hop htS hgs q0 hR hT htt hX hXT hsl
 have HG2 : Bx (∀ Y, w.grownBy Y (Value.slice av S.length cv).ownBlock -> True) := ⟨fun _ _ => trivial⟩
 have HRG : Bx (∀ Y, WT.grownBy Y (Value.slice av S.length cv).ownBlock -> RLG w Y pg ca cc x ka kc tt ib tb (Value.slice av S.length cv).ownBlock) := ⟨fun Y hY => (HXT.out.gr _).step hY HGS.out⟩
 cases b with
 | true =>
  go_wp2_with (first
   | (go_at_call 58; refine HRM.out.mono ?_; rintro e w2 ⟨rfl, HS2⟩; obtain ⟨⟨d0, d1, d2, d3, d4, d5⟩, ⟨e0, e1, e2, e3, e4⟩, _⟩ := (HRG.out w2 (by obtain ⟨_, _, k, _⟩ := HS2.out; exact k)).cells)
   | fail)
  go_ret
  obtain ⟨S', s1, s2, s3, s4, _⟩ := HS2.out
  first | exact ⟨rfl, ⟨S', s1, az (HXT.out.gr _).gr s2, s4, fun _ => s3⟩⟩ | exact ⟨rfl, ⟨S', s1, az (HXT.out.gr _).gr s2, s4, s3⟩⟩ | exact ⟨rfl, ⟨S', s1, az (HXT.out.gr _).gr s2, s4, fun e => (by cases e)⟩⟩ | exact ⟨rfl, ⟨S', s1, az (HXT.out.gr _).gr s2, s4⟩⟩
 | false =>
  go_wp2_with (first
   | (go_at_call 58; refine HRM.out.mono ?_; rintro e w2 ⟨rfl, HS2⟩; obtain ⟨⟨d0, d1, d2, d3, d4, d5⟩, ⟨e0, e1, e2, e3, e4⟩, _⟩ := (HRG.out w2 (by obtain ⟨_, _, k, _⟩ := HS2.out; exact k)).cells)
   | fail)
  go_ret
  obtain ⟨S', s1, s2, s3, s4, _⟩ := HS2.out
  first | exact ⟨rfl, ⟨S', s1, az (HXT.out.gr _).gr s2, s4, fun _ => s3⟩⟩ | exact ⟨rfl, ⟨S', s1, az (HXT.out.gr _).gr s2, s4, s3⟩⟩ | exact ⟨rfl, ⟨S', s1, az (HXT.out.gr _).gr s2, s4, fun e => (by cases e)⟩⟩ | exact ⟨rfl, ⟨S', s1, az (HXT.out.gr _).gr s2, s4⟩⟩
end Go.Proofs.YtadmpgegolmkgaaDoor
