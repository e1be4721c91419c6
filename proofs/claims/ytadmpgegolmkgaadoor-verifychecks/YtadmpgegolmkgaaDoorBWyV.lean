import Derived.Test.YtadmpgegolmkgaaDoorBWyT
set_option linter.unusedVariables false
set_option linter.unusedSimpArgs false
set_option maxHeartbeats 4000000
set_option maxRecDepth 100000
namespace Go.Proofs.YtadmpgegolmkgaaDoor
open Go.RowKit
theorem dH (w : World) (B : Nat) (hB : B <= w.heap.size) (pg : CPg) (ca : Option Addr) (cc : Nat) (hc : Row (cu w B) B 4 ca cc pg.code) (hcl : pg.code.length <= 268435456) (v : Value) (B' : Nat) (hB' : B' <= w.heap.size) (S : List RSt) (h : StO w B' v S) (hS : S.length = pg.code.length) (i : Nat) (hi : i < S.length) (x : CIn) (hx : pg.code[i]'(by omega) = x) (hw : x.Wf) (hll : x.list.length <= 281474976710656) (hpop : ¬ S[i].height < ax x) (h25 : x.op ≠ 25) (hneed : (∃ (m : Nat) (d : Nat), x.a = (m : Int) /\ Hv pg.params S m d (i : Nat) true) ∨ (x.op ≠ 4 /\ x.op ≠ 6 /\ x.op ≠ 16)) (h1 : IntKind.i64.wrap (S[i].height - ax x) = S[i].height - ax x) (h2 : IntKind.i64.wrap (S[i].height - ax x + au x) = S[i].height - ax x + au x) (Q : Ending -> World -> Prop) (H : ∀ ka kc, aF w B ka kc x.list -> ∀ r0 r1 r2 r3 r4 r5 c, Tryd.f38.body = some (.seq r0 (.seq r1 (.seq r2 (.seq r3 (.seq r4 (.seq r5 c)))))) -> ∀ (X : World) (ib yb tb : Nat) (u14 u15 u16 u17 u18 u19 u20 u21 u22 u23 u24 u25 u26 u27 u28 u29 u30 u31 u32 u33 u34 u35 u36 u37 u38 u39 u40 u41 u42 u43 u44 u45 u46 u47 u48 u49 u50 u51 u52 u53 u54 u55 u56 u57 u58 u59 u60 u61 u62 u63 u64 u65 u66 u67 u68 : Value), RLD w X pg ca cc x ka kc (gW i (S[i].height - ax x + au x)) ib tb -> Code.wp Tryd.prog c (bodyPost Tryd.prog Tryd.f38 Q) { tmps := #[.agg (pgC pg ca cc), v, .int .i64 (i : Nat), .pointer (some ⟨w.heap.size, 0, none⟩), undef, undef, .int .i64 0, .pointer (some ⟨ib, 0, none⟩), .pointer (some ⟨yb, 0, none⟩), undef, .pointer (some ⟨tb, 0, none⟩), undef, undef, undef, u14, u15, u16, u17, u18, u19, u20, u21, u22, u23, u24, u25, u26, u27, u28, u29, u30, u31, u32, u33, u34, u35, u36, u37, u38, u39, u40, u41, u42, u43, u44, u45, u46, u47, u48, u49, u50, u51, u52, u53, u54, u55, u56, u57, u58, u59, u60, u61, u62, u63, u64, u65, u66, u67, u68, undef, undef, undef, undef, undef, undef, undef, undef, undef, undef, undef, undef, undef, undef, undef, undef, undef, undef, undef, undef, undef, undef, undef, undef, undef, undef, undef, undef, undef, undef, undef, undef, undef, undef, undef, undef, undef, undef, undef, undef, undef, undef, undef, undef, undef, undef, undef, undef, undef, undef, undef, undef, undef, undef, undef, undef, undef, undef, undef, undef, undef, undef, undef, undef, undef, undef, undef, undef, undef, undef, undef, undef, undef, undef, undef, undef, undef, undef, undef, undef, undef, undef, undef, undef, undef, undef, undef, undef, undef], defers := [] } X) : Calls Tryd.prog 38 #[.agg (pgC pg ca cc), v, .int .i64 (i : Nat)] w Q := by
 subst hx
 have hi2 : i < pg.code.length := by omega
 refine fZ w B hB pg ca cc hc hcl v B' S h hS i hi2 _ ?_
 intro ka kc hks r0 r1 c hbody X ib yb u14 u15 u16 u17 u18 u19 u20 u21 u22 hX
 unfold Tryd.f38 at hbody
 simp only [Option.some.injEq, Code.seq.injEq] at hbody
 obtain ⟨-, -, rfl⟩ := hbody
 have HPO : Bx (∀ Y ib yb, RLD w Y pg ca cc (pg.code[i]'hi2) ka kc S[i] ib yb -> Calls Tryd.prog 55 #[.agg #[.int .i64 (pg.code[i]'hi2).op, .int .i64 (pg.code[i]'hi2).a, .int .i64 (pg.code[i]'hi2).b, .slice ka (pg.code[i]'hi2).list.length kc]] Y fun e w' => e = .returned (.int .i64 (ax (pg.code[i]'hi2))) /\ Below Y.heap.size Y w') := ⟨fun Y ib yb hY => gK Y B _ ka kc hw (hks.below (hY.bel.mono hB)) hll (Nat.le_trans hB hY.bel.size)⟩
 have hHX : Bx (∀ Y, Below w.heap.size w Y -> StO Y B' v S /\ B' <= Y.heap.size) := ⟨fun Y hY => ⟨aZ h hY, Nat.le_trans hB' hY.size⟩⟩
 have hg : decide (S[i].height < ax (pg.code[i]'hi2)) = false := decide_eq_false hpop
 have b25 : ((pg.code[i]'hi2).op == 25) = false := by simpa using h25
 have HVV : Bx ((pg.code[i]'hi2).op = 4 ∨ (pg.code[i]'hi2).op = 6 ∨ (pg.code[i]'hi2).op = 16 -> ∀ Y, Below w.heap.size w Y -> Calls Tryd.prog 56 #[.agg #[.int .i64 pg.params, .int .i64 pg.slots, .int .i64 pg.caps, .bool pg.res, .slice ca pg.code.length cc], v, .int .i64 (i : Nat), .int .i64 (pg.code[i]'hi2).a] Y fun e w' => e = .returned (.bool true) /\ Bx (Below Y.heap.size Y w')) := ⟨fun ho Y hY => by
  rcases hneed with ⟨m, d, ham, hvv⟩ | hn
  ·rw [ham]
   exact lu Y B' (Nat.le_trans hB' hY.size) pg ca cc v S (aZ h hY) (by omega) m d (i : Nat) true hvv
  ·omega⟩
 have HH : Bx _ := ⟨H ka kc hks⟩
 have H0 : Bx _ := ⟨hX⟩
 generalize hxx : pg.code[i]'hi2 = x at *
 generalize htt : S[i] = t at *
 clear h hc hX hpop hHX h25 hneed H
 go_wp2_with fail
 refine aM [?wu4x0, ?wu4x1, ?wu4x2, .int .i64 (ax x), .bool false] (fun Y => RLD w Y pg ca cc x ka kc t ib yb) (by kernel_rfl) (by decide +kernel) (H0.out.drewN 1) (dG 23 5 (by decide +kernel) (by rfl) (by exact Nat.le_of_ble_eq_true rfl) (by exact Nat.le_of_ble_eq_true rfl) (by simp only [List.drop_succ_cons, List.drop_zero, List.drop_nil, List.take_succ_cons, List.take_zero, List.cons_append, List.nil_append, aH, Act.put, List.setIfInBounds_toArray, List.set_cons_zero, List.set_cons_succ]; rfl)) ?wu4st ?wu4en
 case wu4st =>
  refine af (ag (by rfl) (fun Y hY => ?_)) ?_
  ·go_simp; try rfl
  refine af (ag (by rfl) (fun Y hY => ?_)) ?_
  ·obtain ⟨⟨p0, p1, p2, p3, p4, p5⟩, ⟨i0, i1, i2, i3, i4⟩, ⟨z0, z1, z2, z3, z4, z5, z6⟩⟩ := hY.cells; go_simp; try rfl
  refine af (ag (by rfl) (fun Y hY => ?_)) ?_
  ·obtain ⟨⟨p0, p1, p2, p3, p4, p5⟩, ⟨i0, i1, i2, i3, i4⟩, ⟨z0, z1, z2, z3, z4, z5, z6⟩⟩ := hY.cells; go_simp; try rfl
  refine af (bE 55 #[.agg #[.int .i64 x.op, .int .i64 x.a, .int .i64 x.b, .slice ka x.list.length kc]] (by rfl) (fun Y hY => ?_) (fun Y hY => ?_)) ?_
  ·simp only [execOp]; go_simp
  ·refine Calls.mono (HPO.out Y ib yb hY) ?_; rintro e z ⟨rfl, hb⟩; exact ⟨rfl, hY.later hb⟩
  refine af (ag (by rfl) (fun Y hY => ?_)) ?_
  ·go_simp; try rfl
  exact bD
 intro w3 hz3
 obtain ⟨⟨p0, p1, p2, p3, p4, p5⟩, ⟨i0, i1, i2, i3, i4⟩, ⟨z0, z1, z2, z3, z4, z5, z6⟩⟩ := hz3.cells
 have HZ3 : Bx _ := ⟨hz3⟩
 clear hz3 H0 HPO
 by_cases o4 : x.op = 4
 ·have b4 : (x.op == 4) = true := by simpa using o4
  have HVC : Bx _ := ⟨HVV.out (.inl o4)⟩
  clear HVV o4
  go_wp2_with (first
   | (go_at_call 56; refine (HVC.out _ HZ3.out.bel).mono ?_; rintro e w4 ⟨rfl, hb4⟩)
   | fail)
  rename_i K2 hK
  refine jv (r0 := _) (r1 := _) (r2 := _) (r3 := _) (r4 := _) (c := _) rfl (HZ3.out.later hb4.out) hB hks hw hll i h1 h2 _ _ _ _ _ _ _ _ _ _ _ _ _ _ _ _ _ _ _ _ _ _ _ _ _ _ _ _ _ _ _ _ _ _ _ _ _ _ _ _ _ _ _ _ _ _ _ _ _ _ _ _ _ _ _ _ _ _ _ _ _ _ _ _ _ _ _ _ _ _ _ _ _ _ _ _ _ _ _ _ _ _ _ _ _ _ _ _ _ _ _ _ _ _ _ _ _ _ _ _ _ _ _ _ _ _ _ _ _ _ _ _ _ _ _ _ _ _ _ _ _ _ _ _ _ _ _ _ _ _ _ _ _ _ _ _ _ _ _ _ _ _ _ _ _ _ _ _ _ _ _ _ _ _ _ _ ?_
  intro X' tb hR'
  simp only [Exit.then]
  exact hK _ _ (HH.out _ _ _ _ _ _ _ rfl _ _ _ _ _ _ _ _ _ _ _ _ _ _ _ _ _ _ _ _ _ _ _ _ _ _ _ _ _ _ _ _ _ _ _ _ _ _ _ _ _ _ _ _ _ _ _ _ _ _ _ _ _ _ _ _ _ _ _ hR')
 have b4 : (x.op == 4) = false := by simpa using o4
 by_cases o6 : x.op = 6
 ·have b6 : (x.op == 6) = true := by simpa using o6
  have HVC : Bx _ := ⟨HVV.out (.inr (.inl o6))⟩
  clear HVV o4 o6
  go_wp2_with (first
   | (go_at_call 56; refine (HVC.out _ HZ3.out.bel).mono ?_; rintro e w4 ⟨rfl, hb4⟩)
   | fail)
  rename_i K2 hK
  refine jv (r0 := _) (r1 := _) (r2 := _) (r3 := _) (r4 := _) (c := _) rfl (HZ3.out.later hb4.out) hB hks hw hll i h1 h2 _ _ _ _ _ _ _ _ _ _ _ _ _ _ _ _ _ _ _ _ _ _ _ _ _ _ _ _ _ _ _ _ _ _ _ _ _ _ _ _ _ _ _ _ _ _ _ _ _ _ _ _ _ _ _ _ _ _ _ _ _ _ _ _ _ _ _ _ _ _ _ _ _ _ _ _ _ _ _ _ _ _ _ _ _ _ _ _ _ _ _ _ _ _ _ _ _ _ _ _ _ _ _ _ _ _ _ _ _ _ _ _ _ _ _ _ _ _ _ _ _ _ _ _ _ _ _ _ _ _ _ _ _ _ _ _ _ _ _ _ _ _ _ _ _ _ _ _ _ _ _ _ _ _ _ _ ?_
  intro X' tb hR'
  simp only [Exit.then]
  exact hK _ _ (HH.out _ _ _ _ _ _ _ rfl _ _ _ _ _ _ _ _ _ _ _ _ _ _ _ _ _ _ _ _ _ _ _ _ _ _ _ _ _ _ _ _ _ _ _ _ _ _ _ _ _ _ _ _ _ _ _ _ _ _ _ _ _ _ _ _ _ _ _ hR')
 have b6 : (x.op == 6) = false := by simpa using o6
 by_cases o16 : x.op = 16
 ·have b16 : (x.op == 16) = true := by simpa using o16
  have HVC : Bx _ := ⟨HVV.out (.inr (.inr o16))⟩
  clear HVV o4 o6 o16
  go_wp2_with (first
   | (go_at_call 56; refine (HVC.out _ HZ3.out.bel).mono ?_; rintro e w4 ⟨rfl, hb4⟩)
   | fail)
  rename_i K2 hK
  refine jv (r0 := _) (r1 := _) (r2 := _) (r3 := _) (r4 := _) (c := _) rfl (HZ3.out.later hb4.out) hB hks hw hll i h1 h2 _ _ _ _ _ _ _ _ _ _ _ _ _ _ _ _ _ _ _ _ _ _ _ _ _ _ _ _ _ _ _ _ _ _ _ _ _ _ _ _ _ _ _ _ _ _ _ _ _ _ _ _ _ _ _ _ _ _ _ _ _ _ _ _ _ _ _ _ _ _ _ _ _ _ _ _ _ _ _ _ _ _ _ _ _ _ _ _ _ _ _ _ _ _ _ _ _ _ _ _ _ _ _ _ _ _ _ _ _ _ _ _ _ _ _ _ _ _ _ _ _ _ _ _ _ _ _ _ _ _ _ _ _ _ _ _ _ _ _ _ _ _ _ _ _ _ _ _ _ _ _ _ _ _ _ _ ?_
  intro X' tb hR'
  simp only [Exit.then]
  exact hK _ _ (HH.out _ _ _ _ _ _ _ rfl _ _ _ _ _ _ _ _ _ _ _ _ _ _ _ _ _ _ _ _ _ _ _ _ _ _ _ _ _ _ _ _ _ _ _ _ _ _ _ _ _ _ _ _ _ _ _ _ _ _ _ _ _ _ _ _ _ _ _ hR')
 ·have b16 : (x.op == 16) = false := by simpa using o16
  clear HVV o4 o6 o16
  go_wp2_with fail
  rename_i K2 hK
  refine jv (r0 := _) (r1 := _) (r2 := _) (r3 := _) (r4 := _) (c := _) rfl HZ3.out hB hks hw hll i h1 h2 _ _ _ _ _ _ _ _ _ _ _ _ _ _ _ _ _ _ _ _ _ _ _ _ _ _ _ _ _ _ _ _ _ _ _ _ _ _ _ _ _ _ _ _ _ _ _ _ _ _ _ _ _ _ _ _ _ _ _ _ _ _ _ _ _ _ _ _ _ _ _ _ _ _ _ _ _ _ _ _ _ _ _ _ _ _ _ _ _ _ _ _ _ _ _ _ _ _ _ _ _ _ _ _ _ _ _ _ _ _ _ _ _ _ _ _ _ _ _ _ _ _ _ _ _ _ _ _ _ _ _ _ _ _ _ _ _ _ _ _ _ _ _ _ _ _ _ _ _ _ _ _ _ _ _ _ ?_
  intro X' tb hR'
  simp only [Exit.then]
  exact hK _ _ (HH.out _ _ _ _ _ _ _ rfl _ _ _ _ _ _ _ _ _ _ _ _ _ _ _ _ _ _ _ _ _ _ _ _ _ _ _ _ _ _ _ _ _ _ _ _ _ _ _ _ _ _ _ _ _ _ _ _ _ _ _ _ _ _ _ _ _ _ _ hR')
structure RLG (w X : World) (pg : CPg) (ca : Option Addr) (cc : Nat) (x : CIn) (ka : Option Addr) (kc : Nat) (t : RSt) (ib yb : Nat) (r : Option Nat) : Prop where
 gr : w.grownBy X r
 bh : X.heap[w.heap.size]? = some (.cells (pgC pg ca cc) 40 (0, 0))
 bi : X.heap[ib]? = some (.cells (aW x ka kc) 43 (0, 0))
 bt : X.heap[yb]? = some (.cells (stA t) 77 (0, 0))
 lo : w.heap.size <= ib /\ w.heap.size <= yb
theorem RLD.gr {w X : World} {pg : CPg} {ca : Option Addr} {cc : Nat} {x : CIn} {ka : Option Addr} {kc : Nat} {t : RSt} {ib yb : Nat} (h : RLD w X pg ca cc x ka kc t ib yb) (r : Option Nat) : RLG w X pg ca cc x ka kc t ib yb r := ⟨dP h.bel, h.bh, h.bi, h.bt, h.lo⟩
theorem az {a b c : World} {r : Option Nat} (h : a.grownBy b r) (k : b.grownBy c r) : a.grownBy c r := ⟨k.os.trans h.os, k.tape.trans h.tape, k.output.trans h.output, Nat.le_trans h.size k.size, fun i hi hr => (k.block i (Nat.lt_of_lt_of_le hi h.size) hr).trans (h.block i hi hr)⟩
theorem RLG.step {w X Y : World} {pg : CPg} {ca : Option Addr} {cc : Nat} {x : CIn} {ka : Option Addr} {kc : Nat} {t : RSt} {ib yb : Nat} {r : Option Nat} (h : RLG w X pg ca cc x ka kc t ib yb r) (hY : X.grownBy Y r) (hr : ∀ g, r = some g -> g < w.heap.size) : RLG w Y pg ca cc x ka kc t ib yb r := by
 have k : ∀ y o, w.heap.size <= y -> X.heap[y]? = some o -> Y.heap[y]? = some o := fun y o hy ho => (hY.block y (ah ho) (fun e => by have := hr y e.symm; omega)).trans ho
 exact ⟨az h.gr hY, k _ _ (Nat.le_refl _) h.bh, k _ _ h.lo.1 h.bi, k _ _ h.lo.2 h.bt, h.lo⟩
theorem RLG.cells {w X : World} {pg : CPg} {ca : Option Addr} {cc : Nat} {x : CIn} {ka : Option Addr} {kc : Nat} {t : RSt} {ib yb : Nat} {r : Option Nat} (h : RLG w X pg ca cc x ka kc t ib yb r) :
  (X.cell? ⟨w.heap.size, 0, none⟩ = some (.int .i64 pg.params) /\ X.cell? ⟨w.heap.size, 1, none⟩ = some (.int .i64 pg.slots) /\ X.cell? ⟨w.heap.size, 2, none⟩ = some (.int .i64 pg.caps) /\ X.cell? ⟨w.heap.size, 3, none⟩ = some (.bool pg.res) /\ X.cell? ⟨w.heap.size, 4, none⟩ = some (.slice ca pg.code.length cc) /\ w.heap.size < X.heap.size) /\
  (X.cell? ⟨ib, 0, none⟩ = some (.int .i64 x.op) /\ X.cell? ⟨ib, 1, none⟩ = some (.int .i64 x.a) /\ X.cell? ⟨ib, 2, none⟩ = some (.int .i64 x.b) /\ X.cell? ⟨ib, 3, none⟩ = some (.slice ka x.list.length kc) /\ ib < X.heap.size) /\
  (X.cell? ⟨yb, 0, none⟩ = some (.bool t.come) /\ X.cell? ⟨yb, 1, none⟩ = some (.bool t.seen) /\ X.cell? ⟨yb, 2, none⟩ = some (.int .i64 t.height) /\ X.cell? ⟨yb, 3, none⟩ = some (.int .i64 t.frm) /\ X.cell? ⟨yb, 4, none⟩ = some (.int .i64 t.slot) /\ X.cell? ⟨yb, 5, none⟩ = some (.bool t.given) /\ yb < X.heap.size) :=
 ⟨⟨aa h.bh rfl, aa h.bh rfl, aa h.bh rfl, aa h.bh rfl, aa h.bh rfl, ah h.bh⟩, ⟨aa h.bi rfl, aa h.bi rfl, aa h.bi rfl, aa h.bi rfl, ah h.bi⟩, ⟨aa h.bt rfl, aa h.bt rfl, aa h.bt rfl, aa h.bt rfl, aa h.bt rfl, aa h.bt rfl, ah h.bt⟩⟩
theorem RLG.nO {w X : World} {pg : CPg} {ca : Option Addr} {cc : Nat} {x : CIn} {ka : Option Addr} {kc : Nat} {t : RSt} {ib yb : Nat} {r : Option Nat} (h : RLG w X pg ca cc x ka kc t ib yb r) (j : Nat) (z : Value) (t' : RSt) (ht : (stA t).setIfInBounds j z = stA t') : RLG w (X.setCell ⟨yb, j, none⟩ z) pg ca cc x ka kc t' ib yb r := by
 have k : ∀ y, y ≠ yb -> (X.setCell ⟨yb, j, none⟩ z).heap[y]? = X.heap[y]? := fun y hy => Below.heap_setCell X ⟨yb, j, none⟩ z y hy
 have n1 : w.heap.size ≠ yb := fun e => by
  have := h.bh
  rw [e, h.bt] at this
  simp at this
 have n2 : ib ≠ yb := fun e => by
  have := h.bi
  rw [e, h.bt] at this
  simp at this
 have hb := (Below.refl w.heap.size X).setCell (p := ⟨yb, j, none⟩) h.lo.2 z
 refine ⟨⟨hb.os.trans h.gr.os, hb.tape.trans h.gr.tape, hb.output.trans h.gr.output, Nat.le_trans h.gr.size hb.size, fun i hi hr => (hb.block i hi).trans (h.gr.block i hi hr)⟩, (k _ n1).trans h.bh, (k _ n2).trans h.bi, ?_, h.lo⟩
 rw [← ht]
 exact Lib.heap_setCell_same (i := j) h.bt z
theorem RLD.nO {w X : World} {pg : CPg} {ca : Option Addr} {cc : Nat} {x : CIn} {ka : Option Addr} {kc : Nat} {t : RSt} {ib yb : Nat} (h : RLD w X pg ca cc x ka kc t ib yb) (j : Nat) (z : Value) (t' : RSt) (ht : (stA t).setIfInBounds j z = stA t') : RLD w (X.setCell ⟨yb, j, none⟩ z) pg ca cc x ka kc t' ib yb := by
 have q := (h.gr none).nO j z t' ht
 exact ⟨h.bel.setCell (p := ⟨yb, j, none⟩) h.lo.2 z, q.bh, q.bi, q.bt, h.lo⟩
theorem uQ (w : World) (B : Nat) (hB : B <= w.heap.size) (pg : CPg) (ca : Option Addr) (cc : Nat) (hc : Row (cu w B) B 4 ca cc pg.code) (hcl : pg.code.length <= 268435456) (v : Value) (B' : Nat) (hB' : B' <= w.heap.size) (hBB : B <= B') (S : List RSt) (h : StO w B' v S) (hS : S.length = pg.code.length) (i : Nat) (hi : i < S.length) (x : CIn) (hx : pg.code[i]'(by omega) = x) (hw : x.Wf) (hll : x.list.length <= 281474976710656) (hpop : ¬ S[i].height < ax x) (h25 : x.op ≠ 25) (hneed : (∃ (m : Nat) (d : Nat), x.a = (m : Int) /\ Hv pg.params S m d (i : Nat) true) ∨ (x.op ≠ 4 /\ x.op ≠ 6 /\ x.op ≠ 16)) (h1 : IntKind.i64.wrap (S[i].height - ax x) = S[i].height - ax x) (h2 : IntKind.i64.wrap (S[i].height - ax x + au x) = S[i].height - ax x + au x) (hop : x.op = 5) (he : i + 1 = pg.code.length) : Calls Tryd.prog 38 #[.agg (pgC pg ca cc), v, .int .i64 (i : Nat)] w fun e w' => e = .returned (.int .i64 96) /\ Bx (Below w.heap.size w w') := by
 have hgs : ∀ g, v.ownBlock = some g -> g < w.heap.size := fun g hg => (aD h hg).2
 have HGS : Bx _ := ⟨hgs⟩
 have htS : toS S i x = ⟨true, false, S[i].height - ax x + au x, i, if x.op = 5 ∨ x.op = 6 then x.a else -1, decide (x.op = 5)⟩ := by unfold toS; rw [dD hi]
 have heI : ((i : Int) + 1 == (S.length : Int)) = true := by simp; omega
 have hvs := aN h
 refine dH w B hB pg ca cc hc hcl v B' hB' S h hS i hi x hx hw hll hpop h25 hneed h1 h2 _ ?_
 intro ka kc hks r0 r1 r2 r3 r4 r5 c hbody X ib yb tb u14 u15 u16 u17 u18 u19 u20 u21 u22 u23 u24 u25 u26 u27 u28 u29 u30 u31 u32 u33 u34 u35 u36 u37 u38 u39 u40 u41 u42 u43 u44 u45 u46 u47 u48 u49 u50 u51 u52 u53 u54 u55 u56 u57 u58 u59 u60 u61 u62 u63 u64 u65 u66 u67 u68 hX
 unfold Tryd.f38 at hbody
 simp only [Option.some.injEq, Code.seq.injEq] at hbody
 obtain ⟨-, -, -, -, -, -, rfl⟩ := hbody
 have q0 : (stA (gW i (S[i].height - ax x + au x))).setIfInBounds 4 (.int .i64 x.a) = stA ⟨true, false, S[i].height - ax x + au x, i, x.a, false⟩ := rfl
 have q1 : (stA ⟨true, false, S[i].height - ax x + au x, i, x.a, false⟩).setIfInBounds 5 (.bool true) = stA (toS S i x) := by rw [htS, if_pos (.inl hop), decide_eq_true hop]; rfl
 obtain ⟨W5, hW5⟩ : ∃ W5, X.setCell ⟨tb, 4, none⟩ (.int .i64 x.a) = W5 := ⟨_, rfl⟩
 obtain ⟨WT, hWT⟩ : ∃ WT, W5.setCell ⟨tb, 5, none⟩ (.bool true) = WT := ⟨_, rfl⟩
 have hX5 := hX.nO 4 (.int .i64 x.a) _ q0
 rw [hW5] at hX5
 have hXT := hX5.nO 5 (.bool true) _ q1
 rw [hWT] at hXT
 have c5 := hX5.cells.2.2.2.2.2.2.2.1
 have f5 : W5.frozen? ⟨tb, 5, none⟩ = false := aL hX5.bt
 have l5 : tb < W5.heap.size := ah hX5.bt
 have f4 : X.frozen? ⟨tb, 4, none⟩ = false := aL hX.bt
 have b5 : (x.op == 5) = true := by simpa using hop
 have n19 : (x.op != 19) = true := by simp; omega
 have n21 : (x.op != 21) = true := by simp; omega
 have n27 : (x.op != 27) = true := by simp; omega
 obtain ⟨⟨p0, p1, p2, p3, p4, p5⟩, ⟨i0, i1, i2, i3, i4⟩, ⟨z0, z1, z2, z3, z4, z5, z6⟩⟩ := hX.cells
 obtain ⟨⟨p0', p1', p2', p3', p4', p5'⟩, ⟨i0', i1', i2', i3', i4'⟩, ⟨z0', z1', z2', z3', z4', z5', z6'⟩⟩ := hXT.cells
 have HXT : Bx _ := ⟨hXT.bel⟩
 obtain ⟨av, cv, rfl⟩ := hvs
 have hiw : IntKind.i64.wrap ((i : Int) + 1) = (i : Int) + 1 := by rw [IntKind.wrap_i64]; omega
 generalize toS S i x = tt at *
 clear h hX hXT hks hc he hpop h25 hneed hop htS hgs q0 q1 hX5
 go_wp2
 go_ret
 exact ⟨rfl, ⟨HXT.out⟩⟩
theorem uR (w : World) (B : Nat) (hB : B <= w.heap.size) (pg : CPg) (ca : Option Addr) (cc : Nat) (hc : Row (cu w B) B 4 ca cc pg.code) (hcl : pg.code.length <= 268435456) (v : Value) (B' : Nat) (hB' : B' <= w.heap.size) (hBB : B <= B') (S : List RSt) (h : StO w B' v S) (hS : S.length = pg.code.length) (i : Nat) (hi : i < S.length) (x : CIn) (hx : pg.code[i]'(by omega) = x) (hw : x.Wf) (hll : x.list.length <= 281474976710656) (hpop : ¬ S[i].height < ax x) (h25 : x.op ≠ 25) (hneed : (∃ (m : Nat) (d : Nat), x.a = (m : Int) /\ Hv pg.params S m d (i : Nat) true) ∨ (x.op ≠ 4 /\ x.op ≠ 6 /\ x.op ≠ 16)) (h1 : IntKind.i64.wrap (S[i].height - ax x) = S[i].height - ax x) (h2 : IntKind.i64.wrap (S[i].height - ax x + au x) = S[i].height - ax x + au x) (hop : x.op = 6) (he : i + 1 = pg.code.length) : Calls Tryd.prog 38 #[.agg (pgC pg ca cc), v, .int .i64 (i : Nat)] w fun e w' => e = .returned (.int .i64 96) /\ Bx (Below w.heap.size w w') := by
 have hgs : ∀ g, v.ownBlock = some g -> g < w.heap.size := fun g hg => (aD h hg).2
 have HGS : Bx _ := ⟨hgs⟩
 have htS : toS S i x = ⟨true, false, S[i].height - ax x + au x, i, if x.op = 5 ∨ x.op = 6 then x.a else -1, decide (x.op = 5)⟩ := by unfold toS; rw [dD hi]
 have heI : ((i : Int) + 1 == (S.length : Int)) = true := by simp; omega
 have hvs := aN h
 refine dH w B hB pg ca cc hc hcl v B' hB' S h hS i hi x hx hw hll hpop h25 hneed h1 h2 _ ?_
 intro ka kc hks r0 r1 r2 r3 r4 r5 c hbody X ib yb tb u14 u15 u16 u17 u18 u19 u20 u21 u22 u23 u24 u25 u26 u27 u28 u29 u30 u31 u32 u33 u34 u35 u36 u37 u38 u39 u40 u41 u42 u43 u44 u45 u46 u47 u48 u49 u50 u51 u52 u53 u54 u55 u56 u57 u58 u59 u60 u61 u62 u63 u64 u65 u66 u67 u68 hX
 unfold Tryd.f38 at hbody
 simp only [Option.some.injEq, Code.seq.injEq] at hbody
 obtain ⟨-, -, -, -, -, -, rfl⟩ := hbody
 have q0 : (stA (gW i (S[i].height - ax x + au x))).setIfInBounds 4 (.int .i64 x.a) = stA (toS S i x) := by rw [htS, if_pos (.inr hop), decide_eq_false (by omega)]; rfl
 obtain ⟨WT, hWT⟩ : ∃ WT, X.setCell ⟨tb, 4, none⟩ (.int .i64 x.a) = WT := ⟨_, rfl⟩
 have hXT := hX.nO 4 (.int .i64 x.a) _ q0
 rw [hWT] at hXT
 have f4 : X.frozen? ⟨tb, 4, none⟩ = false := aL hX.bt
 have b5 : (x.op == 5) = false := by simp; omega
 have b6 : (x.op == 6) = true := by simpa using hop
 have n19 : (x.op != 19) = true := by simp; omega
 have n21 : (x.op != 21) = true := by simp; omega
 have n27 : (x.op != 27) = true := by simp; omega
 obtain ⟨⟨p0, p1, p2, p3, p4, p5⟩, ⟨i0, i1, i2, i3, i4⟩, ⟨z0, z1, z2, z3, z4, z5, z6⟩⟩ := hX.cells
 obtain ⟨⟨p0', p1', p2', p3', p4', p5'⟩, ⟨i0', i1', i2', i3', i4'⟩, ⟨z0', z1', z2', z3', z4', z5', z6'⟩⟩ := hXT.cells
 have HXT : Bx _ := ⟨hXT.bel⟩
 obtain ⟨av, cv, rfl⟩ := hvs
 have hiw : IntKind.i64.wrap ((i : Int) + 1) = (i : Int) + 1 := by rw [IntKind.wrap_i64]; omega
 generalize toS S i x = tt at *
 clear h hX hXT hks hc he hpop h25 hneed hop htS hgs q0
 go_wp2
 go_ret
 exact ⟨rfl, ⟨HXT.out⟩⟩
theorem uS (w : World) (B : Nat) (hB : B <= w.heap.size) (pg : CPg) (ca : Option Addr) (cc : Nat) (hc : Row (cu w B) B 4 ca cc pg.code) (hcl : pg.code.length <= 268435456) (v : Value) (B' : Nat) (hB' : B' <= w.heap.size) (hBB : B <= B') (S : List RSt) (h : StO w B' v S) (hS : S.length = pg.code.length) (i : Nat) (hi : i < S.length) (x : CIn) (hx : pg.code[i]'(by omega) = x) (hw : x.Wf) (hll : x.list.length <= 281474976710656) (hpop : ¬ S[i].height < ax x) (h25 : x.op ≠ 25) (hneed : (∃ (m : Nat) (d : Nat), x.a = (m : Int) /\ Hv pg.params S m d (i : Nat) true) ∨ (x.op ≠ 4 /\ x.op ≠ 6 /\ x.op ≠ 16)) (h1 : IntKind.i64.wrap (S[i].height - ax x) = S[i].height - ax x) (h2 : IntKind.i64.wrap (S[i].height - ax x + au x) = S[i].height - ax x + au x) (hop : x.op ≠ 5 /\ x.op ≠ 6 /\ x.op ≠ 19 /\ x.op ≠ 21 /\ x.op ≠ 27) (he : i + 1 = pg.code.length) : Calls Tryd.prog 38 #[.agg (pgC pg ca cc), v, .int .i64 (i : Nat)] w fun e w' => e = .returned (.int .i64 96) /\ Bx (Below w.heap.size w w') := by
 have hgs : ∀ g, v.ownBlock = some g -> g < w.heap.size := fun g hg => (aD h hg).2
 have HGS : Bx _ := ⟨hgs⟩
 have htS : toS S i x = ⟨true, false, S[i].height - ax x + au x, i, if x.op = 5 ∨ x.op = 6 then x.a else -1, decide (x.op = 5)⟩ := by unfold toS; rw [dD hi]
 have heI : ((i : Int) + 1 == (S.length : Int)) = true := by simp; omega
 have hvs := aN h
 refine dH w B hB pg ca cc hc hcl v B' hB' S h hS i hi x hx hw hll hpop h25 hneed h1 h2 _ ?_
 intro ka kc hks r0 r1 r2 r3 r4 r5 c hbody X ib yb tb u14 u15 u16 u17 u18 u19 u20 u21 u22 u23 u24 u25 u26 u27 u28 u29 u30 u31 u32 u33 u34 u35 u36 u37 u38 u39 u40 u41 u42 u43 u44 u45 u46 u47 u48 u49 u50 u51 u52 u53 u54 u55 u56 u57 u58 u59 u60 u61 u62 u63 u64 u65 u66 u67 u68 hX
 unfold Tryd.f38 at hbody
 simp only [Option.some.injEq, Code.seq.injEq] at hbody
 obtain ⟨-, -, -, -, -, -, rfl⟩ := hbody
 have q0 : gW i (S[i].height - ax x + au x) = toS S i x := by rw [htS, if_neg (by omega), decide_eq_false (by omega)]
 have hXT := hX
 rw [q0] at hXT hX
 have b5 : (x.op == 5) = false := by simp; omega
 have b6 : (x.op == 6) = false := by simp; omega
 have n19 : (x.op != 19) = true := by simp; omega
 have n21 : (x.op != 21) = true := by simp; omega
 have n27 : (x.op != 27) = true := by simp; omega
 obtain ⟨⟨p0, p1, p2, p3, p4, p5⟩, ⟨i0, i1, i2, i3, i4⟩, ⟨z0, z1, z2, z3, z4, z5, z6⟩⟩ := hX.cells
 have HXT : Bx _ := ⟨hXT.bel⟩
 obtain ⟨av, cv, rfl⟩ := hvs
 have hiw : IntKind.i64.wrap ((i : Int) + 1) = (i : Int) + 1 := by rw [IntKind.wrap_i64]; omega
 generalize toS S i x = tt at *
 clear h hX hXT hks hc he hpop h25 hneed hop htS hgs q0
 go_wp2
 go_ret
 exact ⟨rfl, ⟨HXT.out⟩⟩
end Go.Proofs.YtadmpgegolmkgaaDoor
