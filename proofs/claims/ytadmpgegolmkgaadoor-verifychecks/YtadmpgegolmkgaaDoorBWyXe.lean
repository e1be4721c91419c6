import Derived.Test.YtadmpgegolmkgaaDoorBWyV
set_option linter.unusedVariables false
set_option linter.unusedSimpArgs false
set_option maxHeartbeats 4000000
set_option maxRecDepth 100000
namespace Go.Proofs.YtadmpgegolmkgaaDoor
open Go.RowKit
theorem qZ (w : World) (B : Nat) (hB : B <= w.heap.size) (pg : CPg) (ca : Option Addr) (cc : Nat) (hc : Row (cu w B) B 4 ca cc pg.code) (hcl : pg.code.length <= 268435456) (v : Value) (B' : Nat) (hB' : B' <= w.heap.size) (hBB : B <= B') (S : List RSt) (h : StO w B' v S) (hS : S.length = pg.code.length) (i : Nat) (hi : i < S.length) (x : CIn) (hx : pg.code[i]'(by omega) = x) (hw : x.Wf) (hll : x.list.length <= 281474976710656) (hpop : ¬ S[i].height < ax x) (h25 : x.op ≠ 25) (hneed : (∃ (m : Nat) (d : Nat), x.a = (m : Int) /\ Hv pg.params S m d (i : Nat) true) ∨ (x.op ≠ 4 /\ x.op ≠ 6 /\ x.op ≠ 16)) (h1 : IntKind.i64.wrap (S[i].height - ax x) = S[i].height - ax x) (h2 : IntKind.i64.wrap (S[i].height - ax x + au x) = S[i].height - ax x + au x) {L sl : Nat} {P : Prs} {K : List Wy} {D : Nat -> Bool} (hR : Rel pg.code.length L sl pg.params S ⟨P, K, D⟩) (hsl : pg.slots = (sl : Int)) (hsl2 : sl <= 65536) (hL : sl <= 2 ^ (6 + L)) {p : Wy} (hT : di pg.code.length L sl pg.params S P (toS S i x) p) (hop : x.op = 20) (he : i + 1 < pg.code.length) (hta : 0 <= x.a /\ x.a < (pg.code.length : Int)) : Calls Tryd.prog 38 #[.agg (pgC pg ca cc), v, .int .i64 (i : Nat)] w fun e w' => e = .returned (.int .i64 (if (aC [(i + 1, p), (x.a.toNat, p)] K D).1 then 0 else 95)) /\ Bx (∃ S', StO w' B' v S' /\ w.grownBy w' v.ownBlock /\ S'.length = S.length /\ ((aC [(i + 1, p), (x.a.toNat, p)] K D).1 = true -> Rel pg.code.length L sl pg.params S' ⟨P, (aC [(i + 1, p), (x.a.toNat, p)] K D).2.1, (aC [(i + 1, p), (x.a.toNat, p)] K D).2.2⟩)) := by
 have hgs : ∀ g, v.ownBlock = some g -> g < w.heap.size := fun g hg => (aD h hg).2
 have HGS : Bx _ := ⟨hgs⟩
 have htS : toS S i x = ⟨true, false, S[i].height - ax x + au x, i, if x.op = 5 ∨ x.op = 6 then x.a else -1, decide (x.op = 5)⟩ := by unfold toS; rw [dD hi]
 have heI : ((i : Int) + 1 == (S.length : Int)) = false := by simp; omega
 have hvs := aN h
 refine dH w B hB pg ca cc hc hcl v B' hB' S h hS i hi x hx hw hll hpop h25 hneed h1 h2 _ ?_
 intro ka kc hks r0 r1 r2 r3 r4 r5 c hbody X ib yb tb u14 u15 u16 u17 u18 u19 u20 u21 u22 u23 u24 u25 u26 u27 u28 u29 u30 u31 u32 u33 u34 u35 u36 u37 u38 u39 u40 u41 u42 u43 u44 u45 u46 u47 u48 u49 u50 u51 u52 u53 u54 u55 u56 u57 u58 u59 u60 u61 u62 u63 u64 u65 u66 u67 u68 hX
 unfold Tryd.f38 at hbody
 simp only [Option.some.injEq, Code.seq.injEq] at hbody
 obtain ⟨-, -, -, -, -, -, rfl⟩ := hbody
 have q0 : gW i (S[i].height - ax x + au x) = toS S i x := by rw [htS, if_neg (by omega), decide_eq_false (by omega)]
 have hXT := hX
 rw [q0] at hXT hX
 have b5 : (x.op == 5) = false := by simp; omega
 have b6 : (x.op == 6) = false := by simp; omega
 obtain ⟨tt, htt⟩ : ∃ tt, toS S i x = tt := ⟨_, rfl⟩
 rw [htt] at hXT hT
 rw [htt] at q0
 rw [htt] at hX
 have HM1 : Bx (∀ Y, Below w.heap.size w Y -> Calls Tryd.prog 58 #[.agg #[.int .i64 pg.params, .int .i64 pg.slots, .int .i64 pg.caps, .bool pg.res, .slice ca pg.code.length cc], v, .int .i64 ((i : Int) + 1), .agg #[.bool tt.come, .bool tt.seen, .int .i64 tt.height, .int .i64 tt.frm, .int .i64 tt.slot, .bool tt.given]] Y fun e w' => e = .returned (.bool (bI K (i + 1) p)) /\ Bx (∃ S', StO w' B' v S' /\ Y.grownBy w' v.ownBlock /\ Rel pg.code.length L sl pg.params S' ⟨P, aI K (i + 1) p, aP K (i + 1) D⟩ /\ S'.length = S.length /\ ∀ t' p', di pg.code.length L sl pg.params S P t' p' -> di pg.code.length L sl pg.params S' P t' p')) := ⟨fun Y hY => by
  have := fw Y B' (Nat.le_trans hB' hY.size) pg ca cc v S (aZ h hY) (by omega) hR hsl hsl2 hL hT (i + 1) (by omega)
  rw [show (((i + 1 : Nat)) : Int) = (i : Int) + 1 by omega] at this
  exact this⟩
 have HM2 : Bx (∀ (Y : World) (S1 : List RSt), B' <= Y.heap.size -> StO Y B' v S1 -> S1.length = S.length -> Rel pg.code.length L sl pg.params S1 ⟨P, aI K (i + 1) p, aP K (i + 1) D⟩ -> di pg.code.length L sl pg.params S1 P tt p -> Calls Tryd.prog 58 #[.agg #[.int .i64 pg.params, .int .i64 pg.slots, .int .i64 pg.caps, .bool pg.res, .slice ca pg.code.length cc], v, .int .i64 x.a, .agg #[.bool tt.come, .bool tt.seen, .int .i64 tt.height, .int .i64 tt.frm, .int .i64 tt.slot, .bool tt.given]] Y fun e w' => e = .returned (.bool (bI (aI K (i + 1) p) x.a.toNat p)) /\ Bx (∃ S', StO w' B' v S' /\ Y.grownBy w' v.ownBlock /\ Rel pg.code.length L sl pg.params S' ⟨P, aI (aI K (i + 1) p) x.a.toNat p, aP (aI K (i + 1) p) x.a.toNat (aP K (i + 1) D)⟩ /\ S'.length = S.length)) := ⟨fun Y S1 hY hO hl1 hR1 hT1 => by
  have key := fw Y B' hY pg ca cc v S1 hO (by omega) hR1 hsl hsl2 hL hT1 x.a.toNat (by omega)
  rw [show ((x.a.toNat : Nat) : Int) = x.a by omega] at key
  refine key.mono ?_
  rintro e w' ⟨rfl, hb⟩
  obtain ⟨S', s1, s2, s3, s4, _⟩ := hb.out
  exact ⟨rfl, ⟨S', s1, s2, s3, by omega⟩⟩⟩
 have n19 : (x.op != 19) = true := by simp; omega
 have n21 : (x.op != 21) = true := by simp; omega
 have n27 : (x.op != 27) = true := by simp; omega
 have b19 : (x.op == 19) = false := by simp; omega
 have b21 : (x.op == 21) = false := by simp; omega
 have b20 : (x.op == 20) = true := by simpa using hop
 obtain ⟨⟨p0, p1, p2, p3, p4, p5⟩, ⟨i0, i1, i2, i3, i4⟩, ⟨z0, z1, z2, z3, z4, z5, z6⟩⟩ := hX.cells
 have HXT : Bx _ := ⟨hXT⟩
 have HTT : Bx _ := ⟨hT⟩
 have hiw : IntKind.i64.wrap ((i : Int) + 1) = (i : Int) + 1 := by rw [IntKind.wrap_i64]; omega
 rw [l8]
 generalize bI (aI K (i + 1) p) x.a.toNat p = bb at *
 generalize aI (aI K (i + 1) p) x.a.toNat p = K3 at *
 generalize aP (aI K (i + 1) p) x.a.toNat (aP K (i + 1) D) = D3 at *
 generalize bI K (i + 1) p = b at *
 generalize aI K (i + 1) p = K2 at *
 generalize aP K (i + 1) D = D2 at *
 obtain ⟨av, cv, rfl⟩ := hvs
 have HRM : Bx _ := ⟨HM1.out _ hXT.bel⟩
 have hwB : B' <= X.heap.size := Nat.le_trans hB' hXT.bel.size
 have hgg : ∀ Y, X.grownBy Y (Value.slice av S.length cv).ownBlock -> B' <= Y.heap.size := fun Y hY => Nat.le_trans hwB hY.size
 have HGG : Bx _ := ⟨hgg⟩
 clear HM1 hgg h hx hS h1 h2 hks hc hpop h25 hneed hop htS hgs q0 hR hT htt hX hXT hsl
 have HRG : Bx (∀ Y, X.grownBy Y (Value.slice av S.length cv).ownBlock -> RLG w Y pg ca cc x ka kc tt ib tb (Value.slice av S.length cv).ownBlock) := ⟨fun Y hY => (HXT.out.gr _).step hY HGS.out⟩
 cases b with
 | true =>
  cases bb with
  | true =>
   go_wp2_with (first
    | (go_at_call 58; refine HRM.out.mono ?_; rintro e w2 ⟨rfl, HS2⟩; clear HRM; obtain ⟨⟨d0, d1, d2, d3, d4, d5⟩, ⟨e0, e1, e2, e3, e4⟩, ⟨y0, y1, y2, y3, y4, y5, y6⟩⟩ := (HRG.out w2 (by obtain ⟨_, _, k, _⟩ := HS2.out; exact k)).cells; have HR2 : Bx (∃ S1, StO w2 B' (Value.slice av S.length cv) S1 /\ _) := ⟨by obtain ⟨S1, s1, s2, s3, s4, s5⟩ := HS2.out; exact ⟨S1, s1, HM2.out w2 S1 (HGG.out _ s2) s1 s4 s3 (s5 _ _ HTT.out)⟩⟩; clear HM2)
    | (go_at_call 58; refine Calls.mono (by obtain ⟨_, _, k⟩ := HR2.out; exact k) ?_; rintro e w3 ⟨rfl, HS3⟩)
    | fail)
   go_ret
   obtain ⟨S', s1, s2, s3, s4⟩ := HS3.out
   obtain ⟨_, _, k2, _⟩ := HS2.out
   first | exact ⟨rfl, ⟨S', s1, az (az (HXT.out.gr _).gr k2) s2, s4, fun _ => s3⟩⟩ | exact ⟨rfl, ⟨S', s1, az (az (HXT.out.gr _).gr k2) s2, s4, s3⟩⟩ | exact ⟨rfl, ⟨S', s1, az (az (HXT.out.gr _).gr k2) s2, s4, fun e => (by cases e)⟩⟩ | exact ⟨rfl, ⟨S', s1, az (az (HXT.out.gr _).gr k2) s2, s4⟩⟩
  | false =>
   go_wp2_with (first
    | (go_at_call 58; refine HRM.out.mono ?_; rintro e w2 ⟨rfl, HS2⟩; clear HRM; obtain ⟨⟨d0, d1, d2, d3, d4, d5⟩, ⟨e0, e1, e2, e3, e4⟩, ⟨y0, y1, y2, y3, y4, y5, y6⟩⟩ := (HRG.out w2 (by obtain ⟨_, _, k, _⟩ := HS2.out; exact k)).cells; have HR2 : Bx (∃ S1, StO w2 B' (Value.slice av S.length cv) S1 /\ _) := ⟨by obtain ⟨S1, s1, s2, s3, s4, s5⟩ := HS2.out; exact ⟨S1, s1, HM2.out w2 S1 (HGG.out _ s2) s1 s4 s3 (s5 _ _ HTT.out)⟩⟩; clear HM2)
    | (go_at_call 58; refine Calls.mono (by obtain ⟨_, _, k⟩ := HR2.out; exact k) ?_; rintro e w3 ⟨rfl, HS3⟩)
    | fail)
   go_ret
   obtain ⟨S', s1, s2, s3, s4⟩ := HS3.out
   obtain ⟨_, _, k2, _⟩ := HS2.out
   first | exact ⟨rfl, ⟨S', s1, az (az (HXT.out.gr _).gr k2) s2, s4, fun _ => s3⟩⟩ | exact ⟨rfl, ⟨S', s1, az (az (HXT.out.gr _).gr k2) s2, s4, s3⟩⟩ | exact ⟨rfl, ⟨S', s1, az (az (HXT.out.gr _).gr k2) s2, s4, fun e => (by cases e)⟩⟩ | exact ⟨rfl, ⟨S', s1, az (az (HXT.out.gr _).gr k2) s2, s4⟩⟩
 | false =>
  clear HM2
  go_wp2_with (first
   | (go_at_call 58; refine HRM.out.mono ?_; rintro e w2 ⟨rfl, HS2⟩; obtain ⟨⟨d0, d1, d2, d3, d4, d5⟩, ⟨e0, e1, e2, e3, e4⟩, ⟨y0, y1, y2, y3, y4, y5, y6⟩⟩ := (HRG.out w2 (by obtain ⟨_, _, k, _⟩ := HS2.out; exact k)).cells)
   | fail)
  go_ret
  obtain ⟨S', s1, s2, s3, s4, _⟩ := HS2.out
  first | exact ⟨rfl, ⟨S', s1, az (HXT.out.gr _).gr s2, s4, fun _ => s3⟩⟩ | exact ⟨rfl, ⟨S', s1, az (HXT.out.gr _).gr s2, s4, s3⟩⟩ | exact ⟨rfl, ⟨S', s1, az (HXT.out.gr _).gr s2, s4, fun e => (by cases e)⟩⟩ | exact ⟨rfl, ⟨S', s1, az (HXT.out.gr _).gr s2, s4⟩⟩
structure CaS (I J : World -> Prop) (cv : Nat -> Option Value) (ci : Nat) (dp : Nat -> List Nat) (u : aV) (w : World) : Prop where
 pur : ∀ k v, u k = some v -> ∀ c, cv k = some c -> v = c
 pre : u ci = none -> I w
 post : u ci ≠ none -> J w
 cl : ∀ k, u k ≠ none -> ∀ e ∈ dp k, u e ≠ none
theorem CaS.get {I J : World -> Prop} {cv : Nat -> Option Value} {ci : Nat} {dp : Nat -> List Nat} {u : aV} {w : World} (h : CaS I J cv ci dp u w) {k : Nat} (hk : ∃ v, u k = some v) {c : Value} (hc : cv k = some c) : u k = some c := by
 obtain ⟨v, hv⟩ := hk
 rw [hv, h.pur k v hv c hc]
theorem CaS.i {I J : World -> Prop} {cv : Nat -> Option Value} {ci : Nat} {dp : Nat -> List Nat} {u : aV} {w : World} (h : CaS I J cv ci dp u w) {k : Nat} (hk : u k = none) (hd : k ∈ dp ci) : I w :=
 h.pre (Classical.byContradiction fun e => h.cl ci e k hd hk)
theorem CaS.pure {I J : World -> Prop} {cv : Nat -> Option Value} {ci : Nat} {dp : Nat -> List Nat} {u : aV} {w : World} (h : CaS I J cv ci dp u w) {k : Nat} (h1 : k ≠ ci) {c : Value} (hc : cv k = some c) (hd : ∀ e ∈ dp k, u e ≠ none) : CaS I J cv ci dp (u.put k c) w := by
 have pn : ∀ j, u j ≠ none -> u.put k c j ≠ none := fun j hj => by
  by_cases e : j = k
  ·subst e; rw [aV.bU]; simp
  ·rw [aV.bf _ _ e]; exact hj
 refine ⟨fun j v hj c' hc' => ?_, fun hn => ?_, fun hn => ?_, fun j hj e he => ?_⟩
 ·by_cases e : j = k
  ·subst e
   rw [aV.bU] at hj
   rw [hc] at hc'
   cases hj; cases hc'; rfl
  ·rw [aV.bf _ _ e] at hj
   exact h.pur j v hj c' hc'
 ·rw [aV.bf _ _ (Ne.symm h1)] at hn
  exact h.pre hn
 ·rw [aV.bf _ _ (Ne.symm h1)] at hn
  exact h.post hn
 ·refine pn e ?_
  by_cases e2 : j = k
  ·subst e2; exact hd e he
  ·rw [aV.bf _ _ e2] at hj
   exact h.cl j hj e he
theorem CaS.call {I J : World -> Prop} {cv : Nat -> Option Value} {ci : Nat} {dp : Nat -> List Nat} {u : aV} {w w' : World} (h : CaS I J cv ci dp u w) {c : Value} (hc : cv ci = some c) (hd : ∀ e ∈ dp ci, u e ≠ none) (hJ : J w') : CaS I J cv ci dp (u.put ci c) w' := by
 have pn : ∀ j, u j ≠ none -> u.put ci c j ≠ none := fun j hj => by
  by_cases e : j = ci
  ·subst e; rw [aV.bU]; simp
  ·rw [aV.bf _ _ e]; exact hj
 refine ⟨fun j v hj c' hc' => ?_, fun hn => ?_, fun hn => hJ, fun j hj e he => ?_⟩
 ·by_cases e : j = ci
  ·subst e
   rw [aV.bU] at hj
   rw [hc] at hc'
   cases hj; cases hc'; rfl
  ·rw [aV.bf _ _ e] at hj
   exact h.pur j v hj c' hc'
 ·rw [aV.bU] at hn; cases hn
 ·refine pn e ?_
  by_cases e2 : j = ci
  ·subst e2; exact hd e he
  ·rw [aV.bf _ _ e2] at hj
   exact h.cl j hj e he
def jZ (k : Nat) : List Nat := ([[], [], [], [2], [], [4], [3, 5], [6], [], [0, 1, 2, 3, 4, 5, 6, 7, 8], [9]] : List (List Nat)).getD k []
def BU (pg : CPg) (ca : Option Addr) (cc : Nat) (VV : Value) (ib lb lo : Nat) (x : CIn) (kc j : Nat) (tg hN : Int) (tt : RSt) (bv : Bool) (k : Nat) : Option Value := ([some (.agg #[.int .i64 pg.params, .int .i64 pg.slots, .int .i64 pg.caps, .bool pg.res, .slice ca pg.code.length cc]), some (VV), some (.pointer (some ⟨ib, 3, none⟩)), some (.slice (some ⟨lb, lo, none⟩) x.list.length kc), some (.int .i64 (2 * (j : Int))), some (.int .i64 (2 * (j : Int) + 1)), some (.pointer (some ⟨lb, lo + (2 * j + 1), none⟩)), some (.int .i64 tg), some (.agg #[.bool tt.come, .bool tt.seen, .int .i64 hN, .int .i64 tt.frm, .int .i64 tt.slot, .bool tt.given]), some (.bool bv), some (.bool (!bv))] : List (Option Value)).getD k none
end Go.Proofs.YtadmpgegolmkgaaDoor
