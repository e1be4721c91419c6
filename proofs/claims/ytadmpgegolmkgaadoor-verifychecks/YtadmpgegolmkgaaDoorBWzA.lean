import Derived.Test.YtadmpgegolmkgaaDoorBWyXf
import Derived.Test.YtadmpgegolmkgaaDoorBWmE
import Derived.Test.YtadmpgegolmkgaaDoorBWyQ
import Derived.Test.YtadmpgegolmkgaaDoorBWcC
set_option linter.unusedVariables false
set_option linter.unusedSimpArgs false
set_option maxHeartbeats 4000000
set_option maxRecDepth 100000
namespace Go.Proofs.YtadmpgegolmkgaaDoor
open Go.RowKit
theorem yu {n i : Nat} {D : Nat -> Bool} (hi : i < n) (h1 : D i = true) (h2 : ∀ j, j < i -> D j = false) : cB n D = some i := by
 cases h : cB n D with
 | none =>
  unfold cB at h
  rw [List.find?_eq_none] at h
  exact absurd h1 (h i (by simpa using hi))
 | some k =>
  obtain ⟨hk, hk1, hk2⟩ := least_some h
  rcases Nat.lt_trichotomy k i with e | e | e
  ·rw [h2 k e] at hk1; cases hk1
  ·rw [e]
  ·rw [hk2 i e] at h1; cases h1
theorem uX {n : Nat} {D : Nat -> Bool} (h2 : ∀ j, j < n -> D j = false) : cB n D = none := by
 unfold cB
 rw [List.find?_eq_none]
 intro j hj
 have : j < n := by simpa using hj
 rw [h2 j this]
 simp
theorem Bu : (Tryd.prog.info? 77).map (fun i => (i.zero, i.size, i.bytes)) = some (some (.agg #[.bool false, .bool false, .int .i64 0, .int .i64 0, .int .i64 0, .bool false]), 6, 40) := by kernel_rfl
theorem yw (k : Nat) : List.replicate (k + 1) rs0 = List.replicate k rs0 ++ [rs0] := by rw [List.replicate_succ']
theorem StO.push {W : World} {B : Nat} {v : Value} {k : Nat} (h : StO W B v (List.replicate k rs0)) (hB : B <= W.heap.size) (hk : k <= 268435456) : ∃ g c W3, (∀ ty, (Builtin.append_ #[56, 56] ty #[v, .slice (some ⟨W.heap.size, 0, none⟩) 1 1]).run Tryd.prog (W.alloc (.cells #[.bool false, .bool false, .int .i64 0, .int .i64 (-1), .int .i64 (-1), .bool false] 77)) = .ok (.slice (some ⟨g, 0, none⟩) (k + 1) c) W3) /\ StO W3 B (.slice (some ⟨g, 0, none⟩) (k + 1) c) (List.replicate (k + 1) rs0) /\ Below B W W3 /\ (∀ (y : Nat) (o : Obj), (∀ cs, o ≠ Obj.cells cs 77 (0, 0)) -> W.heap[y]? = some o -> W3.heap[y]? = some o) := by
 obtain ⟨i0, hi0, iz0, iz1, iz2⟩ := info_parts Bu
 have h' := h
 unfold StO at h'
 rw [List.length_replicate] at h'
 obtain ⟨g, c, W1, r, o, gr, _, hg⟩ := app1 Tryd.underlying56 hi0 iz0 iz1 iz2 rfl (by decide) W B v k _ h' #[.bool false, .bool false, .int .i64 0, .int .i64 (-1), .int .i64 (-1), .bool false] rfl (by simp [Value.oneCell']) (by unfold maxLen; omega) (by omega) hB
 refine ⟨g, c, W1, r, ?_, (Below.refl B W).grown gr hB fun q hq => (aD h' hq).1, fun y o' hy ho => dF gr ho fun e => ?_⟩
 ·unfold StO
  rw [List.length_replicate, yw, xP]
  exact o
 ·obtain ⟨cs, fz, hc⟩ := bM h' y e
  rw [ho] at hc
  have : fz = (0, 0) := by
   rcases h'.2 with ⟨q, _⟩ | ⟨g', cap, cur, q, _, q2, _⟩
   ·rw [q] at e; cases e
   ·rw [q] at e
    simp only [Value.ownBlock, Option.some.injEq] at e
    rw [e, ho, hc] at q2
    simp at q2
    exact q2.2
  subst this
  exact hy cs (by simpa using hc)
structure BM (p : CPg) : Prop where
 ok : iK p p.slots.toNat p.params.toNat
 arm : ∀ i, (inA p.code i).op = 27 -> bC (inA p.code i).list = true
theorem mF (w : World) (u : CUn) (pa ta : Option Addr) (pc tc : Nat) (hu : dL w w.heap.size pa pc ta tc u) (k : Nat) (hk : k < u.ae.length) (hp : BM u.ae[k]) :
  Calls Tryd.prog 25 #[unV u pa pc ta tc, .int .i64 (k : Nat)] w fun e w' => ∃ v S, e = .returned (.tuple #[v, .int .i64 ((dB u.ae[k]).1 : Nat), .int .i64 (dB u.ae[k]).2.1]) /\ Bx (Below w.heap.size w w' /\ StO w' w.heap.size v S /\ S.length = u.ae[k].code.length /\ ((dB u.ae[k]).2.1 = 0 -> Rel u.ae[k].code.length (lvS u.ae[k].slots.toNat) u.ae[k].slots.toNat u.ae[k].params S (dB u.ae[k]).2.2)) := by
 obtain ⟨pb, po, ca, cc, rfl, hpb, hcode, HC⟩ := bR hu.ae hk
 have hpc := hu.ae.cap
 have hpm := hu.ae.max
 unfold maxLen at hpm
 obtain ⟨pg, hpg⟩ : ∃ pg, u.ae[k] = pg := ⟨_, rfl⟩
 rw [hpg] at hp hcode HC ⊢
 obtain ⟨n, hn⟩ : ∃ n, pg.code.length = n := ⟨_, rfl⟩
 have hn0 := hp.ok.n0
 have hn1 := hp.ok.n1
 have hcc := hcode.cap
 obtain ⟨H, hH⟩ : ∃ H, w.heap.size = H := ⟨_, rfl⟩
 obtain ⟨w1, hw1⟩ : ∃ w1, w.alloc (.cells #[.slice (some ⟨pb, po, none⟩) u.ae.length pc, .slice ta u.types.length tc] 25) = w1 := ⟨_, rfl⟩
 obtain ⟨w2, hw2⟩ : ∃ w2, w1.alloc (.cells (pgC pg ca cc) 40) = w2 := ⟨_, rfl⟩
 have b1 : Below w.heap.size w w1 := by rw [← hw1]; exact ak w _
 have b2 : Below w1.heap.size w1 w2 := by rw [← hw2]; exact ak w1 _
 have e1 : w1.heap.size = H + 1 := by rw [← hw1]; simp [hH]
 have q1 : w1.heap[H]? = some (.cells #[.slice (some ⟨pb, po, none⟩) u.ae.length pc, .slice ta u.types.length tc] 25 (0, 0)) := by rw [← hw1]; exact aj _ _ _ hH
 have q2 : w2.heap[H + 1]? = some (.cells (pgC pg ca cc) 40 (0, 0)) := by rw [← hw2]; exact aj _ _ _ e1
 have b12 : Below w.heap.size w w2 := b1.trans (b2.mono b1.size)
 have u0 := aa (i := 0) q1 rfl
 have u1 := aa (i := 1) q1 rfl
 have hl1 : H < w1.heap.size := ah q1
 obtain ⟨c0, c1, c2, c3, c4⟩ := HC.out w1 b1
 have hpb1 : pb < w1.heap.size := by have := b1.size; omega
 have hkI : (k : Int) < (u.ae.length : Int) := by omega
 have hPQ : ∀ X : World, X.heap[H + 1]? = some (.cells (pgC pg ca cc) 40 (0, 0)) -> (X.cell? ⟨H + 1, 0, none⟩ = some (.int .i64 pg.params) /\ X.cell? ⟨H + 1, 1, none⟩ = some (.int .i64 pg.slots) /\ X.cell? ⟨H + 1, 2, none⟩ = some (.int .i64 pg.caps) /\ X.cell? ⟨H + 1, 3, none⟩ = some (.bool pg.res) /\ X.cell? ⟨H + 1, 4, none⟩ = some (.slice ca n cc) /\ H + 1 < X.heap.size) := fun X hX => ⟨aa hX rfl, aa hX rfl, aa hX rfl, aa hX rfl, by rw [← hn]; exact aa hX rfl, ah hX⟩
 have HPQ : Bx _ := ⟨hPQ⟩
 obtain ⟨p0, p1, p2, p3, p4, p5⟩ := hPQ w2 q2
 have HW : Bx (w2.heap[H + 1]? = some (.cells (pgC pg ca cc) 40 (0, 0)) /\ Below H w w2 /\ StO w2 H (.slice none 0 0) (List.replicate 0 rs0) /\ H <= w2.heap.size) := ⟨q2, by rw [← hH]; exact b12, ⟨rfl, .inl ⟨rfl, rfl⟩⟩, by have := ah q2; omega⟩
 have HP : Bx _ := ⟨hp⟩
 have HCD : Bx (∀ X, Below H w X -> Row (cu X H) H 4 ca cc pg.code) := ⟨fun X hX => by rw [← hH] at hX ⊢; exact hcode.mono fun b o x hb he => he.below hX (Nat.le_refl _) hb⟩
 have HN : Bx (pg.code.length = n) := ⟨hn⟩
 rw [hn] at hn0 hn1 hcc c4
 have HWY : Bx (eO n pg.res (lvS pg.slots.toNat) pg.code (3 * n + 1) (st0 n pg.slots.toNat pg.params.toNat (List.replicate n (0, 0))) = dB pg) := ⟨by unfold dB gy; rw [hn]⟩
 generalize hRES : dB pg = RES at *
 have HRS : Bx (dB pg = RES) := ⟨hRES⟩
 obtain ⟨ri, re, rs⟩ := RES
 unfold pgC at hw2
 unfold unV
 rw [hn] at hw2
 clear hRES hPQ hu hcode HC b1 b2 q1 q2 b12 hp hn
 rw [hH]
 go_enter Tryd.func25, Tryd.ntmps25
 go_wp2
 go_loopg [8, 19] (n + 1) (fun f v8 v19 wr => ∃ j : Nat, f = n + 1 - j /\ j <= n /\ v19 = .int .i64 j /\ Bx (wr.heap[H + 1]? = some (.cells (pgC pg ca cc) 40 (0, 0)) /\ Below H w wr /\ StO wr H v8 (List.replicate j rs0) /\ H <= wr.heap.size))
 case atStart => exact ⟨0, by simp, Nat.zero_le _, rfl, HW⟩
 case round =>
  clear HW p0 p1 p2 p3 p4 p5 c0 c1 c2 c3 c4 u0 u1
  obtain ⟨j, hf, hj, rfl, HR⟩ := hrel
  by_cases hlt : j < n
  ·have hjI : (j : Int) < (n : Int) := by omega
   obtain ⟨g, c, W3, r3, q3, b3, k3⟩ := HR.out.2.2.1.push HR.out.2.2.2 (by omega)
   have HN3 : Bx (W3.heap[H + 1]? = some (.cells (pgC pg ca cc) 40 (0, 0)) /\ Below H w W3 /\ StO W3 H (.slice (some ⟨g, 0, none⟩) (j + 1) c) (List.replicate (j + 1) rs0) /\ H <= W3.heap.size) := ⟨k3 _ _ (fun cs e => by simp at e) HR.out.1, HR.out.2.1.trans b3, q3, Nat.le_trans HR.out.2.2.2 b3.size⟩
   clear HR q3 b3 k3
   go_wp2_with (first
    | (at_builtin; refine aJ rfl (.tmp 21) (.tmp 23) 56 rfl rfl rfl r3 ?_)
    | fail)
   go_roundg (n + 1 - (j + 1))
   case measure => omega
   case rel => exact ⟨j + 1, rfl, by omega, by go_num, HN3⟩
  ·obtain rfl : j = n := by omega
   have hrl : (List.replicate j rs0).length = j := by simp
   obtain ⟨g, c, e, hcl, hcm, hgB, hgl, _⟩ := HR.out.2.2.1.ex (i := 0) (by simp; omega)
   subst e
   have hO := HR.out.2.2.1
   have s0 := (hO.cells (i := 0) (by simp; omega)).1
   have hput := hO.put (i := 0) (by simp; omega) { rs0 with come := true } 0 (by decide) (.bool true) rfl (fun q hq => by
    rw [List.getElem_replicate]
    rcases q with _ | q
    ·exact absurd rfl hq
    ·rfl)
   simp only [Nat.zero_mul, Nat.zero_add] at hput s0
   have hfz : wr.frozen? ⟨g, 0, none⟩ = false := by
    obtain ⟨g', c', e, _, _, _, _, cur, hq, _⟩ := hO.ex (i := 0) (by simp; omega)
    simp only [Value.slice.injEq, Option.some.injEq, Addr.mk.injEq] at e
    obtain ⟨⟨rfl, _⟩, _⟩ := e
    exact aL hq
   rw [hrl] at hcl
   obtain ⟨W5, hW5⟩ : ∃ W5, wr.setCell ⟨g, 0, none⟩ (.bool true) = W5 := ⟨_, rfl⟩
   rw [hW5] at hput
   have hks : pg.code.length <= (List.replicate j ((0, 0) : Wy)).length := by rw [HN.out]; simp
   have hrel0 := uq HP.out.ok hks
   have hkv0 := xB HP.out.ok hks
   rw [HN.out] at hrel0 hkv0
   obtain ⟨vv, hvv⟩ : ∃ vv, Value.slice (some ⟨g, 0, none⟩) j c = vv := ⟨_, rfl⟩
   have hb5 : Below H wr W5 := by rw [← hW5]; exact (Below.refl H wr).setCell (p := ⟨g, 0, none⟩) hgB _
   have hgH : g ≠ H + 1 := fun e => by
    obtain ⟨g', c', e', _, _, _, _, cur, hq, _⟩ := hO.ex (i := 0) (by simp; omega)
    simp only [Value.slice.injEq, Option.some.injEq, Addr.mk.injEq] at e'
    obtain ⟨⟨rfl, _⟩, _⟩ := e'
    have := HR.out.1
    rw [← e, hq] at this
    simp at this
   have HST : Bx (StO W5 H (.slice (some ⟨g, 0, none⟩) j c) ((List.replicate j rs0).set 0 { rs0 with come := true }) /\ Rel j (lvS pg.slots.toNat) pg.slots.toNat pg.params ((List.replicate j rs0).set 0 { rs0 with come := true }) (st0 j pg.slots.toNat pg.params.toNat (List.replicate j (0, 0))) /\ W5.heap[H + 1]? = some (.cells (pgC pg ca cc) 40 (0, 0)) /\ Below H w W5 /\ H <= W5.heap.size) := ⟨by rw [hrl] at hput; exact hput, hrel0, by rw [← hW5, Below.heap_setCell wr ⟨g, 0, none⟩ _ (H + 1) (Ne.symm hgH)]; exact HR.out.1, HR.out.2.1.trans hb5, Nat.le_trans HR.out.2.2.2 hb5.size⟩
   have HKV : Bx (mea j (st0 j pg.slots.toNat pg.params.toNat (List.replicate j (0, 0))).K (st0 j pg.slots.toNat pg.params.toNat (List.replicate j (0, 0))).D < 3 * j + 1 /\ eP (st0 j pg.slots.toNat pg.params.toNat (List.replicate j (0, 0))).P /\ Kv j (lvS pg.slots.toNat) 1 (st0 j pg.slots.toNat pg.params.toNat (List.replicate j (0, 0))).P (st0 j pg.slots.toNat pg.params.toNat (List.replicate j (0, 0))).K (st0 j pg.slots.toNat pg.params.toNat (List.replicate j (0, 0))).D) := ⟨Nat.lt_succ_of_le wG, hkv0.1, hkv0.2⟩
   clear HR hO hput hrel0 hkv0 hb5 hks hrl hvv
   go_wp2
   go_loopg [9] (3 * j + 2) (fun f v9 wr => ∃ (fu m : Nat) (S : List RSt) (s : Wst), f = fu + 1 /\ m + 2 * fu <= 6 * j + 3 /\ Bx (eO j pg.res (lvS pg.slots.toNat) pg.code fu s = (ri, re, rs)) /\ Bx (mea j s.K s.D < fu /\ eP s.P /\ Kv j (lvS pg.slots.toNat) m s.P s.K s.D) /\ Bx (StO wr H (.slice (some ⟨g, 0, none⟩) j c) S /\ Rel j (lvS pg.slots.toNat) pg.slots.toNat pg.params S s /\ wr.heap[H + 1]? = some (.cells (pgC pg ca cc) 40 (0, 0)) /\ Below H w wr /\ H <= wr.heap.size))
   case atStart => exact ⟨3 * j + 1, 1, _, _, rfl, by omega, HWY, HKV, HST⟩
   case round =>
    clear HWY HKV HST hW5 s0 hfz
    obtain ⟨fu, m, S, s, hf2, hmf, HRUN, HKV, HR⟩ := hrel
    obtain ⟨wC, rfl⟩ : ∃ X, X = wr := ⟨_, rfl⟩
    have hSl : S.length = j := HR.out.2.1.len
    have hO := HR.out.1
    rw [← hSl] at hO
    have hgC : g < wC.heap.size := by
     obtain ⟨g', c', e, _, _, _, hl, _⟩ := hO.ex (i := 0) (by omega)
     simp only [Value.slice.injEq, Option.some.injEq, Addr.mk.injEq] at e
     obtain ⟨⟨rfl, _⟩, _⟩ := e
     exact hl
    clear hO
    go_wp2
    go_loopg [9] (j + 1) (fun f v9 wr => ∃ q : Nat, f = j + 1 - q /\ q <= j /\ v9 = .int .i64 q /\ wr = wC /\ Bx (∀ i, i < q -> s.D i = false))
    case atStart => exact ⟨0, by simp, Nat.zero_le _, rfl, rfl, ⟨fun i hi => by omega⟩⟩
    case round =>
     obtain ⟨q, hf3, hq, rfl, rfl, HQ⟩ := hrel
     obtain ⟨wD, rfl⟩ : ∃ X, X = wr := ⟨_, rfl⟩
     by_cases hlt2 : q < j
     ·have hqS : q < S.length := by omega
      have hO : StO wD H (.slice (some ⟨g, 0, none⟩) S.length c) S := by have := HR.out.1; rw [hSl]; exact this
      obtain ⟨s0, s1, s2, s3, s4, s5⟩ := hO.cells hqS
      have hdue := HR.out.2.1.due q hlt2
      rw [dD hqS] at hdue
      have hqI : (q : Int) < (j : Int) := by omega
      cases hcm2 : S[q].come with
      | false =>
       rw [hcm2] at s0 hdue
       have HQ2 : Bx (∀ i, i < q + 1 -> s.D i = false) := ⟨fun i hi => by
        by_cases e : i = q
        ·subst e; rw [hdue]; rfl
        ·exact HQ.out i (by omega)⟩
       clear HQ HR hO s1 s2 s3 s4 s5 hdue HRUN HKV
       go_wp2
       go_roundg (j + 1 - (q + 1))
       case measure => omega
       case rel => exact ⟨q + 1, rfl, by omega, by go_num, rfl, HQ2⟩
      | true =>
       cases hsn : S[q].seen with
       | true =>
        rw [hcm2] at s0 hdue
        rw [hsn] at s1 hdue
        have HQ2 : Bx (∀ i, i < q + 1 -> s.D i = false) := ⟨fun i hi => by
         by_cases e : i = q
         ·subst e; rw [hdue]; rfl
         ·exact HQ.out i (by omega)⟩
        clear HQ HR hO s2 s3 s4 s5 hdue HRUN HKV
        go_wp2
        go_roundg (j + 1 - (q + 1))
        case measure => omega
        case rel => exact ⟨q + 1, rfl, by omega, by go_num, rfl, HQ2⟩
       | false =>
        rw [hcm2] at s0 hdue
        rw [hsn] at s1 hdue
        have hD : s.D q = true := by rw [hdue]; rfl
        have hls := yu hlt2 hD HQ.out
        have hrun := HRUN.out
        obtain ⟨hmea, hpr, hkv⟩ := HKV.out
        obtain ⟨fu', rfl⟩ : ∃ fu', fu = fu' + 1 := ⟨fu - 1, by omega⟩
        rw [eO, hls] at hrun
        simp only at hrun
        have hrc : (rsA S q).come = true := by rw [dD hqS]; exact hcm2
        have hsee := HR.out.2.1.see hlt2 hrc
        rw [dD hqS] at hsee
        obtain ⟨W6, hW6⟩ : ∃ W6, wD.setCell ⟨g, q * 6 + 1, none⟩ (.bool true) = W6 := ⟨_, rfl⟩
        have hO6 := hO.put hqS { S[q] with seen := true } 1 (by decide) (.bool true) rfl (fun z hz => by
         rcases z with _ | _ | z
         ·rfl
         ·exact absurd rfl hz
         ·rfl)
        rw [hW6] at hO6
        have hfz : wD.frozen? ⟨g, q * 6 + 1, none⟩ = false := by
         obtain ⟨g', c', e, _, _, _, _, cur, hqq, _⟩ := hO.ex hqS
         simp only [Value.slice.injEq, Option.some.injEq, Addr.mk.injEq] at e
         obtain ⟨⟨rfl, _⟩, _⟩ := e
         exact aL hqq
        have hb6 : Below H wD W6 := by rw [← hW6]; exact (Below.refl H wD).setCell (p := ⟨g, q * 6 + 1, none⟩) hgB _
        have hw6 : Below H w W6 := HR.out.2.2.2.1.trans hb6
        have hH6 : H <= W6.heap.size := Nat.le_trans HR.out.2.2.2.2 hb6.size
        have h16 : W6.heap[H + 1]? = some (.cells (pgC pg ca cc) 40 (0, 0)) := by rw [← hW6, Below.heap_setCell wD ⟨g, q * 6 + 1, none⟩ _ (H + 1) (Ne.symm hgH)]; exact HR.out.2.2.1
        obtain ⟨p0, p1, p2, p3, p4, p5⟩ := HPQ.out W6 h16
        have hqn : q < pg.code.length := by rw [HN.out]; exact hlt2
        obtain ⟨hlkx, hwfx, hllx⟩ := HP.out.ok.Bl hqn
        have hes := HP.out.ok.es
        rw [hes] at hlkx
        have hnz := (hkv.dn q hD).2
        have hab := hkv.ab q hlt2
        have hslL : pg.slots.toNat <= 2 ^ (6 + lvS pg.slots.toNat) := Nat.le_of_lt (vU (by have := HP.out.ok.sl1; omega))
        have hlk := uW W6 H hH6 pg ca cc (HCD.out W6 hw6) HP.out.ok.n1 (.slice (some ⟨g, 0, none⟩) S.length c) H hH6 (Nat.le_refl _) _ (by show StO W6 H (.slice (some ⟨g, 0, none⟩) S.length c) (S.set q { S[q] with seen := true }); exact hO6) (L := lvS pg.slots.toNat) (sl := pg.slots.toNat) (s := ⟨s.P, s.K, del q s.D⟩) (by rw [HN.out]; exact hsee) hes HP.out.ok.sl1 hslL q hqn hnz (by show (kA s.K q).1 < _; omega) hwfx hllx hlkx (HP.out.arm q)
        have hlkv := nk (res := pg.res) (L := lvS pg.slots.toNat) (m := m) (s := ⟨s.P, s.K, del q s.D⟩) hlkx hqn hpr (by rw [HN.out]; exact hkv.del q) (hkv.vs q hlt2 hnz) hab
        have hmd := rO (K := s.K) hlt2 hD
        rw [HN.out, hSl] at hlk
        rw [HN.out] at hlkv
        generalize hLP : bY j pg.res (lvS pg.slots.toNat) q (inA pg.code q) (kA s.K q) ⟨s.P, s.K, del q s.D⟩ = LP at *
        have hlme := hlkv.mea
        have HLV : Bx (eP LP.2.P /\ Kv j (lvS pg.slots.toNat) (m + 2) LP.2.P LP.2.K LP.2.D /\ mea j LP.2.K LP.2.D < fu') := ⟨hlkv.pr, hlkv.kv, by simp only at hlme; omega⟩
        have HLK : Bx _ := ⟨hlk⟩
        have HBB : Bx (Below H w W6 /\ H <= W6.heap.size /\ W6.heap[H + 1]? = some (.cells (pgC pg ca cc) 40 (0, 0)) /\ (S.set q { S[q] with seen := true }).length = j /\ g ≠ H + 1 /\ H <= g) := ⟨hw6, hH6, h16, by rw [List.length_set]; exact hSl, hgH, hgB⟩
        have hlast : ∀ Y : World, W6.grownBy Y (Value.slice (some ⟨g, 0, none⟩) j c).ownBlock -> Y.heap[H + 1]? = some (.cells (pgC pg ca cc) 40 (0, 0)) /\ Below H w Y /\ H <= Y.heap.size := fun Y hY => ⟨(hY.block (H + 1) (ah h16) (fun e => hgH (by simpa [Value.ownBlock] using e.symm))).trans h16, hw6.trans ((Below.refl H W6).grown hY hH6 fun z hz => by
         simp only [Value.ownBlock, Option.some.injEq] at hz
         omega), Nat.le_trans hH6 hY.size⟩
        have HLST : Bx _ := ⟨hlast⟩
        clear hlast hlk hlkv hlme hmd hw6 hb6 hO6 hsee hrc hls hdue HQ HKV HRUN HR hO s2 s3 s4 s5 hD hmea hpr hkv hlkx hwfx hllx hes hnz hab hslL hLP hcm2 hsn
        unfold pgC at HLK
        rw [HN.out] at HLK
        by_cases h0 : LP.1 = 0
        ·have hb0 : (LP.1 != 0) = false := by simpa using h0
         rw [if_pos h0] at hrun
         have HRUN : Bx _ := ⟨hrun⟩
         have HL0 : Bx (LP.1 = 0) := ⟨h0⟩
         generalize LP.1 = le at *
         clear hrun h0
         go_wp2_with (first
          | (go_at_call 38; refine HLK.out.mono ?_; rintro e w7 ⟨rfl, HS7⟩)
          | fail)
         go_roundg (fu' + 1)
         case measure => omega
         case rel =>
          obtain ⟨S', t1, t2, t3, t4⟩ := HS7.out
          exact ⟨fu', m + 2, S', LP.2, rfl, by omega, HRUN, ⟨HLV.out.2.2, HLV.out.1, HLV.out.2.1⟩, ⟨t1, t4 HL0.out, (HLST.out w7 t2).1, (HLST.out w7 t2).2.1, (HLST.out w7 t2).2.2⟩⟩
        ·have hb0 : (LP.1 != 0) = true := by simpa using h0
         rw [if_neg h0] at hrun
         have HL0 : Bx (LP.1 ≠ 0) := ⟨h0⟩
         simp only [Prod.mk.injEq] at hrun
         obtain ⟨hr1, hr2⟩ := hrun
         have HR12 : Bx (q = ri /\ LP.1 = re) := ⟨hr1, congrArg Prod.fst hr2⟩
         clear hr1 hr2 HRS
         generalize LP.1 = le at *
         clear h0
         go_wp2_with (first
          | (go_at_call 38; refine HLK.out.mono ?_; rintro e w7 ⟨rfl, HS7⟩)
          | fail)
         go_ret3
         obtain ⟨S', t1, t2, t3, t4⟩ := HS7.out
         obtain ⟨rfl, rfl⟩ := HR12.out
         exact ⟨_, S', rfl, ⟨(HLST.out w7 t2).2.1, t1, t3.trans (HBB.out.2.2.2.1.trans HN.out.symm), fun e => absurd e HL0.out⟩⟩
     ·obtain rfl : q = j := by omega
      have HDN : Bx (eO q pg.res (lvS pg.slots.toNat) pg.code fu s = (0, 0, s)) := ⟨by
       cases fu with
       | zero => have := HKV.out.1; omega
       | succ fu => rw [eO, uX HQ.out]⟩
      have heq : ((ri, re, rs) : Nat × Int × Wst) = (0, 0, s) := HRUN.out.symm.trans HDN.out
      have HFN : Bx (Below H w wD /\ StO wD H (.slice (some ⟨g, 0, none⟩) q c) S /\ S.length = q /\ Rel q (lvS pg.slots.toNat) pg.slots.toNat pg.params S s) := ⟨HR.out.2.2.2.1, HR.out.1, hSl, HR.out.2.1⟩
      cases heq
      have hgn : ((q : Int) < (q : Int)) = False := by simp
      clear HQ HR HRUN HKV HDN
      go_wp2
      go_ret3
      first | exact ⟨_, S, rfl, ⟨HFN.out.1, HFN.out.2.1, HFN.out.2.2.1.trans HN.out.symm, fun _ => by rw [HN.out]; exact HFN.out.2.2.2⟩⟩ | exact ⟨_, rfl, S, ⟨HFN.out.1, HFN.out.2.1, HFN.out.2.2.1, HFN.out.2.2.2⟩⟩ | exact ⟨_, rfl, S, ⟨HFN.out.1, HFN.out.2.1, HFN.out.2.2.1.trans HN.out.symm, by rw [HN.out]; exact HFN.out.2.2.2⟩⟩ | exact ⟨_, rfl, S, ⟨HFN.out.1, HFN.out.2.1, HFN.out.2.2.1.trans HN.out.symm, fun _ => by rw [HN.out]; exact HFN.out.2.2.2⟩⟩
structure UnL (u : CUn) : Prop where
 np : u.ae.length <= 17592186044416
 nt : u.types.length <= 17592186044416
 kids : ∀ t ∈ u.types, t.kids.length <= 17592186044416
 code : ∀ p ∈ u.ae, p.code.length <= 17592186044416
 list : ∀ p ∈ u.ae, ∀ x ∈ p.code, x.list.length <= 17592186044416
structure UnK (u : CUn) : Prop where
 ty : dU u.types + u.types.length <= 2147483647
 ls : ∀ p ∈ u.ae, ∀ x ∈ p.code, x.list.length <= 2147483647
theorem UnK.w {u : CUn} (h : UnK u) (hw : u.Wf) : UnW u :=
 ⟨fun p hp x hx => (hw.ae p hp).code x hx, fun p hp x hx => by have := h.ls p hp x hx; omega, by have := h.ty; omega, by have := h.ty; omega⟩
theorem uY {l : List CTy} {k : Nat} (h : k < l.length) : dU (l.take (k + 1)) = dU (l.take k) + l[k].kids.length := by
 unfold dU
 rw [List.take_succ_eq_append_getElem h, List.map_append, List.sum_append]
 simp
end Go.Proofs.YtadmpgegolmkgaaDoor
