import Derived.Test.YtadmpgegolmkgaaDoorBWfN
set_option linter.unusedVariables false
set_option linter.unusedSimpArgs false
set_option maxHeartbeats 4000000
set_option maxRecDepth 100000
namespace Go.Proofs.YtadmpgegolmkgaaDoor
open Go.RowKit
theorem ul (w : World) (B : Nat) (hB : B <= w.heap.size) (ta : Option Addr) (tc : Nat) (ts : List CTy) (hr : Row (jT w B) B 3 ta tc ts) (hv : TsV ts) (hp : ∀ r, bG ts r -> 0 < (tyA ts r).kids.length) (hsum : dU ts <= 4294967296) (hlen : ts.length <= 2147483648) (row : Nat) (hrow : row < ts.length) (ht : bG ts row) :
  Calls Tryd.prog 76 #[.slice ta ts.length tc, .int .i64 row] w fun e w' => ∃ b : Bool, e = .returned (.bool b) /\ Bx ((b = true ↔ Rp ts row row) /\ Below w.heap.size w w') := by
 have hcap := hr.cap
 have hmx := hr.max
 unfold maxLen at hmx
 have HT : Bx (∀ k (hk : k < ts.length), _) := ⟨fun k hk => fq hr hk⟩
 have HP : Bx _ := ⟨hp⟩
 have hun : ∀ S, unS ts S <= 4294967296 := fun S => by
  have h1 := oW ts
  have h2 : unS ts S <= unS ts [] := xy ts S
  unfold dU at hsum
  omega
 have HUN : Bx _ := ⟨hun⟩
 obtain ⟨H, hH⟩ : ∃ H, w.heap.size = H := ⟨_, rfl⟩
 obtain ⟨b0, o0, ka0, kc0, hta, hb0, hks0, HC0⟩ := HT.out row hrow
 subst hta
 obtain ⟨d0, d1, d2⟩ := HC0.out w (Below.refl _ _)
 have hkp := hp row ht
 have hst0 := QS.start w
 have hk0' : (tyA ts row).kids = ts[row].kids := by rw [gP hrow]
 have hl0 : ts[row].kids.length <= 4294967296 := by
  have := HUN.out []
  have h2 : (tyA ts row).kids.length <= unS ts [] := by
   have := kU (S := []) (ts := ts) (x := (row : Int)) (by omega) (by omega) (by simp)
   simp at this
   omega
  rw [hk0'] at h2
  omega
 rw [hk0'] at hkp
 obtain ⟨v1, W1, r1, q1⟩ := hst0.Bq hB hks0 hkp (by simp; omega)
 have HQ0 : Bx (QS w W1 H (.slice none 0 0) v1 [] ts[row].kids /\ BkS ts row [] ts[row].kids) := ⟨by rw [← hH]; simpa using q1, by rw [← hk0']; exact BkS.start hv ht⟩
 obtain ⟨fl0, hfl0⟩ : ∃ f, ts[row].kids.length + unS ts [] + 1 = f := ⟨_, rfl⟩
 have hrI : (row : Int) < (ts.length : Int) := by omega
 have hHw : Bx (w.heap.size = H) := ⟨hH⟩
 have hbw : b0 < w.heap.size := by omega
 have HRW : Bx (row < ts.length) := ⟨hrow⟩
 clear hr hst0 q1 hp hun hks0 HC0 hkp ht hH
 go_enter Tryd.func76, Tryd.ntmps76
 go_wp2_with (first
  | (at_builtin; refine aJ rfl (.tmp 8) (.tmp 13) 32 rfl rfl rfl r1 ?_)
  | fail)
 go_loopg [5, 6] fl0 (fun f v5 v6 wr => ∃ S N : List Int, f = N.length + unS ts S + 1 /\ N.length + unS ts S <= 8589934592 /\ Bx (QS w wr H v5 v6 S N /\ BkS ts row S N))
 case atStart => exact ⟨[], ts[row].kids, hfl0.symm, by have := HUN.out []; omega, HQ0⟩
 case round =>
  clear HQ0 r1 d0 d1 d2 hk0' hl0 hfl0 hbw
  obtain ⟨S, N, hf, hmx2, HQ⟩ := hrel
  cases N with
  | nil =>
   obtain ⟨a6, c6, rfl, hc6⟩ := HQ.out.1.qm.slice
   have HN : Bx (¬ Rp ts row row) := ⟨HQ.out.2.no hv⟩
   have HB : Bx (Below w.heap.size w wr) := ⟨by rw [hHw.out]; exact HQ.out.1.bel⟩
   clear HQ
   simp only [List.length_nil] at *
   go_wp2
   go_ret
   exact ⟨false, rfl, ⟨by simp [HN.out], HB.out⟩⟩
  | cons x N =>
   obtain ⟨b, off, cap, rfl, hcl, hcm, hx0, htl⟩ := HQ.out.1.tail
   obtain ⟨a5, c5, rfl⟩ := aN HQ.out.1.own
   have hxb := HQ.out.2.sr.nb x List.mem_cons_self
   obtain ⟨ka, hka⟩ : ∃ y, (if cap = 1 then some (⟨b, off, none⟩ : Addr) else some ⟨b, off + 1, none⟩) = y := ⟨_, rfl⟩
   have HTL : Bx _ := ⟨htl ka hka⟩
   have hblt : b < wr.heap.size := by
    rcases HQ.out.1.qm with ⟨e, _⟩ | ⟨b', off', cap', cur, e, _, e2, _⟩
    ·cases e
    ·simp only [Value.slice.injEq, Option.some.injEq, Addr.mk.injEq] at e
     obtain ⟨⟨rfl, _⟩, _⟩ := e
     exact ah e2
   clear htl
   unfold maxLen at hcm
   by_cases hxr : x = row
   ·have HN : Bx (Rp ts row row) := ⟨HQ.out.2.yes hxr⟩
    have HB : Bx (Below w.heap.size w wr) := ⟨by rw [hHw.out]; exact HQ.out.1.bel⟩
    clear HQ HTL
    subst hxr
    simp only [List.length_cons] at *
    go_wp2
    go_ret
    exact ⟨true, rfl, ⟨by simp [HN.out], HB.out⟩⟩
   ·have hg0 : (x == (row : Int)) = false := by simpa using hxr
    have hxl : x.toNat < ts.length := by omega
    obtain ⟨xn, hxn⟩ : ∃ n : Nat, x = (n : Int) := ⟨x.toNat, by omega⟩
    subst hxn
    have hxl' : xn < ts.length := by omega
    obtain ⟨b1, o1, k1, kc1, hta1, hb1, hks1, HC1⟩ := HT.out xn hxl'
    obtain ⟨rfl, rfl⟩ : b1 = b0 /\ o1 = o0 := by
     simp at hta1
     exact ⟨hta1.1.symm, hta1.2.symm⟩
    have hszw : w.heap.size <= wr.heap.size := by rw [hHw.out]; exact HQ.out.1.sz
    have hbel := HQ.out.1.bel
    rw [← hHw.out] at hbel
    obtain ⟨c0, c1, c2⟩ := HC1.out wr (hbel.mono hB)
    have hbl1 : b1 < wr.heap.size := by omega
    have hxI : (xn : Int) < (ts.length : Int) := by omega
    have hty : tyA ts xn = ts[xn] := gP hxl'
    have HSB : S.length <= 4294967296 := by
     have := eH ts.length S HQ.out.2.sr.nd fun y hy => ⟨(HQ.out.2.sr.sb y hy).1, (HQ.out.2.sr.sb y hy).2.1⟩
     omega
    by_cases hkd : ts[xn].kind = 4
    ·have hg1 : (ts[xn].kind != 4) = false := by simpa using hkd
     have hit : bG ts xn := by unfold bG; rw [hty]; exact hkd
     have HH : Bx (Calls Tryd.prog 75 #[.slice a5 S.length c5, .int .i64 (xn : Int)] wr fun e w' => e = .returned (.bool (decide ((xn : Int) ∈ S))) /\ wr = w') := ⟨oZ wr wr.heap.size a5 c5 S (jk HQ.out.1.own).1 (xn : Int)⟩
     by_cases hin : (xn : Int) ∈ S
     ·have HNX : Bx (QS w wr H (.slice a5 S.length c5) (.slice ka N.length (cap - 1)) S N /\ BkS ts row S N) := ⟨HTL.out, HQ.out.2.skip hxr (.inr hin)⟩
      rw [decide_eq_true hin] at HH
      clear HQ HTL hkd hit hin hbel hty HSB
      simp only [List.length_cons] at *
      go_wp2_with (first
       | (go_at_call 75; refine HH.out.mono ?_; rintro e w2 ⟨rfl, rfl⟩)
       | fail)
      go_roundg (N.length + unS ts S + 1)
      case measure => omega
      case rel => exact ⟨S, N, rfl, by omega, HNX⟩
     ·have hkp := HP.out xn hit
      have hus := kU (S := S) (ts := ts) (x := (xn : Int)) (by omega) (by omega) hin
      rw [show ((xn : Int)).toNat = xn by omega, hty] at hus
      rw [hty] at hkp
      obtain ⟨g, c, W3, r3, q3⟩ := HTL.out.AO (xn : Int) HSB
      simp only [List.length_cons] at hmx2 hf
      obtain ⟨v', W4, r4, q4⟩ := q3.Bq (B := B) (by rw [← hHw.out]; exact hB) hks1 hkp (by omega)
      have hB3 := q3.bel
      rw [← hHw.out] at hB3
      obtain ⟨e0, e1, e2⟩ := HC1.out W3 (hB3.mono hB)
      have hbl3 : b1 < W3.heap.size := by have := hB3.size; omega
      have HNX : Bx (QS w W4 H (.slice (some ⟨g, 0, none⟩) (S.length + 1) c) v' (S ++ [(xn : Int)]) (N ++ ts[xn].kids) /\ BkS ts row (S ++ [(xn : Int)]) (N ++ ts[xn].kids)) := ⟨q4, by
       have := HQ.out.2.push hv hxr hit hin
       rw [show ((xn : Int)).toNat = xn by omega, hty] at this
       exact this⟩
      rw [decide_eq_false hin] at HH
      have hln : (N ++ ts[xn].kids).length = N.length + ts[xn].kids.length := List.length_append
      clear HQ HTL hkd hit hin hbel hty HSB q3 q4 hkp hB3
      generalize ts[xn].kids = KS at *
      generalize ts[xn].kind = KD at *
      simp only [List.length_cons] at *
      go_wp2_with (first
       | (go_at_call 75; refine HH.out.mono ?_; rintro e w2 ⟨rfl, rfl⟩)
       | (at_builtin; refine aJ rfl (.tmp 37) (.tmp 39) 32 rfl rfl rfl r3 ?_)
       | (at_builtin; refine aJ rfl (.tmp 41) (.tmp 46) 32 rfl rfl rfl r4 ?_)
       | fail)
      go_roundg ((N ++ KS).length + unS ts (S ++ [(xn : Int)]) + 1)
      case measure => rw [hln]; omega
      case rel => exact ⟨S ++ [(xn : Int)], N ++ KS, rfl, by rw [hln]; omega, HNX⟩
    ·have hg1 : (ts[xn].kind != 4) = true := by simpa using hkd
     have hit : ¬ bG ts xn := by unfold bG; rw [hty]; exact hkd
     have HNX : Bx (QS w wr H (.slice a5 S.length c5) (.slice ka N.length (cap - 1)) S N /\ BkS ts row S N) := ⟨HTL.out, HQ.out.2.skip hxr (.inl hit)⟩
     clear HQ HTL hkd hit hbel hty HSB
     simp only [List.length_cons] at *
     go_wp2
     go_roundg (N.length + unS ts S + 1)
     case measure => omega
     case rel => exact ⟨S, N, rfl, by omega, HNX⟩
theorem um (w : World) (B : Nat) (hB : B <= w.heap.size) (ta : Option Addr) (tc : Nat) (ts : List CTy) (hr : Row (jT w B) B 3 ta tc ts) (hv : TsV ts) (hp : ∀ r, bG ts r -> 0 < (tyA ts r).kids.length) (hsum : dU ts <= 4294967296) (hlen : ts.length <= 2147483648) (row : Nat) (hrow : row < ts.length) :
  Calls Tryd.prog 54 #[.slice ta ts.length tc, .int .i64 row] w fun e w' => ∃ b : Bool, e = .returned (.bool b) /\ Bx ((b = true ↔ Gr ts row) /\ Below w.heap.size w w') := by
 have hcap := hr.cap
 have hmx := hr.max
 unfold maxLen at hmx
 have HT : Bx (∀ k (hk : k < ts.length), _) := ⟨fun k hk => fq hr hk⟩
 have HP : Bx _ := ⟨hp⟩
 have hun : ∀ S, unS ts S <= 4294967296 := fun S => by
  have h1 := oW ts
  have h2 : unS ts S <= unS ts [] := xy ts S
  unfold dU at hsum
  omega
 have HUN : Bx _ := ⟨hun⟩
 obtain ⟨H, hH⟩ : ∃ H, w.heap.size = H := ⟨_, rfl⟩
 have HBK : Bx (∀ X, Below w.heap.size w X -> ∀ r : Nat, r < ts.length -> bG ts r -> Calls Tryd.prog 76 #[.slice ta ts.length tc, .int .i64 r] X fun e w' => ∃ b : Bool, e = .returned (.bool b) /\ Bx ((b = true ↔ Rp ts r r) /\ Below X.heap.size X w')) := ⟨fun X hX r hr2 ht2 => ul X B (by have := hX.size; omega) ta tc ts (hr.mono fun b o t hb he => he.below (hX.mono hB) (Nat.le_refl _) hb) hv hp hsum hlen r hr2 ht2⟩
 obtain ⟨b0, o0, ka0, kc0, hta, hb0, hks0, HC0⟩ := HT.out row hrow
 subst hta
 have HQ0 : Bx (QS w (w.alloc (.cells #[.int .i64 row] 3)) H (.slice none 0 0) (.slice (some ⟨H, 0, none⟩) 1 1) [] [(row : Int)] /\ EnS ts row [] [(row : Int)]) := ⟨by
  rw [← hH]
  refine ⟨⟨rfl, .inl ⟨rfl, rfl⟩⟩, .inr ⟨w.heap.size, 0, 1, _, rfl, Nat.le_refl _, heap_alloc_new w _, by simp, by simp, by decide, fun i hi => ?_⟩, fun g hg => (by cases hg), ak _ _, by simp⟩
  have : i = 0 := by simp at hi; exact hi
  subst this
  rfl, EnS.start hrow⟩
 obtain ⟨fl0, hfl0⟩ : ∃ f, 1 + unS ts [] + 1 = f := ⟨_, rfl⟩
 have hrI : (row : Int) < (ts.length : Int) := by omega
 have hHw : Bx (w.heap.size = H) := ⟨hH⟩
 have HRW : Bx (row < ts.length) := ⟨hrow⟩
 clear hr hp hun hks0 HC0 hrow
 go_enter Tryd.func54, Tryd.ntmps54
 go_wp2
 go_loopg [5, 6] fl0 (fun f v5 v6 wr => ∃ S N : List Int, f = N.length + unS ts S + 1 /\ N.length + unS ts S <= 8589934592 /\ Bx (QS w wr H v5 v6 S N /\ EnS ts row S N))
 case atStart => exact ⟨[], [(row : Int)], by rw [← hfl0]; rfl, by have := HUN.out []; simp; omega, HQ0⟩
 case round =>
  clear HQ0 hfl0
  obtain ⟨S, N, hf, hmx2, HQ⟩ := hrel
  cases N with
  | nil =>
   obtain ⟨a6, c6, rfl, hc6⟩ := HQ.out.1.qm.slice
   obtain ⟨a5, c5, rfl⟩ := aN HQ.out.1.own
   have HI := (jk HQ.out.1.own).1
   have HXI : Bx (aF wr wr.heap.size a5 c5 S) := ⟨HI⟩
   have HB : Bx (Below w.heap.size w wr) := ⟨by rw [hHw.out]; exact HQ.out.1.bel⟩
   have HTE : Bx (Gr ts row ↔ ∀ x ∈ S, ¬ Rp ts x.toNat x.toNat) := ⟨HQ.out.2.tells hv HRW.out⟩
   have HSB : Bx (∀ x ∈ S, 0 <= x /\ x < (ts.length : Int) /\ bG ts x.toNat) := ⟨HQ.out.2.sr.sb⟩
   have hSc := HI.cap
   have hSm := HI.max
   unfold maxLen at hSm
   clear HQ HI
   obtain ⟨wA, rfl⟩ : ∃ X, X = wr := ⟨_, rfl⟩
   simp only [List.length_nil] at *
   go_wp2
   go_loopg [44] (S.length + 1) (fun f v44 wr => ∃ p : Nat, f = S.length + 1 - p /\ p <= S.length /\ v44 = .int .i64 p /\ Bx (Below wA.heap.size wA wr /\ ∀ x ∈ S.take p, ¬ Rp ts x.toNat x.toNat))
   case atStart => exact ⟨0, by simp, Nat.zero_le _, rfl, ⟨Below.refl _ _, by simp⟩⟩
   case round =>
    obtain ⟨p, hf2, hp, rfl, HR⟩ := hrel
    by_cases hlt : p < S.length
    ·obtain ⟨b5, o5, rfl, hb5, hcell5⟩ := HXI.out.at_ (by omega)
     have k5 := hcell5 p hlt
     have hsq := HR.out.1.size
     have hb5q : b5 < wr.heap.size := by omega
     rw [← HR.out.1.cell (p := ⟨b5, o5 + p, none⟩) hb5] at k5
     have hpI : (p : Int) < (S.length : Int) := by omega
     obtain ⟨s1, s2, s3⟩ := HSB.out S[p] (List.getElem_mem hlt)
     have hmem : S[p] ∈ S := List.getElem_mem hlt
     have htk := List.take_succ_eq_append_getElem hlt
     obtain ⟨xn, hxn⟩ : ∃ n : Nat, S[p] = (n : Int) := ⟨(S[p]).toNat, by omega⟩
     rw [hxn] at k5 s2 s3 hmem htk
     have hBq : Below w.heap.size w wr := HB.out.trans (HR.out.1.mono HB.out.size)
     have HCB : Bx _ := ⟨HBK.out wr hBq xn (by omega) (by simpa using s3)⟩
     have HNO : Bx (Rp ts xn xn -> ¬ Gr ts row) := ⟨fun e g => (HTE.out.1 g) _ hmem (by simpa using e)⟩
     have HYE : Bx (¬ Rp ts xn xn -> ∀ x ∈ S.take (p + 1), ¬ Rp ts x.toNat x.toNat) := ⟨fun e x hx => by
      rw [htk] at hx
      rcases List.mem_append.1 hx with hx | hx
      ·exact HR.out.2 x hx
      ·simp at hx; subst hx; simpa using e⟩
     have HBQ : Bx (Below w.heap.size w wr /\ Below wA.heap.size wA wr) := ⟨hBq, HR.out.1⟩
     clear hcell5 HR hBq s1 s2 s3 hmem htk hxn
     go_wp2_with (first
      | (go_at_call 76; refine HCB.out.mono ?_; rintro e w2 ⟨b, rfl, HX2⟩; cases b)
      | fail)
     ·go_roundg (S.length + 1 - (p + 1))
      case measure => omega
      case rel => exact ⟨p + 1, rfl, by omega, by go_num, ⟨HBQ.out.2.trans (HX2.out.2.mono hsq), HYE.out (fun e => by have := HX2.out.1.2 e; cases this)⟩⟩
     ·go_ret
      exact ⟨false, rfl, ⟨⟨fun e => (by cases e), fun e => absurd e (HNO.out (HX2.out.1.1 (by first | trivial | rfl)))⟩, HBQ.out.1.trans (HX2.out.2.mono HBQ.out.1.size)⟩⟩
    ·have HY : Bx (Gr ts row) := ⟨HTE.out.2 (by
      have := HR.out.2
      rw [List.take_of_length_le (by omega)] at this
      exact this)⟩
     have HBQ : Bx (Below w.heap.size w wr) := ⟨HB.out.trans (HR.out.1.mono HB.out.size)⟩
     clear HR
     go_wp2
     go_ret
     exact ⟨true, rfl, ⟨⟨fun _ => HY.out, fun _ => rfl⟩, HBQ.out⟩⟩
  | cons x N =>
   obtain ⟨b, off, cap, rfl, hcl, hcm, hx0, htl⟩ := HQ.out.1.tail
   obtain ⟨a5, c5, rfl⟩ := aN HQ.out.1.own
   have hxb := HQ.out.2.sr.nb x List.mem_cons_self
   obtain ⟨ka, hka⟩ : ∃ y, (if cap = 1 then some (⟨b, off, none⟩ : Addr) else some ⟨b, off + 1, none⟩) = y := ⟨_, rfl⟩
   have HTL : Bx _ := ⟨htl ka hka⟩
   have hblt : b < wr.heap.size := by
    rcases HQ.out.1.qm with ⟨e, _⟩ | ⟨b', off', cap', cur, e, _, e2, _⟩
    ·cases e
    ·simp only [Value.slice.injEq, Option.some.injEq, Addr.mk.injEq] at e
     obtain ⟨⟨rfl, _⟩, _⟩ := e
     exact ah e2
   clear htl
   unfold maxLen at hcm
   have hxl : x.toNat < ts.length := by omega
   obtain ⟨xn, hxn⟩ : ∃ n : Nat, x = (n : Int) := ⟨x.toNat, by omega⟩
   subst hxn
   have hxl' : xn < ts.length := by omega
   obtain ⟨b1, o1, k1, kc1, hta1, hb1, hks1, HC1⟩ := HT.out xn hxl'
   obtain ⟨rfl, rfl⟩ : b1 = b0 /\ o1 = o0 := by
    simp at hta1
    exact ⟨hta1.1.symm, hta1.2.symm⟩
   have hszw : w.heap.size <= wr.heap.size := by rw [hHw.out]; exact HQ.out.1.sz
   have hbel := HQ.out.1.bel
   rw [← hHw.out] at hbel
   obtain ⟨c0, c1, c2⟩ := HC1.out wr (hbel.mono hB)
   have hbl1 : b1 < wr.heap.size := by omega
   have hxI : (xn : Int) < (ts.length : Int) := by omega
   have hty : tyA ts xn = ts[xn] := gP hxl'
   have HSB : S.length <= 4294967296 := by
    have := eH ts.length S HQ.out.2.sr.nd fun y hy => ⟨(HQ.out.2.sr.sb y hy).1, (HQ.out.2.sr.sb y hy).2.1⟩
    omega
   by_cases hkd : ts[xn].kind = 4
   ·have hg1 : (ts[xn].kind != 4) = false := by simpa using hkd
    have hit : bG ts xn := by unfold bG; rw [hty]; exact hkd
    have HH : Bx (Calls Tryd.prog 75 #[.slice a5 S.length c5, .int .i64 (xn : Int)] wr fun e w' => e = .returned (.bool (decide ((xn : Int) ∈ S))) /\ wr = w') := ⟨oZ wr wr.heap.size a5 c5 S (jk HQ.out.1.own).1 (xn : Int)⟩
    by_cases hin : (xn : Int) ∈ S
    ·have HNX : Bx (QS w wr H (.slice a5 S.length c5) (.slice ka N.length (cap - 1)) S N /\ EnS ts row S N) := ⟨HTL.out, HQ.out.2.skip (.inr hin)⟩
     rw [decide_eq_true hin] at HH
     clear HQ HTL hkd hit hin hbel hty HSB HBK
     simp only [List.length_cons] at *
     go_wp2_with (first
      | (go_at_call 75; refine HH.out.mono ?_; rintro e w2 ⟨rfl, rfl⟩)
      | fail)
     go_roundg (N.length + unS ts S + 1)
     case measure => omega
     case rel => exact ⟨S, N, rfl, by omega, HNX⟩
    ·have hkp := HP.out xn hit
     have hus := kU (S := S) (ts := ts) (x := (xn : Int)) (by omega) (by omega) hin
     rw [show ((xn : Int)).toNat = xn by omega, hty] at hus
     rw [hty] at hkp
     obtain ⟨g, c, W3, r3, q3⟩ := HTL.out.AO (xn : Int) HSB
     simp only [List.length_cons] at hmx2 hf
     obtain ⟨v', W4, r4, q4⟩ := q3.Bq (B := B) (by rw [← hHw.out]; exact hB) hks1 hkp (by omega)
     have hB3 := q3.bel
     rw [← hHw.out] at hB3
     obtain ⟨e0, e1, e2⟩ := HC1.out W3 (hB3.mono hB)
     have hbl3 : b1 < W3.heap.size := by have := hB3.size; omega
     have HNX : Bx (QS w W4 H (.slice (some ⟨g, 0, none⟩) (S.length + 1) c) v' (S ++ [(xn : Int)]) (N ++ ts[xn].kids) /\ EnS ts row (S ++ [(xn : Int)]) (N ++ ts[xn].kids)) := ⟨q4, by
      have := HQ.out.2.push hv hit hin
      rw [show ((xn : Int)).toNat = xn by omega, hty] at this
      exact this⟩
     rw [decide_eq_false hin] at HH
     have hln : (N ++ ts[xn].kids).length = N.length + ts[xn].kids.length := List.length_append
     clear HQ HTL hkd hit hin hbel hty HSB q3 q4 hkp hB3 HBK
     generalize ts[xn].kids = KS at *
     generalize ts[xn].kind = KD at *
     simp only [List.length_cons] at *
     go_wp2_with (first
      | (go_at_call 75; refine HH.out.mono ?_; rintro e w2 ⟨rfl, rfl⟩)
      | (at_builtin; refine aJ rfl (.tmp 31) (.tmp 33) 32 rfl rfl rfl r3 ?_)
      | (at_builtin; refine aJ rfl (.tmp 35) (.tmp 40) 32 rfl rfl rfl r4 ?_)
      | fail)
     go_roundg ((N ++ KS).length + unS ts (S ++ [(xn : Int)]) + 1)
     case measure => rw [hln]; omega
     case rel => exact ⟨S ++ [(xn : Int)], N ++ KS, rfl, by rw [hln]; omega, HNX⟩
   ·have hg1 : (ts[xn].kind != 4) = true := by simpa using hkd
    have hit : ¬ bG ts xn := by unfold bG; rw [hty]; exact hkd
    have HNX : Bx (QS w wr H (.slice a5 S.length c5) (.slice ka N.length (cap - 1)) S N /\ EnS ts row S N) := ⟨HTL.out, HQ.out.2.skip (.inl hit)⟩
    clear HQ HTL hkd hit hbel hty HSB HBK
    simp only [List.length_cons] at *
    go_wp2
    go_roundg (N.length + unS ts S + 1)
    case measure => omega
    case rel => exact ⟨S, N, rfl, by omega, HNX⟩
end Go.Proofs.YtadmpgegolmkgaaDoor
