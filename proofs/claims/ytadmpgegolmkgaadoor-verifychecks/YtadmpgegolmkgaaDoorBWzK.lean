import Derived.Test.YtadmpgegolmkgaaDoorBWzJ
import Derived.Test.YtadmpgegolmkgaaDoorBWzA
import Derived.Test.YtadmpgegolmkgaaDoorBWcC
import Derived.Test.YtadmpgegolmkgaaDoorBWhE
set_option linter.unusedVariables false
set_option linter.unusedSimpArgs false
set_option maxHeartbeats 4000000
set_option maxRecDepth 100000
namespace Go.Proofs.YtadmpgegolmkgaaDoor
open Go.RowKit
theorem Ad {ts : List CTy} (h : dO ts = true) : ∀ r, bG ts r -> 0 < (tyA ts r).kids.length := by
 intro r hr
 have e := xe hr
 unfold bG at hr
 rw [gP e] at hr ⊢
 unfold dO gz at h
 rw [List.all_eq_true] at h
 have h1 := h _ (List.getElem_mem e)
 unfold kOk at h1
 rw [Bool.and_eq_true] at h1
 have h2 := h1.1
 rw [hr] at h2
 unfold bT at h2
 simp at h2
 omega
theorem yx {l : List CPg} {p : CPg} (h : p ∈ l) : p.code.length <= bL l := by
 unfold bL
 induction l with
 | nil => cases h
 | cons a r ih =>
  rw [List.map_cons, List.sum_cons]
  rcases List.mem_cons.1 h with e | e
  ·subst e; omega
  ·have := ih e; omega
theorem lV (l : List CPg) (k : Nat) : bL (l.take k) <= bL l := by
 unfold bL
 induction l generalizing k with
 | nil => simp
 | cons a r ih =>
  cases k with
  | zero => simp
  | succ k =>
   rw [List.take_succ_cons, List.map_cons, List.sum_cons, List.map_cons, List.sum_cons]
   have := ih k
   omega
theorem sF {u : CUn} (hw : UnW u) (h : (dx u).2 = false) (ha : (bH u (dfL u.types) u.ae 0).2.2 = 0) : ∀ p ∈ u.ae, BM p := by
 intro p hp
 refine ⟨nJ hw h ha p hp, fun i ho => ?_⟩
 have hz := iD ha p hp
 rcases Nat.lt_or_ge i p.code.length with e | e
 ·have hx : p.code[i]? = some (inA p.code i) := by unfold inA; rw [List.getElem?_eq_getElem e]; rfl
  have h0 := gU hz i _ hx
  rw [Nat.zero_add] at h0
  obtain ⟨_, _, h3, _, _⟩ := kY h0
  have hv : vsI (inA p.code i).op = (0, 0, 11) := dW 27 ho
  rw [hv] at h3
  unfold aO at h3
  rw [Bool.and_eq_true, Bool.and_eq_true] at h3
  have h4 : (bC (inA p.code i).list && (inA p.code i).list.length % 2 == 0) = true := h3.2.1
  rw [Bool.and_eq_true] at h4
  exact h4.1
 ·have : inA p.code i = ⟨0, 0, 0, []⟩ := by unfold inA; rw [List.getElem?_eq_none e]; rfl
  rw [this]
  rfl
theorem lD (w : World) (u : CUn) (pa ta : Option Addr) (pc tc : Nat) (hu : dL w w.heap.size pa pc ta tc u) (hw : UnW u) (hK : K2 u) :
  Calls Tryd.prog 10 #[unV u pa pc ta tc] w fun e w' => e = .returned (.tuple #[.int .i64 ((aB u).1 : Int), .int .i64 ((aB u).2.1 : Int), .int .i64 (aB u).2.2]) /\ Bx (Below w.heap.size w w') := by
 obtain ⟨H, hH⟩ : ∃ H, w.heap.size = H := ⟨_, rfl⟩
 obtain ⟨w1, hw1⟩ : ∃ w1, w.alloc (.cells #[.slice pa u.ae.length pc, .slice ta u.types.length tc] 25) = w1 := ⟨_, rfl⟩
 have b1 : Below w.heap.size w w1 := by rw [← hw1]; exact ak w _
 have q1 : w1.heap[H]? = some (.cells #[.slice pa u.ae.length pc, .slice ta u.types.length tc] 25 (0, 0)) := by rw [← hw1]; exact aj _ _ _ hH
 have s1 : w1.heap.size = H + 1 := by rw [← hw1]; simp [hH]
 have HU : Bx (∀ X, Below (H + 1) w1 X -> X.cell? ⟨H, 0, none⟩ = some (.slice pa u.ae.length pc) /\ X.cell? ⟨H, 1, none⟩ = some (.slice ta u.types.length tc) /\ H < X.heap.size) := ⟨fun X hX => ⟨aa ((hX.block H (by omega)).trans q1) rfl, aa ((hX.block H (by omega)).trans q1) rfl, by have := hX.size; omega⟩⟩
 have hXb : ∀ X, Below (H + 1) w1 X -> Below w.heap.size w X := fun X hX => b1.trans (hX.mono (by omega))
 have hBw : Bx (∀ X, Below (H + 1) w1 X -> Below w.heap.size w X) := ⟨hXb⟩
 have HVD : Bx (∀ X, Below (H + 1) w1 X -> Calls Tryd.prog 22 #[.slice ta u.types.length tc] X fun e w' => e = .returned (.bool (dO u.types)) /\ X = w') := ⟨fun X hX => qV X w.heap.size (hXb X hX).size ta tc u.types (hu.types.mono fun b o t hb he => he.below (hXb X hX) (Nat.le_refl _) hb)⟩
 have HPG : Bx (∀ k (hk : k < u.ae.length), _) := ⟨fun k hk => bR hu.ae hk⟩
 have HWI : Bx (∀ n l m X, _) := ⟨fun n l m X => aA n l m X⟩
 have HAL : Bx (dO u.types = true -> ∀ k (hk : k < u.ae.length), jo u.ae[k] k = false -> u.ae[k].code.length <= 268435456 -> ∀ X, Below (H + 1) w1 X -> ∀ ca cc, Row (cu w w.heap.size) w.heap.size 4 ca cc u.ae[k].code -> ∀ i (hi : i < u.ae[k].code.length), Calls Tryd.prog 24 #[.agg #[.slice pa u.ae.length pc, .slice ta u.types.length tc], .agg #[.int .i64 u.ae[k].params, .int .i64 u.ae[k].slots, .int .i64 u.ae[k].caps, .bool u.ae[k].res, .slice ca u.ae[k].code.length cc], .int .i64 (i : Nat)] X fun e w' => e = .returned (.int .i64 (dI u (dfL u.types) u.ae[k] i u.ae[k].code[i])) /\ Bx (Below X.heap.size X w')) := ⟨fun hv k hk hbp hcl X hX ca cc hrow i hi => by
  have hX2 := hXb X hX
  unfold jo at hbp
  simp at hbp
  have hpb := xG hbp.1 hcl
  have hm : u.ae[k] ∈ u.ae := List.getElem_mem hk
  have hm2 : u.ae[k].code[i] ∈ u.ae[k].code := List.getElem_mem hi
  have hll := hw.ls _ hm _ hm2
  have htv := xJ hv
  have htk := Ad hv
  have hKK := hK
  unfold K2 at hKK
  refine qU X u pa ta pc tc u.ae[k] ca cc ((hrow.mono fun b o x hb he => he.below hX2 hX2.size hb).up hX2.size) hcl hpb.sl hpb.cp i hi _ rfl hll (dfL u.types) fun Y ka kc hY hk2 => ?_
  have hY2 := hX2.trans (hY.mono hX2.size)
  refine qR Y u pa ta pc tc (dE hu hY2) _ ka kc (hk2.up hY.size) hll (by omega) (by omega) htv htk fun Z hZ r hr => ?_
  have hZ2 := hY2.trans (hZ.mono hY2.size)
  exact um Z Z.heap.size (Nat.le_refl _) ta tc u.types (dE hu hZ2).types htv htk hw.sk hw.tl r hr⟩
 have HFL : Bx ((dx u).2 = false -> (bH u (dfL u.types) u.ae 0).2.2 = 0 -> ∀ X, Below (H + 1) w1 X -> ∀ k (hk : k < u.ae.length), Calls Tryd.prog 25 #[.agg #[.slice pa u.ae.length pc, .slice ta u.types.length tc], .int .i64 (k : Nat)] X fun e w' => ∃ v, e = .returned (.tuple #[v, .int .i64 ((dB u.ae[k]).1 : Nat), .int .i64 (dB u.ae[k]).2.1]) /\ Bx (Below (H + 1) w1 w')) := ⟨fun hp ha X hX k hk => by
  have hX2 := hXb X hX
  refine (mF X u pa ta pc tc (dE hu hX2) k hk (sF hw hp ha _ (List.getElem_mem hk))).mono ?_
  rintro e w' ⟨v, S, rfl, q⟩
  exact ⟨v, rfl, ⟨hX.trans (q.out.1.mono (by have := hX.size; omega))⟩⟩⟩
 have HB0 : Bx (Below (H + 1) w1 w1) := ⟨Below.refl _ _⟩
 have HRW : Bx (∀ k (hk : k < u.ae.length), u.ae[k].code.length <= bL u.ae) := ⟨fun k hk => yx (List.getElem_mem hk)⟩
 obtain ⟨hu0, hu1, hu2⟩ := HU.out w1 (Below.refl _ _)
 have hpcap := hu.ae.cap
 unfold K2 at hK
 have hmany : bL u.ae <= 2147483647 := by omega
 have hpl : u.ae.length <= 2147483647 := by omega
 have HWH : Bx (w.heap.size = H /\ w1.heap.size = H + 1) := ⟨hH, s1⟩
 unfold unV
 obtain ⟨RC, hRC⟩ : ∃ RC, aB u = RC := ⟨_, rfl⟩
 rw [hRC]
 have HRC : Bx (aB u = RC) := ⟨hRC⟩
 obtain ⟨ra, rb, rc⟩ := RC
 clear hRC
 clear hu hw b1 q1 hXb hK
 go_enter Tryd.func10, Tryd.ntmps10
 go_wp2
 go_loopg [5, 22] (u.ae.length + 1) (fun f v5 v22 wr => ∃ k : Nat, f = u.ae.length + 1 - k /\ k <= u.ae.length /\ v22 = .int .i64 k /\ v5 = .int .i64 (bL (u.ae.take k) : Nat) /\ Bx (Below (H + 1) w1 wr))
 case atStart => exact ⟨0, by simp, Nat.zero_le _, rfl, by simp [bL], HB0⟩
 case round =>
  clear hu0 hu1 hu2 HB0
  obtain ⟨k, hf, hk, rfl, rfl, HB⟩ := hrel
  by_cases hlt : k < u.ae.length
  ·obtain ⟨pb, po, ca, cc, rfl, hpb, hcode, HC⟩ := HPG.out k hlt
   obtain ⟨c0, c1, c2, c3, c4⟩ := HC.out wr (hBw.out wr HB.out)
   have hsw := (hBw.out wr HB.out).size
   have hpbl : pb < wr.heap.size := by omega
   have hkI : (k : Int) < (u.ae.length : Int) := by omega
   have hcc := hcode.cap
   have hmt := lC hlt
   have hml := lV u.ae (k + 1)
   have hwr : IntKind.i64.wrap ((bL (u.ae.take k) : Int) + (u.ae[k].code.length : Int)) = ((bL (u.ae.take (k + 1)) : Nat) : Int) := by rw [IntKind.wrap_i64]; omega
   have hcl : u.ae[k].code.length <= 2147483647 := by omega
   have HB2 : Bx (Below (H + 1) w1 (wr.alloc (.cells #[.int .i64 u.ae[k].params, .int .i64 u.ae[k].slots, .int .i64 u.ae[k].caps, .bool u.ae[k].res, .slice ca u.ae[k].code.length cc] 40))) := ⟨HB.out.trans ((ak _ _).mono (by have := HB.out.size; have := HWH.out.2; omega))⟩
   clear hmt hml HC hcode HAL HFL HVD HPG HB
   obtain ⟨MM, hMM⟩ : ∃ MM, bL (u.ae.take (k + 1)) = MM := ⟨_, rfl⟩
   rw [hMM] at hwr
   have HMM : Bx (bL (u.ae.take (k + 1)) = MM) := ⟨hMM⟩
   clear hMM
   generalize bL (u.ae.take k) = MK at *
   generalize u.ae[k].code.length = CL at *
   generalize u.ae[k].params = P1 at *
   generalize u.ae[k].slots = P2 at *
   generalize u.ae[k].caps = P3 at *
   generalize u.ae[k].res = P4 at *
   go_wp2
   go_roundg (u.ae.length + 1 - (k + 1))
   case measure => omega
   case rel => exact ⟨k + 1, rfl, by omega, by go_num, by rw [HMM.out], HB2⟩
  ·obtain rfl : k = u.ae.length := by omega
   rw [List.take_length]
   have hlong := pF u.ae 268435456
   obtain ⟨k0, k1, k2⟩ := HU.out wr HB.out
   obtain ⟨wA, rfl⟩ : ∃ X, X = wr := ⟨_, rfl⟩
   have HVD2 := HVD.out wA HB.out
   have HBA : Bx (Below (H + 1) w1 wA) := HB
   clear HB HVD
   cases hv : dO u.types with
   | false =>
    have hpr : dx u = (0, true) := by unfold dx; rw [if_pos (.inr (.inl hv))]
    have hck : aB u = (0, 0, 90) := by unfold aB; rw [hpr]; rfl
    have HCK : Bx _ := ⟨hck⟩
    rw [hv] at HVD2
    have HV3 : Bx _ := ⟨HVD2⟩
    clear HVD2 HAL HFL hck hpr hv
    generalize bL u.ae = MA at *
    go_wp2_with (first
     | (go_at_call 22; refine HV3.out.mono ?_; rintro e z1 ⟨rfl, rfl⟩; clear HV3)
     | fail)
    go_ret3
    have hq := HRC.out.symm.trans HCK.out
    simp only [Prod.mk.injEq] at hq
    obtain ⟨rfl, rfl, rfl⟩ := hq
    exact ⟨rfl, ⟨by first | exact hBw.out _ HBA.out | (rw [← hH]; exact hBw.out _ HBA.out)⟩⟩
   | true =>
    rw [hv] at HVD2
    have HV3 : Bx _ := ⟨HVD2⟩
    clear HVD2
    by_cases hmn : 268435456 < bL u.ae
    ·have hg : decide ((268435456 : Int) < (bL u.ae : Int)) = true := decide_eq_true (by omega)
     rw [decide_eq_true hmn] at hlong
     have hpr : dx u = (0, true) := by unfold dx; rw [if_pos (.inr (.inr hlong))]
     have hck : aB u = (0, 0, 90) := by unfold aB; rw [hpr]; rfl
     have HCK : Bx _ := ⟨hck⟩
     clear HAL HFL hck hpr hv hlong hmn
     generalize bL u.ae = MA at *
     go_wp2_with (first
      | (go_at_call 22; refine HV3.out.mono ?_; rintro e z1 ⟨rfl, rfl⟩; clear HV3)
      | fail)
     go_ret3
     have hq := HRC.out.symm.trans HCK.out
     simp only [Prod.mk.injEq] at hq
     obtain ⟨rfl, rfl, rfl⟩ := hq
     exact ⟨rfl, ⟨by first | exact hBw.out _ HBA.out | (rw [← hH]; exact hBw.out _ HBA.out)⟩⟩
    ·have hg : decide ((268435456 : Int) < (bL u.ae : Int)) = false := decide_eq_false (by omega)
     rw [decide_eq_false hmn] at hlong
     by_cases hp0 : u.ae.length = 0
     ·have hg2 : ((u.ae.length : Int) == 0) = true := by rw [hp0]; rfl
      have hpr : dx u = (0, true) := by unfold dx; rw [if_pos (.inl hp0)]
      have hck : aB u = (0, 0, 90) := by unfold aB; rw [hpr]; rfl
      have HCK : Bx _ := ⟨hck⟩
      clear HAL HFL hck hpr hv hlong hmn hp0
      generalize bL u.ae = MA at *
      go_wp2_with (first
       | (go_at_call 22; refine HV3.out.mono ?_; rintro e z1 ⟨rfl, rfl⟩; clear HV3)
       | fail)
      go_ret3
      have hq := HRC.out.symm.trans HCK.out
      simp only [Prod.mk.injEq] at hq
      obtain ⟨rfl, rfl, rfl⟩ := hq
      exact ⟨rfl, ⟨by first | exact hBw.out _ HBA.out | (rw [← hH]; exact hBw.out _ HBA.out)⟩⟩
     ·have hg2 : ((u.ae.length : Int) == 0) = false := beq_eq_false_iff_ne.2 (by omega)
      have hpr : dx u = fD u.ae 0 := by unfold dx; rw [if_neg (by rw [hv, hlong]; simp; exact fun e => hp0 (by rw [e]; rfl))]
      have HPR : Bx (dx u = fD u.ae 0) := ⟨hpr⟩
      have HV4 : Bx (dO u.types = true) := ⟨hv⟩
      have HM : Bx (∀ k (hk : k < u.ae.length), u.ae[k].code.length <= 268435456) := ⟨fun k hk => by have := HRW.out k hk; omega⟩
      clear hpr hv hlong hmn hp0 HRW
      generalize bL u.ae = MA at *
      go_wp2_with (first
       | (go_at_call 22; refine HV3.out.mono ?_; rintro e z1 ⟨rfl, rfl⟩; clear HV3)
       | fail)
      go_loopg [49] (u.ae.length + 1) (fun f v49 wr => ∃ k : Nat, f = u.ae.length + 1 - k /\ k <= u.ae.length /\ v49 = .int .i64 k /\ Bx (fD (u.ae.drop k) k = fD u.ae 0 /\ ∀ j (hj : j < u.ae.length), j < k -> jo u.ae[j] j = false) /\ Bx (Below (H + 1) w1 wr))
      case atStart => exact ⟨0, by simp, Nat.zero_le _, rfl, ⟨by rw [List.drop_zero], fun j _ hj => by omega⟩, HBA⟩
      case round =>
       clear HBA k0 k1 k2
       obtain ⟨k, hf, hk, rfl, HG, HB⟩ := hrel
       by_cases hlt : k < u.ae.length
       ·obtain ⟨pb, po, ca, cc, rfl, hpb, hcode, HC⟩ := HPG.out k hlt
        obtain ⟨c0, c1, c2, c3, c4⟩ := HC.out wr (hBw.out wr HB.out)
        have hsw := (hBw.out wr HB.out).size
        have hpbl : pb < wr.heap.size := by omega
        have hkI : (k : Int) < (u.ae.length : Int) := by omega
        have hcc := hcode.cap
        have hcl := HM.out k hlt
        have HB2 : Bx (Below (H + 1) w1 (wr.alloc (.cells #[.int .i64 u.ae[k].params, .int .i64 u.ae[k].slots, .int .i64 u.ae[k].caps, .bool u.ae[k].res, .slice ca u.ae[k].code.length cc] 40))) := ⟨HB.out.trans ((ak _ _).mono (by have := HB.out.size; have := HWH.out.2; omega))⟩
        have hgo := HG.out.1
        rw [o9 hlt] at hgo
        have HBAD : Bx (jo u.ae[k] k = true -> aB u = (k, 0, 90)) := ⟨fun e => by
         rw [if_pos e] at hgo
         unfold aB
         rw [HPR.out, ← hgo]
         rfl⟩
        have HGOOD : Bx (jo u.ae[k] k = false -> fD (u.ae.drop (k + 1)) (k + 1) = fD u.ae 0 /\ ∀ j (hj : j < u.ae.length), j < k + 1 -> jo u.ae[j] j = false) := ⟨fun e => ⟨by
         rw [if_neg (by rw [e]; decide)] at hgo
         exact hgo, fun j hj hjk => by
         by_cases q : j = k
         ·subst q; exact e
         ·exact HG.out.2 j hj (by omega)⟩⟩
        have hbe : jo u.ae[k] k = (!((decide (0 <= u.ae[k].params) && decide (u.ae[k].params <= u.ae[k].slots)) && ((decide (0 <= u.ae[k].slots) && decide (u.ae[k].slots <= 65536)) && ((decide (0 <= u.ae[k].caps) && decide (u.ae[k].caps <= 65536)) && decide (0 < u.ae[k].code.length)))) || (k == 0 && !(u.ae[k].params == 0 && (u.ae[k].caps == 2 && !u.ae[k].res)))) := rfl
        rw [hbe] at HBAD HGOOD
        clear hbe hgo HG HC hcode HAL HFL HPG HB HPR HV4 HM hcl
        generalize u.ae[k].params = P1 at *
        generalize u.ae[k].slots = P2 at *
        generalize u.ae[k].caps = P3 at *
        generalize u.ae[k].res = P4 at *
        generalize u.ae[k].code.length = CL at *
        have W1 : Bx (∀ X, Calls Tryd.prog 23 #[.int .i64 P2, .int .i64 0, .int .i64 65536] X fun e w' => e = .returned (.bool (decide (0 <= P2) && decide (P2 <= 65536))) /\ X = w') := ⟨fun X => aA P2 0 65536 X⟩
        have W2 : Bx (∀ X, Calls Tryd.prog 23 #[.int .i64 P3, .int .i64 0, .int .i64 65536] X fun e w' => e = .returned (.bool (decide (0 <= P3) && decide (P3 <= 65536))) /\ X = w') := ⟨fun X => aA P3 0 65536 X⟩
        have W3 : Bx (∀ X, Calls Tryd.prog 23 #[.int .i64 P1, .int .i64 0, .int .i64 P2] X fun e w' => e = .returned (.bool (decide (0 <= P1) && decide (P1 <= P2))) /\ X = w') := ⟨fun X => aA P1 0 P2 X⟩
        clear HWI
        generalize (decide (0 <= P2) && decide (P2 <= 65536)) = v1 at *
        generalize (decide (0 <= P3) && decide (P3 <= 65536)) = v2 at *
        generalize (decide (0 <= P1) && decide (P1 <= P2)) = v3 at *
        by_cases hk0 : k = 0
        ·have hkg : decide ((0 : Int) < (k : Int)) = false := decide_eq_false (by omega)
         have HK0 : Bx (k = 0) := ⟨hk0⟩
         have c0' := c0
         have c1' := c1
         have c2' := c2
         have c3' := c3
         have c4' := c4
         simp only [hk0, Nat.zero_mul, Nat.add_zero] at c0' c1' c2' c3' c4'
         cases hP1 : (P1 == 0) with
         | false =>
          have hff : True := trivial
          cases v1 with
          | false =>
           have hck : aB u = (k, 0, 90) := HBAD.out (by simp)
           have HCK : Bx _ := ⟨hck⟩
           clear hck HBAD HGOOD
           go_wp2_with (first
            | (go_at_call 23; refine (W1.out _).mono ?_; rintro e z1 ⟨rfl, rfl⟩; clear W1)
            | (go_at_call 23; refine (W2.out _).mono ?_; rintro e z1 ⟨rfl, rfl⟩; clear W2)
            | (go_at_call 23; refine (W3.out _).mono ?_; rintro e z1 ⟨rfl, rfl⟩; clear W3)
            | fail)
           go_ret3
           have hq := HRC.out.symm.trans HCK.out
           simp only [Prod.mk.injEq] at hq
           obtain ⟨rfl, rfl, rfl⟩ := hq
           try (have hk00 := HK0.out; subst hk00)
           exact ⟨rfl, ⟨by first | exact hBw.out _ HB2.out | (rw [← hH]; exact hBw.out _ HB2.out)⟩⟩
          | true =>
           cases v2 with
           | false =>
            have hck : aB u = (k, 0, 90) := HBAD.out (by simp)
            have HCK : Bx _ := ⟨hck⟩
            clear hck HBAD HGOOD
            go_wp2_with (first
             | (go_at_call 23; refine (W1.out _).mono ?_; rintro e z1 ⟨rfl, rfl⟩; clear W1)
             | (go_at_call 23; refine (W2.out _).mono ?_; rintro e z1 ⟨rfl, rfl⟩; clear W2)
             | (go_at_call 23; refine (W3.out _).mono ?_; rintro e z1 ⟨rfl, rfl⟩; clear W3)
             | fail)
            go_ret3
            have hq := HRC.out.symm.trans HCK.out
            simp only [Prod.mk.injEq] at hq
            obtain ⟨rfl, rfl, rfl⟩ := hq
            try (have hk00 := HK0.out; subst hk00)
            exact ⟨rfl, ⟨by first | exact hBw.out _ HB2.out | (rw [← hH]; exact hBw.out _ HB2.out)⟩⟩
           | true =>
            cases v3 with
            | false =>
             have hck : aB u = (k, 0, 90) := HBAD.out (by simp)
             have HCK : Bx _ := ⟨hck⟩
             clear hck HBAD HGOOD
             go_wp2_with (first
              | (go_at_call 23; refine (W1.out _).mono ?_; rintro e z1 ⟨rfl, rfl⟩; clear W1)
              | (go_at_call 23; refine (W2.out _).mono ?_; rintro e z1 ⟨rfl, rfl⟩; clear W2)
              | (go_at_call 23; refine (W3.out _).mono ?_; rintro e z1 ⟨rfl, rfl⟩; clear W3)
              | fail)
             go_ret3
             have hq := HRC.out.symm.trans HCK.out
             simp only [Prod.mk.injEq] at hq
             obtain ⟨rfl, rfl, rfl⟩ := hq
             try (have hk00 := HK0.out; subst hk00)
             exact ⟨rfl, ⟨by first | exact hBw.out _ HB2.out | (rw [← hH]; exact hBw.out _ HB2.out)⟩⟩
            | true =>
             by_cases hc0 : CL = 0
             ·have hcb : ((CL : Int) == 0) = true := by rw [hc0]; rfl
              have hck : aB u = (k, 0, 90) := HBAD.out (by simp [hc0])
              have HCK : Bx _ := ⟨hck⟩
              clear hck hc0 HBAD HGOOD
              go_wp2_with (first
               | (go_at_call 23; refine (W1.out _).mono ?_; rintro e z1 ⟨rfl, rfl⟩; clear W1)
               | (go_at_call 23; refine (W2.out _).mono ?_; rintro e z1 ⟨rfl, rfl⟩; clear W2)
               | (go_at_call 23; refine (W3.out _).mono ?_; rintro e z1 ⟨rfl, rfl⟩; clear W3)
               | fail)
              go_ret3
              have hq := HRC.out.symm.trans HCK.out
              simp only [Prod.mk.injEq] at hq
              obtain ⟨rfl, rfl, rfl⟩ := hq
              try (have hk00 := HK0.out; subst hk00)
              exact ⟨rfl, ⟨by first | exact hBw.out _ HB2.out | (rw [← hH]; exact hBw.out _ HB2.out)⟩⟩
             ·have hcb : ((CL : Int) == 0) = false := beq_eq_false_iff_ne.2 (by omega)
              have hcp : decide (0 < CL) = true := decide_eq_true (by omega)
              have hck : aB u = (k, 0, 90) := HBAD.out (by rw [hcp]; simp [hP1, HK0.out])
              have HCK : Bx _ := ⟨hck⟩
              clear hck HBAD HGOOD
              go_wp2_with (first
               | (go_at_call 23; refine (W1.out _).mono ?_; rintro e z1 ⟨rfl, rfl⟩; clear W1)
               | (go_at_call 23; refine (W2.out _).mono ?_; rintro e z1 ⟨rfl, rfl⟩; clear W2)
               | (go_at_call 23; refine (W3.out _).mono ?_; rintro e z1 ⟨rfl, rfl⟩; clear W3)
               | fail)
              go_ret3
              have hq := HRC.out.symm.trans HCK.out
              simp only [Prod.mk.injEq] at hq
              obtain ⟨rfl, rfl, rfl⟩ := hq
              try (have hk00 := HK0.out; subst hk00)
              exact ⟨rfl, ⟨by first | exact hBw.out _ HB2.out | (rw [← hH]; exact hBw.out _ HB2.out)⟩⟩
         | true =>
          cases hP3 : (P3 == 2) with
          | false =>
           have hff : True := trivial
           cases v1 with
           | false =>
            have hck : aB u = (k, 0, 90) := HBAD.out (by simp)
            have HCK : Bx _ := ⟨hck⟩
            clear hck HBAD HGOOD
            go_wp2_with (first
             | (go_at_call 23; refine (W1.out _).mono ?_; rintro e z1 ⟨rfl, rfl⟩; clear W1)
             | (go_at_call 23; refine (W2.out _).mono ?_; rintro e z1 ⟨rfl, rfl⟩; clear W2)
             | (go_at_call 23; refine (W3.out _).mono ?_; rintro e z1 ⟨rfl, rfl⟩; clear W3)
             | fail)
            go_ret3
            have hq := HRC.out.symm.trans HCK.out
            simp only [Prod.mk.injEq] at hq
            obtain ⟨rfl, rfl, rfl⟩ := hq
            try (have hk00 := HK0.out; subst hk00)
            exact ⟨rfl, ⟨by first | exact hBw.out _ HB2.out | (rw [← hH]; exact hBw.out _ HB2.out)⟩⟩
           | true =>
            cases v2 with
            | false =>
             have hck : aB u = (k, 0, 90) := HBAD.out (by simp)
             have HCK : Bx _ := ⟨hck⟩
             clear hck HBAD HGOOD
             go_wp2_with (first
              | (go_at_call 23; refine (W1.out _).mono ?_; rintro e z1 ⟨rfl, rfl⟩; clear W1)
              | (go_at_call 23; refine (W2.out _).mono ?_; rintro e z1 ⟨rfl, rfl⟩; clear W2)
              | (go_at_call 23; refine (W3.out _).mono ?_; rintro e z1 ⟨rfl, rfl⟩; clear W3)
              | fail)
             go_ret3
             have hq := HRC.out.symm.trans HCK.out
             simp only [Prod.mk.injEq] at hq
             obtain ⟨rfl, rfl, rfl⟩ := hq
             try (have hk00 := HK0.out; subst hk00)
             exact ⟨rfl, ⟨by first | exact hBw.out _ HB2.out | (rw [← hH]; exact hBw.out _ HB2.out)⟩⟩
            | true =>
             cases v3 with
             | false =>
              have hck : aB u = (k, 0, 90) := HBAD.out (by simp)
              have HCK : Bx _ := ⟨hck⟩
              clear hck HBAD HGOOD
              go_wp2_with (first
               | (go_at_call 23; refine (W1.out _).mono ?_; rintro e z1 ⟨rfl, rfl⟩; clear W1)
               | (go_at_call 23; refine (W2.out _).mono ?_; rintro e z1 ⟨rfl, rfl⟩; clear W2)
               | (go_at_call 23; refine (W3.out _).mono ?_; rintro e z1 ⟨rfl, rfl⟩; clear W3)
               | fail)
              go_ret3
              have hq := HRC.out.symm.trans HCK.out
              simp only [Prod.mk.injEq] at hq
              obtain ⟨rfl, rfl, rfl⟩ := hq
              try (have hk00 := HK0.out; subst hk00)
              exact ⟨rfl, ⟨by first | exact hBw.out _ HB2.out | (rw [← hH]; exact hBw.out _ HB2.out)⟩⟩
             | true =>
              by_cases hc0 : CL = 0
              ·have hcb : ((CL : Int) == 0) = true := by rw [hc0]; rfl
               have hck : aB u = (k, 0, 90) := HBAD.out (by simp [hc0])
               have HCK : Bx _ := ⟨hck⟩
               clear hck hc0 HBAD HGOOD
               go_wp2_with (first
                | (go_at_call 23; refine (W1.out _).mono ?_; rintro e z1 ⟨rfl, rfl⟩; clear W1)
                | (go_at_call 23; refine (W2.out _).mono ?_; rintro e z1 ⟨rfl, rfl⟩; clear W2)
                | (go_at_call 23; refine (W3.out _).mono ?_; rintro e z1 ⟨rfl, rfl⟩; clear W3)
                | fail)
               go_ret3
               have hq := HRC.out.symm.trans HCK.out
               simp only [Prod.mk.injEq] at hq
               obtain ⟨rfl, rfl, rfl⟩ := hq
               try (have hk00 := HK0.out; subst hk00)
               exact ⟨rfl, ⟨by first | exact hBw.out _ HB2.out | (rw [← hH]; exact hBw.out _ HB2.out)⟩⟩
              ·have hcb : ((CL : Int) == 0) = false := beq_eq_false_iff_ne.2 (by omega)
               have hcp : decide (0 < CL) = true := decide_eq_true (by omega)
               have hck : aB u = (k, 0, 90) := HBAD.out (by rw [hcp]; simp [hP3, HK0.out])
               have HCK : Bx _ := ⟨hck⟩
               clear hck HBAD HGOOD
               go_wp2_with (first
                | (go_at_call 23; refine (W1.out _).mono ?_; rintro e z1 ⟨rfl, rfl⟩; clear W1)
                | (go_at_call 23; refine (W2.out _).mono ?_; rintro e z1 ⟨rfl, rfl⟩; clear W2)
                | (go_at_call 23; refine (W3.out _).mono ?_; rintro e z1 ⟨rfl, rfl⟩; clear W3)
                | fail)
               go_ret3
               have hq := HRC.out.symm.trans HCK.out
               simp only [Prod.mk.injEq] at hq
               obtain ⟨rfl, rfl, rfl⟩ := hq
               try (have hk00 := HK0.out; subst hk00)
               exact ⟨rfl, ⟨by first | exact hBw.out _ HB2.out | (rw [← hH]; exact hBw.out _ HB2.out)⟩⟩
          | true =>
           cases P4 with
           | true =>
            have hff : True := trivial
            cases v1 with
            | false =>
             have hck : aB u = (k, 0, 90) := HBAD.out (by simp)
             have HCK : Bx _ := ⟨hck⟩
             clear hck HBAD HGOOD
             go_wp2_with (first
              | (go_at_call 23; refine (W1.out _).mono ?_; rintro e z1 ⟨rfl, rfl⟩; clear W1)
              | (go_at_call 23; refine (W2.out _).mono ?_; rintro e z1 ⟨rfl, rfl⟩; clear W2)
              | (go_at_call 23; refine (W3.out _).mono ?_; rintro e z1 ⟨rfl, rfl⟩; clear W3)
              | fail)
             go_ret3
             have hq := HRC.out.symm.trans HCK.out
             simp only [Prod.mk.injEq] at hq
             obtain ⟨rfl, rfl, rfl⟩ := hq
             try (have hk00 := HK0.out; subst hk00)
             exact ⟨rfl, ⟨by first | exact hBw.out _ HB2.out | (rw [← hH]; exact hBw.out _ HB2.out)⟩⟩
            | true =>
             cases v2 with
             | false =>
              have hck : aB u = (k, 0, 90) := HBAD.out (by simp)
              have HCK : Bx _ := ⟨hck⟩
              clear hck HBAD HGOOD
              go_wp2_with (first
               | (go_at_call 23; refine (W1.out _).mono ?_; rintro e z1 ⟨rfl, rfl⟩; clear W1)
               | (go_at_call 23; refine (W2.out _).mono ?_; rintro e z1 ⟨rfl, rfl⟩; clear W2)
               | (go_at_call 23; refine (W3.out _).mono ?_; rintro e z1 ⟨rfl, rfl⟩; clear W3)
               | fail)
              go_ret3
              have hq := HRC.out.symm.trans HCK.out
              simp only [Prod.mk.injEq] at hq
              obtain ⟨rfl, rfl, rfl⟩ := hq
              try (have hk00 := HK0.out; subst hk00)
              exact ⟨rfl, ⟨by first | exact hBw.out _ HB2.out | (rw [← hH]; exact hBw.out _ HB2.out)⟩⟩
             | true =>
              cases v3 with
              | false =>
               have hck : aB u = (k, 0, 90) := HBAD.out (by simp)
               have HCK : Bx _ := ⟨hck⟩
               clear hck HBAD HGOOD
               go_wp2_with (first
                | (go_at_call 23; refine (W1.out _).mono ?_; rintro e z1 ⟨rfl, rfl⟩; clear W1)
                | (go_at_call 23; refine (W2.out _).mono ?_; rintro e z1 ⟨rfl, rfl⟩; clear W2)
                | (go_at_call 23; refine (W3.out _).mono ?_; rintro e z1 ⟨rfl, rfl⟩; clear W3)
                | fail)
               go_ret3
               have hq := HRC.out.symm.trans HCK.out
               simp only [Prod.mk.injEq] at hq
               obtain ⟨rfl, rfl, rfl⟩ := hq
               try (have hk00 := HK0.out; subst hk00)
               exact ⟨rfl, ⟨by first | exact hBw.out _ HB2.out | (rw [← hH]; exact hBw.out _ HB2.out)⟩⟩
              | true =>
               by_cases hc0 : CL = 0
               ·have hcb : ((CL : Int) == 0) = true := by rw [hc0]; rfl
                have hck : aB u = (k, 0, 90) := HBAD.out (by simp [hc0])
                have HCK : Bx _ := ⟨hck⟩
                clear hck hc0 HBAD HGOOD
                go_wp2_with (first
                 | (go_at_call 23; refine (W1.out _).mono ?_; rintro e z1 ⟨rfl, rfl⟩; clear W1)
                 | (go_at_call 23; refine (W2.out _).mono ?_; rintro e z1 ⟨rfl, rfl⟩; clear W2)
                 | (go_at_call 23; refine (W3.out _).mono ?_; rintro e z1 ⟨rfl, rfl⟩; clear W3)
                 | fail)
                go_ret3
                have hq := HRC.out.symm.trans HCK.out
                simp only [Prod.mk.injEq] at hq
                obtain ⟨rfl, rfl, rfl⟩ := hq
                try (have hk00 := HK0.out; subst hk00)
                exact ⟨rfl, ⟨by first | exact hBw.out _ HB2.out | (rw [← hH]; exact hBw.out _ HB2.out)⟩⟩
               ·have hcb : ((CL : Int) == 0) = false := beq_eq_false_iff_ne.2 (by omega)
                have hcp : decide (0 < CL) = true := decide_eq_true (by omega)
                have hck : aB u = (k, 0, 90) := HBAD.out (by rw [hcp]; simp [HK0.out])
                have HCK : Bx _ := ⟨hck⟩
                clear hck HBAD HGOOD
                go_wp2_with (first
                 | (go_at_call 23; refine (W1.out _).mono ?_; rintro e z1 ⟨rfl, rfl⟩; clear W1)
                 | (go_at_call 23; refine (W2.out _).mono ?_; rintro e z1 ⟨rfl, rfl⟩; clear W2)
                 | (go_at_call 23; refine (W3.out _).mono ?_; rintro e z1 ⟨rfl, rfl⟩; clear W3)
                 | fail)
                go_ret3
                have hq := HRC.out.symm.trans HCK.out
                simp only [Prod.mk.injEq] at hq
                obtain ⟨rfl, rfl, rfl⟩ := hq
                try (have hk00 := HK0.out; subst hk00)
                exact ⟨rfl, ⟨by first | exact hBw.out _ HB2.out | (rw [← hH]; exact hBw.out _ HB2.out)⟩⟩
           | false =>
            have hff : True := trivial
            cases v1 with
            | false =>
             have hck : aB u = (k, 0, 90) := HBAD.out (by simp)
             have HCK : Bx _ := ⟨hck⟩
             clear hck HBAD HGOOD
             go_wp2_with (first
              | (go_at_call 23; refine (W1.out _).mono ?_; rintro e z1 ⟨rfl, rfl⟩; clear W1)
              | (go_at_call 23; refine (W2.out _).mono ?_; rintro e z1 ⟨rfl, rfl⟩; clear W2)
              | (go_at_call 23; refine (W3.out _).mono ?_; rintro e z1 ⟨rfl, rfl⟩; clear W3)
              | fail)
             go_ret3
             have hq := HRC.out.symm.trans HCK.out
             simp only [Prod.mk.injEq] at hq
             obtain ⟨rfl, rfl, rfl⟩ := hq
             try (have hk00 := HK0.out; subst hk00)
             exact ⟨rfl, ⟨by first | exact hBw.out _ HB2.out | (rw [← hH]; exact hBw.out _ HB2.out)⟩⟩
            | true =>
             cases v2 with
             | false =>
              have hck : aB u = (k, 0, 90) := HBAD.out (by simp)
              have HCK : Bx _ := ⟨hck⟩
              clear hck HBAD HGOOD
              go_wp2_with (first
               | (go_at_call 23; refine (W1.out _).mono ?_; rintro e z1 ⟨rfl, rfl⟩; clear W1)
               | (go_at_call 23; refine (W2.out _).mono ?_; rintro e z1 ⟨rfl, rfl⟩; clear W2)
               | (go_at_call 23; refine (W3.out _).mono ?_; rintro e z1 ⟨rfl, rfl⟩; clear W3)
               | fail)
              go_ret3
              have hq := HRC.out.symm.trans HCK.out
              simp only [Prod.mk.injEq] at hq
              obtain ⟨rfl, rfl, rfl⟩ := hq
              try (have hk00 := HK0.out; subst hk00)
              exact ⟨rfl, ⟨by first | exact hBw.out _ HB2.out | (rw [← hH]; exact hBw.out _ HB2.out)⟩⟩
             | true =>
              cases v3 with
              | false =>
               have hck : aB u = (k, 0, 90) := HBAD.out (by simp)
               have HCK : Bx _ := ⟨hck⟩
               clear hck HBAD HGOOD
               go_wp2_with (first
                | (go_at_call 23; refine (W1.out _).mono ?_; rintro e z1 ⟨rfl, rfl⟩; clear W1)
                | (go_at_call 23; refine (W2.out _).mono ?_; rintro e z1 ⟨rfl, rfl⟩; clear W2)
                | (go_at_call 23; refine (W3.out _).mono ?_; rintro e z1 ⟨rfl, rfl⟩; clear W3)
                | fail)
               go_ret3
               have hq := HRC.out.symm.trans HCK.out
               simp only [Prod.mk.injEq] at hq
               obtain ⟨rfl, rfl, rfl⟩ := hq
               try (have hk00 := HK0.out; subst hk00)
               exact ⟨rfl, ⟨by first | exact hBw.out _ HB2.out | (rw [← hH]; exact hBw.out _ HB2.out)⟩⟩
              | true =>
               by_cases hc0 : CL = 0
               ·have hcb : ((CL : Int) == 0) = true := by rw [hc0]; rfl
                have hck : aB u = (k, 0, 90) := HBAD.out (by simp [hc0])
                have HCK : Bx _ := ⟨hck⟩
                clear hck hc0 HBAD HGOOD
                go_wp2_with (first
                 | (go_at_call 23; refine (W1.out _).mono ?_; rintro e z1 ⟨rfl, rfl⟩; clear W1)
                 | (go_at_call 23; refine (W2.out _).mono ?_; rintro e z1 ⟨rfl, rfl⟩; clear W2)
                 | (go_at_call 23; refine (W3.out _).mono ?_; rintro e z1 ⟨rfl, rfl⟩; clear W3)
                 | fail)
                go_ret3
                have hq := HRC.out.symm.trans HCK.out
                simp only [Prod.mk.injEq] at hq
                obtain ⟨rfl, rfl, rfl⟩ := hq
                try (have hk00 := HK0.out; subst hk00)
                exact ⟨rfl, ⟨by first | exact hBw.out _ HB2.out | (rw [← hH]; exact hBw.out _ HB2.out)⟩⟩
               ·have hcb : ((CL : Int) == 0) = false := beq_eq_false_iff_ne.2 (by omega)
                have hcp : decide (0 < CL) = true := decide_eq_true (by omega)
                have HGD : Bx _ := ⟨HGOOD.out (by rw [hcp]; simp [hP1, hP3])⟩
                clear HBAD HGOOD
                go_wp2_with (first
                 | (go_at_call 23; refine (W1.out _).mono ?_; rintro e z1 ⟨rfl, rfl⟩; clear W1)
                 | (go_at_call 23; refine (W2.out _).mono ?_; rintro e z1 ⟨rfl, rfl⟩; clear W2)
                 | (go_at_call 23; refine (W3.out _).mono ?_; rintro e z1 ⟨rfl, rfl⟩; clear W3)
                 | fail)
                go_roundg (u.ae.length + 1 - (k + 1))
                case measure => omega
                case rel => exact ⟨k + 1, rfl, by omega, by first | go_num | (simp [HK0.out]), HGD, HB2⟩
        ·have hkg : decide ((0 : Int) < (k : Int)) = true := decide_eq_true (by omega)
         have hff : (k == 0) = false := by simpa using hk0
         cases v1 with
         | false =>
          have hck : aB u = (k, 0, 90) := HBAD.out (by simp)
          have HCK : Bx _ := ⟨hck⟩
          clear hck HBAD HGOOD
          go_wp2_with (first
           | (go_at_call 23; refine (W1.out _).mono ?_; rintro e z1 ⟨rfl, rfl⟩; clear W1)
           | (go_at_call 23; refine (W2.out _).mono ?_; rintro e z1 ⟨rfl, rfl⟩; clear W2)
           | (go_at_call 23; refine (W3.out _).mono ?_; rintro e z1 ⟨rfl, rfl⟩; clear W3)
           | fail)
          go_ret3
          have hq := HRC.out.symm.trans HCK.out
          simp only [Prod.mk.injEq] at hq
          obtain ⟨rfl, rfl, rfl⟩ := hq
          try (have hk00 := HK0.out; subst hk00)
          exact ⟨rfl, ⟨by first | exact hBw.out _ HB2.out | (rw [← hH]; exact hBw.out _ HB2.out)⟩⟩
         | true =>
          cases v2 with
          | false =>
           have hck : aB u = (k, 0, 90) := HBAD.out (by simp)
           have HCK : Bx _ := ⟨hck⟩
           clear hck HBAD HGOOD
           go_wp2_with (first
            | (go_at_call 23; refine (W1.out _).mono ?_; rintro e z1 ⟨rfl, rfl⟩; clear W1)
            | (go_at_call 23; refine (W2.out _).mono ?_; rintro e z1 ⟨rfl, rfl⟩; clear W2)
            | (go_at_call 23; refine (W3.out _).mono ?_; rintro e z1 ⟨rfl, rfl⟩; clear W3)
            | fail)
           go_ret3
           have hq := HRC.out.symm.trans HCK.out
           simp only [Prod.mk.injEq] at hq
           obtain ⟨rfl, rfl, rfl⟩ := hq
           try (have hk00 := HK0.out; subst hk00)
           exact ⟨rfl, ⟨by first | exact hBw.out _ HB2.out | (rw [← hH]; exact hBw.out _ HB2.out)⟩⟩
          | true =>
           cases v3 with
           | false =>
            have hck : aB u = (k, 0, 90) := HBAD.out (by simp)
            have HCK : Bx _ := ⟨hck⟩
            clear hck HBAD HGOOD
            go_wp2_with (first
             | (go_at_call 23; refine (W1.out _).mono ?_; rintro e z1 ⟨rfl, rfl⟩; clear W1)
             | (go_at_call 23; refine (W2.out _).mono ?_; rintro e z1 ⟨rfl, rfl⟩; clear W2)
             | (go_at_call 23; refine (W3.out _).mono ?_; rintro e z1 ⟨rfl, rfl⟩; clear W3)
             | fail)
            go_ret3
            have hq := HRC.out.symm.trans HCK.out
            simp only [Prod.mk.injEq] at hq
            obtain ⟨rfl, rfl, rfl⟩ := hq
            try (have hk00 := HK0.out; subst hk00)
            exact ⟨rfl, ⟨by first | exact hBw.out _ HB2.out | (rw [← hH]; exact hBw.out _ HB2.out)⟩⟩
           | true =>
            by_cases hc0 : CL = 0
            ·have hcb : ((CL : Int) == 0) = true := by rw [hc0]; rfl
             have hck : aB u = (k, 0, 90) := HBAD.out (by simp [hc0])
             have HCK : Bx _ := ⟨hck⟩
             clear hck hc0 HBAD HGOOD
             go_wp2_with (first
              | (go_at_call 23; refine (W1.out _).mono ?_; rintro e z1 ⟨rfl, rfl⟩; clear W1)
              | (go_at_call 23; refine (W2.out _).mono ?_; rintro e z1 ⟨rfl, rfl⟩; clear W2)
              | (go_at_call 23; refine (W3.out _).mono ?_; rintro e z1 ⟨rfl, rfl⟩; clear W3)
              | fail)
             go_ret3
             have hq := HRC.out.symm.trans HCK.out
             simp only [Prod.mk.injEq] at hq
             obtain ⟨rfl, rfl, rfl⟩ := hq
             try (have hk00 := HK0.out; subst hk00)
             exact ⟨rfl, ⟨by first | exact hBw.out _ HB2.out | (rw [← hH]; exact hBw.out _ HB2.out)⟩⟩
            ·have hcb : ((CL : Int) == 0) = false := beq_eq_false_iff_ne.2 (by omega)
             have hcp : decide (0 < CL) = true := decide_eq_true (by omega)
             have HGD : Bx _ := ⟨HGOOD.out (by rw [hcp]; simp [hff])⟩
             clear HBAD HGOOD
             go_wp2_with (first
              | (go_at_call 23; refine (W1.out _).mono ?_; rintro e z1 ⟨rfl, rfl⟩; clear W1)
              | (go_at_call 23; refine (W2.out _).mono ?_; rintro e z1 ⟨rfl, rfl⟩; clear W2)
              | (go_at_call 23; refine (W3.out _).mono ?_; rintro e z1 ⟨rfl, rfl⟩; clear W3)
              | fail)
             go_roundg (u.ae.length + 1 - (k + 1))
             case measure => omega
             case rel => exact ⟨k + 1, rfl, by omega, by first | go_num | (simp [HK0.out]), HGD, HB2⟩
       ·obtain rfl : k = u.ae.length := by omega
        have HNB : Bx (∀ j (hj : j < u.ae.length), jo u.ae[j] j = false) := ⟨fun j hj => HG.out.2 j hj hj⟩
        have HPF : Bx ((dx u).2 = false) := ⟨by rw [HPR.out, ← HG.out.1, List.drop_length]; rfl⟩
        have HCE : Bx (aB u = if (bH u (dfL u.types) u.ae 0).2.2 = 0 then fU u.ae 0 else bH u (dfL u.types) u.ae 0) := ⟨by unfold aB; rw [HPF.out]; rfl⟩
        have HAL2 : Bx _ := ⟨HAL.out HV4.out⟩
        have HFL2 : Bx _ := ⟨HFL.out HPF.out⟩
        have HBB : Bx (Below (H + 1) w1 wr) := HB
        obtain ⟨k0, k1, k2⟩ := HU.out wr HB.out
        clear HG HB HPR HV4 HAL HFL HWI
        go_wp2
        go_loopg [104] (u.ae.length + 1) (fun f v104 wr => ∃ k : Nat, f = u.ae.length + 1 - k /\ k <= u.ae.length /\ v104 = .int .i64 k /\ Bx (bH u (dfL u.types) (u.ae.drop k) k = bH u (dfL u.types) u.ae 0) /\ Bx (Below (H + 1) w1 wr))
        case atStart => exact ⟨0, by simp, Nat.zero_le _, rfl, ⟨by rw [List.drop_zero]⟩, HBB⟩
        case round =>
         clear HBB k0 k1 k2
         obtain ⟨k, hf, hk, rfl, HG, HB⟩ := hrel
         by_cases hlt : k < u.ae.length
         ·obtain ⟨pb, po, ca, cc, rfl, hpb, hcode, HC⟩ := HPG.out k hlt
          obtain ⟨c0, c1, c2, c3, c4⟩ := HC.out wr (hBw.out wr HB.out)
          have hsw := (hBw.out wr HB.out).size
          have hpbl : pb < wr.heap.size := by omega
          have hkI : (k : Int) < (u.ae.length : Int) := by omega
          have hcc := hcode.cap
          have hcl := HM.out k hlt
          obtain ⟨E, hE⟩ : ∃ E, wr.heap.size = E := ⟨_, rfl⟩
          obtain ⟨w2, hw2⟩ : ∃ w2, wr.alloc (.cells #[.int .i64 u.ae[k].params, .int .i64 u.ae[k].slots, .int .i64 u.ae[k].caps, .bool u.ae[k].res, .slice ca u.ae[k].code.length cc] 40) = w2 := ⟨_, rfl⟩
          have hq2 : w2.heap[E]? = some (.cells #[.int .i64 u.ae[k].params, .int .i64 u.ae[k].slots, .int .i64 u.ae[k].caps, .bool u.ae[k].res, .slice ca u.ae[k].code.length cc] 40 (0, 0)) := by rw [← hw2]; exact aj _ _ _ hE
          have hb2 : Below (H + 1) w1 w2 := by rw [← hw2]; exact HB.out.trans ((ak _ _).mono (by have := HB.out.size; have := HWH.out.2; omega))
          have HPX : Bx (∀ X, Below w2.heap.size w2 X -> Below (H + 1) w1 X /\ (X.cell? ⟨H, 0, none⟩ = some (.slice (some ⟨pb, po, none⟩) u.ae.length pc) /\ X.cell? ⟨H, 1, none⟩ = some (.slice ta u.types.length tc) /\ H < X.heap.size) /\ (X.cell? ⟨E, 0, none⟩ = some (.int .i64 u.ae[k].params) /\ X.cell? ⟨E, 1, none⟩ = some (.int .i64 u.ae[k].slots) /\ X.cell? ⟨E, 2, none⟩ = some (.int .i64 u.ae[k].caps) /\ X.cell? ⟨E, 3, none⟩ = some (.bool u.ae[k].res) /\ X.cell? ⟨E, 4, none⟩ = some (.slice ca u.ae[k].code.length cc) /\ E < X.heap.size)) := ⟨fun X hX => by
           have hX1 : Below (H + 1) w1 X := hb2.trans (hX.mono (by have := hb2.size; have := HWH.out.2; omega))
           have z := (hX.block E (ah hq2)).trans hq2
           exact ⟨hX1, HU.out X hX1, ⟨aa z rfl, aa z rfl, aa z rfl, aa z rfl, aa z rfl, ah z⟩⟩⟩
          obtain ⟨CL, hCL⟩ : ∃ CL, u.ae[k].code.length = CL := ⟨_, rfl⟩
          have HALK : Bx (∀ X, Below w2.heap.size w2 X -> ∀ i (hi : i < u.ae[k].code.length), Calls Tryd.prog 24 #[.agg #[.slice (some ⟨pb, po, none⟩) u.ae.length pc, .slice ta u.types.length tc], .agg #[.int .i64 u.ae[k].params, .int .i64 u.ae[k].slots, .int .i64 u.ae[k].caps, .bool u.ae[k].res, .slice ca CL cc], .int .i64 (i : Nat)] X fun e w' => e = .returned (.int .i64 (dI u (dfL u.types) u.ae[k] i u.ae[k].code[i])) /\ Bx (Below w2.heap.size w2 w')) := ⟨fun X hX i hi => by
           rw [← hCL]
           exact (HAL2.out k hlt (HNB.out k hlt) (HM.out k hlt) X (HPX.out X hX).1 ca cc hcode i hi).mono fun e w' q => ⟨q.1, ⟨hX.trans (q.2.out.mono hX.size)⟩⟩⟩
          have hgo := HG.out
          rw [mo hlt] at hgo
          have HGO : Bx _ := ⟨hgo⟩
          have hclk : u.ae[k].code.length <= 268435456 := hcl
          clear hgo HG HC hcode HB HAL2 HFL2 HM HNB hq2 hb2 hcl hpb hsw
          have HAG : Bx (bN u (dfL u.types) u.ae[k] (u.ae[k].code.drop 0) 0 = bN u (dfL u.types) u.ae[k] u.ae[k].code 0) := ⟨by rw [List.drop_zero]⟩
          have HCL : Bx (u.ae[k].code.length = CL) := ⟨hCL⟩
          have hcl2 : CL <= 268435456 := by rw [← hCL]; exact hclk
          rw [hCL] at hw2 hcc c4 HPX
          clear hCL hclk
          obtain ⟨x0, x1, x2⟩ := (HPX.out w2 (Below.refl _ _)).2.2
          obtain ⟨P1, hP1⟩ : ∃ z, u.ae[k].params = z := ⟨_, rfl⟩
          obtain ⟨P2, hP2⟩ : ∃ z, u.ae[k].slots = z := ⟨_, rfl⟩
          obtain ⟨P3, hP3⟩ : ∃ z, u.ae[k].caps = z := ⟨_, rfl⟩
          obtain ⟨P4, hP4⟩ : ∃ z, u.ae[k].res = z := ⟨_, rfl⟩
          rw [hP1, hP2, hP3, hP4] at *
          go_wp2
          go_loopg [112] (CL + 1) (fun f v112 wr => ∃ i : Nat, f = CL + 1 - i /\ i <= CL /\ v112 = .int .i64 i /\ Bx (bN u (dfL u.types) u.ae[k] (u.ae[k].code.drop i) i = bN u (dfL u.types) u.ae[k] u.ae[k].code 0) /\ Bx (Below w2.heap.size w2 wr))
          case atStart => exact ⟨0, by simp, Nat.zero_le _, rfl, HAG, ⟨Below.refl _ _⟩⟩
          case round =>
           clear HAG c0 c1 c2 c3 c4
           obtain ⟨i, hf2, hi, rfl, HI, HB2⟩ := hrel
           obtain ⟨y0, ⟨y1, y2, y3⟩, ⟨z0, z1, z2, z3, z4, z5⟩⟩ := HPX.out wr HB2.out
           have hiCL : Bx (Below (H + 1) w1 wr) := ⟨y0⟩
           clear y0
           by_cases hil : i < CL
           ·have hil2 : i < u.ae[k].code.length := by rw [HCL.out]; exact hil
            have hiI : (i : Int) < (CL : Int) := by omega
            have hal := HALK.out wr HB2.out i hil2
            have hig := HI.out
            rw [kQ hil2] at hig
            generalize dI u (dfL u.types) u.ae[k] i u.ae[k].code[i] = we at *
            have HAC : Bx _ := ⟨hal⟩
            by_cases h0 : we = 0
            ·have hwb : (we != 0) = false := by rw [h0]; rfl
             rw [if_pos h0] at hig
             have HI2 : Bx _ := ⟨hig⟩
             clear hig hal HI h0
             go_wp2_with (first
              | (go_at_call 24; refine HAC.out.mono ?_; rintro e z9 ⟨rfl, HZ9⟩; clear HAC)
              | fail)
             go_roundg (CL + 1 - (i + 1))
             case measure => omega
             case rel => exact ⟨i + 1, rfl, by omega, by go_num, HI2, HZ9⟩
            ·have hwb : (we != 0) = true := by simpa using h0
             rw [if_neg h0] at hig
             have HCK : Bx (aB u = (k, i, we)) := ⟨by
              have h1 := HGO.out
              rw [← hig, if_neg h0] at h1
              rw [HCE.out, ← h1, if_neg h0]⟩
             clear hig hal HI h0
             go_wp2_with (first
              | (go_at_call 24; refine HAC.out.mono ?_; rintro e z9 ⟨rfl, HZ9⟩; clear HAC)
              | fail)
             go_ret3
             have hq := HRC.out.symm.trans HCK.out
             simp only [Prod.mk.injEq] at hq
             obtain ⟨rfl, rfl, rfl⟩ := hq
             exact ⟨rfl, ⟨by first | exact hBw.out _ (HPX.out _ HZ9.out).1 | (rw [← hH]; exact hBw.out _ (HPX.out _ HZ9.out).1)⟩⟩
           ·have HNX : Bx (bH u (dfL u.types) (u.ae.drop (k + 1)) (k + 1) = bH u (dfL u.types) u.ae 0) := ⟨by
             have h1 := HGO.out
             have h2 := HI.out
             rw [List.drop_eq_nil_of_le (by rw [HCL.out]; omega)] at h2
             rw [← h2] at h1
             simpa [bN] using h1⟩
            obtain rfl : i = CL := by omega
            clear HI HGO
            go_wp2
            go_roundg (u.ae.length + 1 - (k + 1))
            case measure => omega
            case rel => exact ⟨k + 1, rfl, by omega, by go_num, HNX, hiCL⟩
         ·obtain rfl : k = u.ae.length := by omega
          have HA0 : Bx ((bH u (dfL u.types) u.ae 0).2.2 = 0) := ⟨by rw [← HG.out, List.drop_length]; rfl⟩
          have HCW : Bx (aB u = fU u.ae 0) := ⟨by rw [HCE.out, if_pos HA0.out]⟩
          have HFL3 : Bx _ := ⟨HFL2.out HA0.out⟩
          have HBC : Bx (Below (H + 1) w1 wr) := HB
          obtain ⟨k0, k1, k2⟩ := HU.out wr HB.out
          clear HG HB HCE HA0 HFL2 HAL2 HM HNB HPG
          go_wp2
          go_loopg [129] (u.ae.length + 1) (fun f v129 wr => ∃ k : Nat, f = u.ae.length + 1 - k /\ k <= u.ae.length /\ v129 = .int .i64 k /\ Bx (fU (u.ae.drop k) k = fU u.ae 0) /\ Bx (Below (H + 1) w1 wr))
          case atStart => exact ⟨0, by simp, Nat.zero_le _, rfl, ⟨by rw [List.drop_zero]⟩, HBC⟩
          case round =>
           clear HBC k0 k1 k2
           obtain ⟨k, hf, hk, rfl, HG, HB⟩ := hrel
           obtain ⟨k0, k1, k2⟩ := HU.out wr HB.out
           by_cases hlt : k < u.ae.length
           ·have hkI : (k : Int) < (u.ae.length : Int) := by omega
            have HFC : Bx _ := ⟨HFL3.out wr HB.out k hlt⟩
            have hgo := HG.out
            rw [rW hlt] at hgo
            generalize dB u.ae[k] = WY at *
            by_cases h0 : WY.2.1 = 0
            ·have hwb : (WY.2.1 != 0) = false := by rw [h0]; rfl
             rw [if_pos h0] at hgo
             have HGO : Bx _ := ⟨hgo⟩
             generalize WY.2.1 = we at *
             generalize WY.1 = wi at *
             clear hgo h0 HG
             go_wp2_with (first
              | (go_at_call 25; refine HFC.out.mono ?_; rintro e z9 ⟨v, rfl, HZ9⟩; clear HFC)
              | fail)
             go_roundg (u.ae.length + 1 - (k + 1))
             case measure => omega
             case rel => exact ⟨k + 1, rfl, by omega, by go_num, HGO, HZ9⟩
            ·have hwb : (WY.2.1 != 0) = true := by simpa using h0
             rw [if_neg h0] at hgo
             have HCK : Bx (aB u = (k, WY.1, WY.2.1)) := ⟨by rw [HCW.out, ← hgo]⟩
             generalize WY.2.1 = we at *
             generalize WY.1 = wi at *
             clear hgo h0 HG
             go_wp2_with (first
              | (go_at_call 25; refine HFC.out.mono ?_; rintro e z9 ⟨v, rfl, HZ9⟩; clear HFC)
              | fail)
             go_ret3
             have hq := HRC.out.symm.trans HCK.out
             simp only [Prod.mk.injEq] at hq
             obtain ⟨rfl, rfl, rfl⟩ := hq
             exact ⟨rfl, ⟨by first | exact hBw.out _ HZ9.out | (rw [← hH]; exact hBw.out _ HZ9.out)⟩⟩
           ·obtain rfl : k = u.ae.length := by omega
            have HCK : Bx (aB u = (0, 0, 0)) := ⟨by rw [HCW.out, ← HG.out, List.drop_length]; rfl⟩
            clear HG HFL3
            go_wp2
            go_ret3
            have hq := HRC.out.symm.trans HCK.out
            simp only [Prod.mk.injEq] at hq
            obtain ⟨rfl, rfl, rfl⟩ := hq
            exact ⟨rfl, ⟨by first | exact hBw.out _ HB.out | (rw [← hH]; exact hBw.out _ HB.out)⟩⟩
end Go.Proofs.YtadmpgegolmkgaaDoor
