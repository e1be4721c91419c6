import Derived.Test.YtecpknpcjoiliabDoorCUXa
namespace Go.Proofs.YtecpknpcjoiliabDoor
open Go.RowKit
set_option linter.unusedVariables false
set_option linter.unusedSimpArgs false

/-- what the reference's Number answers -/
def RNumP (w : World) (t : List UInt8) (x : Int) (b : Bool) (w' : World) : Prop := Below w.heap.size w w' ∧ b = (numOf t).isSome ∧ ∀ y, numOf t = some y → x = y
def RNumA (w : World) (t : List UInt8) (e : Ending) (w' : World) : Prop := ∃ x b, e = .returned (.tuple #[.int .i64 x, .bool b]) ∧ Bx (RNumP w t x b w')
theorem num_fin (t : List UInt8) (z : Int) (hz : z = (if (digW t).length < t.length then -(valL (digW t) : Int) else (valL (digW t) : Int))) (h1 : -9223372036854775808 ≤ z) (h2 : z ≤ 9223372036854775807) (hm : ∀ y, numOf t = some y → y ≠ -9223372036854775808) : (Lib.itoa z == t) = (numOf t).isSome ∧ ∀ y, numOf t = some y → z = y := by
  cases hq : numOf t with
  | none =>
    refine ⟨?_, fun y hy => by cases hy⟩
    cases hb : (Lib.itoa z == t) with
    | false => rfl
    | true =>
      have : Lib.itoa z = t := by simpa using hb
      rw [← this, numOf_itoa (n := z) ⟨h1, h2⟩] at hq
      cases hq
  | some y =>
    have hy := num_val hq (hm y hq)
    rw [← hz] at hy
    subst hy
    refine ⟨?_, fun y' hy' => by injection hy'⟩
    have := (numOf_some hq).1
    rw [this]
    simp
set_option maxRecDepth 100000 in
set_option maxHeartbeats 4000000 in
theorem rNumber_plain (t : List UInt8) (c0 : UInt8) (r0 : List UInt8) (ht : t = c0 :: r0) (hc0 : c0 ≠ 45) (hlen : t.length ≤ 281474976710656) (w : World) : Calls Tryd.prog 37 #[strV t] w (RNumA w t) := by
  have hdw : digW t = t := by rw [ht]; show (if c0 = 45 then r0 else c0 :: r0) = _; rw [if_neg hc0]
  have hmin : ∀ y, numOf t = some y → y ≠ -9223372036854775808 := fun y hy e => by
    have := (numOf_some hy).1
    rw [e, itoa_min, ht] at this
    injection this with h1 _
    exact hc0 h1.symm
  have HD0 : Bx (Calls Tryd.prog 43 #[.int .i64 (-9223372036854775808)] w fun e w' => e = .returned (strV [45, 57, 50, 50, 51, 51, 55, 50, 48, 51, 54, 56, 53, 52, 55, 55, 53, 56, 48, 56]) ∧ Bx (Below w.heap.size w w')) := ⟨(Digits_any _ ⟨by omega, by omega⟩ w).mono fun e w' h => ⟨by rw [h.1, itoa_min], ⟨h.2⟩⟩⟩
  have hne1 : (t == [45, 57, 50, 50, 51, 51, 55, 50, 48, 51, 54, 56, 53, 52, 55, 55, 53, 56, 48, 56]) = false := by
    rw [ht]
    simp
    intro e
    exact absurd e hc0
  have HNO : Bx (∀ w', Below w.heap.size w w' → numOf t = none → RNumP w t 0 false w') := ⟨fun w' hb h => ⟨hb, by rw [h]; rfl, fun y hy => by rw [h] at hy; cases hy⟩⟩
  have HLEN : Bx (t.length = 0 ∨ 19 < t.length → numOf t = none) := ⟨fun h => by
    cases hq : numOf t with
    | none => rfl
    | some y =>
      have := num_len hq (hmin y hq)
      rw [hdw] at this
      omega⟩
  have hX0 : ∀ h : 0 < (⟨t.toArray⟩ : ByteArray).size, (((⟨t.toArray⟩ : ByteArray)[0]'h).toNat : Int) = c0.toNat := fun h => by subst ht; rfl
  have hc45 : ((c0.toNat : Int) == 45) = false := by
    simp
    intro e
    have e2 : (45 : UInt8).toNat = 45 := rfl
    exact hc0 (UInt8.toNat_inj.1 (by omega))
  have hpos : 0 < t.length := by rw [ht]; simp
  have hposI : (0 : Int) < (t.length : Int) := by omega
  have hne2 : ¬ t = [45, 57, 50, 50, 51, 51, 55, 50, 48, 51, 54, 56, 53, 52, 55, 55, 53, 56, 48, 56] := by simpa using hne1
  have hcc : ¬ (c0.toNat : Int) = 45 := by simpa using hc45
  have HM : Bx _ := ⟨hmin⟩
  have HDW : Bx _ := ⟨hdw⟩
  have hlenI : (t.length : Int) ≤ 281474976710656 := by omega
  have hz0 : ((t.length : Int) == 0) = false := by simp; rw [ht]; simp
  have hz1 : ¬ t = [] := by rw [ht]; simp
  generalize (c0.toNat : Int) = cz at *
  clear ht hc0 hmin hdw
  by_cases h19 : 19 < t.length
  · have h19I : (19 : Int) < (t.length : Int) := by omega
    have HQ : Bx (numOf t = none) := ⟨HLEN.out (Or.inr h19)⟩
    clear HLEN HM HDW
    go_enter Tryd.func37, Tryd.ntmps37
    go_wp2_with (go_at_call 43; refine HD0.out.mono ?_; rintro e w1 ⟨rfl, H1⟩)
    go_ret2
    exact ⟨0, false, rfl, ⟨HNO.out _ H1.out HQ.out⟩⟩
  · have h19I : decide ((19 : Int) < (t.length : Int)) = false := by simp; omega
    clear HLEN
    go_enter Tryd.func37, Tryd.ntmps37
    go_wp2_with (go_at_call 43; refine HD0.out.mono ?_; rintro e w1 ⟨rfl, H1⟩)
    clear hX0 hc45 hcc
    go_loopw [6, 5] (fun x y wr => ∃ i : Nat, i ≤ t.length ∧ x = .int .i64 i ∧ y = .int .i64 ((valL (t.take i) : Nat) : Int) ∧ Bx (Below w.heap.size w wr ∧ valL (t.take i) ≤ 9223372036854775807)) (fun x _ _ => t.length - (intOf x).toNat)
    case atStart => exact ⟨0, Nat.zero_le _, rfl, rfl, ⟨H1.out, by simp [valL]⟩⟩
    case round =>
      obtain ⟨i, hi, rfl, rfl, HS⟩ := hrel
      clear H1 HD0
      by_cases hlt : i < t.length
      · have hget : ∀ h : i < (⟨t.toArray⟩ : ByteArray).size, ((⟨t.toArray⟩ : ByteArray)[i]'h).toNat = (t[i]).toNat := fun h => rfl
        have hv := HS.out.2
        have HSN : Bx (valL (t.take (i + 1)) = 10 * valL (t.take i) + ((t[i]).toNat - 48)) := ⟨by rw [List.take_succ_eq_append_getElem hlt, valL_snoc]⟩
        have HPR : Bx (∀ y, numOf t = some y → 48 ≤ (t[i]).toNat ∧ (t[i]).toNat ≤ 57 ∧ 10 * valL (t.take i) + ((t[i]).toNat - 48) ≤ 9223372036854775807) := ⟨fun y hy => by
          have := num_pre hy (HM.out y hy) i
          simp only [HDW.out] at this
          exact this hlt⟩
        have HNN : Bx (¬ (48 ≤ (t[i]).toNat ∧ (t[i]).toNat ≤ 57 ∧ 10 * valL (t.take i) + ((t[i]).toNat - 48) ≤ 9223372036854775807) → numOf t = none) := ⟨fun h => by
          cases hq : numOf t with
          | none => rfl
          | some y => exact absurd (HPR.out y hq) h⟩
        have hcb : (t[i]).toNat < 256 := UInt8.toNat_lt _
        have HB : Bx _ := ⟨HS.out.1⟩
        have hilI : (i : Int) < (t.length : Int) := by omega
        obtain ⟨c, hc⟩ : ∃ c, c = (t[i]).toNat := ⟨_, rfl⟩
        rw [← hc] at HSN HNN hcb
        simp only [← hc] at hget
        obtain ⟨n, hn⟩ : ∃ n, n = valL (t.take i) := ⟨_, rfl⟩
        rw [← hn] at HSN HNN hv ⊢
        clear hc hn HPR HS HM HDW
        by_cases h1 : c < 48
        · have g1 : decide ((c : Int) < 48) = true := by simp; omega
          have HQ : Bx (numOf t = none) := ⟨HNN.out (by omega)⟩
          clear HNN HSN
          go_wp2
          go_ret2
          exact ⟨0, false, rfl, ⟨HNO.out _ HB.out HQ.out⟩⟩
        · by_cases h2 : 57 < c
          · have g1 : decide ((c : Int) < 48) = false := by simp; omega
            have g2 : decide ((57 : Int) < (c : Int)) = true := by simp; omega
            have HQ : Bx (numOf t = none) := ⟨HNN.out (by omega)⟩
            clear HNN HSN
            go_wp2
            go_ret2
            exact ⟨0, false, rfl, ⟨HNO.out _ HB.out HQ.out⟩⟩
          · obtain ⟨d, rfl⟩ : ∃ d, c = d + 48 := ⟨c - 48, by omega⟩
            have hd : d ≤ 9 := by omega
            have hwu : IntKind.u8.wrap (((d + 48 : Nat) : Int) - 48) = (d : Int) := by
              rw [IntKind.wrap_u8]
              omega
            have hsub : ((d + 48 : Nat) : Int) - 48 = (d : Int) := by omega
            have g1 : decide ((d : Int) + 48 < 48) = false := by simp; omega
            have g2 : decide ((57 : Int) < (d : Int) + 48) = false := by simp; omega
            go_wp2
            · rename_i hov
              have HQ : Bx (numOf t = none) := ⟨HNN.out (by omega)⟩
              clear HNN HSN
              go_ret2
              exact ⟨0, false, rfl, ⟨HNO.out _ HB.out HQ.out⟩⟩
            · rename_i hov
              have hn9 : 10 * n + d ≤ 9223372036854775807 := by omega
              exact ⟨⟨i + 1, hlt, by push_cast; rfl, by rw [HSN.out]; push_cast; congr 1, ⟨HB.out, by rw [HSN.out]; omega⟩⟩, by show t.length - ((i : Int) + 1).toNat < t.length - (i : Int).toNat; omega⟩
      · obtain rfl : i = t.length := by omega
        have hb0 := HS.out.2
        rw [List.take_length] at hb0 ⊢
        have HB : Bx _ := ⟨HS.out.1⟩
        obtain ⟨n, hn⟩ : ∃ n, n = valL t := ⟨_, rfl⟩
        have HDn : Bx (Calls Tryd.prog 43 #[.int .i64 (n : Int)] wr fun e w' => e = .returned (strV (Lib.itoa n)) ∧ Bx (Below wr.heap.size wr w')) := ⟨(Digits_any _ ⟨by omega, by omega⟩ wr).mono fun e w' h => ⟨h.1, ⟨h.2⟩⟩⟩
        rw [← hn] at hb0 ⊢
        have HF : Bx (∀ w', Below w.heap.size w w' → RNumP w t n (Lib.itoa n == t) w') := ⟨fun w' hb => ⟨hb, num_fin t n (by rw [HDW.out, if_neg (Nat.lt_irrefl _), hn]) (by omega) (by omega) HM.out⟩⟩
        clear hn HM HDW HS
        go_wp2_with (go_at_call 43; refine HDn.out.mono ?_; rintro e w1 ⟨rfl, H1⟩)
        go_ret2
        exact ⟨_, _, rfl, ⟨HF.out _ (HB.out.trans (H1.out.mono HB.out.size))⟩⟩
end Go.Proofs.YtecpknpcjoiliabDoor
namespace Go.Proofs.YtecpknpcjoiliabDoor
open Go.RowKit
set_option linter.unusedVariables false
set_option linter.unusedSimpArgs false

set_option maxRecDepth 100000 in
set_option maxHeartbeats 4000000 in
theorem rNumber_minus (t : List UInt8) (D : List UInt8) (ht : t = 45 :: D) (hlen : t.length ≤ 281474976710656) (hne2 : ¬ t = [45, 57, 50, 50, 51, 51, 55, 50, 48, 51, 54, 56, 53, 52, 55, 55, 53, 56, 48, 56]) (w : World) : Calls Tryd.prog 37 #[strV t] w (RNumA w t) := by
  have hdw : digW t = D := by rw [ht]; rfl
  have hmin : ∀ y, numOf t = some y → y ≠ -9223372036854775808 := fun y hy e => by
    have := (numOf_some hy).1
    rw [e, itoa_min] at this
    exact hne2 this.symm
  have HD0 : Bx (Calls Tryd.prog 43 #[.int .i64 (-9223372036854775808)] w fun e w' => e = .returned (strV [45, 57, 50, 50, 51, 51, 55, 50, 48, 51, 54, 56, 53, 52, 55, 55, 53, 56, 48, 56]) ∧ Bx (Below w.heap.size w w')) := ⟨(Digits_any _ ⟨by omega, by omega⟩ w).mono fun e w' h => ⟨by rw [h.1, itoa_min], ⟨h.2⟩⟩⟩
  have hne1 : (t == [45, 57, 50, 50, 51, 51, 55, 50, 48, 51, 54, 56, 53, 52, 55, 55, 53, 56, 48, 56]) = false := by simpa using hne2
  have HNO : Bx (∀ w', Below w.heap.size w w' → numOf t = none → RNumP w t 0 false w') := ⟨fun w' hb h => ⟨hb, by rw [h]; rfl, fun y hy => by rw [h] at hy; cases hy⟩⟩
  have HLEN : Bx (D.length = 0 ∨ 19 < D.length → numOf t = none) := ⟨fun h => by
    cases hq : numOf t with
    | none => rfl
    | some y =>
      have := num_len hq (hmin y hq)
      rw [hdw] at this
      omega⟩
  have hX0 : ∀ h : 0 < (⟨t.toArray⟩ : ByteArray).size, (((⟨t.toArray⟩ : ByteArray)[0]'h).toNat : Int) = 45 := fun h => by subst ht; rfl
  have hpos : 0 < t.length := by rw [ht]; simp
  have hposI : (0 : Int) < (t.length : Int) := by omega
  have HM : Bx _ := ⟨hmin⟩
  have HDW : Bx _ := ⟨hdw⟩
  have hlenI : (t.length : Int) ≤ 281474976710656 := by omega
  have hz0 : ((t.length : Int) == 0) = false := by simp; rw [ht]; simp
  have hz1 : ¬ t = [] := by rw [ht]; simp
  have htl : t.length = D.length + 1 := by rw [ht]; simp
  have hext : (⟨t.toArray⟩ : ByteArray).extract 1 (D.length + 1) = ⟨D.toArray⟩ := by
    subst ht
    apply ByteArray.ext
    rw [ByteArray.data_extract]
    apply Array.ext'
    simp
  have hnd : ¬ D = [57, 50, 50, 51, 51, 55, 50, 48, 51, 54, 56, 53, 52, 55, 55, 53, 56, 48, 56] := fun e => hne2 (by rw [ht, e])
  clear hmin hdw ht
  have hsz : (⟨t.toArray⟩ : ByteArray).size = D.length + 1 := by show t.toArray.size = _; simpa using htl
  by_cases hD0 : D = []
  · subst hD0
    have HQ : Bx (numOf t = none) := ⟨HLEN.out (Or.inl rfl)⟩
    clear HLEN HM HDW
    go_enter Tryd.func37, Tryd.ntmps37
    go_wp2_with (go_at_call 43; refine HD0.out.mono ?_; rintro e w1 ⟨rfl, H1⟩)
    go_ret2
    exact ⟨0, false, rfl, ⟨HNO.out _ H1.out HQ.out⟩⟩
  have hD1 : ((D.length : Int) == 0) = false := by
    simp
    exact hD0
  by_cases h19 : 19 < D.length
  · have h19I : (19 : Int) < (D.length : Int) := by omega
    have HQ : Bx (numOf t = none) := ⟨HLEN.out (Or.inr h19)⟩
    clear HLEN HM HDW
    go_enter Tryd.func37, Tryd.ntmps37
    go_wp2_with (go_at_call 43; refine HD0.out.mono ?_; rintro e w1 ⟨rfl, H1⟩)
    go_ret2
    exact ⟨0, false, rfl, ⟨HNO.out _ H1.out HQ.out⟩⟩
  · have h19I : decide ((19 : Int) < (D.length : Int)) = false := by simp; omega
    clear HLEN
    go_enter Tryd.func37, Tryd.ntmps37
    go_wp2_with (go_at_call 43; refine HD0.out.mono ?_; rintro e w1 ⟨rfl, H1⟩)
    clear hX0 hext hsz
    go_loopw [6, 5] (fun x y wr => ∃ i : Nat, i ≤ D.length ∧ x = .int .i64 i ∧ y = .int .i64 ((valL (D.take i) : Nat) : Int) ∧ Bx (Below w.heap.size w wr ∧ valL (D.take i) ≤ 9223372036854775807)) (fun x _ _ => D.length - (intOf x).toNat)
    case atStart => exact ⟨0, Nat.zero_le _, rfl, rfl, ⟨H1.out, by simp [valL]⟩⟩
    case round =>
      obtain ⟨i, hi, rfl, rfl, HS⟩ := hrel
      clear H1 HD0
      by_cases hlt : i < D.length
      · have hget : ∀ h : i < (⟨D.toArray⟩ : ByteArray).size, ((⟨D.toArray⟩ : ByteArray)[i]'h).toNat = (D[i]).toNat := fun h => rfl
        have hv := HS.out.2
        have HSN : Bx (valL (D.take (i + 1)) = 10 * valL (D.take i) + ((D[i]).toNat - 48)) := ⟨by rw [List.take_succ_eq_append_getElem hlt, valL_snoc]⟩
        have HPR : Bx (∀ y, numOf t = some y → 48 ≤ (D[i]).toNat ∧ (D[i]).toNat ≤ 57 ∧ 10 * valL (D.take i) + ((D[i]).toNat - 48) ≤ 9223372036854775807) := ⟨fun y hy => by
          have := num_pre hy (HM.out y hy) i
          simp only [HDW.out] at this
          exact this hlt⟩
        have HNN : Bx (¬ (48 ≤ (D[i]).toNat ∧ (D[i]).toNat ≤ 57 ∧ 10 * valL (D.take i) + ((D[i]).toNat - 48) ≤ 9223372036854775807) → numOf t = none) := ⟨fun h => by
          cases hq : numOf t with
          | none => rfl
          | some y => exact absurd (HPR.out y hq) h⟩
        have hcb : (D[i]).toNat < 256 := UInt8.toNat_lt _
        have HB : Bx _ := ⟨HS.out.1⟩
        have hilI : (i : Int) < (D.length : Int) := by omega
        obtain ⟨c, hc⟩ : ∃ c, c = (D[i]).toNat := ⟨_, rfl⟩
        rw [← hc] at HSN HNN hcb
        simp only [← hc] at hget
        obtain ⟨n, hn⟩ : ∃ n, n = valL (D.take i) := ⟨_, rfl⟩
        rw [← hn] at HSN HNN hv ⊢
        clear hc hn HPR HS HM HDW
        by_cases h1 : c < 48
        · have g1 : decide ((c : Int) < 48) = true := by simp; omega
          have HQ : Bx (numOf t = none) := ⟨HNN.out (by omega)⟩
          clear HNN HSN
          go_wp2
          go_ret2
          exact ⟨0, false, rfl, ⟨HNO.out _ HB.out HQ.out⟩⟩
        · by_cases h2 : 57 < c
          · have g1 : decide ((c : Int) < 48) = false := by simp; omega
            have g2 : decide ((57 : Int) < (c : Int)) = true := by simp; omega
            have HQ : Bx (numOf t = none) := ⟨HNN.out (by omega)⟩
            clear HNN HSN
            go_wp2
            go_ret2
            exact ⟨0, false, rfl, ⟨HNO.out _ HB.out HQ.out⟩⟩
          · obtain ⟨d, rfl⟩ : ∃ d, c = d + 48 := ⟨c - 48, by omega⟩
            have hd : d ≤ 9 := by omega
            have hwu : IntKind.u8.wrap (((d + 48 : Nat) : Int) - 48) = (d : Int) := by
              rw [IntKind.wrap_u8]
              omega
            have hsub : ((d + 48 : Nat) : Int) - 48 = (d : Int) := by omega
            have g1 : decide ((d : Int) + 48 < 48) = false := by simp; omega
            have g2 : decide ((57 : Int) < (d : Int) + 48) = false := by simp; omega
            go_wp2
            · rename_i hov
              have HQ : Bx (numOf t = none) := ⟨HNN.out (by omega)⟩
              clear HNN HSN
              go_ret2
              exact ⟨0, false, rfl, ⟨HNO.out _ HB.out HQ.out⟩⟩
            · rename_i hov
              have hn9 : 10 * n + d ≤ 9223372036854775807 := by omega
              exact ⟨⟨i + 1, hlt, by push_cast; rfl, by rw [HSN.out]; push_cast; congr 1, ⟨HB.out, by rw [HSN.out]; omega⟩⟩, by show D.length - ((i : Int) + 1).toNat < D.length - (i : Int).toNat; omega⟩
      · obtain rfl : i = D.length := by omega
        have hb0 := HS.out.2
        rw [List.take_length] at hb0 ⊢
        have HB : Bx _ := ⟨HS.out.1⟩
        obtain ⟨n, hn⟩ : ∃ n, n = valL D := ⟨_, rfl⟩
        have HDn : Bx (Calls Tryd.prog 43 #[.int .i64 (-(n : Int))] wr fun e w' => e = .returned (strV (Lib.itoa (-(n : Int)))) ∧ Bx (Below wr.heap.size wr w')) := ⟨(Digits_any _ ⟨by omega, by omega⟩ wr).mono fun e w' h => ⟨h.1, ⟨h.2⟩⟩⟩
        rw [← hn] at hb0 ⊢
        have HF : Bx (∀ w', Below w.heap.size w w' → RNumP w t (-(n : Int)) (Lib.itoa (-(n : Int)) == t) w') := ⟨fun w' hb => ⟨hb, num_fin t (-(n : Int)) (by rw [HDW.out, if_pos (by omega), hn]) (by omega) (by omega) HM.out⟩⟩
        clear hn HM HDW HS
        go_wp2_with (go_at_call 43; refine HDn.out.mono ?_; rintro e w1 ⟨rfl, H1⟩)
        go_ret2
        exact ⟨_, _, rfl, ⟨HF.out _ (HB.out.trans (H1.out.mono HB.out.size))⟩⟩
set_option maxRecDepth 100000 in
set_option maxHeartbeats 4000000 in
theorem rNumber_least (w : World) : Calls Tryd.prog 37 #[strV [45, 57, 50, 50, 51, 51, 55, 50, 48, 51, 54, 56, 53, 52, 55, 55, 53, 56, 48, 56]] w (RNumA w [45, 57, 50, 50, 51, 51, 55, 50, 48, 51, 54, 56, 53, 52, 55, 55, 53, 56, 48, 56]) := by
  have HD0 : Bx (Calls Tryd.prog 43 #[.int .i64 (-9223372036854775808)] w fun e w' => e = .returned (strV [45, 57, 50, 50, 51, 51, 55, 50, 48, 51, 54, 56, 53, 52, 55, 55, 53, 56, 48, 56]) ∧ Bx (Below w.heap.size w w')) := ⟨(Digits_any _ ⟨by omega, by omega⟩ w).mono fun e w' h => ⟨by rw [h.1, itoa_min], ⟨h.2⟩⟩⟩
  have hq : numOf [45, 57, 50, 50, 51, 51, 55, 50, 48, 51, 54, 56, 53, 52, 55, 55, 53, 56, 48, 56] = some (-9223372036854775808) := by
    have := numOf_itoa (n := -9223372036854775808) ⟨by omega, by omega⟩
    rwa [itoa_min] at this
  have HF : Bx (∀ w', Below w.heap.size w w' → RNumP w [45, 57, 50, 50, 51, 51, 55, 50, 48, 51, 54, 56, 53, 52, 55, 55, 53, 56, 48, 56] (-9223372036854775808) true w') := ⟨fun w' hb => ⟨hb, by rw [hq]; rfl, fun y hy => by rw [hq] at hy; injection hy⟩⟩
  clear hq
  go_enter Tryd.func37, Tryd.ntmps37
  go_wp2_with (go_at_call 43; refine HD0.out.mono ?_; rintro e w1 ⟨rfl, H1⟩)
  go_ret2
  exact ⟨_, _, rfl, ⟨HF.out _ H1.out⟩⟩
set_option maxRecDepth 100000 in
set_option maxHeartbeats 4000000 in
theorem rNumber_empty (w : World) : Calls Tryd.prog 37 #[strV []] w (RNumA w []) := by
  have HD0 : Bx (Calls Tryd.prog 43 #[.int .i64 (-9223372036854775808)] w fun e w' => e = .returned (strV [45, 57, 50, 50, 51, 51, 55, 50, 48, 51, 54, 56, 53, 52, 55, 55, 53, 56, 48, 56]) ∧ Bx (Below w.heap.size w w')) := ⟨(Digits_any _ ⟨by omega, by omega⟩ w).mono fun e w' h => ⟨by rw [h.1, itoa_min], ⟨h.2⟩⟩⟩
  have hq : numOf [] = none := by
    cases hq : numOf [] with
    | none => rfl
    | some y =>
      have h0 : y ≠ -9223372036854775808 := fun e => by
        have := (numOf_some hq).1
        rw [e, itoa_min] at this
        cases this
      have := (num_len hq h0).1
      exact absurd this (by decide)
  have HF : Bx (∀ w', Below w.heap.size w w' → RNumP w [] 0 false w') := ⟨fun w' hb => ⟨hb, by rw [hq]; rfl, fun y hy => by rw [hq] at hy; cases hy⟩⟩
  clear hq
  go_enter Tryd.func37, Tryd.ntmps37
  go_wp2_with (go_at_call 43; refine HD0.out.mono ?_; rintro e w1 ⟨rfl, H1⟩)
  go_ret2
  exact ⟨_, _, rfl, ⟨HF.out _ H1.out⟩⟩
theorem rNumber_any (t : List UInt8) (hlen : t.length ≤ 281474976710656) (w : World) : Calls Tryd.prog 37 #[strV t] w (RNumA w t) := by
  by_cases hm : t = [45, 57, 50, 50, 51, 51, 55, 50, 48, 51, 54, 56, 53, 52, 55, 55, 53, 56, 48, 56]
  · rw [hm]; exact rNumber_least w
  · match t, hlen, hm with
    | [], _, _ => exact rNumber_empty w
    | c :: r, hl, hm =>
      by_cases hc : c = 45
      · exact rNumber_minus (c :: r) r (by rw [hc]) hl hm w
      · exact rNumber_plain (c :: r) c r rfl hc hl w
end Go.Proofs.YtecpknpcjoiliabDoor
