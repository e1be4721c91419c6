import Derived.Test.YtecpknpcjoiliaaDoorCJRd
import Derived.Test.YtecpknpcjoiliaaDoorCJPa
namespace Go.Proofs.YtecpknpcjoiliaaDoor
open Go.RowKit
set_option linter.unusedVariables false
set_option linter.unusedSimpArgs false

def valL (l : List UInt8) : Nat := l.foldl (fun n c => 10 * n + (c.toNat - 48)) 0
theorem valL_snoc (l : List UInt8) (c : UInt8) : valL (l ++ [c]) = 10 * valL l + (c.toNat - 48) := by simp [valL]
theorem valL_dec (u : Nat) : valL (Lib.decDigits u) = u := by
  induction u using Nat.strongRecOn with
  | ind u ih =>
    by_cases h : u < 10
    · rw [Lib.decDigits, dif_pos h]
      have e : (UInt8.ofNat (48 + u)).toNat = 48 + u := UInt8.toNat_ofNat_of_lt' (by omega : 48 + u < 256)
      show 10 * 0 + ((UInt8.ofNat (48 + u)).toNat - 48) = u
      rw [e]
      omega
    · rw [Lib.decDigits, dif_neg h, valL_snoc, ih (u / 10) (by omega)]
      have e : (UInt8.ofNat (48 + u % 10)).toNat = 48 + u % 10 := UInt8.toNat_ofNat_of_lt' (by omega : 48 + u % 10 < 256)
      rw [e]
      omega
/-- a number's word: a minus or none, and digits -/
theorem num_sign {D t : List UInt8} {m : Bool} (ht : t = (if m = true then 45 :: D else D)) (hm : m = false → ∀ r, D ≠ 45 :: r) {y : Int} (h : numOf t = some y) : D = Lib.decDigits y.natAbs ∧ (m = true → y = -(valL D : Int)) ∧ (m = false → y = (valL D : Int)) := by
  obtain ⟨e, h1, h2⟩ := numOf_some h
  by_cases hn : y < 0
  · obtain ⟨k, rfl⟩ : ∃ k : Nat, y = -(k : Int) := ⟨(-y).toNat, by omega⟩
    have hk : 1 ≤ k := by omega
    rw [Lib.itoa_neg k hk] at e
    have e1 : (-(k : Int)).natAbs = k := by omega
    cases m with
    | true =>
      rw [if_pos rfl] at ht
      rw [ht] at e
      injection e with _ e
      rw [← e, e1, valL_dec]
      exact ⟨rfl, fun _ => rfl, (fun h => by cases h)⟩
    | false =>
      rw [if_neg (by simp)] at ht
      rw [ht] at e
      exact absurd e.symm (hm rfl _)
  · obtain ⟨k, rfl⟩ : ∃ k : Nat, y = (k : Int) := ⟨y.toNat, by omega⟩
    rw [Lib.itoa_nonneg] at e
    have hd := dec_dig k
    have e1 : ((k : Int)).natAbs = k := by omega
    cases m with
    | true =>
      rw [if_pos rfl] at ht
      rw [ht] at e
      have := hd 45 (by rw [e]; exact List.mem_cons_self)
      exact absurd this.1 (by decide)
    | false =>
      rw [if_neg (by simp)] at ht
      rw [ht] at e
      rw [← e, e1, valL_dec]
      exact ⟨rfl, (fun h => by cases h), fun _ => rfl⟩
theorem dec_pos (u : Nat) : 0 < (Lib.decDigits u).length := by
  rw [Lib.decDigits]
  split
  · simp
  · simp
theorem num_few {D t : List UInt8} {m : Bool} (ht : t = (if m = true then 45 :: D else D)) (hm : m = false → ∀ r, D ≠ 45 :: r) {y : Int} (h : numOf t = some y) : 0 < D.length ∧ D.length ≤ 19 := by
  obtain ⟨e, h1, h2⟩ := numOf_some h
  rw [(num_sign ht hm h).1]
  exact ⟨dec_pos _, dec_len 18 y.natAbs (by omega)⟩
theorem num_digs {D t : List UInt8} {m : Bool} (ht : t = (if m = true then 45 :: D else D)) (hm : m = false → ∀ r, D ≠ 45 :: r) {y : Int} (h : numOf t = some y) : ∀ c ∈ D, 48 ≤ c.toNat ∧ c.toNat ≤ 57 := by
  rw [(num_sign ht hm h).1]
  exact dec_dig _
theorem w64_i64 (x : Int) : I64 (wrap64 x) := by unfold wrap64 I64; omega
theorem w64_nil : wrap64 (-((valL [] : Nat) : Int)) = 0 := by simp [valL, wrap64]
theorem w64_id {x : Int} (h : I64 x) : wrap64 x = x := by obtain ⟨h1, h2⟩ := h; unfold wrap64; omega
theorem num_end {D t : List UInt8} {m : Bool} (ht : t = (if m = true then 45 :: D else D)) (hm : m = false → ∀ r, D ≠ 45 :: r) {z v : Int} (hz : z = wrap64 v) (h1 : m = true → v = -(valL D : Int)) (h0 : m = false → v = (valL D : Int)) : (Lib.itoa z == t) = (numOf t).isSome ∧ ∀ y, numOf t = some y → z = y := by
  have hi : I64 z := by rw [hz]; exact w64_i64 v
  cases hq : numOf t with
  | none =>
    refine ⟨?_, fun y hy => by cases hy⟩
    cases hb : (Lib.itoa z == t) with
    | false => rfl
    | true =>
      have : Lib.itoa z = t := by simpa using hb
      rw [← this, numOf_itoa hi] at hq
      cases hq
  | some y =>
    obtain ⟨e, hy⟩ := numOf_some hq
    obtain ⟨_, s1, s0⟩ := num_sign ht hm hq
    have hv : v = y := by
      cases m with
      | true => rw [h1 rfl, s1 rfl]
      | false => rw [h0 rfl, s0 rfl]
    have : z = y := by rw [hz, hv, w64_id hy]
    subst this
    refine ⟨?_, fun y' hy' => by injection hy'⟩
    rw [e]
    simp
theorem head45 {D : List UInt8} (hD : ∀ r, D ≠ 45 :: r) (h : 0 < (⟨D.toArray⟩ : ByteArray).size) : ((((⟨D.toArray⟩ : ByteArray)[0]'h).toNat : Int) == 45) = false := by
  match D, hD with
  | [], _ => simp [ByteArray.size] at h
  | c :: r, hD =>
    show ((c.toNat : Int) == 45) = false
    simp
    intro e
    have e2 : (45 : UInt8).toNat = 45 := rfl
    exact hD r (by rw [UInt8.toNat_inj.1 (show c.toNat = (45 : UInt8).toNat by omega)])
/-- what number answers -/
def RNumP (w : World) (t : List UInt8) (x : Int) (b : Bool) (w' : World) : Prop := Below w.heap.size w w' ∧ I64 x ∧ b = (numOf t).isSome ∧ ∀ y, numOf t = some y → x = y
def RNumA (w : World) (t : List UInt8) (e : Ending) (w' : World) : Prop := ∃ x b, e = .returned (.tuple #[.int .i64 x, .bool b]) ∧ Bx (RNumP w t x b w')
set_option maxRecDepth 100000 in
set_option maxHeartbeats 4000000 in
theorem rnumber_plain (D : List UInt8) (hD : ∀ r, D ≠ 45 :: r) (hne : D ≠ []) (hlen : D.length ≤ 1099511627776) (w : World) : Calls Tryd.prog 51 #[strV (D)] w (RNumA w (D)) := by
  have hm : false = false → ∀ r, D ≠ 45 :: r := fun _ => hD
  have ht : (D) = (if false = true then 45 :: D else D) := by simp
  have HNO : Bx (∀ w', Below w.heap.size w w' → numOf (D) = none → RNumP w (D) 0 false w') := ⟨fun w' hb h => ⟨hb, ⟨by decide, by decide⟩, by rw [h]; rfl, fun y hy => by rw [h] at hy; cases hy⟩⟩
  have HLEN : Bx (¬ (0 < D.length ∧ D.length ≤ 19) → numOf (D) = none) := ⟨fun h => by
    cases hq : numOf (D) with
    | none => rfl
    | some y => exact absurd (num_few ht hm hq) h⟩
  have HDG : Bx (∀ i (h : i < D.length), ¬ (48 ≤ (D[i]).toNat ∧ (D[i]).toNat ≤ 57) → numOf (D) = none) := ⟨fun i hi h => by
    cases hq : numOf (D) with
    | none => rfl
    | some y => exact absurd (num_digs ht hm hq _ (List.getElem_mem hi)) h⟩
  have HFIN : Bx (∀ z w', Below w.heap.size w w' → z = wrap64 ((valL D : Int)) → RNumP w (D) z (Lib.itoa z == D) w') := ⟨fun z w' hb hz => by
    have := num_end ht hm hz (fun h => by cases h) (fun _ => rfl)
    exact ⟨hb, by rw [hz]; exact w64_i64 _, this.1, this.2⟩⟩
  have HDI : Bx (∀ z W, Below w.heap.size w W → I64 z → Calls Tryd.prog 44 #[.int .i64 z] W fun e w' => e = .returned (strV (Lib.itoa z)) ∧ Bx (Below w.heap.size w w')) := ⟨fun z W hb hz => (rdigits_any z hz W).mono fun e w' h => ⟨h.1, ⟨hb.trans (h.2.mono hb.size)⟩⟩⟩
  have HB0 : Bx (Below w.heap.size w w) := ⟨Below.refl _ _⟩
  have hsz : (⟨(D).toArray⟩ : ByteArray).size = D.length := by simp [ByteArray.size]
  by_cases h0 : D = []
  · exact absurd h0 hne
  have hpos : 0 < D.length := List.length_pos_iff.2 h0
  have hposI : (0 : Int) < (D.length : Int) := by omega
  have hz0 : ((D.length : Int) == 0) = false := by simp; exact h0
  have hc45 := head45 hD
  obtain ⟨cz, hcz⟩ : ∃ cz : Int, ∀ h : 0 < (⟨D.toArray⟩ : ByteArray).size, (((⟨D.toArray⟩ : ByteArray)[0]'h).toNat : Int) = cz := ⟨((D[0]).toNat : Int), fun h => rfl⟩
  have hcc : (cz == 45) = false := by rw [← hcz (by rw [hsz]; exact hpos)]; exact hc45 _
  have hcn : ¬ cz = 45 := by simpa using hcc
  clear hD hm hc45 ht
  by_cases h20 : 20 < D.length
  · have h20I : (20 : Int) < (D.length : Int) := by omega
    have HQ : Bx _ := ⟨HNO.out _ HB0.out (HLEN.out (by omega))⟩
    clear HLEN HDG HFIN HDI HNO
    go_enter Tryd.func51, Tryd.ntmps51
    go_wp2
    go_ret2
    exact ⟨0, false, rfl, HQ⟩
  have h20I : decide ((20 : Int) < (D.length : Int)) = false := by simp; omega
  clear HLEN
  go_enter Tryd.func51, Tryd.ntmps51
  go_wp2
  go_loopw [6, 5] (fun x y wr => ∃ k : Nat, k ≤ D.length ∧ x = .int .i64 ((k : Nat) : Int) ∧ y = .int .i64 (wrap64 (-(valL (D.take k) : Int))) ∧ Bx (Below w.heap.size w wr)) (fun x _ _ => D.length + 1 - (intOf x).toNat)
  case atStart => exact ⟨0, Nat.zero_le _, rfl, congrArg (Value.int .i64) (by rw [List.take_zero]; exact w64_nil.symm), HB0⟩
  case round =>
    obtain ⟨i, hi, rfl, rfl, HS⟩ := hrel
    clear HB0
    by_cases hlt : i < D.length
    · have hget : ∀ h : i < (⟨(D).toArray⟩ : ByteArray).size, ((⟨(D).toArray⟩ : ByteArray)[i]'h).toNat = (D[i]).toNat := fun h => rfl
      have HSN : Bx (valL (D.take (i + 1)) = 10 * valL (D.take i) + ((D[i]).toNat - 48)) := ⟨by rw [List.take_succ_eq_append_getElem hlt, valL_snoc]⟩
      have hnn := HDG.out i hlt
      have HNN : Bx _ := ⟨hnn⟩
      clear hnn HDG
      have hcb : (D[i]).toNat < 256 := UInt8.toNat_lt _
      have hilI : ((i : Int)) < (D.length : Int) := by omega
      obtain ⟨c, hc⟩ : ∃ c, c = (D[i]).toNat := ⟨_, rfl⟩
      rw [← hc] at HSN HNN hcb
      simp only [← hc] at hget
      obtain ⟨n, hn⟩ : ∃ n, n = valL (D.take i) := ⟨_, rfl⟩
      rw [← hn] at HSN ⊢
      obtain ⟨u, hu⟩ : ∃ u, u = wrap64 (-(n : Int)) := ⟨_, rfl⟩
      rw [← hu]
      have HU : Bx (u = wrap64 (-(n : Int))) := ⟨hu⟩
      clear hc hn hu
      by_cases h1 : c < 48
      · have g1 : decide ((c : Int) < 48) = true := by simp; omega
        have HQ : Bx _ := ⟨HNO.out _ HS.out (HNN.out (by omega))⟩
        clear HNN HSN HNO HFIN HDI
        go_wp2
        go_ret2
        exact ⟨0, false, rfl, HQ⟩
      · by_cases h2 : 57 < c
        · have g1 : decide ((c : Int) < 48) = false := by simp; omega
          have g2 : decide ((57 : Int) < (c : Int)) = true := by simp; omega
          have HQ : Bx _ := ⟨HNO.out _ HS.out (HNN.out (by omega))⟩
          clear HNN HSN HNO HFIN HDI
          go_wp2
          go_ret2
          exact ⟨0, false, rfl, HQ⟩
        · obtain ⟨d, rfl⟩ : ∃ d, c = d + 48 := ⟨c - 48, by omega⟩
          have hd : d ≤ 9 := by omega
          have hwu : IntKind.u8.wrap (((d + 48 : Nat) : Int) - 48) = (d : Int) := by
            rw [IntKind.wrap_u8]
            omega
          have hsub : ((d + 48 : Nat) : Int) - 48 = (d : Int) := by omega
          have g1 : decide ((d : Int) + 48 < 48) = false := by simp; omega
          have g2 : decide ((57 : Int) < (d : Int) + 48) = false := by simp; omega
          obtain ⟨z, hz⟩ : ∃ z, z = IntKind.i64.wrap (IntKind.i64.wrap (u * 10) - (d : Int)) := ⟨_, rfl⟩
          have HZ : Bx (z = wrap64 (-((valL (D.take (i + 1)) : Nat) : Int))) := ⟨by
            rw [hz, HSN.out, HU.out, IntKind.wrap_i64, IntKind.wrap_i64]
            unfold wrap64
            have : d + 48 - 48 = d := by omega
            rw [this]
            push_cast
            omega⟩
          have hz2 := hz.symm
          clear hz HNN HSN HU HNO HFIN HDI
          go_wp2
          go_roundw
          case rel => exact ⟨i + 1, hlt, by go_num, by rw [← HZ.out, ← hz2]; simp only [IntKind.wrap_i64, wrap64], HS⟩
          case measure => simp [intOf]; omega
    · obtain rfl : i = D.length := by omega
      rw [List.take_length]
      obtain ⟨u, hu⟩ : ∃ u, u = wrap64 (-(valL D : Int)) := ⟨_, rfl⟩
      rw [← hu]
      obtain ⟨z, hz⟩ : ∃ z, z = IntKind.i64.wrap (-u) := ⟨_, rfl⟩
      have hzu : z = wrap64 (valL D : Int) := by
        rw [hz, hu, IntKind.wrap_i64]
        unfold wrap64
        omega
      have HF : Bx (∀ w', Below w.heap.size w w' → RNumP w D z (Lib.itoa z == D) w') := ⟨fun w' hb => HFIN.out z w' hb hzu⟩
      have HDn : Bx _ := ⟨HDI.out z _ HS.out (by rw [hzu]; exact w64_i64 _)⟩
      have hz2 := hz.symm
      clear hu hz hzu HFIN HDI HNO HDG
      go_wp2_with (go_at_call 44; refine HDn.out.mono ?_; rintro e w1 ⟨rfl, H1⟩)
      go_ret2
      exact ⟨_, _, rfl, ⟨HF.out _ H1.out⟩⟩
set_option maxRecDepth 100000 in
set_option maxHeartbeats 4000000 in
theorem rnumber_minus (D : List UInt8) (hne : D ≠ []) (hlen : D.length ≤ 1099511627776) (w : World) : Calls Tryd.prog 51 #[strV (45 :: D)] w (RNumA w (45 :: D)) := by
  have hm : true = false → ∀ r, D ≠ 45 :: r := fun h => by cases h
  have ht : (45 :: D) = (if true = true then 45 :: D else D) := by simp
  have HNO : Bx (∀ w', Below w.heap.size w w' → numOf (45 :: D) = none → RNumP w (45 :: D) 0 false w') := ⟨fun w' hb h => ⟨hb, ⟨by decide, by decide⟩, by rw [h]; rfl, fun y hy => by rw [h] at hy; cases hy⟩⟩
  have HLEN : Bx (¬ (0 < D.length ∧ D.length ≤ 19) → numOf (45 :: D) = none) := ⟨fun h => by
    cases hq : numOf (45 :: D) with
    | none => rfl
    | some y => exact absurd (num_few ht hm hq) h⟩
  have HDG : Bx (∀ i (h : i < D.length), ¬ (48 ≤ (D[i]).toNat ∧ (D[i]).toNat ≤ 57) → numOf (45 :: D) = none) := ⟨fun i hi h => by
    cases hq : numOf (45 :: D) with
    | none => rfl
    | some y => exact absurd (num_digs ht hm hq _ (List.getElem_mem hi)) h⟩
  have HFIN : Bx (∀ z w', Below w.heap.size w w' → z = wrap64 (-(valL D : Int)) → RNumP w (45 :: D) z (Lib.itoa z == 45 :: D) w') := ⟨fun z w' hb hz => by
    have := num_end ht hm hz (fun _ => rfl) (fun h => by cases h)
    exact ⟨hb, by rw [hz]; exact w64_i64 _, this.1, this.2⟩⟩
  have HDI : Bx (∀ z W, Below w.heap.size w W → I64 z → Calls Tryd.prog 44 #[.int .i64 z] W fun e w' => e = .returned (strV (Lib.itoa z)) ∧ Bx (Below w.heap.size w w')) := ⟨fun z W hb hz => (rdigits_any z hz W).mono fun e w' h => ⟨h.1, ⟨hb.trans (h.2.mono hb.size)⟩⟩⟩
  have HB0 : Bx (Below w.heap.size w w) := ⟨Below.refl _ _⟩
  have hsz : (⟨(45 :: D).toArray⟩ : ByteArray).size = D.length + 1 := by simp [ByteArray.size]
  have hX0 : ∀ h : 0 < (⟨(45 :: D).toArray⟩ : ByteArray).size, (((⟨(45 :: D).toArray⟩ : ByteArray)[0]'h).toNat : Int) = 45 := fun h => rfl
  by_cases h0 : D = []
  · exact absurd h0 hne
  have hpos : 0 < D.length := List.length_pos_iff.2 h0
  have hposI : (0 : Int) < (D.length : Int) + 1 := by omega
  have hz0 : ((D.length : Int) + 1 == 1) = false := by simp; omega
  clear hm ht
  by_cases h20 : 20 < D.length + 1
  · have h20I : (20 : Int) < (D.length : Int) + 1 := by omega
    have HQ : Bx _ := ⟨HNO.out _ HB0.out (HLEN.out (by omega))⟩
    clear HLEN HDG HFIN HDI HNO
    go_enter Tryd.func51, Tryd.ntmps51
    go_wp2
    go_ret2
    exact ⟨0, false, rfl, HQ⟩
  have h20I : decide ((20 : Int) < (D.length : Int) + 1) = false := by simp; omega
  clear HLEN
  go_enter Tryd.func51, Tryd.ntmps51
  go_wp2
  go_loopw [6, 5] (fun x y wr => ∃ k : Nat, k ≤ D.length ∧ x = .int .i64 ((k + 1 : Nat) : Int) ∧ y = .int .i64 (wrap64 (-(valL (D.take k) : Int))) ∧ Bx (Below w.heap.size w wr)) (fun x _ _ => D.length + 1 - (intOf x).toNat)
  case atStart => exact ⟨0, Nat.zero_le _, rfl, congrArg (Value.int .i64) (by rw [List.take_zero]; exact w64_nil.symm), HB0⟩
  case round =>
    obtain ⟨i, hi, rfl, rfl, HS⟩ := hrel
    clear HB0
    by_cases hlt : i < D.length
    · have hget : ∀ h : i + 1 < (⟨(45 :: D).toArray⟩ : ByteArray).size, ((⟨(45 :: D).toArray⟩ : ByteArray)[i + 1]'h).toNat = (D[i]).toNat := fun h => rfl
      have HSN : Bx (valL (D.take (i + 1)) = 10 * valL (D.take i) + ((D[i]).toNat - 48)) := ⟨by rw [List.take_succ_eq_append_getElem hlt, valL_snoc]⟩
      have hnn := HDG.out i hlt
      have HNN : Bx _ := ⟨hnn⟩
      clear hnn HDG
      have hcb : (D[i]).toNat < 256 := UInt8.toNat_lt _
      have hilI : ((i : Int) + 1) < (D.length : Int) + 1 := by omega
      obtain ⟨c, hc⟩ : ∃ c, c = (D[i]).toNat := ⟨_, rfl⟩
      rw [← hc] at HSN HNN hcb
      simp only [← hc] at hget
      obtain ⟨n, hn⟩ : ∃ n, n = valL (D.take i) := ⟨_, rfl⟩
      rw [← hn] at HSN ⊢
      obtain ⟨u, hu⟩ : ∃ u, u = wrap64 (-(n : Int)) := ⟨_, rfl⟩
      rw [← hu]
      have HU : Bx (u = wrap64 (-(n : Int))) := ⟨hu⟩
      clear hc hn hu
      by_cases h1 : c < 48
      · have g1 : decide ((c : Int) < 48) = true := by simp; omega
        have HQ : Bx _ := ⟨HNO.out _ HS.out (HNN.out (by omega))⟩
        clear HNN HSN HNO HFIN HDI
        go_wp2
        go_ret2
        exact ⟨0, false, rfl, HQ⟩
      · by_cases h2 : 57 < c
        · have g1 : decide ((c : Int) < 48) = false := by simp; omega
          have g2 : decide ((57 : Int) < (c : Int)) = true := by simp; omega
          have HQ : Bx _ := ⟨HNO.out _ HS.out (HNN.out (by omega))⟩
          clear HNN HSN HNO HFIN HDI
          go_wp2
          go_ret2
          exact ⟨0, false, rfl, HQ⟩
        · obtain ⟨d, rfl⟩ : ∃ d, c = d + 48 := ⟨c - 48, by omega⟩
          have hd : d ≤ 9 := by omega
          have hwu : IntKind.u8.wrap (((d + 48 : Nat) : Int) - 48) = (d : Int) := by
            rw [IntKind.wrap_u8]
            omega
          have hsub : ((d + 48 : Nat) : Int) - 48 = (d : Int) := by omega
          have g1 : decide ((d : Int) + 48 < 48) = false := by simp; omega
          have g2 : decide ((57 : Int) < (d : Int) + 48) = false := by simp; omega
          obtain ⟨z, hz⟩ : ∃ z, z = IntKind.i64.wrap (IntKind.i64.wrap (u * 10) - (d : Int)) := ⟨_, rfl⟩
          have HZ : Bx (z = wrap64 (-((valL (D.take (i + 1)) : Nat) : Int))) := ⟨by
            rw [hz, HSN.out, HU.out, IntKind.wrap_i64, IntKind.wrap_i64]
            unfold wrap64
            have : d + 48 - 48 = d := by omega
            rw [this]
            push_cast
            omega⟩
          have hz2 := hz.symm
          clear hz HNN HSN HU HNO HFIN HDI
          go_wp2
          go_roundw
          case rel => exact ⟨i + 1, hlt, by go_num, by rw [← HZ.out, ← hz2]; simp only [IntKind.wrap_i64, wrap64], HS⟩
          case measure => simp [intOf]; omega
    · obtain rfl : i = D.length := by omega
      rw [List.take_length]
      obtain ⟨u, hu⟩ : ∃ u, u = wrap64 (-(valL D : Int)) := ⟨_, rfl⟩
      rw [← hu]
      have HF : Bx (∀ w', Below w.heap.size w w' → RNumP w (45 :: D) u (Lib.itoa u == 45 :: D) w') := ⟨fun w' hb => HFIN.out u w' hb hu⟩
      have HDn : Bx _ := ⟨HDI.out u _ HS.out (by rw [hu]; exact w64_i64 _)⟩
      clear hu HFIN HDI HNO HDG
      go_wp2_with (go_at_call 44; refine HDn.out.mono ?_; rintro e w1 ⟨rfl, H1⟩)
      go_ret2
      exact ⟨_, _, rfl, ⟨HF.out _ H1.out⟩⟩
set_option maxRecDepth 100000 in
set_option maxHeartbeats 4000000 in
theorem rnumber_none (w : World) : Calls Tryd.prog 51 #[strV []] w (RNumA w []) := by
  have HQ : Bx (RNumP w [] 0 false w) := ⟨Below.refl _ _, ⟨by decide, by decide⟩, by decide, fun y hy => by cases hy⟩
  show Calls Tryd.prog 51 #[.string ⟨#[]⟩] w (RNumA w [])
  go_enter Tryd.func51, Tryd.ntmps51
  go_wp2
  go_ret2
  exact ⟨0, false, rfl, HQ⟩
theorem rnumber_dash (w : World) : Calls Tryd.prog 51 #[strV [45]] w (RNumA w [45]) := by
  have HQ : Bx (RNumP w [45] 0 false w) := ⟨Below.refl _ _, ⟨by decide, by decide⟩, by decide, fun y hy => by cases hy⟩
  show Calls Tryd.prog 51 #[.string ⟨#[45]⟩] w (RNumA w [45])
  go_enter Tryd.func51, Tryd.ntmps51
  go_wp2
  go_ret2
  exact ⟨0, false, rfl, HQ⟩
theorem rnumber_any (t : List UInt8) (hlen : t.length ≤ 1099511627776) (w : World) : Calls Tryd.prog 51 #[strV t] w (RNumA w t) := by
  by_cases h : ∃ r, t = 45 :: r
  · obtain ⟨r, rfl⟩ := h
    by_cases h0 : r = []
    · subst h0
      exact rnumber_dash w
    · exact rnumber_minus r h0 (by simp at hlen; omega) w
  · by_cases h0 : t = []
    · subst h0
      exact rnumber_none w
    · exact rnumber_plain t (fun r e => h ⟨r, e⟩) h0 hlen w
end Go.Proofs.YtecpknpcjoiliaaDoor
namespace Go.Proofs.YtecpknpcjoiliaaDoor
open Go.RowKit Go.Shelf
set_option linter.unusedVariables false
set_option linter.unusedSimpArgs false

def wordsL (sp : UInt8) (s : List UInt8) : List (List UInt8) := (pieces sp s).1 :: (pieces sp s).2
theorem words_none {sp : UInt8} {s : List UInt8} (h : sp ∉ s) : wordsL sp s = [s] := by
  unfold wordsL
  rw [pieces_none h]
theorem words_app {sp : UInt8} {l r : List UInt8} (h : sp ∉ l) : wordsL sp (l ++ sp :: r) = l :: wordsL sp r := by
  unfold wordsL
  rw [pieces_app h]
/-- what is cut off so far -/
def Spl (sp : UInt8) (s : List UInt8) (i f : Nat) (ws : List (List UInt8)) : Prop := (i ≤ s.length ∧ f ≤ i ∧ ws ++ wordsL sp (s.drop f) = wordsL sp s ∧ sp ∉ (s.drop f).take (i - f)) ∨ (i = s.length + 1 ∧ ws = wordsL sp s)
theorem Spl.start (sp : UInt8) (s : List UInt8) : Spl sp s 0 0 [] := .inl ⟨Nat.zero_le _, Nat.le_refl _, rfl, by simp⟩
theorem Spl.stop {sp : UInt8} {s : List UInt8} {i f : Nat} {ws : List (List UInt8)} (h : Spl sp s i f ws) (hi : s.length < i) : ws = wordsL sp s := by
  rcases h with h | h
  · omega
  · exact h.2
theorem Spl.last {sp : UInt8} {s : List UInt8} {f : Nat} {ws : List (List UInt8)} (h : Spl sp s s.length f ws) : f ≤ s.length ∧ Spl sp s (s.length + 1) (s.length + 1) (ws ++ [s.drop f]) := by
  rcases h with ⟨h1, h2, h3, h4⟩ | h
  · rw [List.take_of_length_le (by rw [List.length_drop]; omega)] at h4
    rw [words_none h4] at h3
    exact ⟨h2, .inr ⟨rfl, h3⟩⟩
  · omega
theorem Spl.cut {sp : UInt8} {s : List UInt8} {i f : Nat} {ws : List (List UInt8)} (h : Spl sp s i f ws) (hi : i < s.length) (hc : s[i] = sp) : f ≤ i ∧ Spl sp s (i + 1) (i + 1) (ws ++ [(s.drop f).take (i - f)]) := by
  rcases h with ⟨h1, h2, h3, h4⟩ | h
  · refine ⟨h2, .inl ⟨hi, Nat.le_refl _, ?_, by simp⟩⟩
    rw [drop_cut h2 hi, hc, words_app h4] at h3
    rw [← h3]
    simp
  · omega
theorem Spl.go {sp : UInt8} {s : List UInt8} {i f : Nat} {ws : List (List UInt8)} (h : Spl sp s i f ws) (hi : i < s.length) (hc : s[i] ≠ sp) : Spl sp s (i + 1) f ws := by
  rcases h with ⟨h1, h2, h3, h4⟩ | h
  · refine .inl ⟨hi, by omega, h3, ?_⟩
    have hl : i - f < (s.drop f).length := by rw [List.length_drop]; omega
    have e : i + 1 - f = (i - f) + 1 := by omega
    rw [e, List.take_succ_eq_append_getElem hl, List.mem_append, not_or]
    refine ⟨h4, ?_⟩
    have e2 : (s.drop f)[i - f] = s[i] := by
      rw [List.getElem_drop]
      congr 1
      omega
    rw [e2, List.mem_singleton]
    exact fun h => hc h.symm
  · omega
theorem Spl.few {sp : UInt8} {s : List UInt8} {i f : Nat} {ws : List (List UInt8)} (h : Spl sp s i f ws) : ws.length ≤ s.length + 1 := by
  have hp := pieces_len sp s
  rcases h with ⟨h1, h2, h3, h4⟩ | h
  · have := congrArg List.length h3
    unfold wordsL at this
    simp at this
    omega
  · rw [h.2]
    unfold wordsL
    simp
    omega
set_option maxRecDepth 100000 in
set_option maxHeartbeats 4000000 in
/-- the pieces that the reference cuts a text into -/
theorem rsplit_any (s : List UInt8) (w : World) (hl : s.length ≤ 1099511627776) :
    Calls Tryd.prog 50 #[strV s] w fun e w' => ∃ v, e = .returned v ∧ Bx (SRo w' w.heap.size v (wordsL 32 s) ∧ Below w.heap.size w w') := by
  obtain ⟨Q, hQ⟩ : ∃ Q : Ending → World → Prop, Q = fun e w' => ∃ v, e = .returned v ∧ Bx (SRo w' w.heap.size v (wordsL 32 s) ∧ Below w.heap.size w w') := ⟨_, rfl⟩
  obtain ⟨H, hH⟩ : ∃ H, w.heap.size = H := ⟨_, rfl⟩
  have HQ1 : Bx (∀ v w', SRo w' H v (wordsL 32 s) → Below H w w' → Q (.returned v) w') := ⟨fun v w' h1 h2 => by rw [hQ, hH]; exact ⟨v, rfl, ⟨h1, h2⟩⟩⟩
  rw [← hQ]
  clear hQ
  obtain ⟨W1, hW1⟩ : ∃ X, w.alloc (.cells #[] 9) = X := ⟨_, rfl⟩
  have HS1 : Bx (SRo W1 H (.slice (some ⟨H, 0, none⟩) 0 0) []) := ⟨by rw [← hW1]; exact SRo.mk0 w H hH⟩
  have HB1 : Bx (Below H w W1) := ⟨by rw [← hW1, ← hH]; exact below1 w _⟩
  have hHw : H ≤ W1.heap.size := by have := HB1.out.size; omega
  go_enter Tryd.func50, Tryd.ntmps50
  go_wp2
  clear hW1
  go_loopw [5, 4, 3] (fun x y v wr => ∃ (i f : Nat) (ws : List (List UInt8)) (vv : Value), i ≤ s.length + 1 ∧ f ≤ s.length + 1 ∧ x = .int .i64 (i : Int) ∧ y = .int .i64 (f : Int) ∧ vv = v ∧ Bx (Spl 32 s i f ws ∧ SRo wr H vv ws ∧ Below H w wr)) (fun x _ _ _ => s.length + 2 - (intOf x).toNat)
  case atStart => exact ⟨0, 0, [], _, by omega, by omega, rfl, rfl, rfl, ⟨Spl.start 32 s, HS1.out, HB1.out⟩⟩
  case round =>
    obtain ⟨i, f, ws, vv, hi, hf, rfl, rfl, rfl, HI⟩ := hrel
    clear HS1 HB1
    by_cases h1 : i = s.length + 1
    · have HW : Bx (SRo wr H vv (wordsL 32 s) ∧ Below H w wr) := ⟨by have := HI.out.1.stop (by omega); rw [← this]; exact HI.out.2⟩
      clear HI
      subst h1
      have hlt0 : ¬ ((s.length + 1 : Nat) : Int) ≤ (s.length : Int) := by omega
      go_wp2
      skip
      exact HQ1.out _ _ HW.out.1 HW.out.2
    · have hlt0 : (i : Int) ≤ (s.length : Int) := by omega
      by_cases h2 : i = s.length
      · subst h2
        obtain ⟨hfi, HSp⟩ : f ≤ s.length ∧ Bx _ := ⟨HI.out.1.last.1, ⟨HI.out.1.last.2⟩⟩
        have hfi2 : (f : Int) ≤ (s.length : Int) := by omega
        have hwr : H ≤ wr.heap.size := by have := HI.out.2.2.size; omega
        obtain ⟨v4, W4, r4, o4, g4⟩ := app_sro wr H vv ws HI.out.2.1 (s.drop f) hwr (by have := HI.out.1.few; omega)
        have e1 : strV (s.drop f) = .string ((⟨s.toArray⟩ : ByteArray).extract f s.length) := (ext_last s f)
        rw [e1] at r4
        have HO4 : Bx (SRo W4 H v4 (ws ++ [s.drop f]) ∧ Below H w W4) := ⟨o4, HI.out.2.2.grown g4 hwr fun k hk => (HI.out.2.1.lt hk).1⟩
        clear HI o4 g4 e1
        go_wp2_with (at_builtin; refine wpList_appI rfl (.tmp 23) (.tmp 28) 52 rfl rfl rfl r4 ?_)
        go_roundw
        case rel => exact ⟨s.length + 1, s.length + 1, _, v4, by omega, by omega, by simp, by simp, rfl, ⟨HSp.out, HO4.out⟩⟩
        case measure => first | (simp [intOf]; omega) | simp [intOf]
      · have hil : i < s.length := by omega
        have hil2 : (i : Int) < (s.length : Int) := by omega
        have hine : ¬ (i : Int) = (s.length : Int) := by omega
        by_cases h3 : s[i]'hil = 32
        · have hc3 : ∀ hi, (⟨s.toArray⟩ : ByteArray)[i]'hi = 32 := fun hi => h3
          obtain ⟨hfi, HSp⟩ : f ≤ i ∧ Bx _ := ⟨(HI.out.1.cut hil h3).1, ⟨(HI.out.1.cut hil h3).2⟩⟩
          have hfi2 : (f : Int) ≤ (i : Int) := by omega
          have hwr : H ≤ wr.heap.size := by have := HI.out.2.2.size; omega
          obtain ⟨v4, W4, r4, o4, g4⟩ := app_sro wr H vv ws HI.out.2.1 ((s.drop f).take (i - f)) hwr (by have := HI.out.1.few; omega)
          have e1 : strV ((s.drop f).take (i - f)) = .string ((⟨s.toArray⟩ : ByteArray).extract f i) := (ext_str s f i)
          rw [e1] at r4
          have HO4 : Bx (SRo W4 H v4 (ws ++ [(s.drop f).take (i - f)]) ∧ Below H w W4) := ⟨o4, HI.out.2.2.grown g4 hwr fun k hk => (HI.out.2.1.lt hk).1⟩
          clear HI o4 g4 e1
          go_wp2_with (at_builtin; refine wpList_appI rfl (.tmp 23) (.tmp 28) 52 rfl rfl rfl r4 ?_)
          go_roundw
          case rel => exact ⟨i + 1, i + 1, _, v4, by omega, by omega, by simp, by simp, rfl, ⟨HSp.out, HO4.out⟩⟩
          case measure => first | (simp [intOf]; omega) | simp [intOf]
        · have hsz : i < (⟨s.toArray⟩ : ByteArray).size := by show i < s.toArray.size; simpa using hil
          have hc3 : ¬ (((⟨s.toArray⟩ : ByteArray)[i]'hsz).toNat : Int) = 32 := fun h => h3 (UInt8.toNat_inj.1 (by have h : ((s[i]).toNat : Int) = 32 := h; have e : (32 : UInt8).toNat = 32 := rfl; rw [e]; omega))
          have hc4 : ((((⟨s.toArray⟩ : ByteArray)[i]'hsz).toNat : Int) == 32) = false := by simpa using hc3
          have hin4 : ((i : Int) == (s.length : Int)) = false := by simpa using hine
          have HSp : Bx (Spl 32 s (i + 1) f ws ∧ SRo wr H vv ws ∧ Below H w wr) := ⟨HI.out.1.go hil h3, HI.out.2⟩
          clear HI h3 hc3
          go_wp2
          go_roundw
          case rel => exact ⟨i + 1, f, ws, vv, by omega, hf, by simp, rfl, rfl, HSp⟩
          case measure => simp [intOf]; omega
theorem plc_none {t : List UInt8} : ∀ {l : List (List UInt8)}, (∀ x ∈ l, x ≠ t) → place t l = 0
  | [], _ => rfl
  | x :: r, h => by
    rw [place, if_neg (h x List.mem_cons_self), if_pos (plc_none fun y hy => h y (List.mem_cons_of_mem _ hy))]
theorem place_found {t : List UInt8} : ∀ {l : List (List UInt8)} {i : Nat} (hi : i < l.length), (∀ j (hj : j < i), l[j]'(by omega) ≠ t) → l[i] = t → place t l = i + 1
  | x :: r, 0, _, _, h => by
    have h : x = t := h
    rw [place, if_pos h]
  | x :: r, i + 1, hi, hn, h => by
    have h0 : x ≠ t := hn 0 (by omega)
    have ih := place_found (t := t) (l := r) (i := i) (by simpa using hi) (fun j hj => hn (j + 1) (by omega)) h
    rw [place, if_neg h0, ih, if_neg (by omega)]
set_option maxRecDepth 100000 in
set_option maxHeartbeats 4000000 in
theorem rplace_any (w : World) (g c : Nat) (l : List (List UInt8)) (t : List UInt8) (hl : l.length ≤ 100) (hc : ∀ j (hj : j < l.length), w.cell? ⟨g, j, none⟩ = some (strV l[j])) :
    Calls Tryd.prog 52 #[.slice (some ⟨g, 0, none⟩) l.length c, strV t] w fun e w' => e = .returned (.int .i64 ((place t l : Nat) : Int)) ∧ w' = w := by
  have HC : Bx _ := ⟨hc⟩
  clear hc
  go_enter Tryd.func52, Tryd.ntmps52
  go_wp2
  go_loop [5] (fun x => ∃ i : Nat, i ≤ l.length ∧ x = .int .i64 i ∧ Bx (∀ j (hj : j < i) (h2 : j < l.length), l[j] ≠ t)) (fun x => l.length - (intOf x).toNat)
  case atStart => exact ⟨0, Nat.zero_le _, rfl, ⟨fun j hj => by omega⟩⟩
  case round =>
    obtain ⟨i, hi, rfl, HI⟩ := hrel
    by_cases hlt : i < l.length
    · have c0 := HC.out i hlt
      have hiI : (i : Int) < (l.length : Int) := by omega
      by_cases he : l[i] = t
      · have HP : Bx (place t l = i + 1) := ⟨place_found hlt (fun j hj => HI.out j hj (by omega)) he⟩
        rw [he] at c0
        clear HI HC
        go_wp2
        go_ret
        exact ⟨by rw [HP.out]; push_cast; rfl, rfl⟩
      · have HN : Bx (∀ j (hj : j < i + 1) (h2 : j < l.length), l[j] ≠ t) := ⟨fun j hj h2 => by
          by_cases hji : j = i
          · subst hji; exact he
          · exact HI.out j (by omega) h2⟩
        have hb : (l[i] == t) = false := by simpa using he
        generalize l[i] = u at *
        have hb2 : ¬ u = t := he
        clear HI HC he
        go_wp2
        go_round
        case rel => exact ⟨i + 1, hlt, by go_num, HN⟩
        case measure => simp [intOf]; omega
    · have HP : Bx (place t l = 0) := ⟨plc_none fun x hx => by
        obtain ⟨j, hj, rfl⟩ := List.mem_iff_getElem.1 hx
        exact HI.out j (by omega) hj⟩
      clear HI HC
      go_wp2
      go_ret
      exact ⟨by rw [HP.out]; rfl, rfl⟩
end Go.Proofs.YtecpknpcjoiliaaDoor
