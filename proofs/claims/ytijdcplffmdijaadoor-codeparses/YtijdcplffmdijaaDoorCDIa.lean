import Derived.Test.YtijdcplffmdijaaDoorCDGa
import Derived.Test.YtijdcplffmdijaaDoorCDQ
namespace Go.Proofs.YtijdcplffmdijaaDoor
open Go.RowKit
set_option linter.unusedVariables false
set_option linter.unusedSimpArgs false

/-- the number that digits make -/
def valD (acc : Nat) : List UInt8 → Nat
  | [] => acc
  | c :: r => valD (acc * 10 + (c.toNat - 48)) r
theorem valD_app : ∀ (l r : List UInt8) (acc : Nat), valD acc (l ++ r) = valD (valD acc l) r
  | [], _, _ => rfl
  | _ :: l, r, acc => valD_app l r _
theorem valD_dec (u : Nat) : valD 0 (Lib.decDigits u) = u := by
  induction u using Nat.strongRecOn with
  | ind u ih =>
    by_cases h : u < 10
    · have e : (UInt8.ofNat (48 + u)).toNat = 48 + u := UInt8.toNat_ofNat_of_lt' (by omega : 48 + u < 256)
      rw [Lib.decDigits, dif_pos h]
      show 0 * 10 + ((UInt8.ofNat (48 + u)).toNat - 48) = u
      rw [e]
      omega
    · have e : (UInt8.ofNat (48 + u % 10)).toNat = 48 + u % 10 := UInt8.toNat_ofNat_of_lt' (by omega : 48 + u % 10 < 256)
      rw [Lib.decDigits, dif_neg h, valD_app, ih (u / 10) (by omega)]
      show u / 10 * 10 + ((UInt8.ofNat (48 + u % 10)).toNat - 48) = u
      rw [e]
      omega
theorem valD_mono : ∀ (r : List UInt8) (acc : Nat), acc ≤ valD acc r
  | [], _ => Nat.le_refl _
  | c :: r, acc => Nat.le_trans (by omega) (valD_mono r (acc * 10 + (c.toNat - 48)))
theorem wrap_i64 (x : Int) : I64 (IntKind.i64.wrap x) := by
  have e : IntKind.i64.bits = 64 := rfl
  unfold IntKind.wrap I64
  simp [e, IntKind.signed]
  omega
theorem wrap_id {x : Int} (h : I64 x) : IntKind.i64.wrap x = x := by
  obtain ⟨h1, h2⟩ := h
  have e : IntKind.i64.bits = 64 := rfl
  unfold IntKind.wrap
  simp [e, IntKind.signed]
  omega
/-- a text that is a number: its sign, its digits, and their number -/
theorem num_parts {s : List UInt8} {m : Int} (h : numOf s = some m) : I64 m ∧ Lib.itoa m = s ∧ s.length ≤ 20 ∧ ((m < 0 ∧ ∃ d, s = 45 :: d ∧ d ≠ [] ∧ (∀ c ∈ d, 48 ≤ c.toNat ∧ c.toNat ≤ 57) ∧ (valD 0 d : Int) = -m) ∨ (0 ≤ m ∧ s ≠ [] ∧ (∀ c ∈ s, 48 ≤ c.toNat ∧ c.toNat ≤ 57) ∧ (valD 0 s : Int) = m)) := by
  obtain ⟨h1, h2⟩ := numOf_some h
  refine ⟨h2, h1, by rw [← h1]; exact itoa_len h2, ?_⟩
  unfold Lib.itoa at h1
  by_cases hm : m < 0
  · rw [if_pos hm] at h1
    refine .inl ⟨hm, _, h1.symm, dec_ne _, fun c hc => by have := dec_dig m.natAbs c hc; omega, by rw [valD_dec]; omega⟩
  · rw [if_neg hm] at h1
    rw [← h1]
    exact .inr ⟨by omega, dec_ne _, fun c hc => by have := dec_dig m.toNat c hc; omega, by rw [valD_dec]; omega⟩
end Go.Proofs.YtijdcplffmdijaaDoor
namespace Go.Proofs.YtijdcplffmdijaaDoor
open Go.RowKit
set_option linter.unusedVariables false
set_option linter.unusedSimpArgs false

/-- what number answers -/
def NumA (w : World) (s : List UInt8) (e : Ending) (w' : World) : Prop := ∃ (n : Int) (b : Bool), e = .returned (.tuple #[.int .i64 n, .bool b]) ∧ Bx ((match numOf s with
  | some m => b = true ∧ n = m
  | none => b = false) ∧ Below w.heap.size w w')
/-- its last step: the number is printed again, and held against the text -/
theorem num_end {s : List UInt8} {n : Int} (hn : I64 n) (h : ∀ m, numOf s = some m → n = m) : (match numOf s with
  | some m => (Lib.itoa n == s) = true ∧ n = m
  | none => (Lib.itoa n == s) = false) := by
  cases hm : numOf s with
  | some m =>
    have := h m hm
    subst this
    exact ⟨by simp [(numOf_some hm).1], rfl⟩
  | none =>
    simp only []
    cases hq : (Lib.itoa n == s) with
    | false => rfl
    | true =>
      have e : Lib.itoa n = s := by simpa using hq
      rw [← e, numOf_itoa hn] at hm
      cases hm
/-- what is counted up so far: right, if the text is a number -/
def Dig (d : List UInt8) (k : Nat) (n : Int) (M : Option Nat) : Prop := I64 n ∧ ∀ v, M = some v → (∀ c ∈ d, 48 ≤ c.toNat ∧ c.toNat ≤ 57) ∧ valD 0 d = v ∧ v ≤ 9223372036854775808 ∧ n = -(valD 0 (d.take k) : Int)
theorem Dig.start (d : List UInt8) (M : Option Nat) (h : ∀ v, M = some v → (∀ c ∈ d, 48 ≤ c.toNat ∧ c.toNat ≤ 57) ∧ valD 0 d = v ∧ v ≤ 9223372036854775808) : Dig d 0 0 M := ⟨by unfold I64; decide, fun v hv => ⟨(h v hv).1, (h v hv).2.1, (h v hv).2.2, rfl⟩⟩
theorem Dig.step {d : List UInt8} {k : Nat} {n : Int} {M : Option Nat} (h : Dig d k n M) (hk : k < d.length) (c : Nat) (hc : c = d[k].toNat) (h1 : 48 ≤ c) : Dig d (k + 1) (IntKind.i64.wrap (IntKind.i64.wrap (n * 10) - ((c - 48 : Nat) : Int))) M := by
  refine ⟨wrap_i64 _, fun v hv => ?_⟩
  obtain ⟨a, b, e, f⟩ := h.2 v hv
  refine ⟨a, b, e, ?_⟩
  have ht : d.take (k + 1) = d.take k ++ [d[k]] := List.take_succ_eq_append_getElem hk
  have hv1 : valD 0 (d.take (k + 1)) = valD 0 (d.take k) * 10 + (c - 48) := by
    rw [ht, valD_app, hc]
    rfl
  have hle : valD 0 (d.take (k + 1)) ≤ 9223372036854775808 := by
    have h2 : valD 0 d = valD (valD 0 (d.take (k + 1))) (d.drop (k + 1)) := by rw [← valD_app, List.take_append_drop]
    have := valD_mono (d.drop (k + 1)) (valD 0 (d.take (k + 1)))
    omega
  rw [f]
  rw [wrap_id (x := -(valD 0 (d.take k) : Int) * 10) (by unfold I64; omega), wrap_id (by unfold I64; omega), hv1]
  omega
end Go.Proofs.YtijdcplffmdijaaDoor
namespace Go.Proofs.YtijdcplffmdijaaDoor
open Go.RowKit
set_option linter.unusedVariables false
set_option linter.unusedSimpArgs false

/-- the digits' number, of a text behind so many signs -/
def magN (s : List UInt8) : Option Nat := (numOf s).map fun m => m.natAbs
theorem num_nil : numOf ([] : List UInt8) = none := by
  cases h : numOf ([] : List UInt8) with
  | none => rfl
  | some m =>
    obtain ⟨_, _, _, h | h⟩ := num_parts h
    · obtain ⟨_, d, hd, _⟩ := h
      cases hd
    · exact absurd rfl h.2.1
theorem num_minus : numOf ([45] : List UInt8) = none := by
  cases h : numOf ([45] : List UInt8) with
  | none => rfl
  | some m =>
    obtain ⟨_, _, _, h | h⟩ := num_parts h
    · obtain ⟨_, d, hd, h0, _⟩ := h
      injection hd with _ hd
      exact absurd hd.symm h0
    · have := h.2.2.1 45 (by simp)
      exact absurd this (by decide)
theorem num_long {s : List UInt8} (h : 20 < s.length) : numOf s = none := by
  cases hm : numOf s with
  | none => rfl
  | some m =>
    have := (num_parts hm).2.2.1
    omega
/-- the digits of a text that begins with a sign, or with none -/
theorem mag_minus {d : List UInt8} (v : Nat) (h : magN (45 :: d) = some v) : (∀ c ∈ d, 48 ≤ c.toNat ∧ c.toNat ≤ 57) ∧ valD 0 d = v ∧ v ≤ 9223372036854775808 ∧ ∀ m, numOf (45 :: d) = some m → m = -(v : Int) := by
  unfold magN at h
  rw [Option.map_eq_some_iff] at h
  obtain ⟨m, hm, rfl⟩ := h
  obtain ⟨⟨h1, h2⟩, _, _, h | h⟩ := num_parts hm
  · obtain ⟨h3, d', hd, h4, h5, h6⟩ := h
    injection hd with _ hd
    subst hd
    refine ⟨h5, by omega, by omega, fun m' hm' => ?_⟩
    rw [hm] at hm'
    injection hm' with hm'
    omega
  · have := h.2.2.1 45 (by simp)
    exact absurd this (by decide)
theorem mag_plain {s : List UInt8} (c : UInt8) (r : List UInt8) (hs : s = c :: r) (hc : c ≠ 45) (v : Nat) (h : magN s = some v) : (∀ c ∈ s, 48 ≤ c.toNat ∧ c.toNat ≤ 57) ∧ valD 0 s = v ∧ v ≤ 9223372036854775807 ∧ ∀ m, numOf s = some m → m = (v : Int) := by
  unfold magN at h
  rw [Option.map_eq_some_iff] at h
  obtain ⟨m, hm, rfl⟩ := h
  obtain ⟨⟨h1, h2⟩, _, _, h | h⟩ := num_parts hm
  · obtain ⟨h3, d', hd, h4, h5, h6⟩ := h
    rw [hs] at hd
    injection hd with hd _
    exact absurd hd hc
  · obtain ⟨h3, h4, h5, h6⟩ := h
    refine ⟨h5, by omega, by omega, fun m' hm' => ?_⟩
    rw [hm] at hm'
    injection hm' with hm'
    omega
theorem num_short {s : List UInt8} (hs : s = 45 :: s.drop 1) (h : s.length = 1) : numOf s = none := by
  have : s.drop 1 = [] := List.eq_nil_of_length_eq_zero (by rw [List.length_drop]; omega)
  rw [this] at hs
  rw [hs]
  exact num_minus
theorem fst45 {s : List UInt8} {hi : 0 < (⟨s.toArray⟩ : ByteArray).size} (h : ((((⟨s.toArray⟩ : ByteArray)[0]'hi).toNat : Int) == 45) = true) : s = 45 :: s.drop 1 := by
  cases s with
  | nil => exact absurd hi (by decide)
  | cons c r =>
    have h2 : ((c.toNat : Int) == 45) = true := h
    have h3 : c.toNat = 45 := by simp at h2; omega
    have h4 : c = 45 := UInt8.toNat_inj.1 (by rw [h3]; rfl)
    subst h4
    rfl
theorem fstno {s : List UInt8} {hi : 0 < (⟨s.toArray⟩ : ByteArray).size} (h : ((((⟨s.toArray⟩ : ByteArray)[0]'hi).toNat : Int) == 45) = false) : ∃ c r, s = c :: r ∧ c ≠ 45 := by
  cases s with
  | nil => exact absurd hi (by decide)
  | cons c r =>
    have h2 : ((c.toNat : Int) == 45) = false := h
    refine ⟨c, r, rfl, fun h4 => ?_⟩
    subst h4
    exact absurd h2 (by decide)
theorem mag_of {s : List UInt8} {M : Option Nat} (hM : M = magN s) {m : Int} (hm : numOf s = some m) : M = some m.natAbs := by
  rw [hM]
  unfold magN
  rw [hm]
  rfl
theorem mag1 {s d : List UInt8} {M : Option Nat} (hs : s = 45 :: d) (hM : M = magN s) (v : Nat) (hv : M = some v) : (∀ c ∈ d, 48 ≤ c.toNat ∧ c.toNat ≤ 57) ∧ valD 0 d = v ∧ v ≤ 9223372036854775808 := by
  subst hs
  rw [hM] at hv
  obtain ⟨a, b, c, _⟩ := mag_minus v hv
  exact ⟨a, b, c⟩
theorem mag0 {s d : List UInt8} {M : Option Nat} (hs : ∃ c r, s = c :: r ∧ c ≠ 45) (hd : d = s) (hM : M = magN s) (v : Nat) (hv : M = some v) : (∀ c ∈ d, 48 ≤ c.toNat ∧ c.toNat ≤ 57) ∧ valD 0 d = v ∧ v ≤ 9223372036854775808 := by
  subst hd
  obtain ⟨c, r, h1, h2⟩ := hs
  rw [hM] at hv
  obtain ⟨a, b, e, _⟩ := mag_plain c r h1 h2 v hv
  exact ⟨a, b, by omega⟩
theorem wr64 (x : Int) : IntKind.i64.wrap x = wrap64 x := by
  have e : IntKind.i64.bits = 64 := rfl
  unfold IntKind.wrap wrap64
  simp [e, IntKind.signed]
  omega
theorem end1 {s d : List UInt8} {M : Option Nat} (hs : s = 45 :: d) (hM : M = magN s) (n : Int) (hn : Dig d d.length n M) : I64 n ∧ ∀ m, numOf s = some m → n = m := by
  refine ⟨hn.1, fun m hm => ?_⟩
  have hv := mag_of hM hm
  obtain ⟨a, b, c, e⟩ := hn.2 _ hv
  rw [List.take_length, b] at e
  subst hs
  rw [hM] at hv
  have := (mag_minus _ hv).2.2.2 m hm
  omega
theorem end0 {s d : List UInt8} {M : Option Nat} (hs : ∃ c r, s = c :: r ∧ c ≠ 45) (hd : d = s) (hM : M = magN s) (n : Int) (hn : Dig d d.length n M) : I64 (wrap64 (-n)) ∧ ∀ m, numOf s = some m → wrap64 (-n) = m := by
  refine ⟨by rw [← wr64]; exact wrap_i64 _, fun m hm => ?_⟩
  have hv := mag_of hM hm
  obtain ⟨a, b, c, e⟩ := hn.2 _ hv
  rw [List.take_length, b] at e
  obtain ⟨c', r, h1, h2⟩ := hs
  rw [hM] at hv
  obtain ⟨_, _, h3, h4⟩ := mag_plain c' r h1 h2 _ hv
  have := h4 m hm
  rw [← wr64, wrap_id (by unfold I64; omega)]
  omega
theorem bad1 {s d : List UInt8} (hs : s = 45 :: d) (i : Nat) (hi : i < (⟨s.toArray⟩ : ByteArray).size) (h1 : 1 ≤ i) (h2 : (((((⟨s.toArray⟩ : ByteArray)[i]'hi).toNat : Int) < 48) ∨ (57 < (((⟨s.toArray⟩ : ByteArray)[i]'hi).toNat : Int)))) : numOf s = none := by
  subst hs
  cases hm : numOf (45 :: d) with
  | none => rfl
  | some m =>
    obtain ⟨a, _⟩ := mag1 rfl rfl _ (mag_of rfl hm)
    cases i with
    | zero => omega
    | succ j =>
      have hj : j < d.length := by
        have : j + 1 < (45 :: d).toArray.size := hi
        simpa using this
      have e : (⟨(45 :: d).toArray⟩ : ByteArray)[j + 1]'hi = d[j] := rfl
      rw [e] at h2
      have := a d[j] (List.getElem_mem hj)
      omega
theorem bad0 {s : List UInt8} (hs : ∃ c r, s = c :: r ∧ c ≠ 45) (i : Nat) (hi : i < (⟨s.toArray⟩ : ByteArray).size) (h2 : (((((⟨s.toArray⟩ : ByteArray)[i]'hi).toNat : Int) < 48) ∨ (57 < (((⟨s.toArray⟩ : ByteArray)[i]'hi).toNat : Int)))) : numOf s = none := by
  cases hm : numOf s with
  | none => rfl
  | some m =>
    obtain ⟨a, _⟩ := mag0 hs rfl rfl _ (mag_of rfl hm)
    have hj : i < s.length := by
      have : i < s.toArray.size := hi
      simpa using this
    have e : (⟨s.toArray⟩ : ByteArray)[i]'hi = s[i] := rfl
    rw [e] at h2
    have := a s[i] (List.getElem_mem hj)
    omega
theorem Dig.step64 {d : List UInt8} {k : Nat} {n : Int} {M : Option Nat} (h : Dig d k n M) (hk : k < d.length) (c : Int) (hc : c = (d[k].toNat : Int)) (h1 : 48 ≤ c) : Dig d (k + 1) (wrap64 (wrap64 (n * 10) - (c - 48))) M := by
  have h2 := h.step hk d[k].toNat rfl (by omega)
  rw [wr64, wr64] at h2
  have e : ((d[k].toNat - 48 : Nat) : Int) = c - 48 := by omega
  rwa [e] at h2
theorem ba1 {s d : List UInt8} (hs : s = 45 :: d) {i k : Nat} (hi : i < (⟨s.toArray⟩ : ByteArray).size) (h : i = k + 1) (hk : k < d.length) : (((⟨s.toArray⟩ : ByteArray)[i]'hi).toNat : Int) = (d[k].toNat : Int) := by
  subst hs h
  rfl
theorem ba0 {s d : List UInt8} (hd : d = s) {k : Nat} (hi : k < (⟨s.toArray⟩ : ByteArray).size) (hk : k < d.length) : (((⟨s.toArray⟩ : ByteArray)[k]'hi).toNat : Int) = (d[k].toNat : Int) := by
  subst hd
  rfl
set_option maxRecDepth 100000 in
set_option maxHeartbeats 4000000 in
theorem number_any (w : World) (s : List UInt8) (hl : s.length ≤ 1099511627776) : Calls Tryd.prog 77 #[strV s] w (NumA w s) := by
  obtain ⟨Q, hQ⟩ : ∃ Q, Q = NumA w s := ⟨_, rfl⟩
  rw [← hQ]
  have HQ : Bx (∀ e w' n b, e = .returned (.tuple #[.int .i64 n, .bool b]) → (match numOf s with
    | some m => b = true ∧ n = m
    | none => b = false) → Below w.heap.size w w' → Q e w') := ⟨fun e w' n b h1 h2 h3 => by rw [hQ]; exact ⟨n, b, h1, ⟨h2, h3⟩⟩⟩
  clear hQ
  have HNO : Bx (numOf s = none → Q (.returned (.tuple #[.int .i64 0, .bool false])) w) := ⟨fun h => HQ.out _ _ 0 false rfl (by rw [h]) (Below.refl _ _)⟩
  by_cases h0 : s = []
  · subst h0
    have HF := HNO.out num_nil
    go_enter Tryd.func77, Tryd.ntmps77
    go_wp2
    exact HF
  · have g0 : 0 < s.length := List.length_pos_iff.2 h0
    have g1 : (0 : Int) < (s.length : Int) := by omega
    go_enter Tryd.func77, Tryd.ntmps77
    go_wp2
    · rename_i q1 q2 q3 q4
      exact HNO.out (num_short (fst45 q1) (by omega))
    · rename_i q
      refine HNO.out (num_long ?_)
      rcases q with q | q
      · have q := beq_iff_eq.1 q
        omega
      · omega
    · rename_i p1 p2 q1 q2 q3
      have hA : 1 ≤ s.length := by omega
      obtain ⟨d, hd⟩ : ∃ d, d = s.drop 1 := ⟨_, rfl⟩
      obtain ⟨M, hM⟩ : ∃ M, M = magN s := ⟨_, rfl⟩
      have hdl : d.length + 1 = s.length := by rw [hd, List.length_drop]; omega
      have hs : s = 45 :: d := by rw [hd]; exact fst45 p1
      have D0 : Bx (Dig d 0 0 M) := ⟨Dig.start d M fun v hv => mag1 hs hM v hv⟩
      have HLP : Bx (∀ n, Dig d d.length n M → I64 (n) ∧ (∀ m, numOf s = some m → (n) = m)) := ⟨fun n hn => end1 hs hM n hn⟩
      have HBAD : Bx (∀ (i : Nat) (hi : i < (⟨s.toArray⟩ : ByteArray).size), 1 ≤ i → (((((⟨s.toArray⟩ : ByteArray)[i]'hi).toNat : Int) < 48) ∨ (57 < (((⟨s.toArray⟩ : ByteArray)[i]'hi).toNat : Int))) → Q (.returned (.tuple #[.int .i64 0, .bool false])) w) := ⟨fun i hi h1 h2 => HNO.out (bad1 hs i hi h1 h2)⟩
      have HST : Bx (∀ (k : Nat) (n : Int) (hi : 1 + k < (⟨s.toArray⟩ : ByteArray).size), k < d.length → Dig d k n M → 48 ≤ (((⟨s.toArray⟩ : ByteArray)[1 + k]'hi).toNat : Int) → Dig d (k + 1) (wrap64 (wrap64 (n * 10) - ((((⟨s.toArray⟩ : ByteArray)[1 + k]'hi).toNat : Int) - 48))) M) := ⟨fun k n hi hk hD h48 => Dig.step64 hD hk _ (ba1 hs hi (by omega) hk) h48⟩
      clear hs hd hM
      obtain ⟨q1a, q1b⟩ := q1
      have e20 : decide (20 < (s.length : Int)) = false := by simp; omega
      simp only [q1a, e20, Bool.or_self, Bool.false_or]
      go_loopw [6, 5] (fun x y wr => ∃ (k : Nat) (n : Int), k ≤ d.length ∧ x = .int .i64 ((1 + k : Nat) : Int) ∧ y = .int .i64 n ∧ w = wr ∧ Bx (Dig d k n M)) (fun x _ _ => s.length + 1 - (intOf x).toNat)
      case atStart => exact ⟨0, 0, Nat.zero_le _, rfl, rfl, rfl, D0⟩
      case round =>
        obtain ⟨k, n, hk, rfl, rfl, rfl, HD⟩ := hrel
        clear D0
        by_cases hlt : k < d.length
        · have hlt2 : 1 + k < s.length := by omega
          have hlt3 : ((1 + k : Nat) : Int) < (s.length : Int) := by omega
          go_wp2
          · rename_i q
            exact HBAD.out _ _ (by omega) q
          · rename_i q
            have H3 : Bx _ := ⟨HST.out k n (by show 1 + k < s.toArray.size; simpa using hlt2) hlt HD.out (by exact q.1)⟩
            go_roundw
            case rel => exact ⟨k + 1, _, hlt, by first | (simp; omega) | simp, rfl, trivial, H3⟩
            case measure => simp [intOf]; omega
          · rename_i q
            exact HBAD.out _ _ (by omega) (.inl q)
        · have hke : k = d.length := by omega
          subst hke
          have hlt3 : ¬ ((1 + d.length : Nat) : Int) < (s.length : Int) := by omega
          obtain ⟨h64, hnum⟩ := HLP.out n HD.out
          have HE : Bx _ := ⟨num_end h64 hnum⟩
          have HC := digits_any (n) h64 w
          clear hnum
          go_wp2_with (go_at_call 57; refine HC.mono ?_; rintro e w1 ⟨rfl, hb⟩)
          exact HQ.out _ _ _ _ rfl HE.out hb
    · rename_i q
      refine HNO.out (num_long ?_)
      rcases q with q | q
      · have q := beq_iff_eq.1 q
        omega
      · omega
    · rename_i p1 q1 q2 q3
      have hA : 0 ≤ s.length := by omega
      obtain ⟨d, hd⟩ : ∃ d, d = s.drop 0 := ⟨_, rfl⟩
      obtain ⟨M, hM⟩ : ∃ M, M = magN s := ⟨_, rfl⟩
      have hdl : d.length + 0 = s.length := by rw [hd, List.length_drop]; omega
      rw [List.drop_zero] at hd
      have hs := fstno p1
      have D0 : Bx (Dig d 0 0 M) := ⟨Dig.start d M fun v hv => mag0 hs hd hM v hv⟩
      have HLP : Bx (∀ n, Dig d d.length n M → I64 (wrap64 (-n)) ∧ (∀ m, numOf s = some m → (wrap64 (-n)) = m)) := ⟨fun n hn => end0 hs hd hM n hn⟩
      have HBAD : Bx (∀ (i : Nat) (hi : i < (⟨s.toArray⟩ : ByteArray).size), 0 ≤ i → (((((⟨s.toArray⟩ : ByteArray)[i]'hi).toNat : Int) < 48) ∨ (57 < (((⟨s.toArray⟩ : ByteArray)[i]'hi).toNat : Int))) → Q (.returned (.tuple #[.int .i64 0, .bool false])) w) := ⟨fun i hi h1 h2 => HNO.out (bad0 hs i hi h2)⟩
      have HST : Bx (∀ (k : Nat) (n : Int) (hi : k < (⟨s.toArray⟩ : ByteArray).size), k < d.length → Dig d k n M → 48 ≤ (((⟨s.toArray⟩ : ByteArray)[k]'hi).toNat : Int) → Dig d (k + 1) (wrap64 (wrap64 (n * 10) - ((((⟨s.toArray⟩ : ByteArray)[k]'hi).toNat : Int) - 48))) M) := ⟨fun k n hi hk hD h48 => Dig.step64 hD hk _ (ba0 hd hi hk) h48⟩
      clear hs hd hM
      obtain ⟨q1a, q1b⟩ := q1
      have e20 : decide (20 < (s.length : Int)) = false := by simp; omega
      simp only [q1a, e20, Bool.or_self, Bool.false_or]
      go_loopw [6, 5] (fun x y wr => ∃ (k : Nat) (n : Int), k ≤ d.length ∧ x = .int .i64 ((0 + k : Nat) : Int) ∧ y = .int .i64 n ∧ w = wr ∧ Bx (Dig d k n M)) (fun x _ _ => s.length + 1 - (intOf x).toNat)
      case atStart => exact ⟨0, 0, Nat.zero_le _, rfl, rfl, rfl, D0⟩
      case round =>
        obtain ⟨k, n, hk, rfl, rfl, rfl, HD⟩ := hrel
        clear D0
        by_cases hlt : k < d.length
        · have hlt2 : 0 + k < s.length := by omega
          have hlt3 : ((0 + k : Nat) : Int) < (s.length : Int) := by omega
          go_wp2
          · rename_i q
            exact HBAD.out _ _ (by omega) q
          · rename_i q
            have H3 : Bx _ := ⟨HST.out k n (by show k < s.toArray.size; simpa using hlt2) hlt HD.out (by exact q.1)⟩
            go_roundw
            case rel => exact ⟨k + 1, _, hlt, by first | (simp; omega) | simp, rfl, trivial, H3⟩
            case measure => simp [intOf]; omega
          · rename_i q
            exact HBAD.out _ _ (by omega) (.inl q)
        · have hke : k = d.length := by omega
          subst hke
          have hlt3 : ¬ ((0 + d.length : Nat) : Int) < (s.length : Int) := by omega
          obtain ⟨h64, hnum⟩ := HLP.out n HD.out
          have HE : Bx _ := ⟨num_end h64 hnum⟩
          have HC := digits_any (wrap64 (-n)) h64 w
          clear hnum
          go_wp2_with (go_at_call 57; refine HC.mono ?_; rintro e w1 ⟨rfl, hb⟩)
          exact HQ.out _ _ _ _ rfl HE.out hb
end Go.Proofs.YtijdcplffmdijaaDoor
