import Derived.Test.YtblhklbpcalglaaGreatDoorCLeaf
import Derived.Lib.SlBytesRow
import Derived.Laws.ResultCell
import Derived.Lib.AtoiAll
import Derived.Shelf.LaysM
import Derived.Shelf.Strconv.Itoa3
import Derived.Shelf.LaysC
import Derived.Shelf.Strconv.AtoiAll
import Derived.Shelf.Bytes.SlSmallAll
import Derived.Test.YtblhklbpcalglaaGreatDoorProg
namespace Go.Proofs.YtblhklbpcalglaaGreatDoor
open Go.RowKit
set_option linter.unusedVariables false
set_option linter.unusedSimpArgs false
def wordsT : List (List UInt8) := [[97, 114, 114, 97, 121], [98, 101, 103, 105, 110], [98, 111, 111, 108], [99, 97, 115, 101], [99, 104, 97, 110], [101, 108, 115, 101], [102, 97, 108, 115, 101], [102, 105, 108, 108], [105, 102], [105, 110, 116], [108, 101, 110], [109, 97, 107, 101], [111, 102], [112, 114, 111, 103], [114, 101, 116, 117, 114, 110], [115, 101, 108, 101, 99, 116], [116, 114, 117, 101], [116, 121, 112, 101], [118, 97, 108], [118, 97, 114], [119, 104, 105, 108, 101]]
def signsT : List (List UInt8) := [[40], [41], [91], [93], [123], [125], [44], [59], [58], [46], [61], [61, 61], [33, 61], [60], [60, 61], [62], [62, 61], [43], [45], [42], [47], [37], [38, 38], [124, 124], [33], [60, 45], [60, 45, 61]]
def strV (l : List UInt8) : Value := .string ⟨l.toArray⟩
def TabAt (w : World) (g : Nat) (T : List (List UInt8)) : Prop := ∀ i, i < T.length → w.cell? ⟨g, i, none⟩ = some (.string ⟨(T.getD i []).toArray⟩)
def kindFrom : List (List UInt8) → Nat → List UInt8 → Nat
  | [], _, _ => 0
  | x :: r, n, t => if x == t then n else kindFrom r (n + 1) t
theorem kindFrom_yes (T : List (List UInt8)) (j n : Nat) (t : List UInt8) (h : j < T.length) (hq : (T[j]?.getD [] == t) = true) : kindFrom (T.drop j) n t = n := by
  rw [List.drop_eq_getElem_cons h]
  rw [List.getElem?_eq_getElem h, Option.getD_some] at hq
  simp only [kindFrom, hq, if_true]
theorem kindFrom_no (T : List (List UInt8)) (j n : Nat) (t : List UInt8) (h : j < T.length) (hq : (T[j]?.getD [] == t) = false) : kindFrom (T.drop j) n t = kindFrom (T.drop (j + 1)) (n + 1) t := by
  rw [List.drop_eq_getElem_cons h]
  rw [List.getElem?_eq_getElem h, Option.getD_some] at hq
  simp only [kindFrom, hq, Bool.false_eq_true, if_false]
theorem kindFrom_le : ∀ (T : List (List UInt8)) (n : Nat) (t : List UInt8), kindFrom T n t ≤ n + T.length
  | [], n, t => by simp [kindFrom]
  | x :: r, n, t => by
    have := kindFrom_le r (n + 1) t
    simp only [kindFrom, List.length_cons]
    split <;> omega
def wordK (t : List UInt8) : Nat := kindFrom wordsT 10 t
def signK (t : List UInt8) : Nat := kindFrom signsT 40 t
def kindK (t : List UInt8) : Nat := if wordK t = 0 then signK t else wordK t
theorem wordK_le (t : List UInt8) : wordK t ≤ 31 := kindFrom_le wordsT 10 t
theorem wordKind_any (s : ByteArray) (w : World) (ht : TabAt w 1 wordsT) :
    Calls Tryz.prog 29 #[.string s] w fun e w' => e = .returned (.int .i64 (wordK s.toList)) ∧ w = w' := by
  go_enter Tryz.func29, Tryz.ntmps29
  go_wp2
  go_loop [4] (fun i => ∃ j : Nat, j ≤ 21 ∧ i = .int .i64 j ∧ Hid (wordK s.toList = kindFrom (wordsT.drop j) (10 + j) s.toList)) (fun i => 21 - (intOf i).toNat)
  case atStart => exact ⟨0, by omega, rfl, rfl⟩
  case round =>
    obtain ⟨j, hj, rfl, H⟩ := hrel
    by_cases hlt : j < 21
    · have hc := ht j hlt
      cases hq : (wordsT[j]?.getD [] == s.toList)
      · have HQ : Hid (wordK s.toList = kindFrom (wordsT.drop (j + 1)) (10 + (j + 1)) s.toList) := by
          have := kindFrom_no wordsT j (10 + j) s.toList hlt hq
          exact H.out.trans this
        go_wp2
        go_round
        case rel => exact ⟨j + 1, by omega, by go_num, HQ⟩
        case measure => simp [intOf]; omega
      · have HQ : Hid (wordK s.toList = 10 + j) := H.out.trans (kindFrom_yes wordsT j (10 + j) s.toList hlt hq)
        go_wp2
        go_ret
        exact ⟨ret_int (by rw [HQ.out]; omega), rfl⟩
    · have HQ : Hid (wordK s.toList = 0) := H.out.trans (by rw [List.drop_eq_nil_of_le (show wordsT.length ≤ j from Nat.le_of_not_lt hlt)]; rfl)
      go_wp2
      go_ret
      exact ⟨ret_int (by rw [HQ.out]; rfl), rfl⟩
def textK (k : Int) : List UInt8 := if 10 ≤ k ∧ k < 31 then wordsT.getD (k - 10).toNat [] else if 40 ≤ k ∧ k < 67 then signsT.getD (k - 40).toNat [] else []
end Go.Proofs.YtblhklbpcalglaaGreatDoor
namespace Go.Proofs.YtblhklbpcalglaaGreatDoor
open Go.RowKit
set_option linter.unusedVariables false
set_option linter.unusedSimpArgs false
structure Tok where
  kind : Nat
  place : Nat
  len : Nat
  num : Nat
def tokC (t : Tok) : List Value := [.int .i64 t.kind, .int .i64 t.place, .int .i64 t.len, .int .i64 t.num]
def tokV (t : Tok) : Value := .agg #[.int .i64 t.kind, .int .i64 t.place, .int .i64 t.len, .int .i64 t.num]
def tok0 : Tok := ⟨0, 0, 0, 0⟩
def wordR (xs : List UInt8) (k : Nat) : Tok × Nat :=
  if wordK ((xs.drop k).take (spanTo wbI xs k - k)) ≠ 0 then (⟨wordK ((xs.drop k).take (spanTo wbI xs k - k)), k, spanTo wbI xs k - k, 0⟩, 0)
  else if 32 < spanTo wbI xs k - k then (tok0, 13) else (⟨1, k, spanTo wbI xs k - k, 0⟩, 0)
theorem sizeOf5 (w : World) : (Go.sizeOf 5).run Tryz.prog w = .ok 1 w := by kernel_rfl
theorem Src.below {w w' : World} {b o : Nat} {xs : List UInt8} (h : Src w b o xs) (hb : b < w.heap.size) (hw : Below w.heap.size w w') : Src w' b o xs := fun i hi => by
  rw [hw.cell hb]; exact h i hi
def cut (xs : List UInt8) (k e : Nat) : List UInt8 := (xs.drop k).take (e - k)
theorem run_conv (w : World) (b o cap : Nat) (xs : List UInt8) (k e : Nat) (hs : Src w b o xs) (hk : k ≤ e) (he : e ≤ xs.length) :
    (convert 22 9 (.slice (some ⟨b, o + k, none⟩) (e - k) cap)).run Tryz.prog w = .ok (.string ⟨(cut xs k e).toArray⟩) w := by
  have hc : Lib.Bytes w b o ⟨xs.toArray⟩ := fun i hi => by
    have := hs i (by simpa [ByteArray.size] using hi)
    rw [this]; rfl
  rw [Lib.run_convert_window (P := Tryz.prog) w 22 5 9 Tryz.underlying22 Tryz.underlying5 Tryz.underlying9 b o ⟨xs.toArray⟩ hc k (e - k) cap (by simp [ByteArray.size]; omega)]
  congr 2
  apply Go.WideShapes.bytes_inj
  rw [Lib.extract_data]
  simp only [cut]
  congr 1
  omega
theorem TabAt.below {w w' : World} {g : Nat} {T : List (List UInt8)} (h : TabAt w g T) (hb : g < w.heap.size) (hw : Below w.heap.size w w') : TabAt w' g T := fun i hi => by
  rw [hw.cell hb]; exact h i hi
theorem wordKind_l (l : List UInt8) (w : World) (ht : TabAt w 1 wordsT) :
    Calls Tryz.prog 29 #[.string ⟨l.toArray⟩] w fun e w' => e = .returned (.int .i64 (wordK l)) ∧ w = w' := by
  have h := wordKind_any ⟨l.toArray⟩ w ht
  rw [ByteArray.toList_eq] at h
  exact h
set_option maxHeartbeats 400000 in
theorem word_key (b o cap : Nat) (xs : List UInt8) (k E K : Nat) (w : World) (hl : xs.length ≤ maxLen) (hk : k < E) (hE : E ≤ xs.length) (hcap : xs.length ≤ cap)
    (HS : Hid (∀ o', Calls Tryz.prog 16 #[.slice (some ⟨b, o, none⟩) xs.length cap, .int .i64 k, .func (.func 28) #[] #[]] (w.alloc o') fun e w' => e = .returned (.int .i64 E) ∧ w.alloc o' = w'))
    (HW : Hid (∀ o', Calls Tryz.prog 29 #[.string ⟨(cut xs k E).toArray⟩] (w.alloc o') fun e w' => e = .returned (.int .i64 K) ∧ w.alloc o' = w'))
    (hcv : ∀ o', (convert 22 9 (.slice (some ⟨b, o + k, none⟩) (E - k) (cap - k))).run Tryz.prog (w.alloc o') = .ok (.string ⟨(cut xs k E).toArray⟩) (w.alloc o')) (_hK : K ≤ 31) (h0 : K ≠ 0) :
    Calls Tryz.prog 19 #[.slice (some ⟨b, o, none⟩) xs.length cap, .int .i64 k] w fun e w' => e = .returned (.tuple #[tokV ⟨K, k, E - k, 0⟩, .int .i64 0]) ∧ Below w.heap.size w w' := by
  have hsl := fun o' => Lib.run_slice_window (P := Tryz.prog) (w.alloc o') 22 5 Tryz.underlying22 sizeOf5 b o xs.length cap k E hk (by omega)
  unfold maxLen at hl
  have hsub : ((E - k : Nat) : Int) = (E : Int) - (k : Int) := by omega
  have HU : Hid _ := hsub
  clear hsub
  have hne : ((K : Int) != 0) = true := by rw [bne_iff_ne]; omega
  go_enter Tryz.func19, Tryz.ntmps19
  go_wp2_with (first | (go_at_call 16; refine Calls.mono (HS.out _) ?_; rintro e w' ⟨rfl, rfl⟩) | (go_at_call 29; refine Calls.mono (HW.out _) ?_; rintro e w' ⟨rfl, rfl⟩))
  refine bodyPost_ret (v := .tuple #[tokV ⟨K, k, E - k, 0⟩, .int .i64 0]) (by simp [results, Tryz.results19, go_sem, tokV, HU.out]) rfl ⟨rfl, ?_⟩
  exact ((Below.refl _ _).alloc (Nat.le_refl _) _).alloc (by simp) _
set_option maxHeartbeats 400000 in
theorem word_long (b o cap : Nat) (xs : List UInt8) (k E K : Nat) (w : World) (hl : xs.length ≤ maxLen) (hk : k < E) (hE : E ≤ xs.length) (hcap : xs.length ≤ cap)
    (HS : Hid (∀ o', Calls Tryz.prog 16 #[.slice (some ⟨b, o, none⟩) xs.length cap, .int .i64 k, .func (.func 28) #[] #[]] (w.alloc o') fun e w' => e = .returned (.int .i64 E) ∧ w.alloc o' = w'))
    (HW : Hid (∀ o', Calls Tryz.prog 29 #[.string ⟨(cut xs k E).toArray⟩] (w.alloc o') fun e w' => e = .returned (.int .i64 K) ∧ w.alloc o' = w'))
    (hcv : ∀ o', (convert 22 9 (.slice (some ⟨b, o + k, none⟩) (E - k) (cap - k))).run Tryz.prog (w.alloc o') = .ok (.string ⟨(cut xs k E).toArray⟩) (w.alloc o')) (_hK : K ≤ 31) (h0 : K = 0) (h32 : 32 < E - k) :
    Calls Tryz.prog 19 #[.slice (some ⟨b, o, none⟩) xs.length cap, .int .i64 k] w fun e w' => e = .returned (.tuple #[tokV tok0, .int .i64 13]) ∧ Below w.heap.size w w' := by
  have hsl := fun o' => Lib.run_slice_window (P := Tryz.prog) (w.alloc o') 22 5 Tryz.underlying22 sizeOf5 b o xs.length cap k E hk (by omega)
  unfold maxLen at hl
  have hsub : ((E - k : Nat) : Int) = (E : Int) - (k : Int) := by omega
  have HU : Hid _ := hsub
  clear hsub
  have hne : ((K : Int) != 0) = false := by rw [h0]; rfl
  clear h0
  have hg : (32 : Int) < (E : Int) - (k : Int) := by omega
  go_enter Tryz.func19, Tryz.ntmps19
  go_wp2_with (first | (go_at_call 16; refine Calls.mono (HS.out _) ?_; rintro e w' ⟨rfl, rfl⟩) | (go_at_call 29; refine Calls.mono (HW.out _) ?_; rintro e w' ⟨rfl, rfl⟩))
  refine bodyPost_ret (v := .tuple #[tokV tok0, .int .i64 13]) (by simp [results, Tryz.results19, go_sem, tokV, tok0]) rfl ⟨rfl, ?_⟩
  exact ((Below.refl _ _).alloc (Nat.le_refl _) _).alloc (by simp) _
set_option maxHeartbeats 400000 in
theorem word_name (b o cap : Nat) (xs : List UInt8) (k E K : Nat) (w : World) (hl : xs.length ≤ maxLen) (hk : k < E) (hE : E ≤ xs.length) (hcap : xs.length ≤ cap)
    (HS : Hid (∀ o', Calls Tryz.prog 16 #[.slice (some ⟨b, o, none⟩) xs.length cap, .int .i64 k, .func (.func 28) #[] #[]] (w.alloc o') fun e w' => e = .returned (.int .i64 E) ∧ w.alloc o' = w'))
    (HW : Hid (∀ o', Calls Tryz.prog 29 #[.string ⟨(cut xs k E).toArray⟩] (w.alloc o') fun e w' => e = .returned (.int .i64 K) ∧ w.alloc o' = w'))
    (hcv : ∀ o', (convert 22 9 (.slice (some ⟨b, o + k, none⟩) (E - k) (cap - k))).run Tryz.prog (w.alloc o') = .ok (.string ⟨(cut xs k E).toArray⟩) (w.alloc o')) (_hK : K ≤ 31) (h0 : K = 0) (h32 : ¬ 32 < E - k) :
    Calls Tryz.prog 19 #[.slice (some ⟨b, o, none⟩) xs.length cap, .int .i64 k] w fun e w' => e = .returned (.tuple #[tokV ⟨1, k, E - k, 0⟩, .int .i64 0]) ∧ Below w.heap.size w w' := by
  have hsl := fun o' => Lib.run_slice_window (P := Tryz.prog) (w.alloc o') 22 5 Tryz.underlying22 sizeOf5 b o xs.length cap k E hk (by omega)
  unfold maxLen at hl
  have hsub : ((E - k : Nat) : Int) = (E : Int) - (k : Int) := by omega
  have HU : Hid _ := hsub
  clear hsub
  have hne : ((K : Int) != 0) = false := by rw [h0]; rfl
  clear h0
  have hg : ¬ (32 : Int) < (E : Int) - (k : Int) := by omega
  go_enter Tryz.func19, Tryz.ntmps19
  go_wp2_with (first | (go_at_call 16; refine Calls.mono (HS.out _) ?_; rintro e w' ⟨rfl, rfl⟩) | (go_at_call 29; refine Calls.mono (HW.out _) ?_; rintro e w' ⟨rfl, rfl⟩))
  refine bodyPost_ret (v := .tuple #[tokV ⟨1, k, E - k, 0⟩, .int .i64 0]) (by simp [results, Tryz.results19, go_sem, tokV, HU.out]) rfl ⟨rfl, ?_⟩
  exact ((Below.refl _ _).alloc (Nat.le_refl _) _).alloc (by simp) _
theorem word_any (b o cap : Nat) (xs : List UInt8) (k : Nat) (w : World) (hs : Src w b o xs) (hb : b < w.heap.size) (hl : xs.length ≤ maxLen) (hcap : xs.length ≤ cap) (hk : k < spanTo wbI xs k) (ht : TabAt w 1 wordsT) (h0 : 1 < w.heap.size) :
    Calls Tryz.prog 19 #[.slice (some ⟨b, o, none⟩) xs.length cap, .int .i64 k] w fun e w' => e = .returned (.tuple #[tokV (wordR xs k).1, .int .i64 (wordR xs k).2]) ∧ Below w.heap.size w w' := by
  have hkl : k ≤ xs.length := by
    rcases Nat.lt_or_ge xs.length k with h | h
    · rw [spanTo_end _ _ _ (by omega)] at hk; omega
    · exact h
  obtain ⟨_, hE2⟩ := spanTo_le wbI xs k hkl
  have hbl : ∀ o', Below w.heap.size w (w.alloc o') := fun o' => (Below.refl _ _).alloc (Nat.le_refl _) _
  have hsp : Hid _ := fun o' => span39_any b o cap xs k (w.alloc o') (hs.below hb (hbl o')) hl hkl
  have hcv := fun o' => run_conv (w.alloc o') b o (cap - k) xs k (spanTo wbI xs k) (hs.below hb (hbl o')) (by omega) hE2
  have hw : Hid _ := fun o' => wordKind_l (cut xs k (spanTo wbI xs k)) (w.alloc o') (ht.below h0 (hbl o'))
  have hle := wordK_le (cut xs k (spanTo wbI xs k))
  have hR : wordR xs k = if wordK (cut xs k (spanTo wbI xs k)) ≠ 0 then (⟨wordK (cut xs k (spanTo wbI xs k)), k, spanTo wbI xs k - k, 0⟩, 0)
    else if 32 < spanTo wbI xs k - k then (tok0, 13) else (⟨1, k, spanTo wbI xs k - k, 0⟩, 0) := rfl
  by_cases hz : wordK (cut xs k (spanTo wbI xs k)) = 0
  · rw [if_neg (by omega)] at hR
    by_cases h32 : 32 < spanTo wbI xs k - k
    · rw [if_pos h32] at hR
      rw [hR]
      exact word_long b o cap xs k _ _ w hl hk hE2 hcap hsp hw hcv hle hz h32
    · rw [if_neg h32] at hR
      rw [hR]
      exact word_name b o cap xs k _ _ w hl hk hE2 hcap hsp hw hcv hle hz h32
  · rw [if_pos hz] at hR
    rw [hR]
    exact word_key b o cap xs k _ _ w hl hk hE2 hcap hsp hw hcv hle hz
end Go.Proofs.YtblhklbpcalglaaGreatDoor
namespace Go.Proofs.YtblhklbpcalglaaGreatDoor
open Go.RowKit
set_option linter.unusedVariables false
set_option linter.unusedSimpArgs false
def numFrom (acc : Nat) : List UInt8 → Nat
  | [] => acc
  | c :: r => numFrom (acc * 10 + (c.toNat - 48)) r
def numVal (l : List UInt8) : Nat := numFrom 0 l
def allDig : List UInt8 → Bool
  | [] => true
  | c :: r => digI c.toNat && allDig r
theorem numFrom_ge (l : List UInt8) : ∀ acc : Nat, acc ≤ numFrom acc l := by
  induction l with
  | nil => intro acc; exact Nat.le_refl _
  | cons c r ih =>
    intro acc
    have := ih (acc * 10 + (c.toNat - 48))
    show acc ≤ numFrom (acc * 10 + (c.toNat - 48)) r
    generalize numFrom (acc * 10 + (c.toNat - 48)) r = z at *
    omega
theorem parse_ok (l : List UInt8) : ∀ acc : Nat, allDig l = true → numFrom acc l < 18446744073709551616 → Lib.parseUint10 acc l = .ok (numFrom acc l) := by
  induction l with
  | nil => intro acc _ _; rfl
  | cons c r ih =>
    intro acc hd h
    simp only [allDig, digI, Bool.and_eq_true, decide_eq_true_eq] at hd
    obtain ⟨⟨h1, h2⟩, h3⟩ := hd
    have hs : numFrom acc (c :: r) = numFrom (acc * 10 + (c.toNat - 48)) r := rfl
    rw [hs] at h ⊢
    have hge := numFrom_ge r (acc * 10 + (c.toNat - 48))
    have ih' := ih (acc * 10 + (c.toNat - 48)) h3 h
    have e1 : 48 ≤ c.toNat ∧ c.toNat ≤ 57 := by omega
    have e2 : ¬ 1844674407370955162 ≤ acc := by omega
    have e3 : ¬ 18446744073709551616 ≤ acc * 10 + (c.toNat - 48) := by omega
    rw [Lib.parseUint10, if_pos e1, if_neg e2, if_neg e3]
    exact ih'
theorem parse_range (l : List UInt8) : ∀ acc : Nat, allDig l = true → acc < 18446744073709551616 → 18446744073709551616 ≤ numFrom acc l → Lib.parseUint10 acc l = .range := by
  induction l with
  | nil =>
    intro acc _ h1 h2
    have e : numFrom acc [] = acc := rfl
    rw [e] at h2
    omega
  | cons c r ih =>
    intro acc hd h0 h
    simp only [allDig, digI, Bool.and_eq_true, decide_eq_true_eq] at hd
    obtain ⟨⟨h1, h2⟩, h3⟩ := hd
    have hs : numFrom acc (c :: r) = numFrom (acc * 10 + (c.toNat - 48)) r := rfl
    rw [hs] at h
    have e1 : 48 ≤ c.toNat ∧ c.toNat ≤ 57 := by omega
    rw [Lib.parseUint10, if_pos e1]
    by_cases e2 : 1844674407370955162 ≤ acc
    · rw [if_pos e2]
    · by_cases e3 : 18446744073709551616 ≤ acc * 10 + (c.toNat - 48)
      · rw [if_neg e2, if_pos e3]
      · rw [if_neg e2, if_neg e3]
        exact ih _ h3 (by omega) h
theorem atoi_ok (l : List UInt8) (hne : l ≠ []) (hd : allDig l = true) (hv : numVal l < 9223372036854775808) : Lib.atoiAll l = .ok (numVal l : Int) := by
  cases l with
  | nil => exact absurd rfl hne
  | cons c r =>
    have hp := parse_ok (c :: r) 0 hd (by unfold numVal at hv; omega)
    have hd' := hd
    simp only [allDig, digI, Bool.and_eq_true, decide_eq_true_eq] at hd'
    obtain ⟨⟨h1, h2⟩, _⟩ := hd'
    have n43 : ¬ (c.toNat = 43 ∨ c.toNat = 45) := by omega
    have n45 : ¬ c.toNat = 45 := by omega
    have hm : Lib.parseMag (c :: r) = .ok (numVal (c :: r)) := by
      unfold Lib.parseMag; rw [if_neg (by simp)]; exact hp
    have hsel : (if c.toNat = 43 ∨ c.toNat = 45 then r else c :: r) = c :: r := if_neg n43
    unfold Lib.atoiAll
    dsimp only
    rw [hsel, hm]
    dsimp only
    generalize numVal (c :: r) = z at *
    rw [if_neg (by omega), if_neg (by omega), if_neg n45]
theorem atoi_range (l : List UInt8) (hne : l ≠ []) (hd : allDig l = true) (hv : ¬ numVal l < 9223372036854775808) : Lib.atoiAll l = .range := by
  cases l with
  | nil => exact absurd rfl hne
  | cons c r =>
    have hd' := hd
    simp only [allDig, digI, Bool.and_eq_true, decide_eq_true_eq] at hd'
    obtain ⟨⟨h1, h2⟩, _⟩ := hd'
    have n43 : ¬ (c.toNat = 43 ∨ c.toNat = 45) := by omega
    have n45 : ¬ c.toNat = 45 := by omega
    by_cases b : numVal (c :: r) < 18446744073709551616
    · have hp := parse_ok (c :: r) 0 hd b
      have hm : Lib.parseMag (c :: r) = .ok (numVal (c :: r)) := by
        unfold Lib.parseMag; rw [if_neg (by simp)]; exact hp
      have hsel : (if c.toNat = 43 ∨ c.toNat = 45 then r else c :: r) = c :: r := if_neg n43
      unfold Lib.atoiAll
      dsimp only
      rw [hsel, hm]
      dsimp only
      generalize numVal (c :: r) = z at *
      rw [if_pos ⟨n45, by omega⟩]
    · have hp := parse_range (c :: r) 0 hd (by omega) (by unfold numVal at b; omega)
      have hm : Lib.parseMag (c :: r) = .range := by
        unfold Lib.parseMag; rw [if_neg (by simp)]; exact hp
      have hsel : (if c.toNat = 43 ∨ c.toNat = 45 then r else c :: r) = c :: r := if_neg n43
      unfold Lib.atoiAll
      dsimp only
      rw [hsel, hm]
theorem allDig_span : ∀ l : List UInt8, allDig (l.take (spanL digI l)) = true
  | [] => rfl
  | c :: r => by
    by_cases h : digI (c.toNat : Int) = true
    · simp [spanL, h, allDig, allDig_span r]
    · simp [spanL, h, allDig]
def numR (xs : List UInt8) (k : Nat) : Tok × Nat :=
  if spanTo digI xs k < xs.length ∧ wsI ((xs.getD (spanTo digI xs k) 0).toNat : Int) = true then (tok0, 12)
  else if ((xs.getD k 0).toNat : Int) = 48 ∧ 1 < spanTo digI xs k - k then (tok0, 12)
  else if numVal (cut xs k (spanTo digI xs k)) < 9223372036854775808 then (⟨2, k, spanTo digI xs k - k, numVal (cut xs k (spanTo digI xs k))⟩, 0)
  else (tok0, 12)
end Go.Proofs.YtblhklbpcalglaaGreatDoor
/-
  DERIVED: THE SHELF's CONTRACTS AT THIS DUMP, IN PLAIN WORDS (tools/lay-plain.mjs out of 'TryzShelfS.lean', which tools/lay-shelf.mjs wrote): THE SAME DECLARATIONS UNDER THE SAME NAMES: 'import', 'namespace', 'open', 'def', 'theorem' AND NOTHING ELSE: no command of the shelf's: FOR A HAND-IN. Each laying: the table of numbers ('.._ren') and one theorem, a field a fact of the dump's own or the kernel's comparison; each contract: ONE APPLICATION.
-/
namespace Go.Proofs
open Go.Shelf
def Tryz.laysC172_ren : Go.Shelf.Ren := ⟨fun | 172 => 30 | 244 => 46 | 245 => 47 | 247 => 59 | 279 => 60 | 280 => 61 | 281 => 62 | 282 => 63 | 287 => 70 | 316 => 71 | 171 => 73 | 205 => 72 | 321 => 77 | 322 => 78 | 243 => 79 | 246 => 86 | 283 => 93 | 284 => 94 | 285 => 95 | 286 => 96 | 129 => 99 | 317 => 98 | 318 => 100 | 319 => 101 | 320 => 102 | 337 => 103 | 338 => 104 | n => n, fun | 9 => 9 | 3 => 3 | 75 => 56 | 76 => 57 | 4 => 4 | 5 => 5 | 167 => 67 | 37 => 22 | 0 => 0 | 85 => 68 | 2 => 2 | 168 => 70 | 53 => 77 | 175 => 78 | 46 => 80 | 210 => 83 | 127 => 87 | 145 => 90 | 143 => 88 | 21 => 21 | 171 => 93 | 173 => 96 | 212 => 99 | 51 => 100 | 20 => 20 | 213 => 101 | 232 => 104 | 233 => 105 | 80 => 52 | n => n, fun | 15 => 2 | 16 => 3 | 17 => 4 | 18 => 5 | 19 => 6 | n => n⟩
theorem Tryz.laysC172 : Go.Proofs.LaysC.n172 Tryz.prog Tryz.laysC172_ren := {
  mixed := by kernel_rfl
  f129 := Tryz.func99.trans (congrArg some (by kernel_rfl))
  f171 := Tryz.func73.trans (congrArg some (by kernel_rfl))
  f172 := Tryz.func30.trans (congrArg some (by kernel_rfl))
  f205 := Tryz.func72.trans (congrArg some (by kernel_rfl))
  f243 := Tryz.func79.trans (congrArg some (by kernel_rfl))
  f244 := Tryz.func46.trans (congrArg some (by kernel_rfl))
  f245 := Tryz.func47.trans (congrArg some (by kernel_rfl))
  f246 := Tryz.func86.trans (congrArg some (by kernel_rfl))
  f247 := Tryz.func59.trans (congrArg some (by kernel_rfl))
  f279 := Tryz.func60.trans (congrArg some (by kernel_rfl))
  f280 := Tryz.func61.trans (congrArg some (by kernel_rfl))
  f281 := Tryz.func62.trans (congrArg some (by kernel_rfl))
  f282 := Tryz.func63.trans (congrArg some (by kernel_rfl))
  f283 := Tryz.func93.trans (congrArg some (by kernel_rfl))
  f284 := Tryz.func94.trans (congrArg some (by kernel_rfl))
  f285 := Tryz.func95.trans (congrArg some (by kernel_rfl))
  f286 := Tryz.func96.trans (congrArg some (by kernel_rfl))
  f287 := Tryz.func70.trans (congrArg some (by kernel_rfl))
  f316 := Tryz.func71.trans (congrArg some (by kernel_rfl))
  f317 := Tryz.func98.trans (congrArg some (by kernel_rfl))
  f318 := Tryz.func100.trans (congrArg some (by kernel_rfl))
  f319 := Tryz.func101.trans (congrArg some (by kernel_rfl))
  f320 := Tryz.func102.trans (congrArg some (by kernel_rfl))
  f321 := Tryz.func77.trans (congrArg some (by kernel_rfl))
  f322 := Tryz.func78.trans (congrArg some (by kernel_rfl))
  f337 := Tryz.func103.trans (congrArg some (by kernel_rfl))
  f338 := Tryz.func104.trans (congrArg some (by kernel_rfl))
  t0 := Tryz.underlying0
  a0 := Tryz.isAgg0
  z0 := Tryz.sizeOf0
  v0 := Tryz.zeroValue0
  t2 := Tryz.underlying2
  a2 := Tryz.isAgg2
  z2 := Tryz.sizeOf2
  v2 := Tryz.zeroValue2
  t3 := Tryz.underlying3
  a3 := Tryz.isAgg3
  z3 := Tryz.sizeOf3
  v3 := Tryz.zeroValue3
  t4 := Tryz.underlying4
  a4 := Tryz.isAgg4
  z4 := Tryz.sizeOf4
  v4 := Tryz.zeroValue4
  t5 := Tryz.underlying5
  a5 := Tryz.isAgg5
  z5 := Tryz.sizeOf5
  v5 := Tryz.zeroValue5
  t9 := Tryz.underlying9
  a9 := Tryz.isAgg9
  z9 := Tryz.sizeOf9
  v9 := Tryz.zeroValue9
  t20 := Tryz.underlying20
  a20 := Tryz.isAgg20
  z20 := Tryz.sizeOf20
  v20 := Tryz.zeroValue20
  t21 := Tryz.underlying21
  a21 := Tryz.isAgg21
  z21 := Tryz.sizeOf21
  v21 := Tryz.zeroValue21
  t37 := Tryz.underlying22
  a37 := Tryz.isAgg22
  z37 := Tryz.sizeOf22
  v37 := Tryz.zeroValue22
  t46 := Tryz.underlying80
  a46 := Tryz.isAgg80
  z46 := Tryz.sizeOf80
  v46 := Tryz.zeroValue80
  t51 := Tryz.underlying100
  a51 := Tryz.isAgg100
  z51 := Tryz.sizeOf100
  v51 := Tryz.zeroValue100
  t53 := Tryz.underlying77
  a53 := Tryz.isAgg77
  z53 := Tryz.sizeOf77
  v53 := Tryz.zeroValue77
  t75 := Tryz.underlying56
  a75 := Tryz.isAgg56
  z75 := Tryz.sizeOf56
  v75 := Tryz.zeroValue56
  t76 := Tryz.underlying57
  a76 := Tryz.isAgg57
  z76 := Tryz.sizeOf57
  v76 := Tryz.zeroValue57
  t85 := Tryz.underlying68
  a85 := Tryz.isAgg68
  z85 := Tryz.sizeOf68
  v85 := Tryz.zeroValue68
  t127 := Tryz.underlying87
  a127 := Tryz.isAgg87
  z127 := Tryz.sizeOf87
  v127 := Tryz.zeroValue87
  t143 := Tryz.underlying88
  a143 := Tryz.isAgg88
  z143 := Tryz.sizeOf88
  v143 := Tryz.zeroValue88
  t145 := Tryz.underlying90
  a145 := Tryz.isAgg90
  z145 := Tryz.sizeOf90
  v145 := Tryz.zeroValue90
  t167 := Tryz.underlying67
  a167 := Tryz.isAgg67
  z167 := Tryz.sizeOf67
  v167 := Tryz.zeroValue67
  t168 := Tryz.underlying70
  a168 := Tryz.isAgg70
  z168 := Tryz.sizeOf70
  v168 := Tryz.zeroValue70
  t171 := Tryz.underlying93
  a171 := Tryz.isAgg93
  z171 := Tryz.sizeOf93
  v171 := Tryz.zeroValue93
  t173 := Tryz.underlying96
  a173 := Tryz.isAgg96
  z173 := Tryz.sizeOf96
  v173 := Tryz.zeroValue96
  t175 := Tryz.underlying78
  a175 := Tryz.isAgg78
  z175 := Tryz.sizeOf78
  v175 := Tryz.zeroValue78
  t210 := Tryz.underlying83
  a210 := Tryz.isAgg83
  z210 := Tryz.sizeOf83
  v210 := Tryz.zeroValue83
  t212 := Tryz.underlying99
  a212 := Tryz.isAgg99
  z212 := Tryz.sizeOf99
  v212 := Tryz.zeroValue99
  t213 := Tryz.underlying101
  a213 := Tryz.isAgg101
  z213 := Tryz.sizeOf101
  t232 := Tryz.underlying104
  a232 := Tryz.isAgg104
  z232 := Tryz.sizeOf104
  v232 := Tryz.zeroValue104
  t233 := Tryz.underlying105
  a233 := Tryz.isAgg105
  z233 := Tryz.sizeOf105
  v233 := Tryz.zeroValue105
  g15 := by kernel_rfl
  g16 := by kernel_rfl
  g17 := by kernel_rfl
  g18 := by kernel_rfl
  g19 := by kernel_rfl
  t80 := Tryz.underlying52
  a80 := Tryz.isAgg52
  z80 := Tryz.sizeOf52
  v80 := Tryz.zeroValue52
  i0 := by kernel_rfl
  i2 := by kernel_rfl
  i3 := by kernel_rfl
  i4 := by kernel_rfl
  i5 := by kernel_rfl
  i9 := by kernel_rfl
  i20 := by kernel_rfl
  i21 := by kernel_rfl
  i37 := by kernel_rfl
  i46 := by kernel_rfl
  i51 := by kernel_rfl
  i53 := by kernel_rfl
  i75 := by kernel_rfl
  i76 := by kernel_rfl
  i80 := by kernel_rfl
  i85 := by kernel_rfl
  i127 := by kernel_rfl
  i143 := by kernel_rfl
  i145 := by kernel_rfl
  i167 := by kernel_rfl
  i168 := by kernel_rfl
  i171 := by kernel_rfl
  i173 := by kernel_rfl
  i175 := by kernel_rfl
  i210 := by kernel_rfl
  i212 := by kernel_rfl
  i232 := by kernel_rfl
  i233 := by kernel_rfl
  m15 := by kernel_rfl
  m16 := by kernel_rfl
  m17 := by kernel_rfl
  m18 := by kernel_rfl
  m19 := by kernel_rfl
  c0 := by kernel_rfl
  c2 := by kernel_rfl
  c3 := by kernel_rfl
  c4 := by kernel_rfl
  c5 := by kernel_rfl
  c9 := by kernel_rfl
  c20 := by kernel_rfl
  c21 := by kernel_rfl
  c37 := by kernel_rfl
  c46 := by kernel_rfl
  c51 := by kernel_rfl
  c53 := by kernel_rfl
  c75 := by kernel_rfl
  c76 := by kernel_rfl
  c80 := by kernel_rfl
  c85 := by kernel_rfl
  c127 := by kernel_rfl
  c143 := by kernel_rfl
  c145 := by kernel_rfl
  c167 := by kernel_rfl
  c168 := by kernel_rfl
  c171 := by kernel_rfl
  c173 := by kernel_rfl
  c175 := by kernel_rfl
  c210 := by kernel_rfl
  c212 := by kernel_rfl
  c213 := by kernel_rfl
  c232 := by kernel_rfl
  c233 := by kernel_rfl }
open Go.RowKit in
theorem Tryz.strconv_Atoi_ok (s : ByteArray) (hmax : s.size ≤ 9223372036854775806) (v : Int) (h : Lib.atoiAll s.data.toList = .ok v) (w : World) :
    Calls Tryz.prog 30 #[.string s] w fun e w' => e = .returned (.tuple #[.int .i64 v, .nilIface]) ∧ (w' = w ∨ ∃ t, w' = Lib.bytesWorld w 5 t) := Any.strconv_Atoi_ok Tryz.laysC172 s hmax v h w
open Go.RowKit in
theorem Tryz.strconv_Atoi_range (s : ByteArray) (hlim : s.size ≤ 281474976710656) (h : Lib.atoiAll s.data.toList = .range) (ev : Value) (w : World) (hv : w.cell? ⟨3, 0, none⟩ = some ev) (hev : ev = .nilIface ∨ ∃ te pe, ev = .iface te pe) :
    Calls Tryz.prog 30 #[.string s] w fun e w' => ∃ N, e = .returned (.tuple #[.int .i64 (Lib.atoiSat s.data.toList), .iface 70 (.pointer (some ⟨N, 0, none⟩))]) ∧ w.heap.size ≤ N ∧ w'.heap[N]? = some (.cells #[.string ⟨#[65, 116, 111, 105]⟩, .string s, ev] 83 (0, 0)) ∧ Below w.heap.size w w' := Any.strconv_Atoi_range Tryz.laysC172 s hlim h ev w hv hev
def Tryz.laysnb116_ren : Go.Shelf.Ren := ⟨fun | 116 => 31 | 115 => 48 | n => n, fun | 37 => 22 | 4 => 4 | 3 => 3 | 9 => 9 | 5 => 5 | n => n, fun | n => n⟩
theorem Tryz.laysnb116 : Go.Proofs.Lays.nb116 Tryz.prog Tryz.laysnb116_ren := {
  mixed := by kernel_rfl
  f115 := Tryz.func48.trans (congrArg some (by kernel_rfl))
  f116 := Tryz.func31.trans (congrArg some (by kernel_rfl))
  t3 := Tryz.underlying3
  a3 := Tryz.isAgg3
  z3 := Tryz.sizeOf3
  v3 := Tryz.zeroValue3
  t4 := Tryz.underlying4
  a4 := Tryz.isAgg4
  z4 := Tryz.sizeOf4
  v4 := Tryz.zeroValue4
  t9 := Tryz.underlying9
  a9 := Tryz.isAgg9
  z9 := Tryz.sizeOf9
  v9 := Tryz.zeroValue9
  t37 := Tryz.underlying22
  a37 := Tryz.isAgg22
  z37 := Tryz.sizeOf22
  v37 := Tryz.zeroValue22
  t5 := Tryz.underlying5
  a5 := Tryz.isAgg5
  z5 := Tryz.sizeOf5
  v5 := Tryz.zeroValue5 }
theorem Tryz.bytes_HasPrefix_all (p1 p2 : Option Addr) (n c m d : Nat) (xs ys : List Int) (w : World) (hx : xs.length = n) (hy : ys.length = m) (hnc : n ≤ c) (h1 : Lib.BytesIn w p1 n xs) (h2 : Lib.BytesIn w p2 m ys) :
    Calls Tryz.prog 31 #[.slice p1 n c, .slice p2 m d] w fun e w' => e = .returned (.bool (Lib.hasPrefix (Lib.bytesOf xs) (Lib.bytesOf ys))) ∧ w' = w := Any.bytes_HasPrefix_all Tryz.laysnb116 p1 p2 n c m d xs ys w hx hy hnc h1 h2
end Go.Proofs
