import Derived.Test.YtjjbgbadkbomlaaDoorCLeaf
import Derived.Lib.SlBytesRow
import Derived.Laws.ResultCell
namespace Go.Proofs.YtjjbgbadkbomlaaDoor
open Go.RowKit
set_option linter.unusedVariables false
set_option linter.unusedSimpArgs false

def wordsT : List (List UInt8) := [[97, 114, 114, 97, 121], [98, 101, 103, 105, 110], [98, 111, 111, 108], [99, 97, 115, 101], [99, 104, 97, 110], [101, 108, 115, 101], [102, 97, 108, 115, 101], [102, 105, 108, 108], [105, 102], [105, 110, 116], [108, 101, 110], [109, 97, 107, 101], [111, 102], [112, 114, 111, 103], [114, 101, 116, 117, 114, 110], [115, 101, 108, 101, 99, 116], [116, 114, 117, 101], [116, 121, 112, 101], [118, 97, 108], [118, 97, 114], [119, 104, 105, 108, 101]]
def signsT : List (List UInt8) := [[40], [41], [91], [93], [123], [125], [44], [59], [58], [46], [61], [61, 61], [33, 61], [60], [60, 61], [62], [62, 61], [43], [45], [42], [47], [37], [38, 38], [124, 124], [33], [60, 45], [60, 45, 61]]

def strV (l : List UInt8) : Value := .string ⟨l.toArray⟩
def TabAt (w : World) (g : Nat) (T : List (List UInt8)) : Prop := ∀ i, i < T.length → w.cell? ⟨g, i, none⟩ = some (.string ⟨(T.getD i []).toArray⟩)

/-- the first of a table that a text is; 0, if none is -/
def kindFrom : List (List UInt8) → Nat → List UInt8 → Nat
  | [], _, _ => 0
  | x :: r, n, t => if x == t then n else kindFrom r (n + 1) t


theorem kindFrom_yes (T : List (List UInt8)) (j n : Nat) (t : List UInt8) (h : j < T.length) (hq : (T[j]?.getD [] == t) = true) : kindFrom (T.drop j) n t = n := by
  rw [List.drop_eq_getElem_cons h]
  rw [List.getElem?_eq_getElem h, Option.getD_some] at hq
  simp only [kindFrom, hq, if_true]
theorem kindFrom_no (T : List (List UInt8)) (j n : Nat) (t : List UInt8) (h : j < T.length) (hq : (T[j]?.getD [] == t) = false) : kindFrom (T.drop j) n t = kindFrom (T.drop (j + 1)) (n + 1) t := by
  rw [List.drop_eq_getElem_cons h]
  rw [List.getElem?_eq_getElem h, Option.getD_some] at hq
  simp only [kindFrom, hq, Bool.false_eq_true, if_false]
theorem kindFrom_le : ∀ (T : List (List UInt8)) (n : Nat) (t : List UInt8), kindFrom T n t ≤ n + T.length
  | [], n, t => by simp [kindFrom]
  | x :: r, n, t => by
    have := kindFrom_le r (n + 1) t
    simp only [kindFrom, List.length_cons]
    split <;> omega

def wordK (t : List UInt8) : Nat := kindFrom wordsT 10 t
def signK (t : List UInt8) : Nat := kindFrom signsT 40 t
def kindK (t : List UInt8) : Nat := if wordK t = 0 then signK t else wordK t
theorem wordK_le (t : List UInt8) : wordK t ≤ 31 := kindFrom_le wordsT 10 t
theorem signK_le (t : List UInt8) : signK t ≤ 67 := kindFrom_le signsT 40 t

theorem wordKind_any (s : ByteArray) (w : World) (ht : TabAt w 1 wordsT) :
    Calls Tryd.prog 75 #[.string s] w fun e w' => e = .returned (.int .i64 (wordK s.toList)) ∧ w = w' := by
  go_enter Tryd.func75, Tryd.ntmps75
  go_wp2
  go_loop [4] (fun i => ∃ j : Nat, j ≤ 21 ∧ i = .int .i64 j ∧ Hid (wordK s.toList = kindFrom (wordsT.drop j) (10 + j) s.toList)) (fun i => 21 - (intOf i).toNat)
  case atStart => exact ⟨0, by omega, rfl, rfl⟩
  case round =>
    obtain ⟨j, hj, rfl, H⟩ := hrel
    by_cases hlt : j < 21
    · have hc := ht j hlt
      cases hq : (wordsT[j]?.getD [] == s.toList)
      · have HQ : Hid (wordK s.toList = kindFrom (wordsT.drop (j + 1)) (10 + (j + 1)) s.toList) := by
          have := kindFrom_no wordsT j (10 + j) s.toList hlt hq
          exact H.out.trans this
        go_wp2
        go_round
        case rel => exact ⟨j + 1, by omega, by go_num, HQ⟩
        case measure => simp [intOf]; omega
      · have HQ : Hid (wordK s.toList = 10 + j) := H.out.trans (kindFrom_yes wordsT j (10 + j) s.toList hlt hq)
        go_wp2
        go_ret
        exact ⟨ret_int (by rw [HQ.out]; omega), rfl⟩
    · have HQ : Hid (wordK s.toList = 0) := H.out.trans (by rw [List.drop_eq_nil_of_le (show wordsT.length ≤ j from Nat.le_of_not_lt hlt)]; rfl)
      go_wp2
      go_ret
      exact ⟨ret_int (by rw [HQ.out]; rfl), rfl⟩

/-- the text of a kind, the empty one if it has none -/
def textK (k : Int) : List UInt8 := if 10 ≤ k ∧ k < 31 then wordsT.getD (k - 10).toNat [] else if 40 ≤ k ∧ k < 67 then signsT.getD (k - 40).toNat [] else []

end Go.Proofs.YtjjbgbadkbomlaaDoor
namespace Go.Proofs.YtjjbgbadkbomlaaDoor
open Go.RowKit
set_option linter.unusedVariables false
set_option linter.unusedSimpArgs false

/-- a token: kind, place, length, number -/
structure Tok where
  kind : Nat
  place : Nat
  len : Nat
  num : Nat
def tokC (t : Tok) : List Value := [.int .i64 t.kind, .int .i64 t.place, .int .i64 t.len, .int .i64 t.num]
def tokV (t : Tok) : Value := .agg #[.int .i64 t.kind, .int .i64 t.place, .int .i64 t.len, .int .i64 t.num]
def tok0 : Tok := ⟨0, 0, 0, 0⟩

/-- the word that stands at k -/
def wordR (xs : List UInt8) (k : Nat) : Tok × Nat :=
  if wordK ((xs.drop k).take (spanTo wbI xs k - k)) ≠ 0 then (⟨wordK ((xs.drop k).take (spanTo wbI xs k - k)), k, spanTo wbI xs k - k, 0⟩, 0)
  else if 32 < spanTo wbI xs k - k then (tok0, 13) else (⟨1, k, spanTo wbI xs k - k, 0⟩, 0)

theorem sizeOf5 (w : World) : (Go.sizeOf 5).run Tryd.prog w = .ok 1 w := by kernel_rfl

theorem Src.below {w w' : World} {b o : Nat} {xs : List UInt8} (h : Src w b o xs) (hb : b < w.heap.size) (hw : Below w.heap.size w w') : Src w' b o xs := fun i hi => by
  rw [hw.cell hb]; exact h i hi

/-- the text between two places -/
def cut (xs : List UInt8) (k e : Nat) : List UInt8 := (xs.drop k).take (e - k)
theorem run_conv (w : World) (b o cap : Nat) (xs : List UInt8) (k e : Nat) (hs : Src w b o xs) (hk : k ≤ e) (he : e ≤ xs.length) :
    (convert 86 9 (.slice (some ⟨b, o + k, none⟩) (e - k) cap)).run Tryd.prog w = .ok (.string ⟨(cut xs k e).toArray⟩) w := by
  have hc : Lib.Bytes w b o ⟨xs.toArray⟩ := fun i hi => by
    have := hs i (by simpa [ByteArray.size] using hi)
    rw [this]; rfl
  rw [Lib.run_convert_window (P := Tryd.prog) w 86 5 9 Tryd.underlying86 Tryd.underlying5 Tryd.underlying9 b o ⟨xs.toArray⟩ hc k (e - k) cap (by simp [ByteArray.size]; omega)]
  congr 2
  apply Go.WideShapes.bytes_inj
  rw [Lib.extract_data]
  simp only [cut]
  congr 1
  omega


theorem TabAt.below {w w' : World} {g : Nat} {T : List (List UInt8)} (h : TabAt w g T) (hb : g < w.heap.size) (hw : Below w.heap.size w w') : TabAt w' g T := fun i hi => by
  rw [hw.cell hb]; exact h i hi
theorem wordKind_l (l : List UInt8) (w : World) (ht : TabAt w 1 wordsT) :
    Calls Tryd.prog 75 #[.string ⟨l.toArray⟩] w fun e w' => e = .returned (.int .i64 (wordK l)) ∧ w = w' := by
  have h := wordKind_any ⟨l.toArray⟩ w ht
  rw [ByteArray.toList_eq] at h
  exact h

set_option maxHeartbeats 400000 in
theorem word_key (b o cap : Nat) (xs : List UInt8) (k E K : Nat) (w : World) (hl : xs.length ≤ maxLen) (hk : k < E) (hE : E ≤ xs.length) (hcap : xs.length ≤ cap)
    (HS : Hid (∀ o', Calls Tryd.prog 67 #[.slice (some ⟨b, o, none⟩) xs.length cap, .int .i64 k, .func (.func 74) #[] #[]] (w.alloc o') fun e w' => e = .returned (.int .i64 E) ∧ w.alloc o' = w'))
    (HW : Hid (∀ o', Calls Tryd.prog 75 #[.string ⟨(cut xs k E).toArray⟩] (w.alloc o') fun e w' => e = .returned (.int .i64 K) ∧ w.alloc o' = w'))
    (hcv : ∀ o', (convert 86 9 (.slice (some ⟨b, o + k, none⟩) (E - k) (cap - k))).run Tryd.prog (w.alloc o') = .ok (.string ⟨(cut xs k E).toArray⟩) (w.alloc o')) (_hK : K ≤ 31) (h0 : K ≠ 0) :
    Calls Tryd.prog 70 #[.slice (some ⟨b, o, none⟩) xs.length cap, .int .i64 k] w fun e w' => e = .returned (.tuple #[tokV ⟨K, k, E - k, 0⟩, .int .i64 0]) ∧ Below w.heap.size w w' := by
  have hsl := fun o' => Lib.run_slice_window (P := Tryd.prog) (w.alloc o') 86 5 Tryd.underlying86 sizeOf5 b o xs.length cap k E hk (by omega)
  unfold maxLen at hl
  have hsub : ((E - k : Nat) : Int) = (E : Int) - (k : Int) := by omega
  have HU : Hid _ := hsub
  clear hsub
  have hne : ((K : Int) != 0) = true := by rw [bne_iff_ne]; omega
  go_enter Tryd.func70, Tryd.ntmps70
  go_wp2_with (first | (go_at_call 67; refine Calls.mono (HS.out _) ?_; rintro e w' ⟨rfl, rfl⟩) | (go_at_call 75; refine Calls.mono (HW.out _) ?_; rintro e w' ⟨rfl, rfl⟩))
  refine bodyPost_ret (v := .tuple #[tokV ⟨K, k, E - k, 0⟩, .int .i64 0]) (by simp [results, Tryd.results70, go_sem, tokV, HU.out]) rfl ⟨rfl, ?_⟩
  exact ((Below.refl _ _).alloc (Nat.le_refl _) _).alloc (by simp) _

set_option maxHeartbeats 400000 in
theorem word_long (b o cap : Nat) (xs : List UInt8) (k E K : Nat) (w : World) (hl : xs.length ≤ maxLen) (hk : k < E) (hE : E ≤ xs.length) (hcap : xs.length ≤ cap)
    (HS : Hid (∀ o', Calls Tryd.prog 67 #[.slice (some ⟨b, o, none⟩) xs.length cap, .int .i64 k, .func (.func 74) #[] #[]] (w.alloc o') fun e w' => e = .returned (.int .i64 E) ∧ w.alloc o' = w'))
    (HW : Hid (∀ o', Calls Tryd.prog 75 #[.string ⟨(cut xs k E).toArray⟩] (w.alloc o') fun e w' => e = .returned (.int .i64 K) ∧ w.alloc o' = w'))
    (hcv : ∀ o', (convert 86 9 (.slice (some ⟨b, o + k, none⟩) (E - k) (cap - k))).run Tryd.prog (w.alloc o') = .ok (.string ⟨(cut xs k E).toArray⟩) (w.alloc o')) (_hK : K ≤ 31) (h0 : K = 0) (h32 : 32 < E - k) :
    Calls Tryd.prog 70 #[.slice (some ⟨b, o, none⟩) xs.length cap, .int .i64 k] w fun e w' => e = .returned (.tuple #[tokV tok0, .int .i64 13]) ∧ Below w.heap.size w w' := by
  have hsl := fun o' => Lib.run_slice_window (P := Tryd.prog) (w.alloc o') 86 5 Tryd.underlying86 sizeOf5 b o xs.length cap k E hk (by omega)
  unfold maxLen at hl
  have hsub : ((E - k : Nat) : Int) = (E : Int) - (k : Int) := by omega
  have HU : Hid _ := hsub
  clear hsub
  have hne : ((K : Int) != 0) = false := by rw [h0]; rfl
  clear h0
  have hg : (32 : Int) < (E : Int) - (k : Int) := by omega
  go_enter Tryd.func70, Tryd.ntmps70
  go_wp2_with (first | (go_at_call 67; refine Calls.mono (HS.out _) ?_; rintro e w' ⟨rfl, rfl⟩) | (go_at_call 75; refine Calls.mono (HW.out _) ?_; rintro e w' ⟨rfl, rfl⟩))
  refine bodyPost_ret (v := .tuple #[tokV tok0, .int .i64 13]) (by simp [results, Tryd.results70, go_sem, tokV, tok0]) rfl ⟨rfl, ?_⟩
  exact ((Below.refl _ _).alloc (Nat.le_refl _) _).alloc (by simp) _

set_option maxHeartbeats 400000 in
theorem word_name (b o cap : Nat) (xs : List UInt8) (k E K : Nat) (w : World) (hl : xs.length ≤ maxLen) (hk : k < E) (hE : E ≤ xs.length) (hcap : xs.length ≤ cap)
    (HS : Hid (∀ o', Calls Tryd.prog 67 #[.slice (some ⟨b, o, none⟩) xs.length cap, .int .i64 k, .func (.func 74) #[] #[]] (w.alloc o') fun e w' => e = .returned (.int .i64 E) ∧ w.alloc o' = w'))
    (HW : Hid (∀ o', Calls Tryd.prog 75 #[.string ⟨(cut xs k E).toArray⟩] (w.alloc o') fun e w' => e = .returned (.int .i64 K) ∧ w.alloc o' = w'))
    (hcv : ∀ o', (convert 86 9 (.slice (some ⟨b, o + k, none⟩) (E - k) (cap - k))).run Tryd.prog (w.alloc o') = .ok (.string ⟨(cut xs k E).toArray⟩) (w.alloc o')) (_hK : K ≤ 31) (h0 : K = 0) (h32 : ¬ 32 < E - k) :
    Calls Tryd.prog 70 #[.slice (some ⟨b, o, none⟩) xs.length cap, .int .i64 k] w fun e w' => e = .returned (.tuple #[tokV ⟨1, k, E - k, 0⟩, .int .i64 0]) ∧ Below w.heap.size w w' := by
  have hsl := fun o' => Lib.run_slice_window (P := Tryd.prog) (w.alloc o') 86 5 Tryd.underlying86 sizeOf5 b o xs.length cap k E hk (by omega)
  unfold maxLen at hl
  have hsub : ((E - k : Nat) : Int) = (E : Int) - (k : Int) := by omega
  have HU : Hid _ := hsub
  clear hsub
  have hne : ((K : Int) != 0) = false := by rw [h0]; rfl
  clear h0
  have hg : ¬ (32 : Int) < (E : Int) - (k : Int) := by omega
  go_enter Tryd.func70, Tryd.ntmps70
  go_wp2_with (first | (go_at_call 67; refine Calls.mono (HS.out _) ?_; rintro e w' ⟨rfl, rfl⟩) | (go_at_call 75; refine Calls.mono (HW.out _) ?_; rintro e w' ⟨rfl, rfl⟩))
  refine bodyPost_ret (v := .tuple #[tokV ⟨1, k, E - k, 0⟩, .int .i64 0]) (by simp [results, Tryd.results70, go_sem, tokV, HU.out]) rfl ⟨rfl, ?_⟩
  exact ((Below.refl _ _).alloc (Nat.le_refl _) _).alloc (by simp) _

theorem word_any (b o cap : Nat) (xs : List UInt8) (k : Nat) (w : World) (hs : Src w b o xs) (hb : b < w.heap.size) (hl : xs.length ≤ maxLen) (hcap : xs.length ≤ cap) (hk : k < spanTo wbI xs k) (ht : TabAt w 1 wordsT) (h0 : 1 < w.heap.size) :
    Calls Tryd.prog 70 #[.slice (some ⟨b, o, none⟩) xs.length cap, .int .i64 k] w fun e w' => e = .returned (.tuple #[tokV (wordR xs k).1, .int .i64 (wordR xs k).2]) ∧ Below w.heap.size w w' := by
  have hkl : k ≤ xs.length := by
    rcases Nat.lt_or_ge xs.length k with h | h
    · rw [spanTo_end _ _ _ (by omega)] at hk; omega
    · exact h
  obtain ⟨_, hE2⟩ := spanTo_le wbI xs k hkl
  have hbl : ∀ o', Below w.heap.size w (w.alloc o') := fun o' => (Below.refl _ _).alloc (Nat.le_refl _) _
  have hsp : Hid _ := fun o' => span39_any b o cap xs k (w.alloc o') (hs.below hb (hbl o')) hl hkl
  have hcv := fun o' => run_conv (w.alloc o') b o (cap - k) xs k (spanTo wbI xs k) (hs.below hb (hbl o')) (by omega) hE2
  have hw : Hid _ := fun o' => wordKind_l (cut xs k (spanTo wbI xs k)) (w.alloc o') (ht.below h0 (hbl o'))
  have hle := wordK_le (cut xs k (spanTo wbI xs k))
  have hR : wordR xs k = if wordK (cut xs k (spanTo wbI xs k)) ≠ 0 then (⟨wordK (cut xs k (spanTo wbI xs k)), k, spanTo wbI xs k - k, 0⟩, 0)
    else if 32 < spanTo wbI xs k - k then (tok0, 13) else (⟨1, k, spanTo wbI xs k - k, 0⟩, 0) := rfl
  by_cases hz : wordK (cut xs k (spanTo wbI xs k)) = 0
  · rw [if_neg (by omega)] at hR
    by_cases h32 : 32 < spanTo wbI xs k - k
    · rw [if_pos h32] at hR
      rw [hR]
      exact word_long b o cap xs k _ _ w hl hk hE2 hcap hsp hw hcv hle hz h32
    · rw [if_neg h32] at hR
      rw [hR]
      exact word_name b o cap xs k _ _ w hl hk hE2 hcap hsp hw hcv hle hz h32
  · rw [if_pos hz] at hR
    rw [hR]
    exact word_key b o cap xs k _ _ w hl hk hE2 hcap hsp hw hcv hle hz
end Go.Proofs.YtjjbgbadkbomlaaDoor
