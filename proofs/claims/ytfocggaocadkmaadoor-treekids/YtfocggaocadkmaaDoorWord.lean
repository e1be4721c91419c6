import Derived.Test.YtfocggaocadkmaaDoorTabs
import Derived.Lib.SlBytesRow
import Derived.Laws.ResultCell
namespace Go.Proofs.YtfocggaocadkmaaDoor
open Go.RowKit
set_option linter.unusedVariables false
set_option linter.unusedSimpArgs false

/-- a token: kind, place, length, number -/
structure Tok where
  kind : Nat
  place : Nat
  len : Nat
  num : Nat
def tokC (t : Tok) : List Value := [.int .i64 t.kind, .int .i64 t.place, .int .i64 t.len, .int .i64 t.num]
def tokV (t : Tok) : Value := .agg #[.int .i64 t.kind, .int .i64 t.place, .int .i64 t.len, .int .i64 t.num]
def tok0 : Tok := ⟨0, 0, 0, 0⟩

/-- the word that stands at k -/
def wordR (xs : List UInt8) (k : Nat) : Tok × Nat :=
  if wordK ((xs.drop k).take (spanTo wbI xs k - k)) ≠ 0 then (⟨wordK ((xs.drop k).take (spanTo wbI xs k - k)), k, spanTo wbI xs k - k, 0⟩, 0)
  else if 32 < spanTo wbI xs k - k then (tok0, 13) else (⟨1, k, spanTo wbI xs k - k, 0⟩, 0)

theorem sizeOf5 (w : World) : (Go.sizeOf 5).run Tryd.prog w = .ok 1 w := by kernel_rfl

theorem Src.below {w w' : World} {b o : Nat} {xs : List UInt8} (h : Src w b o xs) (hb : b < w.heap.size) (hw : Below w.heap.size w w') : Src w' b o xs := fun i hi => by
  rw [hw.cell hb]; exact h i hi

/-- the text between two places -/
def cut (xs : List UInt8) (k e : Nat) : List UInt8 := (xs.drop k).take (e - k)
theorem run_conv (w : World) (b o cap : Nat) (xs : List UInt8) (k e : Nat) (hs : Src w b o xs) (hk : k ≤ e) (he : e ≤ xs.length) :
    (convert 42 9 (.slice (some ⟨b, o + k, none⟩) (e - k) cap)).run Tryd.prog w = .ok (.string ⟨(cut xs k e).toArray⟩) w := by
  have hc : Lib.Bytes w b o ⟨xs.toArray⟩ := fun i hi => by
    have := hs i (by simpa [ByteArray.size] using hi)
    rw [this]; rfl
  rw [Lib.run_convert_window (P := Tryd.prog) w 42 5 9 Tryd.underlying42 Tryd.underlying5 Tryd.underlying9 b o ⟨xs.toArray⟩ hc k (e - k) cap (by simp [ByteArray.size]; omega)]
  congr 2
  apply Go.WideShapes.bytes_inj
  rw [Lib.extract_data]
  simp only [cut]
  congr 1
  omega


theorem TabAt.below {w w' : World} {g : Nat} {T : List (List UInt8)} (h : TabAt w g T) (hb : g < w.heap.size) (hw : Below w.heap.size w w') : TabAt w' g T := fun i hi => by
  rw [hw.cell hb]; exact h i hi
theorem wordKind_l (l : List UInt8) (w : World) (ht : TabAt w 1 wordsT) :
    Calls Tryd.prog 67 #[.string ⟨l.toArray⟩] w fun e w' => e = .returned (.int .i64 (wordK l)) ∧ w = w' := by
  have h := wordKind_any ⟨l.toArray⟩ w ht
  rw [ByteArray.toList_eq] at h
  exact h

set_option maxHeartbeats 400000 in
theorem word_key (b o cap : Nat) (xs : List UInt8) (k E K : Nat) (w : World) (hl : xs.length ≤ maxLen) (hk : k < E) (hE : E ≤ xs.length) (hcap : xs.length ≤ cap)
    (HS : Hid (∀ o', Calls Tryd.prog 41 #[.slice (some ⟨b, o, none⟩) xs.length cap, .int .i64 k, .func (.func 66) #[] #[]] (w.alloc o') fun e w' => e = .returned (.int .i64 E) ∧ w.alloc o' = w'))
    (HW : Hid (∀ o', Calls Tryd.prog 67 #[.string ⟨(cut xs k E).toArray⟩] (w.alloc o') fun e w' => e = .returned (.int .i64 K) ∧ w.alloc o' = w'))
    (hcv : ∀ o', (convert 42 9 (.slice (some ⟨b, o + k, none⟩) (E - k) (cap - k))).run Tryd.prog (w.alloc o') = .ok (.string ⟨(cut xs k E).toArray⟩) (w.alloc o')) (_hK : K ≤ 31) (h0 : K ≠ 0) :
    Calls Tryd.prog 44 #[.slice (some ⟨b, o, none⟩) xs.length cap, .int .i64 k] w fun e w' => e = .returned (.tuple #[tokV ⟨K, k, E - k, 0⟩, .int .i64 0]) ∧ Below w.heap.size w w' := by
  have hsl := fun o' => Lib.run_slice_window (P := Tryd.prog) (w.alloc o') 42 5 Tryd.underlying42 sizeOf5 b o xs.length cap k E hk (by omega)
  unfold maxLen at hl
  have hsub : ((E - k : Nat) : Int) = (E : Int) - (k : Int) := by omega
  have HU : Hid _ := hsub
  clear hsub
  have hne : ((K : Int) != 0) = true := by rw [bne_iff_ne]; omega
  go_enter Tryd.func44, Tryd.ntmps44
  go_wp2_with (first | (go_at_call 41; refine Calls.mono (HS.out _) ?_; rintro e w' ⟨rfl, rfl⟩) | (go_at_call 67; refine Calls.mono (HW.out _) ?_; rintro e w' ⟨rfl, rfl⟩))
  refine bodyPost_ret (v := .tuple #[tokV ⟨K, k, E - k, 0⟩, .int .i64 0]) (by simp [results, Tryd.results44, go_sem, tokV, HU.out]) rfl ⟨rfl, ?_⟩
  exact ((Below.refl _ _).alloc (Nat.le_refl _) _).alloc (by simp) _

set_option maxHeartbeats 400000 in
theorem word_long (b o cap : Nat) (xs : List UInt8) (k E K : Nat) (w : World) (hl : xs.length ≤ maxLen) (hk : k < E) (hE : E ≤ xs.length) (hcap : xs.length ≤ cap)
    (HS : Hid (∀ o', Calls Tryd.prog 41 #[.slice (some ⟨b, o, none⟩) xs.length cap, .int .i64 k, .func (.func 66) #[] #[]] (w.alloc o') fun e w' => e = .returned (.int .i64 E) ∧ w.alloc o' = w'))
    (HW : Hid (∀ o', Calls Tryd.prog 67 #[.string ⟨(cut xs k E).toArray⟩] (w.alloc o') fun e w' => e = .returned (.int .i64 K) ∧ w.alloc o' = w'))
    (hcv : ∀ o', (convert 42 9 (.slice (some ⟨b, o + k, none⟩) (E - k) (cap - k))).run Tryd.prog (w.alloc o') = .ok (.string ⟨(cut xs k E).toArray⟩) (w.alloc o')) (_hK : K ≤ 31) (h0 : K = 0) (h32 : 32 < E - k) :
    Calls Tryd.prog 44 #[.slice (some ⟨b, o, none⟩) xs.length cap, .int .i64 k] w fun e w' => e = .returned (.tuple #[tokV tok0, .int .i64 13]) ∧ Below w.heap.size w w' := by
  have hsl := fun o' => Lib.run_slice_window (P := Tryd.prog) (w.alloc o') 42 5 Tryd.underlying42 sizeOf5 b o xs.length cap k E hk (by omega)
  unfold maxLen at hl
  have hsub : ((E - k : Nat) : Int) = (E : Int) - (k : Int) := by omega
  have HU : Hid _ := hsub
  clear hsub
  have hne : ((K : Int) != 0) = false := by rw [h0]; rfl
  clear h0
  have hg : (32 : Int) < (E : Int) - (k : Int) := by omega
  go_enter Tryd.func44, Tryd.ntmps44
  go_wp2_with (first | (go_at_call 41; refine Calls.mono (HS.out _) ?_; rintro e w' ⟨rfl, rfl⟩) | (go_at_call 67; refine Calls.mono (HW.out _) ?_; rintro e w' ⟨rfl, rfl⟩))
  refine bodyPost_ret (v := .tuple #[tokV tok0, .int .i64 13]) (by simp [results, Tryd.results44, go_sem, tokV, tok0]) rfl ⟨rfl, ?_⟩
  exact ((Below.refl _ _).alloc (Nat.le_refl _) _).alloc (by simp) _

set_option maxHeartbeats 400000 in
theorem word_name (b o cap : Nat) (xs : List UInt8) (k E K : Nat) (w : World) (hl : xs.length ≤ maxLen) (hk : k < E) (hE : E ≤ xs.length) (hcap : xs.length ≤ cap)
    (HS : Hid (∀ o', Calls Tryd.prog 41 #[.slice (some ⟨b, o, none⟩) xs.length cap, .int .i64 k, .func (.func 66) #[] #[]] (w.alloc o') fun e w' => e = .returned (.int .i64 E) ∧ w.alloc o' = w'))
    (HW : Hid (∀ o', Calls Tryd.prog 67 #[.string ⟨(cut xs k E).toArray⟩] (w.alloc o') fun e w' => e = .returned (.int .i64 K) ∧ w.alloc o' = w'))
    (hcv : ∀ o', (convert 42 9 (.slice (some ⟨b, o + k, none⟩) (E - k) (cap - k))).run Tryd.prog (w.alloc o') = .ok (.string ⟨(cut xs k E).toArray⟩) (w.alloc o')) (_hK : K ≤ 31) (h0 : K = 0) (h32 : ¬ 32 < E - k) :
    Calls Tryd.prog 44 #[.slice (some ⟨b, o, none⟩) xs.length cap, .int .i64 k] w fun e w' => e = .returned (.tuple #[tokV ⟨1, k, E - k, 0⟩, .int .i64 0]) ∧ Below w.heap.size w w' := by
  have hsl := fun o' => Lib.run_slice_window (P := Tryd.prog) (w.alloc o') 42 5 Tryd.underlying42 sizeOf5 b o xs.length cap k E hk (by omega)
  unfold maxLen at hl
  have hsub : ((E - k : Nat) : Int) = (E : Int) - (k : Int) := by omega
  have HU : Hid _ := hsub
  clear hsub
  have hne : ((K : Int) != 0) = false := by rw [h0]; rfl
  clear h0
  have hg : ¬ (32 : Int) < (E : Int) - (k : Int) := by omega
  go_enter Tryd.func44, Tryd.ntmps44
  go_wp2_with (first | (go_at_call 41; refine Calls.mono (HS.out _) ?_; rintro e w' ⟨rfl, rfl⟩) | (go_at_call 67; refine Calls.mono (HW.out _) ?_; rintro e w' ⟨rfl, rfl⟩))
  refine bodyPost_ret (v := .tuple #[tokV ⟨1, k, E - k, 0⟩, .int .i64 0]) (by simp [results, Tryd.results44, go_sem, tokV, HU.out]) rfl ⟨rfl, ?_⟩
  exact ((Below.refl _ _).alloc (Nat.le_refl _) _).alloc (by simp) _

theorem word_any (b o cap : Nat) (xs : List UInt8) (k : Nat) (w : World) (hs : Src w b o xs) (hb : b < w.heap.size) (hl : xs.length ≤ maxLen) (hcap : xs.length ≤ cap) (hk : k < spanTo wbI xs k) (ht : TabAt w 1 wordsT) (h0 : 1 < w.heap.size) :
    Calls Tryd.prog 44 #[.slice (some ⟨b, o, none⟩) xs.length cap, .int .i64 k] w fun e w' => e = .returned (.tuple #[tokV (wordR xs k).1, .int .i64 (wordR xs k).2]) ∧ Below w.heap.size w w' := by
  have hkl : k ≤ xs.length := by
    rcases Nat.lt_or_ge xs.length k with h | h
    · rw [spanTo_end _ _ _ (by omega)] at hk; omega
    · exact h
  obtain ⟨_, hE2⟩ := spanTo_le wbI xs k hkl
  have hbl : ∀ o', Below w.heap.size w (w.alloc o') := fun o' => (Below.refl _ _).alloc (Nat.le_refl _) _
  have hsp : Hid _ := fun o' => span39_any b o cap xs k (w.alloc o') (hs.below hb (hbl o')) hl hkl
  have hcv := fun o' => run_conv (w.alloc o') b o (cap - k) xs k (spanTo wbI xs k) (hs.below hb (hbl o')) (by omega) hE2
  have hw : Hid _ := fun o' => wordKind_l (cut xs k (spanTo wbI xs k)) (w.alloc o') (ht.below h0 (hbl o'))
  have hle := wordK_le (cut xs k (spanTo wbI xs k))
  have hR : wordR xs k = if wordK (cut xs k (spanTo wbI xs k)) ≠ 0 then (⟨wordK (cut xs k (spanTo wbI xs k)), k, spanTo wbI xs k - k, 0⟩, 0)
    else if 32 < spanTo wbI xs k - k then (tok0, 13) else (⟨1, k, spanTo wbI xs k - k, 0⟩, 0) := rfl
  by_cases hz : wordK (cut xs k (spanTo wbI xs k)) = 0
  · rw [if_neg (by omega)] at hR
    by_cases h32 : 32 < spanTo wbI xs k - k
    · rw [if_pos h32] at hR
      rw [hR]
      exact word_long b o cap xs k _ _ w hl hk hE2 hcap hsp hw hcv hle hz h32
    · rw [if_neg h32] at hR
      rw [hR]
      exact word_name b o cap xs k _ _ w hl hk hE2 hcap hsp hw hcv hle hz h32
  · rw [if_pos hz] at hR
    rw [hR]
    exact word_key b o cap xs k _ _ w hl hk hE2 hcap hsp hw hcv hle hz
end Go.Proofs.YtfocggaocadkmaaDoor
