import Derived.Test.YtooondgaeoobkaaDoorRefL
namespace Go.Proofs.YtooondgaeoobkaaDoor
open Go.RowKit
set_option linter.unusedVariables false
set_option linter.unusedSimpArgs false

theorem refKind_l (l : List UInt8) (w : World) : Calls Tryd.prog 12 #[.string ⟨l.toArray⟩] w fun e w' => e = .returned (.int .i64 (kindK l)) ∧ Below w.heap.size w w' := by
  have h := refKind_any ⟨l.toArray⟩ w
  rw [ByteArray.toList_eq] at h
  exact h

set_option maxHeartbeats 1000000 in
theorem refWord_key (b o cap : Nat) (xs : List UInt8) (k K E : Nat) (w : World) (hs : Src w b o xs) (hb : b < w.heap.size) (hl : xs.length ≤ 65536) (hcap : xs.length ≤ cap) (hk : k < xs.length) (hkE : k < E) (hle : E ≤ xs.length) (HE : Box (E = spanTo wbI xs k)) (hK : K ≤ 100)
    (HK : Box (∀ W, Calls Tryd.prog 12 #[.string ⟨(cut xs k E).toArray⟩] W fun e w' => e = .returned (.int .i64 K) ∧ Below W.heap.size W w')) (h0 : K ≠ 0) :
    Calls Tryd.prog 25 #[.slice (some ⟨b, o, none⟩) xs.length cap, .int .i64 k] w fun e w' => e = .returned (.tuple #[tokV ⟨K, k, E - k, 0⟩, .int .i64 0]) ∧ Below w.heap.size w w' := by
  have hcv := fun o' => run_conv (w.alloc o') b o (cap - k) xs k E (hs.below hb ((Below.refl _ _).alloc (Nat.le_refl _) _)) (by omega) hle
  have hsl := fun o' => Lib.run_slice_window (P := Tryd.prog) (w.alloc o') 26 5 Tryd.underlying26 sizeOf5 b o xs.length cap k E hkE (by omega)
  have hsub : ((E - k : Nat) : Int) = (E : Int) - (k : Int) := by omega
  have HU : Box _ := ⟨hsub⟩
  clear hsub
  have hz : ((K : Int) == 0) = false := by rw [beq_eq_false_iff_ne]; omega
  go_enter Tryd.func25, Tryd.ntmps25
  go_wp2
  go_loop [6] (fun i => ∃ j : Nat, k ≤ j ∧ j ≤ xs.length ∧ i = .int .i64 j ∧ Box (E = spanTo wbI xs j)) (fun i => xs.length - (intOf i).toNat)
  case atStart => exact ⟨k, Nat.le_refl _, by omega, rfl, HE⟩
  case round =>
    obtain ⟨j, hkj, hj, rfl, H⟩ := hrel
    by_cases hlt : j < xs.length
    · have hc := hs j hlt
      cases hws : wsI (xs[j].toNat : Int)
      · cases hdg : digI (xs[j].toNat : Int)
        · have hwb : wbI (xs[j].toNat : Int) = false := by unfold wbI; rw [hws, hdg]; rfl
          have hEj : E = j := H.out.trans (spanTo_no _ _ _ hlt hwb)
          subst hEj
          clear H HE hwb hkj hj
          go_wp2_with (first | (go_at_call 24; refine (refLetter _ _).mono ?_; rintro e w' ⟨rfl, rfl⟩) | (go_at_call 26; refine (refDigit _ _).mono ?_; rintro e w' ⟨rfl, rfl⟩) | (go_at_call 12; refine Calls.mono (HK.out _) ?_; rintro e w1 ⟨rfl, hb1⟩; obtain ⟨hcc, hff⟩ := bcell hb1; have hsz : w.heap.size < w1.heap.size := (by have := hb1.size; simp at this; omega)))
          refine bodyPost_ret (v := .tuple #[tokV ⟨K, k, E - k, 0⟩, .int .i64 0]) (by simp [results, Tryd.results25, go_sem, tokV, HU.out, hcc, hsz]) rfl ⟨rfl, ?_⟩
          exact (((((((Below.refl _ _).alloc (Nat.le_refl _) _).trans (hb1.mono (by simp))).setCell (Nat.le_refl _) _).setCell (Nat.le_refl _) _).setCell (Nat.le_refl _) _).setCell (Nat.le_refl _) _).alloc (by simp; omega) _
        · have hwb : wbI (xs[j].toNat : Int) = true := by unfold wbI; rw [hws, hdg]; rfl
          have HN : Box (E = spanTo wbI xs (j + 1)) := ⟨H.out.trans (spanTo_yes _ _ _ hlt hwb)⟩
          go_wp2_with (first | (go_at_call 24; refine (refLetter _ _).mono ?_; rintro e w' ⟨rfl, rfl⟩) | (go_at_call 26; refine (refDigit _ _).mono ?_; rintro e w' ⟨rfl, rfl⟩) | (go_at_call 12; refine Calls.mono (HK.out _) ?_; rintro e w1 ⟨rfl, hb1⟩; obtain ⟨hcc, hff⟩ := bcell hb1; have hsz : w.heap.size < w1.heap.size := (by have := hb1.size; simp at this; omega)))
          go_round
          case rel => exact ⟨j + 1, by omega, by omega, by go_num, HN⟩
          case measure => simp [intOf]; omega
      · have hwb : wbI (xs[j].toNat : Int) = true := by unfold wbI; rw [hws]; rfl
        have HN : Box (E = spanTo wbI xs (j + 1)) := ⟨H.out.trans (spanTo_yes _ _ _ hlt hwb)⟩
        go_wp2_with (first | (go_at_call 24; refine (refLetter _ _).mono ?_; rintro e w' ⟨rfl, rfl⟩) | (go_at_call 26; refine (refDigit _ _).mono ?_; rintro e w' ⟨rfl, rfl⟩) | (go_at_call 12; refine Calls.mono (HK.out _) ?_; rintro e w1 ⟨rfl, hb1⟩; obtain ⟨hcc, hff⟩ := bcell hb1; have hsz : w.heap.size < w1.heap.size := (by have := hb1.size; simp at this; omega)))
        go_round
        case rel => exact ⟨j + 1, by omega, by omega, by go_num, HN⟩
        case measure => simp [intOf]; omega
    · have hEj : E = j := H.out.trans (spanTo_end _ _ _ (by omega))
      subst hEj
      clear H HE hkj hj
      go_wp2_with (first | (go_at_call 24; refine (refLetter _ _).mono ?_; rintro e w' ⟨rfl, rfl⟩) | (go_at_call 26; refine (refDigit _ _).mono ?_; rintro e w' ⟨rfl, rfl⟩) | (go_at_call 12; refine Calls.mono (HK.out _) ?_; rintro e w1 ⟨rfl, hb1⟩; obtain ⟨hcc, hff⟩ := bcell hb1; have hsz : w.heap.size < w1.heap.size := (by have := hb1.size; simp at this; omega)))
      refine bodyPost_ret (v := .tuple #[tokV ⟨K, k, E - k, 0⟩, .int .i64 0]) (by simp [results, Tryd.results25, go_sem, tokV, HU.out, hcc, hsz]) rfl ⟨rfl, ?_⟩
      exact (((((((Below.refl _ _).alloc (Nat.le_refl _) _).trans (hb1.mono (by simp))).setCell (Nat.le_refl _) _).setCell (Nat.le_refl _) _).setCell (Nat.le_refl _) _).setCell (Nat.le_refl _) _).alloc (by simp; omega) _

set_option maxHeartbeats 1000000 in
theorem refWord_long (b o cap : Nat) (xs : List UInt8) (k K E : Nat) (w : World) (hs : Src w b o xs) (hb : b < w.heap.size) (hl : xs.length ≤ 65536) (hcap : xs.length ≤ cap) (hk : k < xs.length) (hkE : k < E) (hle : E ≤ xs.length) (HE : Box (E = spanTo wbI xs k)) (hK : K ≤ 100)
    (HK : Box (∀ W, Calls Tryd.prog 12 #[.string ⟨(cut xs k E).toArray⟩] W fun e w' => e = .returned (.int .i64 K) ∧ Below W.heap.size W w')) (h0 : K = 0) (h32 : 32 < E - k) :
    Calls Tryd.prog 25 #[.slice (some ⟨b, o, none⟩) xs.length cap, .int .i64 k] w fun e w' => e = .returned (.tuple #[tokV ⟨1, k, E - k, 0⟩, .int .i64 13]) ∧ Below w.heap.size w w' := by
  have hcv := fun o' => run_conv (w.alloc o') b o (cap - k) xs k E (hs.below hb ((Below.refl _ _).alloc (Nat.le_refl _) _)) (by omega) hle
  have hsl := fun o' => Lib.run_slice_window (P := Tryd.prog) (w.alloc o') 26 5 Tryd.underlying26 sizeOf5 b o xs.length cap k E hkE (by omega)
  have hsub : ((E - k : Nat) : Int) = (E : Int) - (k : Int) := by omega
  have HU : Box _ := ⟨hsub⟩
  clear hsub
  have hz : ((K : Int) == 0) = true := by rw [h0]; rfl
  clear h0
  have hg : (32 : Int) < (E : Int) - (k : Int) := by omega
  go_enter Tryd.func25, Tryd.ntmps25
  go_wp2
  go_loop [6] (fun i => ∃ j : Nat, k ≤ j ∧ j ≤ xs.length ∧ i = .int .i64 j ∧ Box (E = spanTo wbI xs j)) (fun i => xs.length - (intOf i).toNat)
  case atStart => exact ⟨k, Nat.le_refl _, by omega, rfl, HE⟩
  case round =>
    obtain ⟨j, hkj, hj, rfl, H⟩ := hrel
    by_cases hlt : j < xs.length
    · have hc := hs j hlt
      cases hws : wsI (xs[j].toNat : Int)
      · cases hdg : digI (xs[j].toNat : Int)
        · have hwb : wbI (xs[j].toNat : Int) = false := by unfold wbI; rw [hws, hdg]; rfl
          have hEj : E = j := H.out.trans (spanTo_no _ _ _ hlt hwb)
          subst hEj
          clear H HE hwb hkj hj
          go_wp2_with (first | (go_at_call 24; refine (refLetter _ _).mono ?_; rintro e w' ⟨rfl, rfl⟩) | (go_at_call 26; refine (refDigit _ _).mono ?_; rintro e w' ⟨rfl, rfl⟩) | (go_at_call 12; refine Calls.mono (HK.out _) ?_; rintro e w1 ⟨rfl, hb1⟩; obtain ⟨hcc, hff⟩ := bcell hb1; have hsz : w.heap.size < w1.heap.size := (by have := hb1.size; simp at this; omega)))
          refine bodyPost_ret (v := .tuple #[tokV ⟨1, k, E - k, 0⟩, .int .i64 13]) (by simp [results, Tryd.results25, go_sem, tokV, HU.out, hcc, hsz]) rfl ⟨rfl, ?_⟩
          exact (((((((Below.refl _ _).alloc (Nat.le_refl _) _).trans (hb1.mono (by simp))).setCell (Nat.le_refl _) _).setCell (Nat.le_refl _) _).setCell (Nat.le_refl _) _).setCell (Nat.le_refl _) _).alloc (by simp; omega) _
        · have hwb : wbI (xs[j].toNat : Int) = true := by unfold wbI; rw [hws, hdg]; rfl
          have HN : Box (E = spanTo wbI xs (j + 1)) := ⟨H.out.trans (spanTo_yes _ _ _ hlt hwb)⟩
          go_wp2_with (first | (go_at_call 24; refine (refLetter _ _).mono ?_; rintro e w' ⟨rfl, rfl⟩) | (go_at_call 26; refine (refDigit _ _).mono ?_; rintro e w' ⟨rfl, rfl⟩) | (go_at_call 12; refine Calls.mono (HK.out _) ?_; rintro e w1 ⟨rfl, hb1⟩; obtain ⟨hcc, hff⟩ := bcell hb1; have hsz : w.heap.size < w1.heap.size := (by have := hb1.size; simp at this; omega)))
          go_round
          case rel => exact ⟨j + 1, by omega, by omega, by go_num, HN⟩
          case measure => simp [intOf]; omega
      · have hwb : wbI (xs[j].toNat : Int) = true := by unfold wbI; rw [hws]; rfl
        have HN : Box (E = spanTo wbI xs (j + 1)) := ⟨H.out.trans (spanTo_yes _ _ _ hlt hwb)⟩
        go_wp2_with (first | (go_at_call 24; refine (refLetter _ _).mono ?_; rintro e w' ⟨rfl, rfl⟩) | (go_at_call 26; refine (refDigit _ _).mono ?_; rintro e w' ⟨rfl, rfl⟩) | (go_at_call 12; refine Calls.mono (HK.out _) ?_; rintro e w1 ⟨rfl, hb1⟩; obtain ⟨hcc, hff⟩ := bcell hb1; have hsz : w.heap.size < w1.heap.size := (by have := hb1.size; simp at this; omega)))
        go_round
        case rel => exact ⟨j + 1, by omega, by omega, by go_num, HN⟩
        case measure => simp [intOf]; omega
    · have hEj : E = j := H.out.trans (spanTo_end _ _ _ (by omega))
      subst hEj
      clear H HE hkj hj
      go_wp2_with (first | (go_at_call 24; refine (refLetter _ _).mono ?_; rintro e w' ⟨rfl, rfl⟩) | (go_at_call 26; refine (refDigit _ _).mono ?_; rintro e w' ⟨rfl, rfl⟩) | (go_at_call 12; refine Calls.mono (HK.out _) ?_; rintro e w1 ⟨rfl, hb1⟩; obtain ⟨hcc, hff⟩ := bcell hb1; have hsz : w.heap.size < w1.heap.size := (by have := hb1.size; simp at this; omega)))
      refine bodyPost_ret (v := .tuple #[tokV ⟨1, k, E - k, 0⟩, .int .i64 13]) (by simp [results, Tryd.results25, go_sem, tokV, HU.out, hcc, hsz]) rfl ⟨rfl, ?_⟩
      exact (((((((Below.refl _ _).alloc (Nat.le_refl _) _).trans (hb1.mono (by simp))).setCell (Nat.le_refl _) _).setCell (Nat.le_refl _) _).setCell (Nat.le_refl _) _).setCell (Nat.le_refl _) _).alloc (by simp; omega) _

set_option maxHeartbeats 1000000 in
theorem refWord_name (b o cap : Nat) (xs : List UInt8) (k K E : Nat) (w : World) (hs : Src w b o xs) (hb : b < w.heap.size) (hl : xs.length ≤ 65536) (hcap : xs.length ≤ cap) (hk : k < xs.length) (hkE : k < E) (hle : E ≤ xs.length) (HE : Box (E = spanTo wbI xs k)) (hK : K ≤ 100)
    (HK : Box (∀ W, Calls Tryd.prog 12 #[.string ⟨(cut xs k E).toArray⟩] W fun e w' => e = .returned (.int .i64 K) ∧ Below W.heap.size W w')) (h0 : K = 0) (h32 : ¬ 32 < E - k) :
    Calls Tryd.prog 25 #[.slice (some ⟨b, o, none⟩) xs.length cap, .int .i64 k] w fun e w' => e = .returned (.tuple #[tokV ⟨1, k, E - k, 0⟩, .int .i64 0]) ∧ Below w.heap.size w w' := by
  have hcv := fun o' => run_conv (w.alloc o') b o (cap - k) xs k E (hs.below hb ((Below.refl _ _).alloc (Nat.le_refl _) _)) (by omega) hle
  have hsl := fun o' => Lib.run_slice_window (P := Tryd.prog) (w.alloc o') 26 5 Tryd.underlying26 sizeOf5 b o xs.length cap k E hkE (by omega)
  have hsub : ((E - k : Nat) : Int) = (E : Int) - (k : Int) := by omega
  have HU : Box _ := ⟨hsub⟩
  clear hsub
  have hz : ((K : Int) == 0) = true := by rw [h0]; rfl
  clear h0
  have hg : ¬ (32 : Int) < (E : Int) - (k : Int) := by omega
  go_enter Tryd.func25, Tryd.ntmps25
  go_wp2
  go_loop [6] (fun i => ∃ j : Nat, k ≤ j ∧ j ≤ xs.length ∧ i = .int .i64 j ∧ Box (E = spanTo wbI xs j)) (fun i => xs.length - (intOf i).toNat)
  case atStart => exact ⟨k, Nat.le_refl _, by omega, rfl, HE⟩
  case round =>
    obtain ⟨j, hkj, hj, rfl, H⟩ := hrel
    by_cases hlt : j < xs.length
    · have hc := hs j hlt
      cases hws : wsI (xs[j].toNat : Int)
      · cases hdg : digI (xs[j].toNat : Int)
        · have hwb : wbI (xs[j].toNat : Int) = false := by unfold wbI; rw [hws, hdg]; rfl
          have hEj : E = j := H.out.trans (spanTo_no _ _ _ hlt hwb)
          subst hEj
          clear H HE hwb hkj hj
          go_wp2_with (first | (go_at_call 24; refine (refLetter _ _).mono ?_; rintro e w' ⟨rfl, rfl⟩) | (go_at_call 26; refine (refDigit _ _).mono ?_; rintro e w' ⟨rfl, rfl⟩) | (go_at_call 12; refine Calls.mono (HK.out _) ?_; rintro e w1 ⟨rfl, hb1⟩; obtain ⟨hcc, hff⟩ := bcell hb1; have hsz : w.heap.size < w1.heap.size := (by have := hb1.size; simp at this; omega)))
          refine bodyPost_ret (v := .tuple #[tokV ⟨1, k, E - k, 0⟩, .int .i64 0]) (by simp [results, Tryd.results25, go_sem, tokV, HU.out, hcc, hsz]) rfl ⟨rfl, ?_⟩
          exact (((((((Below.refl _ _).alloc (Nat.le_refl _) _).trans (hb1.mono (by simp))).setCell (Nat.le_refl _) _).setCell (Nat.le_refl _) _).setCell (Nat.le_refl _) _).setCell (Nat.le_refl _) _).alloc (by simp; omega) _
        · have hwb : wbI (xs[j].toNat : Int) = true := by unfold wbI; rw [hws, hdg]; rfl
          have HN : Box (E = spanTo wbI xs (j + 1)) := ⟨H.out.trans (spanTo_yes _ _ _ hlt hwb)⟩
          go_wp2_with (first | (go_at_call 24; refine (refLetter _ _).mono ?_; rintro e w' ⟨rfl, rfl⟩) | (go_at_call 26; refine (refDigit _ _).mono ?_; rintro e w' ⟨rfl, rfl⟩) | (go_at_call 12; refine Calls.mono (HK.out _) ?_; rintro e w1 ⟨rfl, hb1⟩; obtain ⟨hcc, hff⟩ := bcell hb1; have hsz : w.heap.size < w1.heap.size := (by have := hb1.size; simp at this; omega)))
          go_round
          case rel => exact ⟨j + 1, by omega, by omega, by go_num, HN⟩
          case measure => simp [intOf]; omega
      · have hwb : wbI (xs[j].toNat : Int) = true := by unfold wbI; rw [hws]; rfl
        have HN : Box (E = spanTo wbI xs (j + 1)) := ⟨H.out.trans (spanTo_yes _ _ _ hlt hwb)⟩
        go_wp2_with (first | (go_at_call 24; refine (refLetter _ _).mono ?_; rintro e w' ⟨rfl, rfl⟩) | (go_at_call 26; refine (refDigit _ _).mono ?_; rintro e w' ⟨rfl, rfl⟩) | (go_at_call 12; refine Calls.mono (HK.out _) ?_; rintro e w1 ⟨rfl, hb1⟩; obtain ⟨hcc, hff⟩ := bcell hb1; have hsz : w.heap.size < w1.heap.size := (by have := hb1.size; simp at this; omega)))
        go_round
        case rel => exact ⟨j + 1, by omega, by omega, by go_num, HN⟩
        case measure => simp [intOf]; omega
    · have hEj : E = j := H.out.trans (spanTo_end _ _ _ (by omega))
      subst hEj
      clear H HE hkj hj
      go_wp2_with (first | (go_at_call 24; refine (refLetter _ _).mono ?_; rintro e w' ⟨rfl, rfl⟩) | (go_at_call 26; refine (refDigit _ _).mono ?_; rintro e w' ⟨rfl, rfl⟩) | (go_at_call 12; refine Calls.mono (HK.out _) ?_; rintro e w1 ⟨rfl, hb1⟩; obtain ⟨hcc, hff⟩ := bcell hb1; have hsz : w.heap.size < w1.heap.size := (by have := hb1.size; simp at this; omega)))
      refine bodyPost_ret (v := .tuple #[tokV ⟨1, k, E - k, 0⟩, .int .i64 0]) (by simp [results, Tryd.results25, go_sem, tokV, HU.out, hcc, hsz]) rfl ⟨rfl, ?_⟩
      exact (((((((Below.refl _ _).alloc (Nat.le_refl _) _).trans (hb1.mono (by simp))).setCell (Nat.le_refl _) _).setCell (Nat.le_refl _) _).setCell (Nat.le_refl _) _).setCell (Nat.le_refl _) _).alloc (by simp; omega) _


/-- what the reference tells at a word: the same, but for the token beside an error -/
theorem refWord_any (b o cap : Nat) (xs : List UInt8) (k : Nat) (w : World) (hs : Src w b o xs) (hb : b < w.heap.size) (hl : xs.length ≤ 65536) (hcap : xs.length ≤ cap) (hk : k < xs.length) (hw : wsI ((xs.getD k 0).toNat : Int) = true) :
    Calls Tryd.prog 25 #[.slice (some ⟨b, o, none⟩) xs.length cap, .int .i64 k] w fun e w' => ∃ t, e = .returned (.tuple #[tokV t, .int .i64 (wordR xs k).2]) ∧ ((wordR xs k).2 = 0 → t = (wordR xs k).1) ∧ Below w.heap.size w w' := by
  have hg : xs.getD k 0 = xs[k] := by simp [List.getD, hk]
  have hkE : k < spanTo wbI xs k := by
    rw [spanTo_yes _ _ _ hk (by rw [← hg]; unfold wbI; rw [hw]; rfl)]
    have := (spanTo_le wbI xs (k + 1) (by omega)).1
    omega
  have hle := (spanTo_le wbI xs k (by omega)).2
  have hK : kindK (cut xs k (spanTo wbI xs k)) = wordK (cut xs k (spanTo wbI xs k)) := kindK_word _ (by rw [getD_cut _ _ _ hkE hk]; exact hw)
  have HK : Box (∀ W, Calls Tryd.prog 12 #[.string ⟨(cut xs k (spanTo wbI xs k)).toArray⟩] W fun e w' => e = .returned (.int .i64 (wordK (cut xs k (spanTo wbI xs k)))) ∧ Below W.heap.size W w') :=
    ⟨fun W => by have := refKind_l (cut xs k (spanTo wbI xs k)) W; rw [hK] at this; exact this⟩
  have hKl := wordK_le (cut xs k (spanTo wbI xs k))
  have hR : wordR xs k = if wordK (cut xs k (spanTo wbI xs k)) ≠ 0 then (⟨wordK (cut xs k (spanTo wbI xs k)), k, spanTo wbI xs k - k, 0⟩, 0)
    else if 32 < spanTo wbI xs k - k then (tok0, 13) else (⟨1, k, spanTo wbI xs k - k, 0⟩, 0) := rfl
  by_cases h0 : wordK (cut xs k (spanTo wbI xs k)) = 0
  · rw [if_neg (by omega)] at hR
    by_cases h32 : 32 < spanTo wbI xs k - k
    · rw [if_pos h32] at hR
      rw [hR]
      refine (refWord_long b o cap xs k _ _ w hs hb hl hcap hk hkE hle ⟨rfl⟩ (by omega) HK h0 h32).mono ?_
      rintro e w' ⟨rfl, hb1⟩
      exact ⟨_, rfl, fun h => absurd h (by simp), hb1⟩
    · rw [if_neg h32] at hR
      rw [hR]
      refine (refWord_name b o cap xs k _ _ w hs hb hl hcap hk hkE hle ⟨rfl⟩ (by omega) HK h0 h32).mono ?_
      rintro e w' ⟨rfl, hb1⟩
      exact ⟨_, rfl, fun _ => rfl, hb1⟩
  · rw [if_pos h0] at hR
    rw [hR]
    refine (refWord_key b o cap xs k _ _ w hs hb hl hcap hk hkE hle ⟨rfl⟩ (by omega) HK h0).mono ?_
    rintro e w' ⟨rfl, hb1⟩
    exact ⟨_, rfl, fun _ => rfl, hb1⟩
end Go.Proofs.YtooondgaeoobkaaDoor
