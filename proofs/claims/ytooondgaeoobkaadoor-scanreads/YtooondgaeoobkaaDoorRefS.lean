import Derived.Test.YtooondgaeoobkaaDoorRefW
import Derived.Test.YtooondgaeoobkaaDoorCovW
namespace Go.Proofs.YtooondgaeoobkaaDoor
open Go.RowKit
set_option linter.unusedVariables false
set_option linter.unusedSimpArgs false

structure RefM (w wr : World) : Prop where
  mem : Below (w.alloc z4).heap.size (w.alloc z4) wr
theorem RefM.old {w wr : World} (h : RefM w wr) : Below w.heap.size w wr := ((Below.refl w.heap.size w).alloc (Nat.le_refl _) z4).trans (h.mem.mono (by simp))
theorem RefM.cells {w wr : World} (h : RefM w wr) : w.heap.size < wr.heap.size ∧ (∀ i, i < 4 → wr.cell? ⟨w.heap.size, i, none⟩ = some (.int .i64 0)) ∧ ∀ i, wr.frozen? ⟨w.heap.size, i, none⟩ = false := by
  have hz := h.mem.size
  simp at hz
  refine ⟨by omega, fun i hi => ?_, fun i => ?_⟩
  · rw [h.mem.cell (by simp)]
    match i, hi with
    | 0, _ => simp [z4]
    | 1, _ => simp [z4]
    | 2, _ => simp [z4]
    | 3, _ => simp [z4]
  · rw [h.mem.frozen (by simp)]; simp [z4]

set_option maxHeartbeats 1000000 in
theorem refSign_core (b o cap : Nat) (xs : List UInt8) (k L K : Nat) (w : World) (hs : Src w b o xs) (hb : b < w.heap.size) (hl : xs.length ≤ 65536) (hcap : xs.length ≤ cap) (hk : k < xs.length) (hL3 : L ≤ 3) (hLl : k + L ≤ xs.length) (hK : K ≤ 100) (hK40 : L ≠ 0 → 40 ≤ K)
    (HK : Box (∀ m W, 1 ≤ m → k + m ≤ xs.length → L ≤ m → Calls Tryd.prog 12 #[.string ⟨(cut xs k (k + m)).toArray⟩] W fun e w' => e = .returned (.int .i64 (if m = L then K else 0 : Nat)) ∧ Below W.heap.size W w')) (t : Tok) (c : Nat) (HT : Box (L ≠ 0 → t = ⟨K, k, L, 0⟩ ∧ c = 0)) (HT0 : Box (L = 0 → t = tok0 ∧ c = 11)) :
    Calls Tryd.prog 28 #[.slice (some ⟨b, o, none⟩) xs.length cap, .int .i64 k] w fun e w' => e = .returned (.tuple #[tokV t, .int .i64 c]) ∧ Below w.heap.size w w' := by
  go_enter Tryd.func28, Tryd.ntmps28
  go_wp2
  go_loopw [6] (fun i wr => ∃ m : Nat, m ≤ 3 ∧ L ≤ m ∧ i = .int .i64 m ∧ RefM w wr) (fun i _ => (intOf i).toNat)
  case atStart => exact ⟨3, by omega, hL3, rfl, ⟨Below.refl _ _⟩⟩
  case round =>
    obtain ⟨m, hm, hLm, rfl, HM⟩ := hrel
    have hold := HM.old
    by_cases h0 : m = 0
    · have hL0 : L = 0 := by omega
      obtain ⟨ht, hc⟩ := HT0.out hL0
      subst ht
      subst hc
      subst h0
      obtain ⟨hz, hc4, hf⟩ := HM.cells
      have c0 := hc4 0 (by omega)
      have c1 := hc4 1 (by omega)
      have c2 := hc4 2 (by omega)
      have c3 := hc4 3 (by omega)
      have f0 := hf 0
      have f1 := hf 1
      have f2 := hf 2
      have f3 := hf 3
      have HO : Box _ := ⟨hold⟩
      clear hc4 hf hold HM HT HT0 HK
      go_wp2
      refine bodyPost_ret (v := .tuple #[tokV tok0, .int .i64 11]) (by simp [results, Tryd.results28, go_sem, tokV, tok0, c0, c1, c2, c3]) rfl ⟨rfl, ?_⟩
      exact (((HO.out.setCell (Nat.le_refl _) _).setCell (Nat.le_refl _) _).setCell (Nat.le_refl _) _).setCell (Nat.le_refl _) _
    · have hpos : (0 : Int) < (m : Int) := by omega
      by_cases hlen : k + m ≤ xs.length
      · have hsl := fun W => slice_tok W b o xs.length cap k m (by omega) (by omega)
        have hcv := run_conv wr b o (cap - k) xs k (k + m) (hs.below hb hold) (by omega) hlen
        rw [Nat.add_sub_cancel_left] at hcv
        have hle : ¬ (xs.length : Int) < (k : Int) + (m : Int) := by omega
        have hk12 := HK.out m wr (by omega) hlen hLm
        by_cases hmL : m = L
        · rw [if_pos hmL] at hk12
          obtain ⟨ht, hc⟩ := HT.out (by omega)
          subst ht
          subst hc
          subst hmL
          have hk40 : (40 : Int) ≤ (K : Int) := by have := hK40 h0; omega
          obtain ⟨hz, hc4, hf⟩ := HM.cells
          have HO : Box _ := ⟨hold⟩
          have HKK : Box _ := ⟨hk12⟩
          clear HT HT0 HK hk12 hold HM
          go_wp2_with (first | (go_at_call 12; refine Calls.mono HKK.out ?_; rintro e w1 ⟨rfl, hb1⟩; have z1 : w.heap.size < w1.heap.size := (by have := hb1.size; omega); have c0 := (hb1.cell (p := ⟨w.heap.size, 0, none⟩) hz).trans (hc4 0 (by omega)); have c1 := (hb1.cell (p := ⟨w.heap.size, 1, none⟩) hz).trans (hc4 1 (by omega)); have c2 := (hb1.cell (p := ⟨w.heap.size, 2, none⟩) hz).trans (hc4 2 (by omega)); have c3 := (hb1.cell (p := ⟨w.heap.size, 3, none⟩) hz).trans (hc4 3 (by omega)); have f0 := (hb1.frozen (p := ⟨w.heap.size, 0, none⟩) hz).trans (hf 0); have f1 := (hb1.frozen (p := ⟨w.heap.size, 1, none⟩) hz).trans (hf 1); have f2 := (hb1.frozen (p := ⟨w.heap.size, 2, none⟩) hz).trans (hf 2); have f3 := (hb1.frozen (p := ⟨w.heap.size, 3, none⟩) hz).trans (hf 3)))
          refine bodyPost_ret (v := .tuple #[tokV ⟨K, k, m, 0⟩, .int .i64 0]) (by simp [results, Tryd.results28, go_sem, tokV, c0, c1, c2, c3]) rfl ⟨rfl, ?_⟩
          exact ((((HO.out.trans (hb1.mono HO.out.size)).setCell (Nat.le_refl _) _).setCell (Nat.le_refl _) _).setCell (Nat.le_refl _) _).setCell (Nat.le_refl _) _
        · rw [if_neg hmL] at hk12
          have HKK : Box (Calls Tryd.prog 12 #[.string ⟨(cut xs k (k + m)).toArray⟩] wr fun e w' => e = .returned (.int .i64 0) ∧ Below wr.heap.size wr w') := ⟨hk12⟩
          clear hk12
          go_wp2_with (first | (go_at_call 12; refine Calls.mono HKK.out ?_; rintro e w1 ⟨rfl, hb1⟩))
          have HM1 : RefM w w1 := ⟨HM.mem.trans (hb1.mono HM.mem.size)⟩
          go_roundw
          case rel => exact ⟨m - 1, by omega, by omega, by rw [show ((m - 1 : Nat) : Int) = (m : Int) - 1 by omega], HM1⟩
          case measure => simp [intOf]; omega
      · have hle : (xs.length : Int) < (k : Int) + (m : Int) := by omega
        go_wp2
        go_roundw
        case rel => exact ⟨m - 1, by omega, by omega, by rw [show ((m - 1 : Nat) : Int) = (m : Int) - 1 by omega], HM⟩
        case measure => simp [intOf]; omega

theorem refSign_any (b o cap : Nat) (xs : List UInt8) (k : Nat) (w : World) (hs : Src w b o xs) (hb : b < w.heap.size) (hl : xs.length ≤ 65536) (hcap : xs.length ≤ cap) (hk : k < xs.length) (hw : wsI ((xs.getD k 0).toNat : Int) = false) :
    Calls Tryd.prog 28 #[.slice (some ⟨b, o, none⟩) xs.length cap, .int .i64 k] w fun e w' => ∃ t, e = .returned (.tuple #[tokV t, .int .i64 (signR xs k).2]) ∧ ((signR xs k).2 = 0 → t = (signR xs k).1) ∧ Below w.heap.size w w' := by
  have hbl := bestFrom_le (xs.drop k) signsT 40 (0, 0) (Nat.zero_le _)
  have hbl' : (bestS (xs.drop k)).2 ≤ xs.length - k := by unfold bestS; simpa using hbl
  have hL3 : (bestS (xs.drop k)).2 ≤ 3 := by
    by_cases h : (bestS (xs.drop k)).2 = 0
    · omega
    · exact (best_here _ h).2
  have h40 : (bestS (xs.drop k)).2 ≠ 0 → 40 ≤ (bestS (xs.drop k)).1 := fun h => (best_text _ h).2
  have hKle : (bestS (xs.drop k)).1 ≤ 100 := by
    by_cases h : (bestS (xs.drop k)).2 = 0
    · rcases (bestFrom_spec (xs.drop k) signsT 40 (0, 0)).2.2 with h3 | ⟨i, a1, a2, _⟩
      · have : bestS (xs.drop k) = (0, 0) := h3
        rw [this]; simp
      · have a1 : i < 27 := a1
        have : (bestS (xs.drop k)).1 = 40 + i := a2
        omega
    · have := (best_here _ h).1
      have h2 := signK_le ((xs.drop k).take (bestS (xs.drop k)).2)
      omega
  have hR : signR xs k = if (bestS (xs.drop k)).2 = 0 then (tok0, 11) else (⟨(bestS (xs.drop k)).1, k, (bestS (xs.drop k)).2, 0⟩, 0) := rfl
  refine (refSign_core b o cap xs k (bestS (xs.drop k)).2 (bestS (xs.drop k)).1 w hs hb hl hcap hk hL3 (by omega) hKle h40 ⟨fun m W h1 h2 h3 => ?_⟩ (signR xs k).1 (signR xs k).2 ⟨fun h => ?_⟩ ⟨fun h => ?_⟩).mono ?_
  · have hkk := refKind_l (cut xs k (k + m)) W
    have ec : cut xs k (k + m) = (xs.drop k).take m := by unfold cut; rw [Nat.add_sub_cancel_left]
    have e0 : kindK (cut xs k (k + m)) = signK (cut xs k (k + m)) := kindK_sign _ (by rw [getD_cut _ _ _ (by omega) hk]; exact hw)
    have e1 : signK (cut xs k (k + m)) = if m = (bestS (xs.drop k)).2 then (bestS (xs.drop k)).1 else 0 := by
      rw [ec]
      by_cases e : m = (bestS (xs.drop k)).2
      · rw [if_pos e, e]; exact (best_here _ (by omega)).1
      · rw [if_neg e]; exact best_more _ m (by omega) (by simp; omega)
    rw [e0, e1] at hkk
    exact hkk
  · rw [hR, if_neg h]; exact ⟨rfl, rfl⟩
  · rw [hR, if_pos h]; exact ⟨rfl, rfl⟩
  · rintro e w' ⟨rfl, hb1⟩
    exact ⟨_, rfl, fun _ => rfl, hb1⟩
end Go.Proofs.YtooondgaeoobkaaDoor
