import Derived.Test.YtijdcplffmdijaaDoorCDW
namespace Go.Proofs.YtijdcplffmdijaaDoor
open Go.RowKit
set_option linter.unusedVariables false
set_option linter.unusedSimpArgs false

def line1 : List UInt8 := [112, 114, 111, 103, 32, 48, 32, 48, 32, 48, 32, 48]
def line2 : List UInt8 := [114, 101, 116, 32, 49]
theorem itoa0 : Lib.itoa 0 = [48] := by unfold Lib.itoa; rw [if_neg (by omega), show (0 : Int).toNat = 0 from rfl, Lib.decDigits_one (by omega)]; rfl
theorem itoa1 : Lib.itoa 1 = [49] := by unfold Lib.itoa; rw [if_neg (by omega), show (1 : Int).toNat = 1 from rfl, Lib.decDigits_one (by omega)]; rfl
theorem numOf0 : numOf [48] = some 0 := by rw [← itoa0]; exact numOf_itoa (by unfold I64; decide)
theorem numOf1 : numOf [49] = some 1 := by rw [← itoa1]; exact numOf_itoa (by unfold I64; decide)
theorem nums1 : numsOf (pieces 32 line1).2 = some [0, 0, 0, 0] := by
  have e : (pieces 32 line1).2 = [[48], [48], [48], [48]] := by decide
  rw [e]
  simp [numsOf, numOf0]
theorem nums2 : numsOf (pieces 32 line2).2 = some [1] := by
  have e : (pieces 32 line2).2 = [[49]] := by decide
  rw [e]
  simp [numsOf, numOf1]
set_option maxRecDepth 100000 in
set_option maxHeartbeats 2000000 in
/-- the example's second line is refused -/
theorem add_2 (w : World) (up : Value) (hL : LW w) :
    Calls Tryd.prog 50 #[up, strV line2] w fun e w' => e = .returned (.bool false) ∧ Below w.heap.size w w' := by
  have HS := split_any line2 w hL (by decide)
  have hw2 : (pieces 32 line2).1 = [114, 101, 116] := by decide
  have HS2 : Calls Tryd.prog 63 #[strV line2] w fun e w' => ∃ a cap, e = .returned (.tuple #[strV [114, 101, 116], .slice a 1 cap, .bool true]) ∧ Below w.heap.size w w' := HS.mono fun e w' h => by
    unfold SplitA at h
    rw [nums2] at h
    obtain ⟨v, h1, h2, h3⟩ := h
    obtain ⟨a, cap, rfl, _⟩ := h2.ints
    exact ⟨a, cap, by rw [h1, hw2]; rfl, h3⟩
  have HA : Bx (∀ W a cap, Below w.heap.size w W → Calls Tryd.prog 66 #[up, strV [114, 101, 116], .slice a 1 cap] W fun e w' => e = .returned (.bool false) ∧ Below w.heap.size w w') := ⟨fun W a cap hb => (addIns_no W up a cap (hL.below hb).shp).mono fun e w' h => ⟨h.1, hb.trans (h.2.mono hb.size)⟩⟩
  clear HS hw2 hL
  unfold line2 at HS2 ⊢
  go_enter Tryd.func50, Tryd.ntmps50
  go_wp2_with (first
    | (go_at_call 63; refine HS2.mono ?_; rintro e w1 ⟨a, cap, rfl, hb1⟩)
    | (go_at_call 66; refine (HA.out _ _ _ hb1).mono ?_; rintro e w2 ⟨rfl, hb2⟩))
  go_ret
  exact ⟨rfl, hb2⟩
set_option maxRecDepth 100000 in
set_option maxHeartbeats 2000000 in
/-- the example's first line is taken -/
theorem add_1 (w : World) (ub : Nat) (tv : Value) (hL : LW w) (hu : w.heap[ub]? = some (.cells #[.slice none 0 0, tv] 36 (0, 0))) :
    Calls Tryd.prog 50 #[.pointer (some ⟨ub, 0, none⟩), strV line1] w fun e w' => e = .returned (.bool true) ∧ Below ub w w' ∧ ∃ pv, w'.heap[ub]? = some (.cells #[pv, tv] 36 (0, 0)) := by
  have hub : ub < w.heap.size := (Array.getElem?_eq_some_iff.1 hu).1
  have HS := split_any line1 w hL (by decide)
  have hw1 : (pieces 32 line1).1 = progW := by decide
  have HS2 : Calls Tryd.prog 63 #[strV line1] w fun e w' => ∃ b cap, e = .returned (.tuple #[strV progW, .slice (some ⟨b, 0, none⟩) 4 cap, .bool true]) ∧ Bx (Calls Tryd.prog 65 #[.pointer (some ⟨ub, 0, none⟩), .slice (some ⟨b, 0, none⟩) 4 cap] w' fun e w2 => e = .returned (.bool true) ∧ Below ub w w2 ∧ ∃ pv, w2.heap[ub]? = some (.cells #[pv, tv] 36 (0, 0))) := HS.mono fun e w' h => by
    unfold SplitA at h
    rw [nums1] at h
    obtain ⟨v, h1, h2, h3⟩ := h
    rcases h2.own.2 with ⟨_, hn⟩ | ⟨g, cap, cur, rfl, hB, hg, q1, q2, q3, q4⟩
    · simp at hn
    · have hc : ∀ i, i < 4 → w'.cell? ⟨g, 0 + i, none⟩ = some (.int .i64 0) := fun i hi => by
        rw [Nat.zero_add]
        refine cell_blk hg ?_
        have e := congrArg (·[i]?) q4
        simp only [List.getElem?_map] at e
        rw [List.getElem?_take_of_lt (by simpa using hi), Array.getElem?_toList] at e
        rw [e]
        match i, hi with
        | 0, _ => rfl
        | 1, _ => rfl
        | 2, _ => rfl
        | 3, _ => rfl
      refine ⟨g, cap, by rw [h1, hw1]; rfl, ⟨(addProg_0 w' ub g 0 cap tv 0 0 0 (below_heap h3 hu) (hc 0 (by omega)) (hc 1 (by omega)) (hc 2 (by omega)) (hc 3 (by omega)) (by omega) (by simpa using q1)).mono ?_⟩⟩
      rintro e2 w2 ⟨r1, r2, r3⟩
      exact ⟨r1, (h3.mono (by omega)).trans r2, r3⟩
  clear HS hw1 hL hu
  unfold line1 at HS2 ⊢
  unfold progW at HS2
  go_enter Tryd.func50, Tryd.ntmps50
  go_wp2_with (first
    | (go_at_call 63; refine HS2.mono ?_; rintro e w1 ⟨b, cap, rfl, HP⟩)
    | (go_at_call 65; refine HP.out.mono ?_; rintro e w2 ⟨rfl, hb2⟩))
  go_ret
  exact ⟨rfl, hb2⟩
end Go.Proofs.YtijdcplffmdijaaDoor
