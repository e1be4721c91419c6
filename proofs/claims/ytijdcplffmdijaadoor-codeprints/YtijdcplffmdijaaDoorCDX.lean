import Derived.Test.YtijdcplffmdijaaDoorCDW
namespace Go.Proofs.YtijdcplffmdijaaDoor
open Go.RowKit
set_option linter.unusedVariables false
set_option linter.unusedSimpArgs false

def line1 : List UInt8 := [112, 114, 111, 103, 32, 48, 32, 48, 32, 48, 32, 48]
def line2 : List UInt8 := [114, 101, 116, 32, 49]
theorem itoa0 : Lib.itoa 0 = [48] := by unfold Lib.itoa; rw [if_neg (by omega), show (0 : Int).toNat = 0 from rfl, Lib.decDigits_one (by omega)]; rfl
theorem itoa1 : Lib.itoa 1 = [49] := by unfold Lib.itoa; rw [if_neg (by omega), show (1 : Int).toNat = 1 from rfl, Lib.decDigits_one (by omega)]; rfl
theorem numOf0 : numOf [48] = some 0 := by rw [← itoa0]; exact numOf_itoa (by unfold I64; decide)
theorem numOf1 : numOf [49] = some 1 := by rw [← itoa1]; exact numOf_itoa (by unfold I64; decide)
theorem nums1 : numsOf (pieces 32 line1).2 = some [0, 0, 0, 0] := by
  have e : (pieces 32 line1).2 = [[48], [48], [48], [48]] := by decide
  rw [e]
  simp [numsOf, numOf0]
theorem nums2 : numsOf (pieces 32 line2).2 = some [1] := by
  have e : (pieces 32 line2).2 = [[49]] := by decide
  rw [e]
  simp [numsOf, numOf1]
set_option maxRecDepth 100000 in
set_option maxHeartbeats 2000000 in
/-- the example's second line is refused -/
theorem add_2 (w : World) (up : Value) (hL : LW w) :
    Calls Tryd.prog 50 #[up, strV line2] w fun e w' => e = .returned (.bool false) ∧ Below w.heap.size w w' := by
  have HS := split_any line2 w hL (by decide)
  have hw2 : (pieces 32 line2).1 = [114, 101, 116] := by decide
  have HS2 : Calls Tryd.prog 63 #[strV line2] w fun e w' => ∃ a cap, e = .returned (.tuple #[strV [114, 101, 116], .slice a 1 cap, .bool true]) ∧ Below w.heap.size w w' := HS.mono fun e w' h => by
    unfold SplitA at h
    rw [nums2] at h
    obtain ⟨v, h1, h2, h3⟩ := h
    obtain ⟨a, cap, rfl, _⟩ := h2.ints
    exact ⟨a, cap, by rw [h1, hw2]; rfl, h3⟩
  have HA : Bx (∀ W a cap, Below w.heap.size w W → Calls Tryd.prog 66 #[up, strV [114, 101, 116], .slice a 1 cap] W fun e w' => e = .returned (.bool false) ∧ Below w.heap.size w w') := ⟨fun W a cap hb => (addIns_no W up a cap (hL.below hb).shp).mono fun e w' h => ⟨h.1, hb.trans (h.2.mono hb.size)⟩⟩
  clear HS hw2 hL
  unfold line2 at HS2 ⊢
  go_enter Tryd.func50, Tryd.ntmps50
  go_wp2_with (first
    | (go_at_call 63; refine HS2.mono ?_; rintro e w1 ⟨a, cap, rfl, hb1⟩)
    | (go_at_call 66; refine (HA.out _ _ _ hb1).mono ?_; rintro e w2 ⟨rfl, hb2⟩))
  go_ret
  exact ⟨rfl, hb2⟩
set_option maxRecDepth 100000 in
set_option maxHeartbeats 2000000 in
/-- the example's first line is taken -/
theorem add_1 (w : World) (ub : Nat) (tv : Value) (hL : LW w) (hu : w.heap[ub]? = some (.cells #[.slice none 0 0, tv] 36 (0, 0))) :
    Calls Tryd.prog 50 #[.pointer (some ⟨ub, 0, none⟩), strV line1] w fun e w' => e = .returned (.bool true) ∧ Below ub w w' ∧ ∃ pv, w'.heap[ub]? = some (.cells #[pv, tv] 36 (0, 0)) := by
  have hub : ub < w.heap.size := (Array.getElem?_eq_some_iff.1 hu).1
  have HS := split_any line1 w hL (by decide)
  have hw1 : (pieces 32 line1).1 = progW := by decide
  have HS2 : Calls Tryd.prog 63 #[strV line1] w fun e w' => ∃ b cap, e = .returned (.tuple #[strV progW, .slice (some ⟨b, 0, none⟩) 4 cap, .bool true]) ∧ Bx (Calls Tryd.prog 65 #[.pointer (some ⟨ub, 0, none⟩), .slice (some ⟨b, 0, none⟩) 4 cap] w' fun e w2 => e = .returned (.bool true) ∧ Below ub w w2 ∧ ∃ pv, w2.heap[ub]? = some (.cells #[pv, tv] 36 (0, 0))) := HS.mono fun e w' h => by
    unfold SplitA at h
    rw [nums1] at h
    obtain ⟨v, h1, h2, h3⟩ := h
    rcases h2.own.2 with ⟨_, hn⟩ | ⟨g, cap, cur, rfl, hB, hg, q1, q2, q3, q4⟩
    · simp at hn
    · have hc : ∀ i, i < 4 → w'.cell? ⟨g, 0 + i, none⟩ = some (.int .i64 0) := fun i hi => by
        rw [Nat.zero_add]
        refine cell_blk hg ?_
        have e := congrArg (·[i]?) q4
        simp only [List.getElem?_map] at e
        rw [List.getElem?_take_of_lt (by simpa using hi), Array.getElem?_toList] at e
        rw [e]
        match i, hi with
        | 0, _ => rfl
        | 1, _ => rfl
        | 2, _ => rfl
        | 3, _ => rfl
      refine ⟨g, cap, by rw [h1, hw1]; rfl, ⟨(addProg_0 w' ub g 0 cap tv 0 0 0 (below_heap h3 hu) (hc 0 (by omega)) (hc 1 (by omega)) (hc 2 (by omega)) (hc 3 (by omega)) (by omega) (by simpa using q1)).mono ?_⟩⟩
      rintro e2 w2 ⟨r1, r2, r3⟩
      exact ⟨r1, (h3.mono (by omega)).trans r2, r3⟩
  clear HS hw1 hL hu
  unfold line1 at HS2 ⊢
  unfold progW at HS2
  go_enter Tryd.func50, Tryd.ntmps50
  go_wp2_with (first
    | (go_at_call 63; refine HS2.mono ?_; rintro e w1 ⟨b, cap, rfl, HP⟩)
    | (go_at_call 65; refine HP.out.mono ?_; rintro e w2 ⟨rfl, hb2⟩))
  go_ret
  exact ⟨rfl, hb2⟩
end Go.Proofs.YtijdcplffmdijaaDoor
namespace Go.Proofs.YtijdcplffmdijaaDoor
open Go.RowKit
set_option linter.unusedVariables false
set_option linter.unusedSimpArgs false

def text0 : List UInt8 := [112, 114, 111, 103, 32, 48, 32, 48, 32, 48, 32, 48, 10, 114, 101, 116, 32, 49, 10]
def rest0 : List UInt8 := [114, 101, 116, 32, 49, 10]
theorem cut_1 (w : World) : Calls Tryd.prog 49 #[strV text0, strV [10]] w fun e w' => e = .returned (.tuple #[strV line1, strV rest0, .bool true]) ∧ Below w.heap.size w w' :=
  Cut_any text0 line1 _ true 10 w (cut0_hit line1 rest0 10 w (by decide) (by decide))
theorem cut_2 (w : World) : Calls Tryd.prog 49 #[strV rest0, strV [10]] w fun e w' => e = .returned (.tuple #[strV line2, strV [], .bool true]) ∧ Below w.heap.size w w' :=
  Cut_any rest0 line2 _ true 10 w (cut0_hit line2 [] 10 w (by decide) (by decide))
set_option maxRecDepth 100000 in
set_option maxHeartbeats 4000000 in
theorem Parse_shown (w : World) (hL : LW w) :
    Calls Tryd.prog 26 #[strV text0] w fun e w' => e = .returned (.tuple #[.agg #[.slice none 0 0, .slice none 0 0], .int .i64 2, .int .i64 80]) ∧ Below w.heap.size w w' := by
  obtain ⟨w0, hw0⟩ : ∃ w0, w0 = (w.alloc (.cells #[.slice none 0 0, .slice none 0 0] 36)).alloc (.cells #[.slice none 0 0, .slice none 0 0] 36) := ⟨_, rfl⟩
  have hb0 : Below w.heap.size w w0 := by rw [hw0]; exact (below1 w _).trans ((below1 _ _).mono (by simp))
  have hr0 : w0.heap[w.heap.size]? = some (.cells #[.slice none 0 0, .slice none 0 0] 36 (0, 0)) := by rw [hw0]; exact below_heap (below1 _ _) (heap_new w _)
  have hu0 : w0.heap[w.heap.size + 1]? = some (.cells #[.slice none 0 0, .slice none 0 0] 36 (0, 0)) := by rw [hw0]; exact heap_newH _ _ _ (by simp)
  have HL : Bx (∀ W, Below w.heap.size w W → LW W) := ⟨fun W hb => hL.below hb⟩
  have H0 : Bx _ := ⟨hb0⟩
  have HR0 : Bx _ := ⟨hr0⟩
  have HU0 : Bx _ := ⟨hu0⟩
  clear hL hb0 hr0 hu0
  show Calls Tryd.prog 26 #[.string ⟨text0.toArray⟩] w _
  go_enter Tryd.func26, Tryd.ntmps26
  go_wp2
  rw [← hw0]
  clear hw0
  go_loopw [0, 6] (fun t n wr => (t = strV text0 ∧ n = .int .i64 1 ∧ wr = w0) ∨ (t = strV rest0 ∧ n = .int .i64 2 ∧ Bx (Below w.heap.size w wr ∧ wr.heap[w.heap.size]? = some (.cells #[.slice none 0 0, .slice none 0 0] 36 (0, 0))))) (fun _ n _ => 3 - (intOf n).toNat)
  case atStart => exact Or.inl ⟨rfl, rfl, rfl⟩
  case round =>
    rcases hrel with ⟨rfl, rfl, rfl⟩ | ⟨rfl, rfl, HS⟩
    · have HC : Bx (Calls Tryd.prog 49 #[strV text0, strV [10]] wr fun e w' => e = .returned (.tuple #[strV line1, strV rest0, .bool true]) ∧ Bx (Calls Tryd.prog 50 #[.pointer (some ⟨w.heap.size + 1, 0, none⟩), strV line1] w' fun e w2 => e = .returned (.bool true) ∧ Bx (Below w.heap.size w w2 ∧ w2.heap[w.heap.size]? = some (.cells #[.slice none 0 0, .slice none 0 0] 36 (0, 0))))) := ⟨(cut_1 wr).mono fun e w' h => ⟨h.1, ⟨(add_1 w' (w.heap.size + 1) (.slice none 0 0) (HL.out w' (H0.out.trans (h.2.mono H0.out.size))) (below_heap h.2 HU0.out)).mono fun e2 w2 ⟨r1, r2, _⟩ => ⟨r1, ⟨(H0.out.trans (h.2.mono H0.out.size)).trans (r2.mono (by omega)), by rw [r2.block _ (by omega)]; exact below_heap h.2 HR0.out⟩⟩⟩⟩⟩
      unfold text0 at HC ⊢
      go_wp2_with (first
        | (go_at_call 49; refine HC.out.mono ?_; rintro e w1 ⟨rfl, H1⟩; clear HC)
        | (go_at_call 50; refine H1.out.mono ?_; rintro e w2 ⟨rfl, H2⟩))
      go_roundw
      case rel => exact Or.inr ⟨rfl, rfl, H2⟩
      case measure => simp [intOf]
    · have HC : Bx (Calls Tryd.prog 49 #[strV rest0, strV [10]] wr fun e w' => e = .returned (.tuple #[strV line2, strV [], .bool true]) ∧ Bx (∀ up, Calls Tryd.prog 50 #[up, strV line2] w' fun e w2 => e = .returned (.bool false) ∧ Bx (Below w.heap.size w w2 ∧ w2.heap[w.heap.size]? = some (.cells #[.slice none 0 0, .slice none 0 0] 36 (0, 0))))) := ⟨(cut_2 wr).mono fun e w' h => ⟨h.1, ⟨fun up => (add_2 w' up (HL.out w' (HS.out.1.trans (h.2.mono HS.out.1.size)))).mono fun e2 w2 ⟨r1, r2⟩ => ⟨r1, ⟨(HS.out.1.trans (h.2.mono HS.out.1.size)).trans (r2.mono (Nat.le_trans HS.out.1.size h.2.size)), below_heap r2 (below_heap h.2 HS.out.2)⟩⟩⟩⟩⟩
      unfold rest0 at HC ⊢
      go_wp2_with (first
        | (go_at_call 49; refine HC.out.mono ?_; rintro e w1 ⟨rfl, H1⟩; clear HC)
        | (go_at_call 50; refine (H1.out _).mono ?_; rintro e w2 ⟨rfl, H2⟩; have e1 := H2.out.2; have c0 : w2.cell? ⟨w.heap.size, 0, none⟩ = some (.slice none 0 0) := cell_blk e1 rfl; have c1 : w2.cell? ⟨w.heap.size, 1, none⟩ = some (.slice none 0 0) := cell_blk e1 rfl; have f0 : w2.frozen? ⟨w.heap.size, 0, none⟩ = false := (by simp [World.frozen?, e1]); have f1 : w2.frozen? ⟨w.heap.size, 1, none⟩ = false := (by simp [World.frozen?, e1]); have hq : w.heap.size < w2.heap.size := (Array.getElem?_eq_some_iff.1 e1).1; clear e1))
      refine bodyPost_ret (v := .tuple #[.agg #[.slice none 0 0, .slice none 0 0], .int .i64 2, .int .i64 80]) (by simp [results, Tryd.results26, go_sem, c0, c1, hq]) rfl ⟨rfl, ?_⟩
      exact (H2.out.1.setCell (p := ⟨w.heap.size, 0, none⟩) (Nat.le_refl _) _).setCell (p := ⟨w.heap.size, 1, none⟩) (Nat.le_refl _) _
end Go.Proofs.YtijdcplffmdijaaDoor
