import Derived.Test.YtijdcplffmdijaaDoorCDW
namespace Go.Proofs.YtijdcplffmdijaaDoor
open Go.RowKit
set_option linter.unusedVariables false
set_option linter.unusedSimpArgs false

def line1 : List UInt8 := [112, 114, 111, 103, 32, 48, 32, 48, 32, 48, 32, 48]
def line2 : List UInt8 := [114, 101, 116, 32, 49]
theorem itoa0 : Lib.itoa 0 = [48] := by unfold Lib.itoa; rw [if_neg (by omega), show (0 : Int).toNat = 0 from rfl, Lib.decDigits_one (by omega)]; rfl
theorem itoa1 : Lib.itoa 1 = [49] := by unfold Lib.itoa; rw [if_neg (by omega), show (1 : Int).toNat = 1 from rfl, Lib.decDigits_one (by omega)]; rfl
theorem numOf0 : numOf [48] = some 0 := by rw [← itoa0]; exact numOf_itoa (by unfold I64; decide)
theorem numOf1 : numOf [49] = some 1 := by rw [← itoa1]; exact numOf_itoa (by unfold I64; decide)
theorem nums1 : numsOf (pieces 32 line1).2 = some [0, 0, 0, 0] := by
  have e : (pieces 32 line1).2 = [[48], [48], [48], [48]] := by decide
  rw [e]
  simp [numsOf, numOf0]
theorem nums2 : numsOf (pieces 32 line2).2 = some [1] := by
  have e : (pieces 32 line2).2 = [[49]] := by decide
  rw [e]
  simp [numsOf, numOf1]
set_option maxRecDepth 100000 in
set_option maxHeartbeats 2000000 in
/-- the example's second line is refused -/
theorem add_2 (w : World) (up : Value) (hL : LW w) :
    Calls Tryd.prog 50 #[up, strV line2] w fun e w' => e = .returned (.bool false) ∧ Below w.heap.size w w' := by
  have HS := split_any line2 w hL (by decide)
  have hw2 : (pieces 32 line2).1 = [114, 101, 116] := by decide
  have HS2 : Calls Tryd.prog 63 #[strV line2] w fun e w' => ∃ a cap, e = .returned (.tuple #[strV [114, 101, 116], .slice a 1 cap, .bool true]) ∧ Below w.heap.size w w' := HS.mono fun e w' h => by
    unfold SplitA at h
    rw [nums2] at h
    obtain ⟨v, h1, h2, h3⟩ := h
    obtain ⟨a, cap, rfl, _⟩ := h2.ints
    exact ⟨a, cap, by rw [h1, hw2]; rfl, h3⟩
  have HA : Bx (∀ W a cap, Below w.heap.size w W → Calls Tryd.prog 66 #[up, strV [114, 101, 116], .slice a 1 cap] W fun e w' => e = .returned (.bool false) ∧ Below w.heap.size w w') := ⟨fun W a cap hb => (addIns_no W up a cap (hL.below hb).shp).mono fun e w' h => ⟨h.1, hb.trans (h.2.mono hb.size)⟩⟩
  clear HS hw2 hL
  unfold line2 at HS2 ⊢
  go_enter Tryd.func50, Tryd.ntmps50
  go_wp2_with (first
    | (go_at_call 63; refine HS2.mono ?_; rintro e w1 ⟨a, cap, rfl, hb1⟩)
    | (go_at_call 66; refine (HA.out _ _ _ hb1).mono ?_; rintro e w2 ⟨rfl, hb2⟩))
  go_ret
  exact ⟨rfl, hb2⟩
set_option maxRecDepth 100000 in
set_option maxHeartbeats 2000000 in
/-- the example's first line is taken -/
theorem add_1 (w : World) (ub : Nat) (tv : Value) (hL : LW w) (hu : w.heap[ub]? = some (.cells #[.slice none 0 0, tv] 36 (0, 0))) :
    Calls Tryd.prog 50 #[.pointer (some ⟨ub, 0, none⟩), strV line1] w fun e w' => e = .returned (.bool true) ∧ Below ub w w' ∧ ∃ pv, w'.heap[ub]? = some (.cells #[pv, tv] 36 (0, 0)) := by
  have hub : ub < w.heap.size := (Array.getElem?_eq_some_iff.1 hu).1
  have HS := split_any line1 w hL (by decide)
  have hw1 : (pieces 32 line1).1 = progW := by decide
  have HS2 : Calls Tryd.prog 63 #[strV line1] w fun e w' => ∃ b cap, e = .returned (.tuple #[strV progW, .slice (some ⟨b, 0, none⟩) 4 cap, .bool true]) ∧ Bx (Calls Tryd.prog 65 #[.pointer (some ⟨ub, 0, none⟩), .slice (some ⟨b, 0, none⟩) 4 cap] w' fun e w2 => e = .returned (.bool true) ∧ Below ub w w2 ∧ ∃ pv, w2.heap[ub]? = some (.cells #[pv, tv] 36 (0, 0))) := HS.mono fun e w' h => by
    unfold SplitA at h
    rw [nums1] at h
    obtain ⟨v, h1, h2, h3⟩ := h
    rcases h2.own.2 with ⟨_, hn⟩ | ⟨g, cap, cur, rfl, hB, hg, q1, q2, q3, q4⟩
    · simp at hn
    · have hc : ∀ i, i < 4 → w'.cell? ⟨g, 0 + i, none⟩ = some (.int .i64 0) := fun i hi => by
        rw [Nat.zero_add]
        refine cell_blk hg ?_
        have e := congrArg (·[i]?) q4
        simp only [List.getElem?_map] at e
        rw [List.getElem?_take_of_lt (by simpa using hi), Array.getElem?_toList] at e
        rw [e]
        match i, hi with
        | 0, _ => rfl
        | 1, _ => rfl
        | 2, _ => rfl
        | 3, _ => rfl
      refine ⟨g, cap, by rw [h1, hw1]; rfl, ⟨(addProg_0 w' ub g 0 cap tv 0 0 0 (below_heap h3 hu) (hc 0 (by omega)) (hc 1 (by omega)) (hc 2 (by omega)) (hc 3 (by omega)) (by omega) (by simpa using q1)).mono ?_⟩⟩
      rintro e2 w2 ⟨r1, r2, r3⟩
      exact ⟨r1, (h3.mono (by omega)).trans r2, r3⟩
  clear HS hw1 hL hu
  unfold line1 at HS2 ⊢
  unfold progW at HS2
  go_enter Tryd.func50, Tryd.ntmps50
  go_wp2_with (first
    | (go_at_call 63; refine HS2.mono ?_; rintro e w1 ⟨b, cap, rfl, HP⟩)
    | (go_at_call 65; refine HP.out.mono ?_; rintro e w2 ⟨rfl, hb2⟩))
  go_ret
  exact ⟨rfl, hb2⟩
end Go.Proofs.YtijdcplffmdijaaDoor
namespace Go.Proofs.YtijdcplffmdijaaDoor
open Go.RowKit
set_option linter.unusedVariables false
set_option linter.unusedSimpArgs false

def text0 : List UInt8 := [112, 114, 111, 103, 32, 48, 32, 48, 32, 48, 32, 48, 10, 114, 101, 116, 32, 49, 10]
def rest0 : List UInt8 := [114, 101, 116, 32, 49, 10]
theorem cut_1 (w : World) : Calls Tryd.prog 49 #[strV text0, strV [10]] w fun e w' => e = .returned (.tuple #[strV line1, strV rest0, .bool true]) ∧ Below w.heap.size w w' :=
  Cut_any text0 line1 _ true 10 w (cut0_hit line1 rest0 10 w (by decide) (by decide))
theorem cut_2 (w : World) : Calls Tryd.prog 49 #[strV rest0, strV [10]] w fun e w' => e = .returned (.tuple #[strV line2, strV [], .bool true]) ∧ Below w.heap.size w w' :=
  Cut_any rest0 line2 _ true 10 w (cut0_hit line2 [] 10 w (by decide) (by decide))
set_option maxRecDepth 100000 in
set_option maxHeartbeats 4000000 in
theorem Parse_shown (w : World) (hL : LW w) :
    Calls Tryd.prog 26 #[strV text0] w fun e w' => e = .returned (.tuple #[.agg #[.slice none 0 0, .slice none 0 0], .int .i64 2, .int .i64 80]) ∧ Below w.heap.size w w' := by
  obtain ⟨w0, hw0⟩ : ∃ w0, w0 = (w.alloc (.cells #[.slice none 0 0, .slice none 0 0] 36)).alloc (.cells #[.slice none 0 0, .slice none 0 0] 36) := ⟨_, rfl⟩
  have hb0 : Below w.heap.size w w0 := by rw [hw0]; exact (below1 w _).trans ((below1 _ _).mono (by simp))
  have hr0 : w0.heap[w.heap.size]? = some (.cells #[.slice none 0 0, .slice none 0 0] 36 (0, 0)) := by rw [hw0]; exact below_heap (below1 _ _) (heap_new w _)
  have hu0 : w0.heap[w.heap.size + 1]? = some (.cells #[.slice none 0 0, .slice none 0 0] 36 (0, 0)) := by rw [hw0]; exact heap_newH _ _ _ (by simp)
  have HL : Bx (∀ W, Below w.heap.size w W → LW W) := ⟨fun W hb => hL.below hb⟩
  have H0 : Bx _ := ⟨hb0⟩
  have HR0 : Bx _ := ⟨hr0⟩
  have HU0 : Bx _ := ⟨hu0⟩
  clear hL hb0 hr0 hu0
  show Calls Tryd.prog 26 #[.string ⟨text0.toArray⟩] w _
  go_enter Tryd.func26, Tryd.ntmps26
  go_wp2
  rw [← hw0]
  clear hw0
  go_loopw [0, 6] (fun t n wr => (t = strV text0 ∧ n = .int .i64 1 ∧ wr = w0) ∨ (t = strV rest0 ∧ n = .int .i64 2 ∧ Bx (Below w.heap.size w wr ∧ wr.heap[w.heap.size]? = some (.cells #[.slice none 0 0, .slice none 0 0] 36 (0, 0))))) (fun _ n _ => 3 - (intOf n).toNat)
  case atStart => exact Or.inl ⟨rfl, rfl, rfl⟩
  case round =>
    rcases hrel with ⟨rfl, rfl, rfl⟩ | ⟨rfl, rfl, HS⟩
    · have HC : Bx (Calls Tryd.prog 49 #[strV text0, strV [10]] wr fun e w' => e = .returned (.tuple #[strV line1, strV rest0, .bool true]) ∧ Bx (Calls Tryd.prog 50 #[.pointer (some ⟨w.heap.size + 1, 0, none⟩), strV line1] w' fun e w2 => e = .returned (.bool true) ∧ Bx (Below w.heap.size w w2 ∧ w2.heap[w.heap.size]? = some (.cells #[.slice none 0 0, .slice none 0 0] 36 (0, 0))))) := ⟨(cut_1 wr).mono fun e w' h => ⟨h.1, ⟨(add_1 w' (w.heap.size + 1) (.slice none 0 0) (HL.out w' (H0.out.trans (h.2.mono H0.out.size))) (below_heap h.2 HU0.out)).mono fun e2 w2 ⟨r1, r2, _⟩ => ⟨r1, ⟨(H0.out.trans (h.2.mono H0.out.size)).trans (r2.mono (by omega)), by rw [r2.block _ (by omega)]; exact below_heap h.2 HR0.out⟩⟩⟩⟩⟩
      unfold text0 at HC ⊢
      go_wp2_with (first
        | (go_at_call 49; refine HC.out.mono ?_; rintro e w1 ⟨rfl, H1⟩; clear HC)
        | (go_at_call 50; refine H1.out.mono ?_; rintro e w2 ⟨rfl, H2⟩))
      go_roundw
      case rel => exact Or.inr ⟨rfl, rfl, H2⟩
      case measure => simp [intOf]
    · have HC : Bx (Calls Tryd.prog 49 #[strV rest0, strV [10]] wr fun e w' => e = .returned (.tuple #[strV line2, strV [], .bool true]) ∧ Bx (∀ up, Calls Tryd.prog 50 #[up, strV line2] w' fun e w2 => e = .returned (.bool false) ∧ Bx (Below w.heap.size w w2 ∧ w2.heap[w.heap.size]? = some (.cells #[.slice none 0 0, .slice none 0 0] 36 (0, 0))))) := ⟨(cut_2 wr).mono fun e w' h => ⟨h.1, ⟨fun up => (add_2 w' up (HL.out w' (HS.out.1.trans (h.2.mono HS.out.1.size)))).mono fun e2 w2 ⟨r1, r2⟩ => ⟨r1, ⟨(HS.out.1.trans (h.2.mono HS.out.1.size)).trans (r2.mono (Nat.le_trans HS.out.1.size h.2.size)), below_heap r2 (below_heap h.2 HS.out.2)⟩⟩⟩⟩⟩
      unfold rest0 at HC ⊢
      go_wp2_with (first
        | (go_at_call 49; refine HC.out.mono ?_; rintro e w1 ⟨rfl, H1⟩; clear HC)
        | (go_at_call 50; refine (H1.out _).mono ?_; rintro e w2 ⟨rfl, H2⟩; have e1 := H2.out.2; have c0 : w2.cell? ⟨w.heap.size, 0, none⟩ = some (.slice none 0 0) := cell_blk e1 rfl; have c1 : w2.cell? ⟨w.heap.size, 1, none⟩ = some (.slice none 0 0) := cell_blk e1 rfl; have f0 : w2.frozen? ⟨w.heap.size, 0, none⟩ = false := (by simp [World.frozen?, e1]); have f1 : w2.frozen? ⟨w.heap.size, 1, none⟩ = false := (by simp [World.frozen?, e1]); have hq : w.heap.size < w2.heap.size := (Array.getElem?_eq_some_iff.1 e1).1; clear e1))
      refine bodyPost_ret (v := .tuple #[.agg #[.slice none 0 0, .slice none 0 0], .int .i64 2, .int .i64 80]) (by simp [results, Tryd.results26, go_sem, c0, c1, hq]) rfl ⟨rfl, ?_⟩
      exact (H2.out.1.setCell (p := ⟨w.heap.size, 0, none⟩) (Nat.le_refl _) _).setCell (p := ⟨w.heap.size, 1, none⟩) (Nat.le_refl _) _
end Go.Proofs.YtijdcplffmdijaaDoor
namespace Go.Proofs.YtijdcplffmdijaaDoor
open Go.RowKit
set_option linter.unusedVariables false
set_option linter.unusedSimpArgs false

def shU : CUn := ⟨[⟨1, 2, 0, true, [⟨1, -5, 0, []⟩, ⟨27, 0, 0, [0, 2]⟩, ⟨25, 0, 0, []⟩]⟩], [⟨6, [1, 0], true⟩]⟩
def shT : List UInt8 := [116, 121, 112, 101, 32, 54, 32, 49, 32, 49, 32, 48, 10, 112, 114, 111, 103, 32, 49, 32, 50, 32, 48, 32, 49, 10, 105, 110, 116, 32, 45, 53, 10, 119, 97, 105, 116, 32, 48, 32, 50, 10, 114, 101, 116, 10]
theorem itoa2 : Lib.itoa 2 = [50] := by unfold Lib.itoa; rw [if_neg (by omega), show (2 : Int).toNat = 2 from rfl, Lib.decDigits_one (by omega)]; rfl
theorem itoa6 : Lib.itoa 6 = [54] := by unfold Lib.itoa; rw [if_neg (by omega), show (6 : Int).toNat = 6 from rfl, Lib.decDigits_one (by omega)]; rfl
theorem itoam5 : Lib.itoa (-5) = [45, 53] := by unfold Lib.itoa; rw [if_pos (by omega), show (-5 : Int).natAbs = 5 from rfl, Lib.decDigits_one (by omega)]; rfl
theorem shN (i : CIn) (nm : List UInt8) (ks : List Int) (h1 : nameI i.op = nm) (h2 : numsI i = ks) : insT i = nm ++ numsT ks ++ [10] := by unfold insT; rw [h1, h2]
theorem shU_text : unitT shU = shT := by
  unfold unitT shU
  simp only [List.flatMap_cons, List.flatMap_nil, List.append_nil]
  unfold progT headT typeT
  simp only [List.flatMap_cons, List.flatMap_nil, List.append_nil]
  rw [shN ⟨1, -5, 0, []⟩ [105, 110, 116] [-5] (by decide) (by decide), shN ⟨27, 0, 0, [0, 2]⟩ [119, 97, 105, 116] [0, 2] (by decide) (by decide), shN ⟨25, 0, 0, []⟩ [114, 101, 116] [] (by decide) (by decide)]
  unfold bitI
  simp only [if_true, numsT, List.flatMap_cons, List.flatMap_nil, itoa0, itoa1, itoa2, itoa6, itoam5, List.append_nil]
  rfl
theorem shU_fit : fitU shU = true := by decide
theorem shU_wf : shU.Wf := by
  refine ⟨fun p hp => ?_, fun t ht => ?_⟩
  · simp only [shU, List.mem_cons, List.not_mem_nil, or_false] at hp
    subst hp
    refine ⟨by unfold I64; decide, by unfold I64; decide, by unfold I64; decide, fun i hi => ?_⟩
    simp only [List.mem_cons, List.not_mem_nil, or_false] at hi
    rcases hi with rfl | rfl | rfl <;> refine ⟨by unfold I64; decide, by unfold I64; decide, by unfold I64; decide, fun k hk => ?_⟩ <;> simp only [List.mem_cons, List.not_mem_nil, or_false] at hk
    rcases hk with rfl | rfl <;> (unfold I64; decide)
  · simp only [shU, List.mem_cons, List.not_mem_nil, or_false] at ht
    subst ht
    refine ⟨by unfold I64; decide, fun k hk => ?_⟩
    simp only [List.mem_cons, List.not_mem_nil, or_false] at hk
    rcases hk with rfl | rfl <;> (unfold I64; decide)
/-- the example in memory -/
theorem shU_in {w : World} {B h0 h1 h2 h3 h4 : Nat} (b0 : w.heap[h0]? = some (.cells #[.int .i64 1, .int .i64 0] 3 (0, 0))) (b1 : w.heap[h1]? = some (.cells #[.int .i64 6, .slice (some ⟨h0, 0, none⟩) 2 2, .bool true] 54 (0, 0)))
    (b2 : w.heap[h2]? = some (.cells #[.int .i64 0, .int .i64 2] 3 (0, 0)))
    (b3 : w.heap[h3]? = some (.cells #[.int .i64 1, .int .i64 (-5), .int .i64 0, .slice none 0 0, .int .i64 27, .int .i64 0, .int .i64 0, .slice (some ⟨h2, 0, none⟩) 2 2, .int .i64 25, .int .i64 0, .int .i64 0, .slice none 0 0] 28 (0, 0)))
    (b4 : w.heap[h4]? = some (.cells #[.int .i64 1, .int .i64 2, .int .i64 0, .bool true, .slice (some ⟨h3, 0, none⟩) 3 3] 57 (0, 0)))
    (l0 : h0 < B) (l1 : h1 < B) (l2 : h2 < B) (l3 : h3 < B) (l4 : h4 < B) : UnIn w B (some ⟨h4, 0, none⟩) 1 (some ⟨h1, 0, none⟩) 1 shU := by
  have k0 : IntsV w B (some ⟨h0, 0, none⟩) 2 [1, 0] := ⟨by simp, by simp [maxLen], fun _ => ⟨h0, 0, rfl, l0, fun i hi => by
    match i, hi with
    | 0, _ => exact cell_blk b0 rfl
    | 1, _ => exact cell_blk b0 rfl⟩⟩
  have k2 : IntsV w B (some ⟨h2, 0, none⟩) 2 [0, 2] := ⟨by simp, by simp [maxLen], fun _ => ⟨h2, 0, rfl, l2, fun i hi => by
    match i, hi with
    | 0, _ => exact cell_blk b2 rfl
    | 1, _ => exact cell_blk b2 rfl⟩⟩
  refine ⟨⟨by simp [shU], by simp [shU, maxLen], fun _ => ⟨h4, 0, rfl, l4, fun j hj => ?_⟩⟩, ⟨by simp [shU], by simp [shU, maxLen], fun _ => ⟨h1, 0, rfl, l1, fun j hj => ?_⟩⟩⟩
  · match j, hj with
    | 0, _ =>
      refine ⟨some ⟨h3, 0, none⟩, 3, cell_blk b4 rfl, cell_blk b4 rfl, cell_blk b4 rfl, cell_blk b4 rfl, cell_blk b4 rfl, ⟨by simp [shU], by simp [shU, maxLen], fun _ => ⟨h3, 0, rfl, l3, fun i hi => ?_⟩⟩⟩
      match i, hi with
      | 0, _ => exact ⟨none, 0, cell_blk b3 rfl, cell_blk b3 rfl, cell_blk b3 rfl, cell_blk b3 rfl, intsV_nil _ _ _ _⟩
      | 1, _ => exact ⟨some ⟨h2, 0, none⟩, 2, cell_blk b3 rfl, cell_blk b3 rfl, cell_blk b3 rfl, cell_blk b3 rfl, k2⟩
      | 2, _ => exact ⟨none, 0, cell_blk b3 rfl, cell_blk b3 rfl, cell_blk b3 rfl, cell_blk b3 rfl, intsV_nil _ _ _ _⟩
  · match j, hj with
    | 0, _ => exact ⟨some ⟨h0, 0, none⟩, 2, cell_blk b1 rfl, cell_blk b1 rfl, cell_blk b1 rfl, k0⟩
theorem name27 : nameI 27 = [119, 97, 105, 116] := by decide
theorem op27 : opI (⟨#[119, 97, 105, 116]⟩ : ByteArray).toList = 27 := by rw [Lib.toList_data]; decide
theorem pops1 : popsI ⟨23, 2, 0, []⟩ = 3 := by decide
theorem pops2 : popsI ⟨23, 9223372036854775807, 0, []⟩ = 9223372036854775807 := by decide
theorem push1 : pushesI ⟨23, 0, 1, []⟩ = 1 := by decide
theorem i64s (x : Int) (h : -9223372036854775808 ≤ x ∧ x ≤ 9223372036854775807) : I64 x := h
set_option maxRecDepth 100000 in
set_option maxHeartbeats 8000000 in
theorem shown_any (w : World) (hL : LW w) : Calls Tryd.prog 9 #[] w fun e w' => e = .returned (.bool true) ∧ Below w.heap.size w w' := by
  obtain ⟨H, hH⟩ : ∃ H, w.heap.size = H := ⟨_, rfl⟩
  obtain ⟨W, hW⟩ : ∃ W, W = (((((w.alloc (.cells #[.int .i64 1, .int .i64 0] 3)).alloc (.cells #[.int .i64 6, .slice (some ⟨H, 0, none⟩) 2 2, .bool true] 54)).alloc (.cells #[.int .i64 0, .int .i64 2] 3)).alloc (.cells #[.int .i64 1, .int .i64 (-5), .int .i64 0, .slice none 0 0, .int .i64 27, .int .i64 0, .int .i64 0, .slice (some ⟨H + 2, 0, none⟩) 2 2, .int .i64 25, .int .i64 0, .int .i64 0, .slice none 0 0] 28)).alloc (.cells #[.int .i64 1, .int .i64 2, .int .i64 0, .bool true, .slice (some ⟨H + 3, 0, none⟩) 3 3] 57)).alloc (.cells #[.slice (some ⟨H + 4, 0, none⟩) 1 1, .slice (some ⟨H + 1, 0, none⟩) 1 1] 36) := ⟨_, rfl⟩
  have hbW : Below w.heap.size w W := by
    rw [hW]
    exact (((((below1 w _).alloc (by simp) _).alloc (by simp; omega) _).alloc (by simp; omega) _).alloc (by simp; omega) _).alloc (by simp; omega) _
  have z : ∀ (X : World) (o : Obj) (b : Nat) (o' : Obj), X.heap[b]? = some o' → (X.alloc o).heap[b]? = some o' := fun X o b o' h => below_heap (below1 X o) h
  have hsW : W.heap.size = H + 6 := by rw [hW]; simp; omega
  have b0 : W.heap[H]? = some (.cells #[.int .i64 1, .int .i64 0] 3 (0, 0)) := by rw [hW]; exact z _ _ _ _ (z _ _ _ _ (z _ _ _ _ (z _ _ _ _ (z _ _ _ _ (heap_newH _ _ _ hH)))))
  have b1 : W.heap[H + 1]? = some (.cells #[.int .i64 6, .slice (some ⟨H, 0, none⟩) 2 2, .bool true] 54 (0, 0)) := by rw [hW]; exact z _ _ _ _ (z _ _ _ _ (z _ _ _ _ (z _ _ _ _ (heap_newH _ _ _ (by simp; omega)))))
  have b2 : W.heap[H + 2]? = some (.cells #[.int .i64 0, .int .i64 2] 3 (0, 0)) := by rw [hW]; exact z _ _ _ _ (z _ _ _ _ (z _ _ _ _ (heap_newH _ _ _ (by simp; omega))))
  have b3 : W.heap[H + 3]? = some (.cells #[.int .i64 1, .int .i64 (-5), .int .i64 0, .slice none 0 0, .int .i64 27, .int .i64 0, .int .i64 0, .slice (some ⟨H + 2, 0, none⟩) 2 2, .int .i64 25, .int .i64 0, .int .i64 0, .slice none 0 0] 28 (0, 0)) := by rw [hW]; exact z _ _ _ _ (z _ _ _ _ (heap_newH _ _ _ (by simp; omega)))
  have b4 : W.heap[H + 4]? = some (.cells #[.int .i64 1, .int .i64 2, .int .i64 0, .bool true, .slice (some ⟨H + 3, 0, none⟩) 3 3] 57 (0, 0)) := by rw [hW]; exact z _ _ _ _ (heap_newH _ _ _ (by simp; omega))
  have hLW := hL.below hbW
  have hun := shU_in (B := W.heap.size) b0 b1 b2 b3 b4 (by omega) (by omega) (by omega) (by omega) (by omega)
  have hP := Print_any W shU _ 1 _ 1 hun shU_wf hLW.shp hLW.pow (by decide)
  rw [shU_fit, if_pos rfl, if_pos rfl, shU_text] at hP
  have HP : Bx (Calls Tryd.prog 22 #[.agg #[.slice (some ⟨H + 4, 0, none⟩) 1 1, .slice (some ⟨H + 1, 0, none⟩) 1 1]] W fun e w' => e = .returned (.tuple #[strV shT, .int .i64 0]) ∧ Below w.heap.size w w') := ⟨hP.mono fun e w' h => ⟨h.1, hbW.trans (h.2.mono hbW.size)⟩⟩
  have HR : Bx (∀ X, Below w.heap.size w X → Calls Tryd.prog 26 #[strV text0] X fun e w' => e = .returned (.tuple #[.agg #[.slice none 0 0, .slice none 0 0], .int .i64 2, .int .i64 80]) ∧ Below w.heap.size w w') := ⟨fun X hb => (Parse_shown X (hL.below hb)).mono fun e w' h => ⟨h.1, hb.trans (h.2.mono hb.size)⟩⟩
  have HN : Bx (∀ X, Below w.heap.size w X → Calls Tryd.prog 10 #[.int .i64 27] X fun e w' => e = .returned (strV [119, 97, 105, 116]) ∧ Below w.heap.size w w') := ⟨fun X hb => (Name_any 27 X (hL.below hb).shp (by unfold I64; decide)).mono fun e w' h => ⟨by rw [h.1, name27], hb.trans (h.2.mono hb.size)⟩⟩
  have HO : Bx (∀ X, Below w.heap.size w X → Calls Tryd.prog 11 #[strV [119, 97, 105, 116]] X fun e w' => e = .returned (.int .i64 27) ∧ X = w') := ⟨fun X hb => (Op_any ⟨#[119, 97, 105, 116]⟩ X (hL.below hb).shp).mono fun e w' h => ⟨by rw [h.1, op27]; rfl, h.2⟩⟩
  have HP1 : Bx (∀ X, Below w.heap.size w X → Calls Tryd.prog 15 #[.agg #[.int .i64 23, .int .i64 2, .int .i64 0, .slice none 0 0]] X fun e w' => e = .returned (.int .i64 3) ∧ Below w.heap.size w w') := ⟨fun X hb => (Pops_any X X.heap.size ⟨23, 2, 0, []⟩ none 0 (hL.below hb).shp ⟨i64s _ (by decide), i64s _ (by decide), i64s _ (by decide), fun k hk => by cases hk⟩ (intsV_nil _ _ _ _) (by decide) (Nat.le_refl _)).mono fun e w' h => ⟨by rw [h.1, pops1], hb.trans (h.2.mono hb.size)⟩⟩
  have HP2 : Bx (∀ X, Below w.heap.size w X → Calls Tryd.prog 15 #[.agg #[.int .i64 23, .int .i64 9223372036854775807, .int .i64 0, .slice none 0 0]] X fun e w' => e = .returned (.int .i64 9223372036854775807) ∧ Below w.heap.size w w') := ⟨fun X hb => (Pops_any X X.heap.size ⟨23, 9223372036854775807, 0, []⟩ none 0 (hL.below hb).shp ⟨i64s _ (by decide), i64s _ (by decide), i64s _ (by decide), fun k hk => by cases hk⟩ (intsV_nil _ _ _ _) (by decide) (Nat.le_refl _)).mono fun e w' h => ⟨by rw [h.1, pops2], hb.trans (h.2.mono hb.size)⟩⟩
  have HQ : Bx (∀ X, Below w.heap.size w X → Calls Tryd.prog 16 #[.agg #[.int .i64 23, .int .i64 0, .int .i64 1, .slice none 0 0]] X fun e w' => e = .returned (.int .i64 1) ∧ Below w.heap.size w w') := ⟨fun X hb => (Pushes_any X ⟨23, 0, 1, []⟩ none 0 (hL.below hb).shp ⟨i64s _ (by decide), i64s _ (by decide), i64s _ (by decide), fun k hk => by cases hk⟩).mono fun e w' h => ⟨by rw [h.1, push1], hb.trans (h.2.mono hb.size)⟩⟩
  have EW : Bx (_ = W) := ⟨hW.symm⟩
  have c0 : W.cell? ⟨H + 5, 0, none⟩ = some (.slice (some ⟨H + 4, 0, none⟩) 1 1) := by rw [hW]; exact cell_blk (heap_newH _ _ _ (by simp; omega)) rfl
  have c1 : W.cell? ⟨H + 5, 1, none⟩ = some (.slice (some ⟨H + 1, 0, none⟩) 1 1) := by rw [hW]; exact cell_blk (heap_newH _ _ _ (by simp; omega)) rfl
  clear hP hun hLW b0 b1 b2 b3 b4 z hbW hL hW
  subst hH
  unfold shT at HP
  unfold text0 at HR
  go_enter Tryd.func9, Tryd.ntmps9
  go_wp2_with (first
    | (go_at_call 22; rw [EW.out]; refine HP.out.mono ?_; rintro e w1 ⟨rfl, hb1⟩; have HB1 : Bx _ := ⟨hb1⟩; clear hb1)
    | (go_at_call 26; refine (HR.out _ HB1.out).mono ?_; rintro e w2 ⟨rfl, hb2⟩; have HB2 : Bx (∀ o, Below w.heap.size w (w2.alloc o)) := ⟨fun o => hb2.alloc hb2.size o⟩; clear hb2)
    | (go_at_call 10; refine (HN.out _ (HB2.out _)).mono ?_; rintro e w3 ⟨rfl, hb3⟩; have HB3 : Bx _ := ⟨hb3⟩; clear hb3)
    | (go_at_call 11; refine (HO.out _ HB3.out).mono ?_; rintro e w4 ⟨rfl, rfl⟩)
    | (go_at_call 15; refine (HP1.out _ HB3.out).mono ?_; rintro e w5 ⟨rfl, hb5⟩; have HB5 : Bx _ := ⟨hb5⟩; clear hb5 HP1)
    | (go_at_call 15; refine (HP2.out _ HB5.out).mono ?_; rintro e w6 ⟨rfl, hb6⟩; have HB6 : Bx _ := ⟨hb6⟩; clear hb6)
    | (go_at_call 16; refine (HQ.out _ HB6.out).mono ?_; rintro e w7 ⟨rfl, hb7⟩; have HB7 : Bx _ := ⟨hb7⟩; clear hb7))
  go_ret
  exact ⟨rfl, HB7.out⟩
end Go.Proofs.YtijdcplffmdijaaDoor
