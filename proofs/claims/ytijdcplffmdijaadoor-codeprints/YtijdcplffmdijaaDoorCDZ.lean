import Derived.Test.YtijdcplffmdijaaDoorCDX
namespace Go.Proofs.YtijdcplffmdijaaDoor
open Go.RowKit
set_option linter.unusedVariables false
set_option linter.unusedSimpArgs false

def shU : CUn := ⟨[⟨1, 2, 0, true, [⟨1, -5, 0, []⟩, ⟨27, 0, 0, [0, 2]⟩, ⟨25, 0, 0, []⟩]⟩], [⟨6, [1, 0], true⟩]⟩
def shT : List UInt8 := [116, 121, 112, 101, 32, 54, 32, 49, 32, 49, 32, 48, 10, 112, 114, 111, 103, 32, 49, 32, 50, 32, 48, 32, 49, 10, 105, 110, 116, 32, 45, 53, 10, 119, 97, 105, 116, 32, 48, 32, 50, 10, 114, 101, 116, 10]
theorem itoa2 : Lib.itoa 2 = [50] := by unfold Lib.itoa; rw [if_neg (by omega), show (2 : Int).toNat = 2 from rfl, Lib.decDigits_one (by omega)]; rfl
theorem itoa6 : Lib.itoa 6 = [54] := by unfold Lib.itoa; rw [if_neg (by omega), show (6 : Int).toNat = 6 from rfl, Lib.decDigits_one (by omega)]; rfl
theorem itoam5 : Lib.itoa (-5) = [45, 53] := by unfold Lib.itoa; rw [if_pos (by omega), show (-5 : Int).natAbs = 5 from rfl, Lib.decDigits_one (by omega)]; rfl
theorem shN (i : CIn) (nm : List UInt8) (ks : List Int) (h1 : nameI i.op = nm) (h2 : numsI i = ks) : insT i = nm ++ numsT ks ++ [10] := by unfold insT; rw [h1, h2]
theorem shU_text : unitT shU = shT := by
  unfold unitT shU
  simp only [List.flatMap_cons, List.flatMap_nil, List.append_nil]
  unfold progT headT typeT
  simp only [List.flatMap_cons, List.flatMap_nil, List.append_nil]
  rw [shN ⟨1, -5, 0, []⟩ [105, 110, 116] [-5] (by decide) (by decide), shN ⟨27, 0, 0, [0, 2]⟩ [119, 97, 105, 116] [0, 2] (by decide) (by decide), shN ⟨25, 0, 0, []⟩ [114, 101, 116] [] (by decide) (by decide)]
  unfold bitI
  simp only [if_true, numsT, List.flatMap_cons, List.flatMap_nil, itoa0, itoa1, itoa2, itoa6, itoam5, List.append_nil]
  rfl
theorem shU_fit : fitU shU = true := by decide
theorem shU_wf : shU.Wf := by
  refine ⟨fun p hp => ?_, fun t ht => ?_⟩
  · simp only [shU, List.mem_cons, List.not_mem_nil, or_false] at hp
    subst hp
    refine ⟨by unfold I64; decide, by unfold I64; decide, by unfold I64; decide, fun i hi => ?_⟩
    simp only [List.mem_cons, List.not_mem_nil, or_false] at hi
    rcases hi with rfl | rfl | rfl <;> refine ⟨by unfold I64; decide, by unfold I64; decide, by unfold I64; decide, fun k hk => ?_⟩ <;> simp only [List.mem_cons, List.not_mem_nil, or_false] at hk
    rcases hk with rfl | rfl <;> (unfold I64; decide)
  · simp only [shU, List.mem_cons, List.not_mem_nil, or_false] at ht
    subst ht
    refine ⟨by unfold I64; decide, fun k hk => ?_⟩
    simp only [List.mem_cons, List.not_mem_nil, or_false] at hk
    rcases hk with rfl | rfl <;> (unfold I64; decide)
/-- the example in memory -/
theorem shU_in {w : World} {B h0 h1 h2 h3 h4 : Nat} (b0 : w.heap[h0]? = some (.cells #[.int .i64 1, .int .i64 0] 3 (0, 0))) (b1 : w.heap[h1]? = some (.cells #[.int .i64 6, .slice (some ⟨h0, 0, none⟩) 2 2, .bool true] 54 (0, 0)))
    (b2 : w.heap[h2]? = some (.cells #[.int .i64 0, .int .i64 2] 3 (0, 0)))
    (b3 : w.heap[h3]? = some (.cells #[.int .i64 1, .int .i64 (-5), .int .i64 0, .slice none 0 0, .int .i64 27, .int .i64 0, .int .i64 0, .slice (some ⟨h2, 0, none⟩) 2 2, .int .i64 25, .int .i64 0, .int .i64 0, .slice none 0 0] 28 (0, 0)))
    (b4 : w.heap[h4]? = some (.cells #[.int .i64 1, .int .i64 2, .int .i64 0, .bool true, .slice (some ⟨h3, 0, none⟩) 3 3] 57 (0, 0)))
    (l0 : h0 < B) (l1 : h1 < B) (l2 : h2 < B) (l3 : h3 < B) (l4 : h4 < B) : UnIn w B (some ⟨h4, 0, none⟩) 1 (some ⟨h1, 0, none⟩) 1 shU := by
  have k0 : IntsV w B (some ⟨h0, 0, none⟩) 2 [1, 0] := ⟨by simp, by simp [maxLen], fun _ => ⟨h0, 0, rfl, l0, fun i hi => by
    match i, hi with
    | 0, _ => exact cell_blk b0 rfl
    | 1, _ => exact cell_blk b0 rfl⟩⟩
  have k2 : IntsV w B (some ⟨h2, 0, none⟩) 2 [0, 2] := ⟨by simp, by simp [maxLen], fun _ => ⟨h2, 0, rfl, l2, fun i hi => by
    match i, hi with
    | 0, _ => exact cell_blk b2 rfl
    | 1, _ => exact cell_blk b2 rfl⟩⟩
  refine ⟨⟨by simp [shU], by simp [shU, maxLen], fun _ => ⟨h4, 0, rfl, l4, fun j hj => ?_⟩⟩, ⟨by simp [shU], by simp [shU, maxLen], fun _ => ⟨h1, 0, rfl, l1, fun j hj => ?_⟩⟩⟩
  · match j, hj with
    | 0, _ =>
      refine ⟨some ⟨h3, 0, none⟩, 3, cell_blk b4 rfl, cell_blk b4 rfl, cell_blk b4 rfl, cell_blk b4 rfl, cell_blk b4 rfl, ⟨by simp [shU], by simp [shU, maxLen], fun _ => ⟨h3, 0, rfl, l3, fun i hi => ?_⟩⟩⟩
      match i, hi with
      | 0, _ => exact ⟨none, 0, cell_blk b3 rfl, cell_blk b3 rfl, cell_blk b3 rfl, cell_blk b3 rfl, intsV_nil _ _ _ _⟩
      | 1, _ => exact ⟨some ⟨h2, 0, none⟩, 2, cell_blk b3 rfl, cell_blk b3 rfl, cell_blk b3 rfl, cell_blk b3 rfl, k2⟩
      | 2, _ => exact ⟨none, 0, cell_blk b3 rfl, cell_blk b3 rfl, cell_blk b3 rfl, cell_blk b3 rfl, intsV_nil _ _ _ _⟩
  · match j, hj with
    | 0, _ => exact ⟨some ⟨h0, 0, none⟩, 2, cell_blk b1 rfl, cell_blk b1 rfl, cell_blk b1 rfl, k0⟩
theorem name27 : nameI 27 = [119, 97, 105, 116] := by decide
theorem op27 : opI (⟨#[119, 97, 105, 116]⟩ : ByteArray).toList = 27 := by rw [Lib.toList_data]; decide
theorem pops1 : popsI ⟨23, 2, 0, []⟩ = 3 := by decide
theorem pops2 : popsI ⟨23, 9223372036854775807, 0, []⟩ = 9223372036854775807 := by decide
theorem push1 : pushesI ⟨23, 0, 1, []⟩ = 1 := by decide
theorem i64s (x : Int) (h : -9223372036854775808 ≤ x ∧ x ≤ 9223372036854775807) : I64 x := h
set_option maxRecDepth 100000 in
set_option maxHeartbeats 8000000 in
theorem shown_any (w : World) (hL : LW w) : Calls Tryd.prog 9 #[] w fun e w' => e = .returned (.bool true) ∧ Below w.heap.size w w' := by
  obtain ⟨H, hH⟩ : ∃ H, w.heap.size = H := ⟨_, rfl⟩
  obtain ⟨W, hW⟩ : ∃ W, W = (((((w.alloc (.cells #[.int .i64 1, .int .i64 0] 3)).alloc (.cells #[.int .i64 6, .slice (some ⟨H, 0, none⟩) 2 2, .bool true] 54)).alloc (.cells #[.int .i64 0, .int .i64 2] 3)).alloc (.cells #[.int .i64 1, .int .i64 (-5), .int .i64 0, .slice none 0 0, .int .i64 27, .int .i64 0, .int .i64 0, .slice (some ⟨H + 2, 0, none⟩) 2 2, .int .i64 25, .int .i64 0, .int .i64 0, .slice none 0 0] 28)).alloc (.cells #[.int .i64 1, .int .i64 2, .int .i64 0, .bool true, .slice (some ⟨H + 3, 0, none⟩) 3 3] 57)).alloc (.cells #[.slice (some ⟨H + 4, 0, none⟩) 1 1, .slice (some ⟨H + 1, 0, none⟩) 1 1] 36) := ⟨_, rfl⟩
  have hbW : Below w.heap.size w W := by
    rw [hW]
    exact (((((below1 w _).alloc (by simp) _).alloc (by simp; omega) _).alloc (by simp; omega) _).alloc (by simp; omega) _).alloc (by simp; omega) _
  have z : ∀ (X : World) (o : Obj) (b : Nat) (o' : Obj), X.heap[b]? = some o' → (X.alloc o).heap[b]? = some o' := fun X o b o' h => below_heap (below1 X o) h
  have hsW : W.heap.size = H + 6 := by rw [hW]; simp; omega
  have b0 : W.heap[H]? = some (.cells #[.int .i64 1, .int .i64 0] 3 (0, 0)) := by rw [hW]; exact z _ _ _ _ (z _ _ _ _ (z _ _ _ _ (z _ _ _ _ (z _ _ _ _ (heap_newH _ _ _ hH)))))
  have b1 : W.heap[H + 1]? = some (.cells #[.int .i64 6, .slice (some ⟨H, 0, none⟩) 2 2, .bool true] 54 (0, 0)) := by rw [hW]; exact z _ _ _ _ (z _ _ _ _ (z _ _ _ _ (z _ _ _ _ (heap_newH _ _ _ (by simp; omega)))))
  have b2 : W.heap[H + 2]? = some (.cells #[.int .i64 0, .int .i64 2] 3 (0, 0)) := by rw [hW]; exact z _ _ _ _ (z _ _ _ _ (z _ _ _ _ (heap_newH _ _ _ (by simp; omega))))
  have b3 : W.heap[H + 3]? = some (.cells #[.int .i64 1, .int .i64 (-5), .int .i64 0, .slice none 0 0, .int .i64 27, .int .i64 0, .int .i64 0, .slice (some ⟨H + 2, 0, none⟩) 2 2, .int .i64 25, .int .i64 0, .int .i64 0, .slice none 0 0] 28 (0, 0)) := by rw [hW]; exact z _ _ _ _ (z _ _ _ _ (heap_newH _ _ _ (by simp; omega)))
  have b4 : W.heap[H + 4]? = some (.cells #[.int .i64 1, .int .i64 2, .int .i64 0, .bool true, .slice (some ⟨H + 3, 0, none⟩) 3 3] 57 (0, 0)) := by rw [hW]; exact z _ _ _ _ (heap_newH _ _ _ (by simp; omega))
  have hLW := hL.below hbW
  have hun := shU_in (B := W.heap.size) b0 b1 b2 b3 b4 (by omega) (by omega) (by omega) (by omega) (by omega)
  have hP := Print_any W shU _ 1 _ 1 hun shU_wf hLW.shp hLW.pow (by decide)
  rw [shU_fit, if_pos rfl, if_pos rfl, shU_text] at hP
  have HP : Bx (Calls Tryd.prog 22 #[.agg #[.slice (some ⟨H + 4, 0, none⟩) 1 1, .slice (some ⟨H + 1, 0, none⟩) 1 1]] W fun e w' => e = .returned (.tuple #[strV shT, .int .i64 0]) ∧ Below w.heap.size w w') := ⟨hP.mono fun e w' h => ⟨h.1, hbW.trans (h.2.mono hbW.size)⟩⟩
  have HR : Bx (∀ X, Below w.heap.size w X → Calls Tryd.prog 26 #[strV text0] X fun e w' => e = .returned (.tuple #[.agg #[.slice none 0 0, .slice none 0 0], .int .i64 2, .int .i64 80]) ∧ Below w.heap.size w w') := ⟨fun X hb => (Parse_shown X (hL.below hb)).mono fun e w' h => ⟨h.1, hb.trans (h.2.mono hb.size)⟩⟩
  have HN : Bx (∀ X, Below w.heap.size w X → Calls Tryd.prog 10 #[.int .i64 27] X fun e w' => e = .returned (strV [119, 97, 105, 116]) ∧ Below w.heap.size w w') := ⟨fun X hb => (Name_any 27 X (hL.below hb).shp (by unfold I64; decide)).mono fun e w' h => ⟨by rw [h.1, name27], hb.trans (h.2.mono hb.size)⟩⟩
  have HO : Bx (∀ X, Below w.heap.size w X → Calls Tryd.prog 11 #[strV [119, 97, 105, 116]] X fun e w' => e = .returned (.int .i64 27) ∧ X = w') := ⟨fun X hb => (Op_any ⟨#[119, 97, 105, 116]⟩ X (hL.below hb).shp).mono fun e w' h => ⟨by rw [h.1, op27]; rfl, h.2⟩⟩
  have HP1 : Bx (∀ X, Below w.heap.size w X → Calls Tryd.prog 15 #[.agg #[.int .i64 23, .int .i64 2, .int .i64 0, .slice none 0 0]] X fun e w' => e = .returned (.int .i64 3) ∧ Below w.heap.size w w') := ⟨fun X hb => (Pops_any X X.heap.size ⟨23, 2, 0, []⟩ none 0 (hL.below hb).shp ⟨i64s _ (by decide), i64s _ (by decide), i64s _ (by decide), fun k hk => by cases hk⟩ (intsV_nil _ _ _ _) (by decide) (Nat.le_refl _)).mono fun e w' h => ⟨by rw [h.1, pops1], hb.trans (h.2.mono hb.size)⟩⟩
  have HP2 : Bx (∀ X, Below w.heap.size w X → Calls Tryd.prog 15 #[.agg #[.int .i64 23, .int .i64 9223372036854775807, .int .i64 0, .slice none 0 0]] X fun e w' => e = .returned (.int .i64 9223372036854775807) ∧ Below w.heap.size w w') := ⟨fun X hb => (Pops_any X X.heap.size ⟨23, 9223372036854775807, 0, []⟩ none 0 (hL.below hb).shp ⟨i64s _ (by decide), i64s _ (by decide), i64s _ (by decide), fun k hk => by cases hk⟩ (intsV_nil _ _ _ _) (by decide) (Nat.le_refl _)).mono fun e w' h => ⟨by rw [h.1, pops2], hb.trans (h.2.mono hb.size)⟩⟩
  have HQ : Bx (∀ X, Below w.heap.size w X → Calls Tryd.prog 16 #[.agg #[.int .i64 23, .int .i64 0, .int .i64 1, .slice none 0 0]] X fun e w' => e = .returned (.int .i64 1) ∧ Below w.heap.size w w') := ⟨fun X hb => (Pushes_any X ⟨23, 0, 1, []⟩ none 0 (hL.below hb).shp ⟨i64s _ (by decide), i64s _ (by decide), i64s _ (by decide), fun k hk => by cases hk⟩).mono fun e w' h => ⟨by rw [h.1, push1], hb.trans (h.2.mono hb.size)⟩⟩
  have EW : Bx (_ = W) := ⟨hW.symm⟩
  have c0 : W.cell? ⟨H + 5, 0, none⟩ = some (.slice (some ⟨H + 4, 0, none⟩) 1 1) := by rw [hW]; exact cell_blk (heap_newH _ _ _ (by simp; omega)) rfl
  have c1 : W.cell? ⟨H + 5, 1, none⟩ = some (.slice (some ⟨H + 1, 0, none⟩) 1 1) := by rw [hW]; exact cell_blk (heap_newH _ _ _ (by simp; omega)) rfl
  clear hP hun hLW b0 b1 b2 b3 b4 z hbW hL hW
  subst hH
  unfold shT at HP
  unfold text0 at HR
  go_enter Tryd.func9, Tryd.ntmps9
  go_wp2_with (first
    | (go_at_call 22; rw [EW.out]; refine HP.out.mono ?_; rintro e w1 ⟨rfl, hb1⟩; have HB1 : Bx _ := ⟨hb1⟩; clear hb1)
    | (go_at_call 26; refine (HR.out _ HB1.out).mono ?_; rintro e w2 ⟨rfl, hb2⟩; have HB2 : Bx (∀ o, Below w.heap.size w (w2.alloc o)) := ⟨fun o => hb2.alloc hb2.size o⟩; clear hb2)
    | (go_at_call 10; refine (HN.out _ (HB2.out _)).mono ?_; rintro e w3 ⟨rfl, hb3⟩; have HB3 : Bx _ := ⟨hb3⟩; clear hb3)
    | (go_at_call 11; refine (HO.out _ HB3.out).mono ?_; rintro e w4 ⟨rfl, rfl⟩)
    | (go_at_call 15; refine (HP1.out _ HB3.out).mono ?_; rintro e w5 ⟨rfl, hb5⟩; have HB5 : Bx _ := ⟨hb5⟩; clear hb5 HP1)
    | (go_at_call 15; refine (HP2.out _ HB5.out).mono ?_; rintro e w6 ⟨rfl, hb6⟩; have HB6 : Bx _ := ⟨hb6⟩; clear hb6)
    | (go_at_call 16; refine (HQ.out _ HB6.out).mono ?_; rintro e w7 ⟨rfl, hb7⟩; have HB7 : Bx _ := ⟨hb7⟩; clear hb7))
  go_ret
  exact ⟨rfl, HB7.out⟩
end Go.Proofs.YtijdcplffmdijaaDoor
