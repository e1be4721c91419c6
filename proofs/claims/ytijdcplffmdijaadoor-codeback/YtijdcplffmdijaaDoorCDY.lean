import Derived.Test.YtijdcplffmdijaaDoorCDX
namespace Go.Proofs.YtijdcplffmdijaaDoor
open Go.RowKit
set_option linter.unusedVariables false
set_option linter.unusedSimpArgs false

def text0 : List UInt8 := [112, 114, 111, 103, 32, 48, 32, 48, 32, 48, 32, 48, 10, 114, 101, 116, 32, 49, 10]
def rest0 : List UInt8 := [114, 101, 116, 32, 49, 10]
theorem cut_1 (w : World) : Calls Tryd.prog 49 #[strV text0, strV [10]] w fun e w' => e = .returned (.tuple #[strV line1, strV rest0, .bool true]) ∧ Below w.heap.size w w' :=
  Cut_any text0 line1 _ true 10 w (cut0_hit line1 rest0 10 w (by decide) (by decide))
theorem cut_2 (w : World) : Calls Tryd.prog 49 #[strV rest0, strV [10]] w fun e w' => e = .returned (.tuple #[strV line2, strV [], .bool true]) ∧ Below w.heap.size w w' :=
  Cut_any rest0 line2 _ true 10 w (cut0_hit line2 [] 10 w (by decide) (by decide))
set_option maxRecDepth 100000 in
set_option maxHeartbeats 4000000 in
theorem Parse_shown (w : World) (hL : LW w) :
    Calls Tryd.prog 26 #[strV text0] w fun e w' => e = .returned (.tuple #[.agg #[.slice none 0 0, .slice none 0 0], .int .i64 2, .int .i64 80]) ∧ Below w.heap.size w w' := by
  obtain ⟨w0, hw0⟩ : ∃ w0, w0 = (w.alloc (.cells #[.slice none 0 0, .slice none 0 0] 36)).alloc (.cells #[.slice none 0 0, .slice none 0 0] 36) := ⟨_, rfl⟩
  have hb0 : Below w.heap.size w w0 := by rw [hw0]; exact (below1 w _).trans ((below1 _ _).mono (by simp))
  have hr0 : w0.heap[w.heap.size]? = some (.cells #[.slice none 0 0, .slice none 0 0] 36 (0, 0)) := by rw [hw0]; exact below_heap (below1 _ _) (heap_new w _)
  have hu0 : w0.heap[w.heap.size + 1]? = some (.cells #[.slice none 0 0, .slice none 0 0] 36 (0, 0)) := by rw [hw0]; exact heap_newH _ _ _ (by simp)
  have HL : Bx (∀ W, Below w.heap.size w W → LW W) := ⟨fun W hb => hL.below hb⟩
  have H0 : Bx _ := ⟨hb0⟩
  have HR0 : Bx _ := ⟨hr0⟩
  have HU0 : Bx _ := ⟨hu0⟩
  clear hL hb0 hr0 hu0
  show Calls Tryd.prog 26 #[.string ⟨text0.toArray⟩] w _
  go_enter Tryd.func26, Tryd.ntmps26
  go_wp2
  rw [← hw0]
  clear hw0
  go_loopw [0, 6] (fun t n wr => (t = strV text0 ∧ n = .int .i64 1 ∧ wr = w0) ∨ (t = strV rest0 ∧ n = .int .i64 2 ∧ Bx (Below w.heap.size w wr ∧ wr.heap[w.heap.size]? = some (.cells #[.slice none 0 0, .slice none 0 0] 36 (0, 0))))) (fun _ n _ => 3 - (intOf n).toNat)
  case atStart => exact Or.inl ⟨rfl, rfl, rfl⟩
  case round =>
    rcases hrel with ⟨rfl, rfl, rfl⟩ | ⟨rfl, rfl, HS⟩
    · have HC : Bx (Calls Tryd.prog 49 #[strV text0, strV [10]] wr fun e w' => e = .returned (.tuple #[strV line1, strV rest0, .bool true]) ∧ Bx (Calls Tryd.prog 50 #[.pointer (some ⟨w.heap.size + 1, 0, none⟩), strV line1] w' fun e w2 => e = .returned (.bool true) ∧ Bx (Below w.heap.size w w2 ∧ w2.heap[w.heap.size]? = some (.cells #[.slice none 0 0, .slice none 0 0] 36 (0, 0))))) := ⟨(cut_1 wr).mono fun e w' h => ⟨h.1, ⟨(add_1 w' (w.heap.size + 1) (.slice none 0 0) (HL.out w' (H0.out.trans (h.2.mono H0.out.size))) (below_heap h.2 HU0.out)).mono fun e2 w2 ⟨r1, r2, _⟩ => ⟨r1, ⟨(H0.out.trans (h.2.mono H0.out.size)).trans (r2.mono (by omega)), by rw [r2.block _ (by omega)]; exact below_heap h.2 HR0.out⟩⟩⟩⟩⟩
      unfold text0 at HC ⊢
      go_wp2_with (first
        | (go_at_call 49; refine HC.out.mono ?_; rintro e w1 ⟨rfl, H1⟩; clear HC)
        | (go_at_call 50; refine H1.out.mono ?_; rintro e w2 ⟨rfl, H2⟩))
      go_roundw
      case rel => exact Or.inr ⟨rfl, rfl, H2⟩
      case measure => simp [intOf]
    · have HC : Bx (Calls Tryd.prog 49 #[strV rest0, strV [10]] wr fun e w' => e = .returned (.tuple #[strV line2, strV [], .bool true]) ∧ Bx (∀ up, Calls Tryd.prog 50 #[up, strV line2] w' fun e w2 => e = .returned (.bool false) ∧ Bx (Below w.heap.size w w2 ∧ w2.heap[w.heap.size]? = some (.cells #[.slice none 0 0, .slice none 0 0] 36 (0, 0))))) := ⟨(cut_2 wr).mono fun e w' h => ⟨h.1, ⟨fun up => (add_2 w' up (HL.out w' (HS.out.1.trans (h.2.mono HS.out.1.size)))).mono fun e2 w2 ⟨r1, r2⟩ => ⟨r1, ⟨(HS.out.1.trans (h.2.mono HS.out.1.size)).trans (r2.mono (Nat.le_trans HS.out.1.size h.2.size)), below_heap r2 (below_heap h.2 HS.out.2)⟩⟩⟩⟩⟩
      unfold rest0 at HC ⊢
      go_wp2_with (first
        | (go_at_call 49; refine HC.out.mono ?_; rintro e w1 ⟨rfl, H1⟩; clear HC)
        | (go_at_call 50; refine (H1.out _).mono ?_; rintro e w2 ⟨rfl, H2⟩; have e1 := H2.out.2; have c0 : w2.cell? ⟨w.heap.size, 0, none⟩ = some (.slice none 0 0) := cell_blk e1 rfl; have c1 : w2.cell? ⟨w.heap.size, 1, none⟩ = some (.slice none 0 0) := cell_blk e1 rfl; have f0 : w2.frozen? ⟨w.heap.size, 0, none⟩ = false := (by simp [World.frozen?, e1]); have f1 : w2.frozen? ⟨w.heap.size, 1, none⟩ = false := (by simp [World.frozen?, e1]); have hq : w.heap.size < w2.heap.size := (Array.getElem?_eq_some_iff.1 e1).1; clear e1))
      refine bodyPost_ret (v := .tuple #[.agg #[.slice none 0 0, .slice none 0 0], .int .i64 2, .int .i64 80]) (by simp [results, Tryd.results26, go_sem, c0, c1, hq]) rfl ⟨rfl, ?_⟩
      exact (H2.out.1.setCell (p := ⟨w.heap.size, 0, none⟩) (Nat.le_refl _) _).setCell (p := ⟨w.heap.size, 1, none⟩) (Nat.le_refl _) _
end Go.Proofs.YtijdcplffmdijaaDoor
