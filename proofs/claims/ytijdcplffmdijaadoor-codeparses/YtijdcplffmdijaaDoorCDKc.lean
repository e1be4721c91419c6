import Derived.Test.YtijdcplffmdijaaDoorCDKa
import Derived.Handy
namespace Go.Proofs.YtijdcplffmdijaaDoor
open Go.RowKit
set_option linter.unusedVariables false
set_option linter.unusedSimpArgs false

/-- four stores into a copy of one's own, and a block more -/
theorem fin_okO {w w3 : World} {H : Nat} {C : Array Value} (hh : w3.heap[H]? = some (.cells C 28 (0, 0))) (hb : Below w.heap.size w w3) (hH : w.heap.size ≤ H) {a' : Option Addr} {cap' : Nat} {l : List Int} (hk : IN w.heap.size w3 a' cap' l) (v0 v1 v2 v3 : Value) (o : Obj) :
    IN w.heap.size (((((w3.setCell ⟨H, 0, none⟩ v0).setCell ⟨H, 1, none⟩ v1).setCell ⟨H, 2, none⟩ v2).setCell ⟨H, 3, none⟩ v3).alloc o) a' cap' l ∧ Below w.heap.size w (((((w3.setCell ⟨H, 0, none⟩ v0).setCell ⟨H, 1, none⟩ v1).setCell ⟨H, 2, none⟩ v2).setCell ⟨H, 3, none⟩ v3).alloc o) := by
  have e1 := heap_setCell_same w3 H 0 C 28 v0 hh
  have e2 := heap_setCell_same _ H 1 _ 28 v1 e1
  have e3 := heap_setCell_same _ H 2 _ 28 v2 e2
  have k := (((KI.set (i := 0) (v := v0) hh (by decide)).trans (KI.set (i := 1) (v := v1) e1 (by decide))).trans (KI.set (i := 2) (v := v2) e2 (by decide))).trans (KI.set (i := 3) (v := v3) e3 (by decide))
  have hs := hb.size
  exact ⟨hk.on (k.trans (KI.of (below1 _ o))), ((((hb.setCell (p := ⟨H, 0, none⟩) hH _).setCell (p := ⟨H, 1, none⟩) hH _).setCell (p := ⟨H, 2, none⟩) hH _).setCell (p := ⟨H, 3, none⟩) hH _).alloc (by simp; omega) o⟩
/-- what instructionOf answers -/
def ioPostO (w : World) (op : Nat) (ks : List Int) (e : Ending) (w' : World) : Prop :=
  match insOf op ks with
  | none => e = .returned (.tuple #[.agg #[.int .i64 0, .int .i64 0, .int .i64 0, .slice none 0 0], .bool false]) ∧ Below w.heap.size w w'
  | some i => ∃ a' cap', e = .returned (.tuple #[.agg #[.int .i64 i.op, .int .i64 i.a, .int .i64 i.b, .slice a' i.list.length cap'], .bool true]) ∧ Bx (IN w.heap.size w' a' cap' i.list ∧ Below w.heap.size w w')
set_option maxRecDepth 100000 in
set_option maxHeartbeats 8000000 in
theorem instructionOf_own (w : World) (hL : Shp w) (op : Nat) (ho : op < 28) (a : Option Addr) (cap : Nat) (ks : List Int) (hi : IntsV w w.heap.size a cap ks) (hl : ks.length ≤ 17592186044416) :
    Calls Tryd.prog 76 #[.int .i64 op, .slice a ks.length cap] w (ioPostO w op ks) := by
  have hb := below1 w (.cells #[.int .i64 0, .int .i64 0, .int .i64 0, .slice none 0 0] 28)
  have HS := shapeOf_any op (w.alloc (.cells #[.int .i64 0, .int .i64 0, .int .i64 0, .slice none 0 0] 28)) (hL.below hb) (by unfold I64; omega)
  have hsm := shape_small op
  have hf : firstI op = firstH (shapeI op).2.1 := rfl
  have hnm : nameI op = (shapeI op).1 := rfl
  have hhl : hasLI op = ((shapeI op).2.1 / 4 % 2 == 1) := rfl
  unfold ioPostO insOf
  rw [hf, hnm, hhl]
  unfold shpV at HS
  generalize shapeI (op : Int) = s at *
  obtain ⟨nm, hs, tk, ly⟩ := s
  simp only [] at *
  obtain ⟨_, _, _, _, s1, s2⟩ := hsm
  obtain ⟨_, _, A3⟩ := and_bits s1 s2
  have HF : Bx (∀ W, _) := ⟨fun W => first_any nm hs tk ly W s1 s2⟩
  have hf2 : firstH hs ≤ 2 := by unfold firstH; split <;> split <;> omega
  generalize firstH hs = f at *
  have HB : Bx _ := ⟨hb⟩
  obtain ⟨n, hn⟩ : ∃ n, ks.length = n := ⟨_, rfl⟩
  have HI : Bx _ := ⟨hi⟩
  have HLE : Bx _ := ⟨hl⟩
  clear hb hL hf hnm hhl hi hl
  by_cases hno : nm = [] ∨ ks.length < f ∨ (f < ks.length ∧ (hs / 4 % 2 == 1) = false)
  · rw [if_pos hno]
    rw [hn] at hno ⊢
    simp only []
    by_cases hnm : nm = []
    · have n1 : nm.isEmpty = true := by rw [hnm]; rfl
      have n2 : (nm = []) = True := eq_true hnm
      clear hno A3 hnm
      go_enter Tryd.func76, Tryd.ntmps76
      go_wp2_with (first
      | (go_at_call 31; refine HS.mono ?_; clear HS; rintro e w1 ⟨rfl, hb1⟩
         have I1 : w1.heap[w.heap.size]? = some (.cells #[.int .i64 0, .int .i64 0, .int .i64 0, .slice none 0 0] 28 (0, 0)) := below_heap hb1 (heap_new w _)
         have HB1 : Bx (Below w.heap.size w w1) := ⟨HB.out.trans (hb1.mono (by simp))⟩
         have hq : w.heap.size < w1.heap.size := (Array.getElem?_eq_some_iff.1 I1).1
         have I1B : Bx _ := ⟨I1⟩
         clear hb1 I1)
      | (go_at_call 87; refine (HF.out _).mono ?_; clear HF; rintro e w2 ⟨rfl, hb2⟩
         have e1 : w2.heap[w.heap.size]? = some (.cells #[.int .i64 0, .int .i64 0, .int .i64 0, .slice none 0 0] 28 (0, 0)) := below_heap hb2 (below_heap (below1 w1 _) I1B.out)
         have e2 : w2.heap[w1.heap.size]? = some (.cells #[strV nm, .int .i64 hs, .int .i64 tk, .int .i64 ly] 60 (0, 0)) := below_heap hb2 (heap_new w1 _)
         have c0 : w2.cell? ⟨w.heap.size, 0, none⟩ = some (.int .i64 0) := cell_blk e1 rfl
         have c1 : w2.cell? ⟨w.heap.size, 1, none⟩ = some (.int .i64 0) := cell_blk e1 rfl
         have c2 : w2.cell? ⟨w.heap.size, 2, none⟩ = some (.int .i64 0) := cell_blk e1 rfl
         have c3 : w2.cell? ⟨w.heap.size, 3, none⟩ = some (.slice none 0 0) := cell_blk e1 rfl
         have f0 : w2.frozen? ⟨w.heap.size, 0, none⟩ = false := by simp [World.frozen?, e1]
         have f1 : w2.frozen? ⟨w.heap.size, 1, none⟩ = false := by simp [World.frozen?, e1]
         have f2 : w2.frozen? ⟨w.heap.size, 2, none⟩ = false := by simp [World.frozen?, e1]
         have f3 : w2.frozen? ⟨w.heap.size, 3, none⟩ = false := by simp [World.frozen?, e1]
         have d0 : w2.cell? ⟨w1.heap.size, 0, none⟩ = some (strV nm) := cell_blk e2 rfl
         have d1 : w2.cell? ⟨w1.heap.size, 1, none⟩ = some (.int .i64 hs) := cell_blk e2 rfl
         have hq2 : w.heap.size < w2.heap.size := (Array.getElem?_eq_some_iff.1 e1).1
         have hq3 : w1.heap.size < w2.heap.size := (Array.getElem?_eq_some_iff.1 e2).1
         have HB2 : Bx (Below w.heap.size w w2) := ⟨HB1.out.trans (((below1 w1 _).trans (hb2.mono (by simp))).mono (by omega))⟩
         have E1 : Bx _ := ⟨e1⟩
         clear hb2 e1 e2))
      refine bodyPost_ret (v := .tuple #[.agg #[.int .i64 0, .int .i64 0, .int .i64 0, .slice none 0 0], .bool false]) (by simp [results, Tryd.results76, go_sem, c0, c1, c2, c3, hq2]) rfl ⟨rfl, ?_⟩
      exact (((HB2.out.setCell (p := ⟨w.heap.size, 0, none⟩) (Nat.le_refl _) _).setCell (p := ⟨w.heap.size, 1, none⟩) (Nat.le_refl _) _).setCell (p := ⟨w.heap.size, 2, none⟩) (Nat.le_refl _) _).setCell (p := ⟨w.heap.size, 3, none⟩) (Nat.le_refl _) _

    · have n1 : nm.isEmpty = false := by
        cases nm with
        | nil => exact absurd rfl hnm
        | cons a b => rfl
      have n2 : ¬ nm = [] := hnm
      by_cases hlt : n < f
      · have h1 : (n : Int) < (f : Int) := by omega
        clear hno A3
        go_enter Tryd.func76, Tryd.ntmps76
        go_wp2_with (first
        | (go_at_call 31; refine HS.mono ?_; clear HS; rintro e w1 ⟨rfl, hb1⟩
           have I1 : w1.heap[w.heap.size]? = some (.cells #[.int .i64 0, .int .i64 0, .int .i64 0, .slice none 0 0] 28 (0, 0)) := below_heap hb1 (heap_new w _)
           have HB1 : Bx (Below w.heap.size w w1) := ⟨HB.out.trans (hb1.mono (by simp))⟩
           have hq : w.heap.size < w1.heap.size := (Array.getElem?_eq_some_iff.1 I1).1
           have I1B : Bx _ := ⟨I1⟩
           clear hb1 I1)
        | (go_at_call 87; refine (HF.out _).mono ?_; clear HF; rintro e w2 ⟨rfl, hb2⟩
           have e1 : w2.heap[w.heap.size]? = some (.cells #[.int .i64 0, .int .i64 0, .int .i64 0, .slice none 0 0] 28 (0, 0)) := below_heap hb2 (below_heap (below1 w1 _) I1B.out)
           have e2 : w2.heap[w1.heap.size]? = some (.cells #[strV nm, .int .i64 hs, .int .i64 tk, .int .i64 ly] 60 (0, 0)) := below_heap hb2 (heap_new w1 _)
           have c0 : w2.cell? ⟨w.heap.size, 0, none⟩ = some (.int .i64 0) := cell_blk e1 rfl
           have c1 : w2.cell? ⟨w.heap.size, 1, none⟩ = some (.int .i64 0) := cell_blk e1 rfl
           have c2 : w2.cell? ⟨w.heap.size, 2, none⟩ = some (.int .i64 0) := cell_blk e1 rfl
           have c3 : w2.cell? ⟨w.heap.size, 3, none⟩ = some (.slice none 0 0) := cell_blk e1 rfl
           have f0 : w2.frozen? ⟨w.heap.size, 0, none⟩ = false := by simp [World.frozen?, e1]
           have f1 : w2.frozen? ⟨w.heap.size, 1, none⟩ = false := by simp [World.frozen?, e1]
           have f2 : w2.frozen? ⟨w.heap.size, 2, none⟩ = false := by simp [World.frozen?, e1]
           have f3 : w2.frozen? ⟨w.heap.size, 3, none⟩ = false := by simp [World.frozen?, e1]
           have d0 : w2.cell? ⟨w1.heap.size, 0, none⟩ = some (strV nm) := cell_blk e2 rfl
           have d1 : w2.cell? ⟨w1.heap.size, 1, none⟩ = some (.int .i64 hs) := cell_blk e2 rfl
           have hq2 : w.heap.size < w2.heap.size := (Array.getElem?_eq_some_iff.1 e1).1
           have hq3 : w1.heap.size < w2.heap.size := (Array.getElem?_eq_some_iff.1 e2).1
           have HB2 : Bx (Below w.heap.size w w2) := ⟨HB1.out.trans (((below1 w1 _).trans (hb2.mono (by simp))).mono (by omega))⟩
           have E1 : Bx _ := ⟨e1⟩
           clear hb2 e1 e2))
        refine bodyPost_ret (v := .tuple #[.agg #[.int .i64 0, .int .i64 0, .int .i64 0, .slice none 0 0], .bool false]) (by simp [results, Tryd.results76, go_sem, c0, c1, c2, c3, hq2]) rfl ⟨rfl, ?_⟩
        exact (((HB2.out.setCell (p := ⟨w.heap.size, 0, none⟩) (Nat.le_refl _) _).setCell (p := ⟨w.heap.size, 1, none⟩) (Nat.le_refl _) _).setCell (p := ⟨w.heap.size, 2, none⟩) (Nat.le_refl _) _).setCell (p := ⟨w.heap.size, 3, none⟩) (Nat.le_refl _) _

      · have h1 : ¬ (n : Int) < (f : Int) := by omega
        rcases hno with h | h | ⟨h2, h3⟩
        · exact absurd h hnm
        · exact absurd h hlt
        · have h4 : (f : Int) < (n : Int) := by omega
          have h5 : bits BinOp.and IntKind.i64 hs 4 = 0 := A3.2 h3
          clear A3
          go_enter Tryd.func76, Tryd.ntmps76
          go_wp2_with (first
          | (go_at_call 31; refine HS.mono ?_; clear HS; rintro e w1 ⟨rfl, hb1⟩
             have I1 : w1.heap[w.heap.size]? = some (.cells #[.int .i64 0, .int .i64 0, .int .i64 0, .slice none 0 0] 28 (0, 0)) := below_heap hb1 (heap_new w _)
             have HB1 : Bx (Below w.heap.size w w1) := ⟨HB.out.trans (hb1.mono (by simp))⟩
             have hq : w.heap.size < w1.heap.size := (Array.getElem?_eq_some_iff.1 I1).1
             have I1B : Bx _ := ⟨I1⟩
             clear hb1 I1)
          | (go_at_call 87; refine (HF.out _).mono ?_; clear HF; rintro e w2 ⟨rfl, hb2⟩
             have e1 : w2.heap[w.heap.size]? = some (.cells #[.int .i64 0, .int .i64 0, .int .i64 0, .slice none 0 0] 28 (0, 0)) := below_heap hb2 (below_heap (below1 w1 _) I1B.out)
             have e2 : w2.heap[w1.heap.size]? = some (.cells #[strV nm, .int .i64 hs, .int .i64 tk, .int .i64 ly] 60 (0, 0)) := below_heap hb2 (heap_new w1 _)
             have c0 : w2.cell? ⟨w.heap.size, 0, none⟩ = some (.int .i64 0) := cell_blk e1 rfl
             have c1 : w2.cell? ⟨w.heap.size, 1, none⟩ = some (.int .i64 0) := cell_blk e1 rfl
             have c2 : w2.cell? ⟨w.heap.size, 2, none⟩ = some (.int .i64 0) := cell_blk e1 rfl
             have c3 : w2.cell? ⟨w.heap.size, 3, none⟩ = some (.slice none 0 0) := cell_blk e1 rfl
             have f0 : w2.frozen? ⟨w.heap.size, 0, none⟩ = false := by simp [World.frozen?, e1]
             have f1 : w2.frozen? ⟨w.heap.size, 1, none⟩ = false := by simp [World.frozen?, e1]
             have f2 : w2.frozen? ⟨w.heap.size, 2, none⟩ = false := by simp [World.frozen?, e1]
             have f3 : w2.frozen? ⟨w.heap.size, 3, none⟩ = false := by simp [World.frozen?, e1]
             have d0 : w2.cell? ⟨w1.heap.size, 0, none⟩ = some (strV nm) := cell_blk e2 rfl
             have d1 : w2.cell? ⟨w1.heap.size, 1, none⟩ = some (.int .i64 hs) := cell_blk e2 rfl
             have hq2 : w.heap.size < w2.heap.size := (Array.getElem?_eq_some_iff.1 e1).1
             have hq3 : w1.heap.size < w2.heap.size := (Array.getElem?_eq_some_iff.1 e2).1
             have HB2 : Bx (Below w.heap.size w w2) := ⟨HB1.out.trans (((below1 w1 _).trans (hb2.mono (by simp))).mono (by omega))⟩
             have E1 : Bx _ := ⟨e1⟩
             clear hb2 e1 e2))
          refine bodyPost_ret (v := .tuple #[.agg #[.int .i64 0, .int .i64 0, .int .i64 0, .slice none 0 0], .bool false]) (by simp [results, Tryd.results76, go_sem, c0, c1, c2, c3, hq2]) rfl ⟨rfl, ?_⟩
          exact (((HB2.out.setCell (p := ⟨w.heap.size, 0, none⟩) (Nat.le_refl _) _).setCell (p := ⟨w.heap.size, 1, none⟩) (Nat.le_refl _) _).setCell (p := ⟨w.heap.size, 2, none⟩) (Nat.le_refl _) _).setCell (p := ⟨w.heap.size, 3, none⟩) (Nat.le_refl _) _

  · rw [if_neg hno]
    rw [hn] at hno
    rw [not_or, not_or] at hno
    obtain ⟨hnm, hlt, hrest⟩ := hno
    have n1 : nm.isEmpty = false := by
      cases nm with
      | nil => exact absurd rfl hnm
      | cons a b => rfl
    have n2 : ¬ nm = [] := hnm
    have h1 : ¬ (n : Int) < (f : Int) := by omega
    have h6 : (f = n ∧ ¬ (f : Int) < (n : Int)) ∨ ((f : Int) < (n : Int) ∧ ¬ bits BinOp.and IntKind.i64 hs 4 = 0) := by
      rcases Nat.lt_or_ge f n with h | h
      · refine .inr ⟨by omega, fun e => hrest ⟨h, A3.1 e⟩⟩
      · exact .inl ⟨by omega, by omega⟩
    have HBH : Bx (∀ X, Below w.heap.size w X → Calls Tryd.prog 75 #[.slice a n cap, .int .i64 f] X fun e w' => ∃ a' cap', e = .returned (.slice a' (n - f) cap') ∧ Bx (IN w.heap.size w' a' cap' (ks.drop f) ∧ Below X.heap.size X w')) := ⟨fun X hX => by
      have := behind_own X a cap ks ((HI.out.below hX).up hX.size) f (by omega) HLE.out
      rw [List.length_drop, hn] at this
      refine this.mono ?_
      rintro e w' ⟨a', cap', h1, h2⟩
      exact ⟨a', cap', h1, ⟨h2.out.1.mono hX.size, h2.out.2⟩⟩⟩
    have hld : (ks.drop f).length = n - f := by rw [List.length_drop, hn]
    simp only [hld]
    clear A3 hrest hnm
    rcases (show f = 0 ∨ f = 1 ∨ f = 2 by omega) with hf | hf | hf
    · rw [if_neg (by omega), if_neg (by omega)]
      have g0 : ¬ (0 : Int) < (f : Int) := by omega
      have g1 : ¬ (1 : Int) < (f : Int) := by omega
      rw [hn]
      clear hn hld HI HLE hf hf2
      rcases h6 with ⟨h7, h8⟩ | ⟨h7, h8⟩
      · clear hlt h7
        go_enter Tryd.func76, Tryd.ntmps76
        go_wp2_with (first
        | (go_at_call 31; refine HS.mono ?_; clear HS; rintro e w1 ⟨rfl, hb1⟩
           have I1 : w1.heap[w.heap.size]? = some (.cells #[.int .i64 0, .int .i64 0, .int .i64 0, .slice none 0 0] 28 (0, 0)) := below_heap hb1 (heap_new w _)
           have HB1 : Bx (Below w.heap.size w w1) := ⟨HB.out.trans (hb1.mono (by simp))⟩
           have hq : w.heap.size < w1.heap.size := (Array.getElem?_eq_some_iff.1 I1).1
           have I1B : Bx _ := ⟨I1⟩
           clear hb1 I1)
        | (go_at_call 87; refine (HF.out _).mono ?_; clear HF; rintro e w2 ⟨rfl, hb2⟩
           have e1 : w2.heap[w.heap.size]? = some (.cells #[.int .i64 0, .int .i64 0, .int .i64 0, .slice none 0 0] 28 (0, 0)) := below_heap hb2 (below_heap (below1 w1 _) I1B.out)
           have e2 : w2.heap[w1.heap.size]? = some (.cells #[strV nm, .int .i64 hs, .int .i64 tk, .int .i64 ly] 60 (0, 0)) := below_heap hb2 (heap_new w1 _)
           have c0 : w2.cell? ⟨w.heap.size, 0, none⟩ = some (.int .i64 0) := cell_blk e1 rfl
           have c1 : w2.cell? ⟨w.heap.size, 1, none⟩ = some (.int .i64 0) := cell_blk e1 rfl
           have c2 : w2.cell? ⟨w.heap.size, 2, none⟩ = some (.int .i64 0) := cell_blk e1 rfl
           have c3 : w2.cell? ⟨w.heap.size, 3, none⟩ = some (.slice none 0 0) := cell_blk e1 rfl
           have f0 : w2.frozen? ⟨w.heap.size, 0, none⟩ = false := by simp [World.frozen?, e1]
           have f1 : w2.frozen? ⟨w.heap.size, 1, none⟩ = false := by simp [World.frozen?, e1]
           have f2 : w2.frozen? ⟨w.heap.size, 2, none⟩ = false := by simp [World.frozen?, e1]
           have f3 : w2.frozen? ⟨w.heap.size, 3, none⟩ = false := by simp [World.frozen?, e1]
           have d0 : w2.cell? ⟨w1.heap.size, 0, none⟩ = some (strV nm) := cell_blk e2 rfl
           have d1 : w2.cell? ⟨w1.heap.size, 1, none⟩ = some (.int .i64 hs) := cell_blk e2 rfl
           have hq2 : w.heap.size < w2.heap.size := (Array.getElem?_eq_some_iff.1 e1).1
           have hq3 : w1.heap.size < w2.heap.size := (Array.getElem?_eq_some_iff.1 e2).1
           have HB2 : Bx (Below w.heap.size w w2) := ⟨HB1.out.trans (((below1 w1 _).trans (hb2.mono (by simp))).mono (by omega))⟩
           have E1 : Bx _ := ⟨e1⟩
           clear hb2 e1 e2)
        | (go_at_call 75; refine (HBH.out _ HB2.out).mono ?_; clear HBH; rintro e w3 ⟨a', cap', rfl, HX⟩
           have e3 := below_heap HX.out.2 E1.out
           have B3 : Bx (Below w.heap.size w w3) := ⟨HB2.out.trans (HX.out.2.mono (by omega))⟩
           have hq4 : w.heap.size < w3.heap.size := (Array.getElem?_eq_some_iff.1 e3).1
           have HFI : Bx (∀ v0 v1 v2 v3 o, _) := ⟨fun v0 v1 v2 v3 o => fin_okO e3 B3.out (Nat.le_refl _) HX.out.1 v0 v1 v2 v3 o⟩
           have x0 : w3.cell? ⟨w.heap.size, 0, none⟩ = some (.int .i64 0) := cell_blk e3 rfl
           have x1 : w3.cell? ⟨w.heap.size, 1, none⟩ = some (.int .i64 0) := cell_blk e3 rfl
           have x2 : w3.cell? ⟨w.heap.size, 2, none⟩ = some (.int .i64 0) := cell_blk e3 rfl
           have x3 : w3.cell? ⟨w.heap.size, 3, none⟩ = some (.slice none 0 0) := cell_blk e3 rfl
           have z0 : w3.frozen? ⟨w.heap.size, 0, none⟩ = false := by simp [World.frozen?, e3]
           have z1 : w3.frozen? ⟨w.heap.size, 1, none⟩ = false := by simp [World.frozen?, e3]
           have z2 : w3.frozen? ⟨w.heap.size, 2, none⟩ = false := by simp [World.frozen?, e3]
           have z3 : w3.frozen? ⟨w.heap.size, 3, none⟩ = false := by simp [World.frozen?, e3]
           skip
           clear c0 c1 c2 c3 f0 f1 f2 f3 d0 d1 e3))
        refine bodyPost_ret (v := .tuple #[.agg #[.int .i64 op, .int .i64 0, .int .i64 0, .slice a' (n - f) cap'], .bool true]) (by simp [results, Tryd.results76, go_sem, x0, x1, x2, x3, hq4]) rfl ⟨a', cap', rfl, ?_⟩
        exact ⟨HFI.out _ _ _ _ _⟩

      · have h9 : (bits BinOp.and IntKind.i64 hs 4 == 0) = false := by simpa using h8
        clear hlt
        go_enter Tryd.func76, Tryd.ntmps76
        go_wp2_with (first
        | (go_at_call 31; refine HS.mono ?_; clear HS; rintro e w1 ⟨rfl, hb1⟩
           have I1 : w1.heap[w.heap.size]? = some (.cells #[.int .i64 0, .int .i64 0, .int .i64 0, .slice none 0 0] 28 (0, 0)) := below_heap hb1 (heap_new w _)
           have HB1 : Bx (Below w.heap.size w w1) := ⟨HB.out.trans (hb1.mono (by simp))⟩
           have hq : w.heap.size < w1.heap.size := (Array.getElem?_eq_some_iff.1 I1).1
           have I1B : Bx _ := ⟨I1⟩
           clear hb1 I1)
        | (go_at_call 87; refine (HF.out _).mono ?_; clear HF; rintro e w2 ⟨rfl, hb2⟩
           have e1 : w2.heap[w.heap.size]? = some (.cells #[.int .i64 0, .int .i64 0, .int .i64 0, .slice none 0 0] 28 (0, 0)) := below_heap hb2 (below_heap (below1 w1 _) I1B.out)
           have e2 : w2.heap[w1.heap.size]? = some (.cells #[strV nm, .int .i64 hs, .int .i64 tk, .int .i64 ly] 60 (0, 0)) := below_heap hb2 (heap_new w1 _)
           have c0 : w2.cell? ⟨w.heap.size, 0, none⟩ = some (.int .i64 0) := cell_blk e1 rfl
           have c1 : w2.cell? ⟨w.heap.size, 1, none⟩ = some (.int .i64 0) := cell_blk e1 rfl
           have c2 : w2.cell? ⟨w.heap.size, 2, none⟩ = some (.int .i64 0) := cell_blk e1 rfl
           have c3 : w2.cell? ⟨w.heap.size, 3, none⟩ = some (.slice none 0 0) := cell_blk e1 rfl
           have f0 : w2.frozen? ⟨w.heap.size, 0, none⟩ = false := by simp [World.frozen?, e1]
           have f1 : w2.frozen? ⟨w.heap.size, 1, none⟩ = false := by simp [World.frozen?, e1]
           have f2 : w2.frozen? ⟨w.heap.size, 2, none⟩ = false := by simp [World.frozen?, e1]
           have f3 : w2.frozen? ⟨w.heap.size, 3, none⟩ = false := by simp [World.frozen?, e1]
           have d0 : w2.cell? ⟨w1.heap.size, 0, none⟩ = some (strV nm) := cell_blk e2 rfl
           have d1 : w2.cell? ⟨w1.heap.size, 1, none⟩ = some (.int .i64 hs) := cell_blk e2 rfl
           have hq2 : w.heap.size < w2.heap.size := (Array.getElem?_eq_some_iff.1 e1).1
           have hq3 : w1.heap.size < w2.heap.size := (Array.getElem?_eq_some_iff.1 e2).1
           have HB2 : Bx (Below w.heap.size w w2) := ⟨HB1.out.trans (((below1 w1 _).trans (hb2.mono (by simp))).mono (by omega))⟩
           have E1 : Bx _ := ⟨e1⟩
           clear hb2 e1 e2)
        | (go_at_call 75; refine (HBH.out _ HB2.out).mono ?_; clear HBH; rintro e w3 ⟨a', cap', rfl, HX⟩
           have e3 := below_heap HX.out.2 E1.out
           have B3 : Bx (Below w.heap.size w w3) := ⟨HB2.out.trans (HX.out.2.mono (by omega))⟩
           have hq4 : w.heap.size < w3.heap.size := (Array.getElem?_eq_some_iff.1 e3).1
           have HFI : Bx (∀ v0 v1 v2 v3 o, _) := ⟨fun v0 v1 v2 v3 o => fin_okO e3 B3.out (Nat.le_refl _) HX.out.1 v0 v1 v2 v3 o⟩
           have x0 : w3.cell? ⟨w.heap.size, 0, none⟩ = some (.int .i64 0) := cell_blk e3 rfl
           have x1 : w3.cell? ⟨w.heap.size, 1, none⟩ = some (.int .i64 0) := cell_blk e3 rfl
           have x2 : w3.cell? ⟨w.heap.size, 2, none⟩ = some (.int .i64 0) := cell_blk e3 rfl
           have x3 : w3.cell? ⟨w.heap.size, 3, none⟩ = some (.slice none 0 0) := cell_blk e3 rfl
           have z0 : w3.frozen? ⟨w.heap.size, 0, none⟩ = false := by simp [World.frozen?, e3]
           have z1 : w3.frozen? ⟨w.heap.size, 1, none⟩ = false := by simp [World.frozen?, e3]
           have z2 : w3.frozen? ⟨w.heap.size, 2, none⟩ = false := by simp [World.frozen?, e3]
           have z3 : w3.frozen? ⟨w.heap.size, 3, none⟩ = false := by simp [World.frozen?, e3]
           skip
           clear c0 c1 c2 c3 f0 f1 f2 f3 d0 d1 e3))
        refine bodyPost_ret (v := .tuple #[.agg #[.int .i64 op, .int .i64 0, .int .i64 0, .slice a' (n - f) cap'], .bool true]) (by simp [results, Tryd.results76, go_sem, x0, x1, x2, x3, hq4]) rfl ⟨a', cap', rfl, ?_⟩
        exact ⟨HFI.out _ _ _ _ _⟩

    · rw [if_pos (by omega), if_neg (by omega)]
      have g0 : (0 : Int) < (f : Int) := by omega
      have g1 : ¬ (1 : Int) < (f : Int) := by omega
      obtain ⟨b, o, rfl, hbl, hc⟩ := HI.out.at_ (by omega)
      have hcap := HI.out.cap
      have hc0 := hc 0 (by omega)
      rw [Nat.add_zero] at hc0
      have hg0 : ks.getD 0 0 = ks[0]'(by omega) := by rw [List.getD_eq_getElem?_getD, List.getElem?_eq_getElem (by omega)]; rfl
      rw [hg0]
      generalize ks[0]'(by omega) = y0 at *
      rw [hn] at hcap ⊢
      have hn1 : 1 ≤ n := by omega
      clear hc hg0 hn hld HI HLE hf hf2
      rcases h6 with ⟨h7, h8⟩ | ⟨h7, h8⟩
      · clear hlt h7
        go_enter Tryd.func76, Tryd.ntmps76
        go_wp2_with (first
        | (go_at_call 31; refine HS.mono ?_; clear HS; rintro e w1 ⟨rfl, hb1⟩
           have I1 : w1.heap[w.heap.size]? = some (.cells #[.int .i64 0, .int .i64 0, .int .i64 0, .slice none 0 0] 28 (0, 0)) := below_heap hb1 (heap_new w _)
           have HB1 : Bx (Below w.heap.size w w1) := ⟨HB.out.trans (hb1.mono (by simp))⟩
           have hq : w.heap.size < w1.heap.size := (Array.getElem?_eq_some_iff.1 I1).1
           have I1B : Bx _ := ⟨I1⟩
           clear hb1 I1)
        | (go_at_call 87; refine (HF.out _).mono ?_; clear HF; rintro e w2 ⟨rfl, hb2⟩
           have e1 : w2.heap[w.heap.size]? = some (.cells #[.int .i64 0, .int .i64 0, .int .i64 0, .slice none 0 0] 28 (0, 0)) := below_heap hb2 (below_heap (below1 w1 _) I1B.out)
           have e2 : w2.heap[w1.heap.size]? = some (.cells #[strV nm, .int .i64 hs, .int .i64 tk, .int .i64 ly] 60 (0, 0)) := below_heap hb2 (heap_new w1 _)
           have c0 : w2.cell? ⟨w.heap.size, 0, none⟩ = some (.int .i64 0) := cell_blk e1 rfl
           have c1 : w2.cell? ⟨w.heap.size, 1, none⟩ = some (.int .i64 0) := cell_blk e1 rfl
           have c2 : w2.cell? ⟨w.heap.size, 2, none⟩ = some (.int .i64 0) := cell_blk e1 rfl
           have c3 : w2.cell? ⟨w.heap.size, 3, none⟩ = some (.slice none 0 0) := cell_blk e1 rfl
           have f0 : w2.frozen? ⟨w.heap.size, 0, none⟩ = false := by simp [World.frozen?, e1]
           have f1 : w2.frozen? ⟨w.heap.size, 1, none⟩ = false := by simp [World.frozen?, e1]
           have f2 : w2.frozen? ⟨w.heap.size, 2, none⟩ = false := by simp [World.frozen?, e1]
           have f3 : w2.frozen? ⟨w.heap.size, 3, none⟩ = false := by simp [World.frozen?, e1]
           have d0 : w2.cell? ⟨w1.heap.size, 0, none⟩ = some (strV nm) := cell_blk e2 rfl
           have d1 : w2.cell? ⟨w1.heap.size, 1, none⟩ = some (.int .i64 hs) := cell_blk e2 rfl
           have hq2 : w.heap.size < w2.heap.size := (Array.getElem?_eq_some_iff.1 e1).1
           have hq3 : w1.heap.size < w2.heap.size := (Array.getElem?_eq_some_iff.1 e2).1
           have HB2 : Bx (Below w.heap.size w w2) := ⟨HB1.out.trans (((below1 w1 _).trans (hb2.mono (by simp))).mono (by omega))⟩
           have E1 : Bx _ := ⟨e1⟩
           clear hb2 e1 e2)
        | (go_at_call 75; refine (HBH.out _ HB2.out).mono ?_; clear HBH; rintro e w3 ⟨a', cap', rfl, HX⟩
           have e3 := below_heap HX.out.2 E1.out
           have B3 : Bx (Below w.heap.size w w3) := ⟨HB2.out.trans (HX.out.2.mono (by omega))⟩
           have hq4 : w.heap.size < w3.heap.size := (Array.getElem?_eq_some_iff.1 e3).1
           have HFI : Bx (∀ v0 v1 v2 v3 o, _) := ⟨fun v0 v1 v2 v3 o => fin_okO e3 B3.out (Nat.le_refl _) HX.out.1 v0 v1 v2 v3 o⟩
           have x0 : w3.cell? ⟨w.heap.size, 0, none⟩ = some (.int .i64 0) := cell_blk e3 rfl
           have x1 : w3.cell? ⟨w.heap.size, 1, none⟩ = some (.int .i64 0) := cell_blk e3 rfl
           have x2 : w3.cell? ⟨w.heap.size, 2, none⟩ = some (.int .i64 0) := cell_blk e3 rfl
           have x3 : w3.cell? ⟨w.heap.size, 3, none⟩ = some (.slice none 0 0) := cell_blk e3 rfl
           have z0 : w3.frozen? ⟨w.heap.size, 0, none⟩ = false := by simp [World.frozen?, e3]
           have z1 : w3.frozen? ⟨w.heap.size, 1, none⟩ = false := by simp [World.frozen?, e3]
           have z2 : w3.frozen? ⟨w.heap.size, 2, none⟩ = false := by simp [World.frozen?, e3]
           have z3 : w3.frozen? ⟨w.heap.size, 3, none⟩ = false := by simp [World.frozen?, e3]
           have k0 : w3.cell? ⟨b, o, none⟩ = some (.int .i64 y0) := (B3.out.cell (p := ⟨b, o, none⟩) hbl).trans hc0
           have hbl3 : b < w3.heap.size := by omega
           clear c0 c1 c2 c3 f0 f1 f2 f3 d0 d1 e3))
        refine bodyPost_ret (v := .tuple #[.agg #[.int .i64 op, .int .i64 y0, .int .i64 0, .slice a' (n - f) cap'], .bool true]) (by simp [results, Tryd.results76, go_sem, x0, x1, x2, x3, hq4]) rfl ⟨a', cap', rfl, ?_⟩
        exact ⟨HFI.out _ _ _ _ _⟩

      · have h9 : (bits BinOp.and IntKind.i64 hs 4 == 0) = false := by simpa using h8
        clear hlt
        go_enter Tryd.func76, Tryd.ntmps76
        go_wp2_with (first
        | (go_at_call 31; refine HS.mono ?_; clear HS; rintro e w1 ⟨rfl, hb1⟩
           have I1 : w1.heap[w.heap.size]? = some (.cells #[.int .i64 0, .int .i64 0, .int .i64 0, .slice none 0 0] 28 (0, 0)) := below_heap hb1 (heap_new w _)
           have HB1 : Bx (Below w.heap.size w w1) := ⟨HB.out.trans (hb1.mono (by simp))⟩
           have hq : w.heap.size < w1.heap.size := (Array.getElem?_eq_some_iff.1 I1).1
           have I1B : Bx _ := ⟨I1⟩
           clear hb1 I1)
        | (go_at_call 87; refine (HF.out _).mono ?_; clear HF; rintro e w2 ⟨rfl, hb2⟩
           have e1 : w2.heap[w.heap.size]? = some (.cells #[.int .i64 0, .int .i64 0, .int .i64 0, .slice none 0 0] 28 (0, 0)) := below_heap hb2 (below_heap (below1 w1 _) I1B.out)
           have e2 : w2.heap[w1.heap.size]? = some (.cells #[strV nm, .int .i64 hs, .int .i64 tk, .int .i64 ly] 60 (0, 0)) := below_heap hb2 (heap_new w1 _)
           have c0 : w2.cell? ⟨w.heap.size, 0, none⟩ = some (.int .i64 0) := cell_blk e1 rfl
           have c1 : w2.cell? ⟨w.heap.size, 1, none⟩ = some (.int .i64 0) := cell_blk e1 rfl
           have c2 : w2.cell? ⟨w.heap.size, 2, none⟩ = some (.int .i64 0) := cell_blk e1 rfl
           have c3 : w2.cell? ⟨w.heap.size, 3, none⟩ = some (.slice none 0 0) := cell_blk e1 rfl
           have f0 : w2.frozen? ⟨w.heap.size, 0, none⟩ = false := by simp [World.frozen?, e1]
           have f1 : w2.frozen? ⟨w.heap.size, 1, none⟩ = false := by simp [World.frozen?, e1]
           have f2 : w2.frozen? ⟨w.heap.size, 2, none⟩ = false := by simp [World.frozen?, e1]
           have f3 : w2.frozen? ⟨w.heap.size, 3, none⟩ = false := by simp [World.frozen?, e1]
           have d0 : w2.cell? ⟨w1.heap.size, 0, none⟩ = some (strV nm) := cell_blk e2 rfl
           have d1 : w2.cell? ⟨w1.heap.size, 1, none⟩ = some (.int .i64 hs) := cell_blk e2 rfl
           have hq2 : w.heap.size < w2.heap.size := (Array.getElem?_eq_some_iff.1 e1).1
           have hq3 : w1.heap.size < w2.heap.size := (Array.getElem?_eq_some_iff.1 e2).1
           have HB2 : Bx (Below w.heap.size w w2) := ⟨HB1.out.trans (((below1 w1 _).trans (hb2.mono (by simp))).mono (by omega))⟩
           have E1 : Bx _ := ⟨e1⟩
           clear hb2 e1 e2)
        | (go_at_call 75; refine (HBH.out _ HB2.out).mono ?_; clear HBH; rintro e w3 ⟨a', cap', rfl, HX⟩
           have e3 := below_heap HX.out.2 E1.out
           have B3 : Bx (Below w.heap.size w w3) := ⟨HB2.out.trans (HX.out.2.mono (by omega))⟩
           have hq4 : w.heap.size < w3.heap.size := (Array.getElem?_eq_some_iff.1 e3).1
           have HFI : Bx (∀ v0 v1 v2 v3 o, _) := ⟨fun v0 v1 v2 v3 o => fin_okO e3 B3.out (Nat.le_refl _) HX.out.1 v0 v1 v2 v3 o⟩
           have x0 : w3.cell? ⟨w.heap.size, 0, none⟩ = some (.int .i64 0) := cell_blk e3 rfl
           have x1 : w3.cell? ⟨w.heap.size, 1, none⟩ = some (.int .i64 0) := cell_blk e3 rfl
           have x2 : w3.cell? ⟨w.heap.size, 2, none⟩ = some (.int .i64 0) := cell_blk e3 rfl
           have x3 : w3.cell? ⟨w.heap.size, 3, none⟩ = some (.slice none 0 0) := cell_blk e3 rfl
           have z0 : w3.frozen? ⟨w.heap.size, 0, none⟩ = false := by simp [World.frozen?, e3]
           have z1 : w3.frozen? ⟨w.heap.size, 1, none⟩ = false := by simp [World.frozen?, e3]
           have z2 : w3.frozen? ⟨w.heap.size, 2, none⟩ = false := by simp [World.frozen?, e3]
           have z3 : w3.frozen? ⟨w.heap.size, 3, none⟩ = false := by simp [World.frozen?, e3]
           have k0 : w3.cell? ⟨b, o, none⟩ = some (.int .i64 y0) := (B3.out.cell (p := ⟨b, o, none⟩) hbl).trans hc0
           have hbl3 : b < w3.heap.size := by omega
           clear c0 c1 c2 c3 f0 f1 f2 f3 d0 d1 e3))
        refine bodyPost_ret (v := .tuple #[.agg #[.int .i64 op, .int .i64 y0, .int .i64 0, .slice a' (n - f) cap'], .bool true]) (by simp [results, Tryd.results76, go_sem, x0, x1, x2, x3, hq4]) rfl ⟨a', cap', rfl, ?_⟩
        exact ⟨HFI.out _ _ _ _ _⟩

    · rw [if_pos (by omega), if_pos (by omega)]
      have g0 : (0 : Int) < (f : Int) := by omega
      have g1 : (1 : Int) < (f : Int) := by omega
      obtain ⟨b, o, rfl, hbl, hc⟩ := HI.out.at_ (by omega)
      have hcap := HI.out.cap
      have hc0 := hc 0 (by omega)
      have hc1 := hc 1 (by omega)
      rw [Nat.add_zero] at hc0
      have hg0 : ks.getD 0 0 = ks[0]'(by omega) := by rw [List.getD_eq_getElem?_getD, List.getElem?_eq_getElem (by omega)]; rfl
      have hg1 : ks.getD 1 0 = ks[1]'(by omega) := by rw [List.getD_eq_getElem?_getD, List.getElem?_eq_getElem (by omega)]; rfl
      rw [hg0, hg1]
      generalize ks[0]'(by omega) = y0 at *
      generalize ks[1]'(by omega) = y1 at *
      rw [hn] at hcap ⊢
      have hn2 : 2 ≤ n := by omega
      clear hc hg0 hg1 hn hld HI HLE hf hf2
      rcases h6 with ⟨h7, h8⟩ | ⟨h7, h8⟩
      · clear hlt h7
        go_enter Tryd.func76, Tryd.ntmps76
        go_wp2_with (first
        | (go_at_call 31; refine HS.mono ?_; clear HS; rintro e w1 ⟨rfl, hb1⟩
           have I1 : w1.heap[w.heap.size]? = some (.cells #[.int .i64 0, .int .i64 0, .int .i64 0, .slice none 0 0] 28 (0, 0)) := below_heap hb1 (heap_new w _)
           have HB1 : Bx (Below w.heap.size w w1) := ⟨HB.out.trans (hb1.mono (by simp))⟩
           have hq : w.heap.size < w1.heap.size := (Array.getElem?_eq_some_iff.1 I1).1
           have I1B : Bx _ := ⟨I1⟩
           clear hb1 I1)
        | (go_at_call 87; refine (HF.out _).mono ?_; clear HF; rintro e w2 ⟨rfl, hb2⟩
           have e1 : w2.heap[w.heap.size]? = some (.cells #[.int .i64 0, .int .i64 0, .int .i64 0, .slice none 0 0] 28 (0, 0)) := below_heap hb2 (below_heap (below1 w1 _) I1B.out)
           have e2 : w2.heap[w1.heap.size]? = some (.cells #[strV nm, .int .i64 hs, .int .i64 tk, .int .i64 ly] 60 (0, 0)) := below_heap hb2 (heap_new w1 _)
           have c0 : w2.cell? ⟨w.heap.size, 0, none⟩ = some (.int .i64 0) := cell_blk e1 rfl
           have c1 : w2.cell? ⟨w.heap.size, 1, none⟩ = some (.int .i64 0) := cell_blk e1 rfl
           have c2 : w2.cell? ⟨w.heap.size, 2, none⟩ = some (.int .i64 0) := cell_blk e1 rfl
           have c3 : w2.cell? ⟨w.heap.size, 3, none⟩ = some (.slice none 0 0) := cell_blk e1 rfl
           have f0 : w2.frozen? ⟨w.heap.size, 0, none⟩ = false := by simp [World.frozen?, e1]
           have f1 : w2.frozen? ⟨w.heap.size, 1, none⟩ = false := by simp [World.frozen?, e1]
           have f2 : w2.frozen? ⟨w.heap.size, 2, none⟩ = false := by simp [World.frozen?, e1]
           have f3 : w2.frozen? ⟨w.heap.size, 3, none⟩ = false := by simp [World.frozen?, e1]
           have d0 : w2.cell? ⟨w1.heap.size, 0, none⟩ = some (strV nm) := cell_blk e2 rfl
           have d1 : w2.cell? ⟨w1.heap.size, 1, none⟩ = some (.int .i64 hs) := cell_blk e2 rfl
           have hq2 : w.heap.size < w2.heap.size := (Array.getElem?_eq_some_iff.1 e1).1
           have hq3 : w1.heap.size < w2.heap.size := (Array.getElem?_eq_some_iff.1 e2).1
           have HB2 : Bx (Below w.heap.size w w2) := ⟨HB1.out.trans (((below1 w1 _).trans (hb2.mono (by simp))).mono (by omega))⟩
           have E1 : Bx _ := ⟨e1⟩
           clear hb2 e1 e2)
        | (go_at_call 75; refine (HBH.out _ HB2.out).mono ?_; clear HBH; rintro e w3 ⟨a', cap', rfl, HX⟩
           have e3 := below_heap HX.out.2 E1.out
           have B3 : Bx (Below w.heap.size w w3) := ⟨HB2.out.trans (HX.out.2.mono (by omega))⟩
           have hq4 : w.heap.size < w3.heap.size := (Array.getElem?_eq_some_iff.1 e3).1
           have HFI : Bx (∀ v0 v1 v2 v3 o, _) := ⟨fun v0 v1 v2 v3 o => fin_okO e3 B3.out (Nat.le_refl _) HX.out.1 v0 v1 v2 v3 o⟩
           have x0 : w3.cell? ⟨w.heap.size, 0, none⟩ = some (.int .i64 0) := cell_blk e3 rfl
           have x1 : w3.cell? ⟨w.heap.size, 1, none⟩ = some (.int .i64 0) := cell_blk e3 rfl
           have x2 : w3.cell? ⟨w.heap.size, 2, none⟩ = some (.int .i64 0) := cell_blk e3 rfl
           have x3 : w3.cell? ⟨w.heap.size, 3, none⟩ = some (.slice none 0 0) := cell_blk e3 rfl
           have z0 : w3.frozen? ⟨w.heap.size, 0, none⟩ = false := by simp [World.frozen?, e3]
           have z1 : w3.frozen? ⟨w.heap.size, 1, none⟩ = false := by simp [World.frozen?, e3]
           have z2 : w3.frozen? ⟨w.heap.size, 2, none⟩ = false := by simp [World.frozen?, e3]
           have z3 : w3.frozen? ⟨w.heap.size, 3, none⟩ = false := by simp [World.frozen?, e3]
           have k0 : w3.cell? ⟨b, o, none⟩ = some (.int .i64 y0) := (B3.out.cell (p := ⟨b, o, none⟩) hbl).trans hc0
           have k1 : w3.cell? ⟨b, o + 1, none⟩ = some (.int .i64 y1) := (B3.out.cell (p := ⟨b, o + 1, none⟩) hbl).trans hc1
           have hbl3 : b < w3.heap.size := by omega
           clear c0 c1 c2 c3 f0 f1 f2 f3 d0 d1 e3))
        refine bodyPost_ret (v := .tuple #[.agg #[.int .i64 op, .int .i64 y0, .int .i64 y1, .slice a' (n - f) cap'], .bool true]) (by simp [results, Tryd.results76, go_sem, x0, x1, x2, x3, hq4]) rfl ⟨a', cap', rfl, ?_⟩
        exact ⟨HFI.out _ _ _ _ _⟩

      · have h9 : (bits BinOp.and IntKind.i64 hs 4 == 0) = false := by simpa using h8
        clear hlt
        go_enter Tryd.func76, Tryd.ntmps76
        go_wp2_with (first
        | (go_at_call 31; refine HS.mono ?_; clear HS; rintro e w1 ⟨rfl, hb1⟩
           have I1 : w1.heap[w.heap.size]? = some (.cells #[.int .i64 0, .int .i64 0, .int .i64 0, .slice none 0 0] 28 (0, 0)) := below_heap hb1 (heap_new w _)
           have HB1 : Bx (Below w.heap.size w w1) := ⟨HB.out.trans (hb1.mono (by simp))⟩
           have hq : w.heap.size < w1.heap.size := (Array.getElem?_eq_some_iff.1 I1).1
           have I1B : Bx _ := ⟨I1⟩
           clear hb1 I1)
        | (go_at_call 87; refine (HF.out _).mono ?_; clear HF; rintro e w2 ⟨rfl, hb2⟩
           have e1 : w2.heap[w.heap.size]? = some (.cells #[.int .i64 0, .int .i64 0, .int .i64 0, .slice none 0 0] 28 (0, 0)) := below_heap hb2 (below_heap (below1 w1 _) I1B.out)
           have e2 : w2.heap[w1.heap.size]? = some (.cells #[strV nm, .int .i64 hs, .int .i64 tk, .int .i64 ly] 60 (0, 0)) := below_heap hb2 (heap_new w1 _)
           have c0 : w2.cell? ⟨w.heap.size, 0, none⟩ = some (.int .i64 0) := cell_blk e1 rfl
           have c1 : w2.cell? ⟨w.heap.size, 1, none⟩ = some (.int .i64 0) := cell_blk e1 rfl
           have c2 : w2.cell? ⟨w.heap.size, 2, none⟩ = some (.int .i64 0) := cell_blk e1 rfl
           have c3 : w2.cell? ⟨w.heap.size, 3, none⟩ = some (.slice none 0 0) := cell_blk e1 rfl
           have f0 : w2.frozen? ⟨w.heap.size, 0, none⟩ = false := by simp [World.frozen?, e1]
           have f1 : w2.frozen? ⟨w.heap.size, 1, none⟩ = false := by simp [World.frozen?, e1]
           have f2 : w2.frozen? ⟨w.heap.size, 2, none⟩ = false := by simp [World.frozen?, e1]
           have f3 : w2.frozen? ⟨w.heap.size, 3, none⟩ = false := by simp [World.frozen?, e1]
           have d0 : w2.cell? ⟨w1.heap.size, 0, none⟩ = some (strV nm) := cell_blk e2 rfl
           have d1 : w2.cell? ⟨w1.heap.size, 1, none⟩ = some (.int .i64 hs) := cell_blk e2 rfl
           have hq2 : w.heap.size < w2.heap.size := (Array.getElem?_eq_some_iff.1 e1).1
           have hq3 : w1.heap.size < w2.heap.size := (Array.getElem?_eq_some_iff.1 e2).1
           have HB2 : Bx (Below w.heap.size w w2) := ⟨HB1.out.trans (((below1 w1 _).trans (hb2.mono (by simp))).mono (by omega))⟩
           have E1 : Bx _ := ⟨e1⟩
           clear hb2 e1 e2)
        | (go_at_call 75; refine (HBH.out _ HB2.out).mono ?_; clear HBH; rintro e w3 ⟨a', cap', rfl, HX⟩
           have e3 := below_heap HX.out.2 E1.out
           have B3 : Bx (Below w.heap.size w w3) := ⟨HB2.out.trans (HX.out.2.mono (by omega))⟩
           have hq4 : w.heap.size < w3.heap.size := (Array.getElem?_eq_some_iff.1 e3).1
           have HFI : Bx (∀ v0 v1 v2 v3 o, _) := ⟨fun v0 v1 v2 v3 o => fin_okO e3 B3.out (Nat.le_refl _) HX.out.1 v0 v1 v2 v3 o⟩
           have x0 : w3.cell? ⟨w.heap.size, 0, none⟩ = some (.int .i64 0) := cell_blk e3 rfl
           have x1 : w3.cell? ⟨w.heap.size, 1, none⟩ = some (.int .i64 0) := cell_blk e3 rfl
           have x2 : w3.cell? ⟨w.heap.size, 2, none⟩ = some (.int .i64 0) := cell_blk e3 rfl
           have x3 : w3.cell? ⟨w.heap.size, 3, none⟩ = some (.slice none 0 0) := cell_blk e3 rfl
           have z0 : w3.frozen? ⟨w.heap.size, 0, none⟩ = false := by simp [World.frozen?, e3]
           have z1 : w3.frozen? ⟨w.heap.size, 1, none⟩ = false := by simp [World.frozen?, e3]
           have z2 : w3.frozen? ⟨w.heap.size, 2, none⟩ = false := by simp [World.frozen?, e3]
           have z3 : w3.frozen? ⟨w.heap.size, 3, none⟩ = false := by simp [World.frozen?, e3]
           have k0 : w3.cell? ⟨b, o, none⟩ = some (.int .i64 y0) := (B3.out.cell (p := ⟨b, o, none⟩) hbl).trans hc0
           have k1 : w3.cell? ⟨b, o + 1, none⟩ = some (.int .i64 y1) := (B3.out.cell (p := ⟨b, o + 1, none⟩) hbl).trans hc1
           have hbl3 : b < w3.heap.size := by omega
           clear c0 c1 c2 c3 f0 f1 f2 f3 d0 d1 e3))
        refine bodyPost_ret (v := .tuple #[.agg #[.int .i64 op, .int .i64 y0, .int .i64 y1, .slice a' (n - f) cap'], .bool true]) (by simp [results, Tryd.results76, go_sem, x0, x1, x2, x3, hq4]) rfl ⟨a', cap', rfl, ?_⟩
        exact ⟨HFI.out _ _ _ _ _⟩

end Go.Proofs.YtijdcplffmdijaaDoor
