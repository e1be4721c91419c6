import Derived.Test.YtecpknpcjoiliaaDoorCJC
import Derived.Test.YtecpknpcjoiliaaDoorCJR
namespace Go.Proofs.YtecpknpcjoiliaaDoor
open Go.RowKit
set_option linter.unusedVariables false
set_option linter.unusedSimpArgs false

theorem plOk_step {has k : Nat} {l : List Int} (h : k < l.length) : plOk has k (l.drop k) = (decide (0 ≤ l.getD k 0) && (decide (l.getD k 0 ≤ 0) || hasB has k) && plOk has (k + 1) (l.drop (k + 1))) := by
  rw [List.drop_eq_getElem_cons h, plOk]
  simp [List.getD, List.getElem?_eq_getElem h]
abbrev shB (s : TSh) : Obj := .cells #[strV s.1, .int .i64 (s.2.1 : Nat), .int .i64 (s.2.2 : Nat)] 45 (0, 0)
abbrev evB (e : Ev) (v : Value) : Obj := .cells #[.int .i64 e.kind, .int .i64 e.p, .int .i64 e.i, .int .i64 e.q, .int .i64 e.j, .int .i64 e.c, .int .i64 e.num, v] 24 (0, 0)
theorem shB_cells {w : World} {b : Nat} {s : TSh} (h : w.heap[b]? = some (shB s)) : w.cell? ⟨b, 0, none⟩ = some (strV s.1) ∧ w.cell? ⟨b, 1, none⟩ = some (.int .i64 (s.2.1 : Nat)) ∧ w.cell? ⟨b, 2, none⟩ = some (.int .i64 (s.2.2 : Nat)) := ⟨cell_blk h rfl, cell_blk h rfl, cell_blk h rfl⟩
theorem evB_cells {w : World} {b : Nat} {e : Ev} {v : Value} (h : w.heap[b]? = some (evB e v)) : w.cell? ⟨b, 0, none⟩ = some (.int .i64 e.kind) ∧ w.cell? ⟨b, 1, none⟩ = some (.int .i64 e.p) ∧ w.cell? ⟨b, 2, none⟩ = some (.int .i64 e.i) ∧ w.cell? ⟨b, 3, none⟩ = some (.int .i64 e.q) ∧ w.cell? ⟨b, 4, none⟩ = some (.int .i64 e.j) ∧ w.cell? ⟨b, 5, none⟩ = some (.int .i64 e.c) ∧ w.cell? ⟨b, 6, none⟩ = some (.int .i64 e.num) ∧ w.cell? ⟨b, 7, none⟩ = some v := ⟨cell_blk h rfl, cell_blk h rfl, cell_blk h rfl, cell_blk h rfl, cell_blk h rfl, cell_blk h rfl, cell_blk h rfl, cell_blk h rfl⟩
/-- a shape and an event in boxes -/
structure Bxs (w W : World) (H : Nat) (s : TSh) (e : Ev) (v : Value) : Prop where
  bel : Below H w W
  sz : H + 2 ≤ W.heap.size
  sh : W.heap[H]? = some (shB s)
  ev : W.heap[H + 1]? = some (evB e v)
theorem Bxs.on {w W W' : World} {H : Nat} {s : TSh} {e : Ev} {v : Value} (h : Bxs w W H s e v) (hb : Below W.heap.size W W') : Bxs w W' H s e v := by
  have hz := h.sz
  exact ⟨h.bel.trans (hb.mono (by omega)), Nat.le_trans hz hb.size, below_heap hb h.sh, below_heap hb h.ev⟩
theorem bxs_new (w : World) (H : Nat) (hH : w.heap.size = H) (s : TSh) (e : Ev) (v : Value) : Bxs w ((w.alloc (shB s)).alloc (evB e v)) H s e v := by
  subst hH
  refine ⟨(below1 _ _).alloc (by simp) _, by simp, ?_, heap_newH _ _ _ (by simp)⟩
  rw [Below.heap_alloc _ _ _ (by simp)]
  exact heap_newH w _ _ rfl
set_option maxRecDepth 100000 in
set_option maxHeartbeats 2000000 in
theorem placesFit_any (s : TSh) (e : Ev) (v : Value) (hv : v.oneCell' = true) (w : World) (hs : s.2.1 < 32) :
    Calls Tryd.prog 24 #[shV s, evW8 e v] w fun e' w' => e' = .returned (.bool (plOk s.2.1 0 (plL e))) ∧ Below w.heap.size w w' := by
  obtain ⟨R, hR⟩ : ∃ R, R = plOk s.2.1 0 (plL e) := ⟨_, rfl⟩
  rw [← hR]
  have HR : Bx (R = plOk s.2.1 0 (plL e)) := ⟨hR⟩
  clear hR
  obtain ⟨H, hH⟩ : ∃ H, w.heap.size = H := ⟨_, rfl⟩
  rw [hH]
  obtain ⟨W2, hW2⟩ : ∃ W2, (w.alloc (shB s)).alloc (evB e v) = W2 := ⟨_, rfl⟩
  have HX : Bx (Bxs w W2 H s e v) := ⟨by rw [← hW2]; exact bxs_new w H hH s e v⟩
  obtain ⟨q0, q1, q2, q3, q4, q5, q6, q7⟩ := evB_cells HX.out.ev
  have HP : Bx (Calls Tryd.prog 39 #[evW8 e v] W2 fun e' w' => e' = .returned (plA e) ∧ Bxs w w' H s e v) := ⟨(placesOf_any e v hv W2).mono fun e' w' h => ⟨h.1, HX.out.on h.2⟩⟩
  have HIX : Bx (∀ k, k < 5 → ∀ W, (Instr.index 63 (plA e) (.int .i64 (k : Nat))).run Tryd.prog W = .ok (.int .i64 ((plL e).getD k 0)) W) := ⟨plA_ix e⟩
  have HHP : Bx (∀ k W, k < 5 → Bxs w W H s e v → Calls Tryd.prog 40 #[shV s, .int .i64 (k : Nat)] W fun e' w' => e' = .returned (.bool (hasB s.2.1 k)) ∧ Bxs w w' H s e v) := ⟨fun k W hk hb => (hasPlace_any s k W hs hk).mono fun e w' h => ⟨h.1, hb.on h.2⟩⟩
  go_enter Tryd.func24, Tryd.ntmps24
  go_wp2_with (go_at_call 39; refine HP.out.mono ?_; rintro e1 w3 ⟨rfl, hb3⟩; have HB3 : Bx _ := ⟨hb3⟩; clear hb3)
  clear q0 q1 q2 q3 q4 q5 q6 q7 HP HX hW2
  generalize plA e = A at *
  have hlen : (plL e).length = 5 := rfl
  have HPL : Bx (∀ k, k < 5 → plOk s.2.1 k ((plL e).drop k) = (decide (0 ≤ (plL e).getD k 0) && (decide ((plL e).getD k 0 ≤ 0) || hasB s.2.1 k) && plOk s.2.1 (k + 1) ((plL e).drop (k + 1)))) := ⟨fun k hk => plOk_step (by rw [hlen]; exact hk)⟩
  have HEND : Bx ((plL e).drop 5 = []) := ⟨rfl⟩
  generalize plL e = l at *
  go_loopw [9] (fun x wr => ∃ k : Nat, k ≤ 5 ∧ x = .int .i64 k ∧ Bx (plOk s.2.1 k (l.drop k) = R ∧ Bxs w wr H s e v)) (fun x _ => 5 - (intOf x).toNat)
  case atStart => exact ⟨0, by omega, rfl, ⟨HR.out.symm, HB3.out⟩⟩
  case round =>
    obtain ⟨k, hk, rfl, HI⟩ := hrel
    clear HB3
    by_cases hlt : k < 5
    · have hix : ∀ W, (Instr.index 63 A (.int .i64 (k : Int))).run Tryd.prog W = .ok (.int .i64 (l.getD k 0)) W := fun W => HIX.out k hlt W
      have hS := HI.out.1
      rw [HPL.out k hlt] at hS
      have hk5 : (k : Int) < 5 := by omega
      generalize l.getD k 0 = n at *
      by_cases hn : n < 0
      · have hRf : R = false := by rw [← hS, decide_eq_false (by omega)]; rfl
        have HB : Bx (Below H w wr) := ⟨HI.out.2.bel⟩
        clear hS HI HR
        subst hRf
        go_wp2
        go_ret
        exact ⟨rfl, HB.out⟩
      · by_cases h0 : n = 0
        · subst h0
          have HN : Bx (plOk s.2.1 (k + 1) (l.drop (k + 1)) = R ∧ Bxs w wr H s e v) := ⟨by rw [← hS]; simp, HI.out.2⟩
          clear hS HI
          go_wp2
          go_roundw
          case rel => exact ⟨k + 1, hlt, by go_num, HN⟩
          case measure => simp [intOf]; omega
        · have hn1 : 0 < n := by omega
          obtain ⟨z0, z1, z2⟩ := shB_cells HI.out.2.sh
          have HC := HHP.out k wr hlt HI.out.2
          cases hb : hasB s.2.1 k
          · have hRf : R = false := by rw [← hS, hb, decide_eq_false (show ¬ n ≤ 0 by omega)]; simp
            rw [hb] at HC
            clear hS HI HR
            subst hRf
            go_wp2_with (go_at_call 40; refine HC.mono ?_; rintro e1 w4 ⟨rfl, hb4⟩; have HB4 : Bx _ := ⟨hb4⟩; clear hb4)
            go_ret
            exact ⟨rfl, HB4.out.bel⟩
          · have HN : Bx (plOk s.2.1 (k + 1) (l.drop (k + 1)) = R) := ⟨by rw [← hS, hb, decide_eq_true (show 0 ≤ n by omega)]; simp⟩
            rw [hb] at HC
            clear hS HI
            go_wp2_with (go_at_call 40; refine HC.mono ?_; rintro e1 w4 ⟨rfl, hb4⟩; have HB4 : Bx _ := ⟨hb4⟩; clear hb4)
            go_roundw
            case rel => exact ⟨k + 1, hlt, by go_num, ⟨HN.out, HB4.out⟩⟩
            case measure => simp [intOf]; omega
    · have : k = 5 := by omega
      subst this
      have hRt : R = true := by have := HI.out.1; rw [HEND.out] at this; exact this.symm
      have HB : Bx (Below H w wr) := ⟨HI.out.2.bel⟩
      clear HI HR
      subst hRt
      go_wp2
      go_ret
      exact ⟨rfl, HB.out⟩
end Go.Proofs.YtecpknpcjoiliaaDoor
