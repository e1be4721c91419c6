import Derived.Test.YtijdcplffmdijaaDoorCDId
import Derived.Handy
namespace Go.Proofs.YtijdcplffmdijaaDoor
open Go.RowKit
set_option linter.unusedVariables false
set_option linter.unusedSimpArgs false

theorem op_facts : ∀ k : Fin 28, (nameI (k.val : Int) = [] ↔ k.val = 0) ∧ (hasBI (k.val : Int) = true → hasAI (k.val : Int) = true) := by decide +kernel
/-- what the reference's instruction answers: its list lies in the numbers' own block -/
def riPost (w : World) (a : Option Addr) (op : Nat) (ks : List Int) (e : Ending) (w' : World) : Prop :=
  match insOf op ks with
  | none => e = .returned (.tuple #[.agg #[.int .i64 0, .int .i64 0, .int .i64 0, .slice none 0 0], .bool false]) ∧ Below w.heap.size w w'
  | some i => ∃ a' cap', e = .returned (.tuple #[.agg #[.int .i64 i.op, .int .i64 i.a, .int .i64 i.b, .slice a' i.list.length cap'], .bool true]) ∧ Bx ((IntsV w w.heap.size a' cap' i.list ∧ (a' = none ∨ ∃ b o o', a = some ⟨b, o, none⟩ ∧ a' = some ⟨b, o', none⟩)) ∧ Below w.heap.size w w')
/-- the answer's block, and the instruction's own -/
def RF (H H6 op : Nat) (X : World) : Prop := X.cell? ⟨H, 0, none⟩ = some (.int .i64 0) ∧ X.cell? ⟨H, 1, none⟩ = some (.int .i64 0) ∧ X.cell? ⟨H, 2, none⟩ = some (.int .i64 0) ∧ X.cell? ⟨H, 3, none⟩ = some (.slice none 0 0) ∧ X.frozen? ⟨H, 0, none⟩ = false ∧ X.frozen? ⟨H, 1, none⟩ = false ∧ X.frozen? ⟨H, 2, none⟩ = false ∧ X.frozen? ⟨H, 3, none⟩ = false ∧ X.cell? ⟨H6, 0, none⟩ = some (.int .i64 (op : Int)) ∧ X.cell? ⟨H6, 1, none⟩ = some (.int .i64 0) ∧ X.cell? ⟨H6, 2, none⟩ = some (.int .i64 0) ∧ X.cell? ⟨H6, 3, none⟩ = some (.slice none 0 0) ∧ X.frozen? ⟨H6, 0, none⟩ = false ∧ X.frozen? ⟨H6, 1, none⟩ = false ∧ X.frozen? ⟨H6, 2, none⟩ = false ∧ X.frozen? ⟨H6, 3, none⟩ = false ∧ H < X.heap.size ∧ H6 < X.heap.size
theorem RF.of {H H6 op : Nat} {X : World} (e1 : X.heap[H]? = some (.cells #[.int .i64 0, .int .i64 0, .int .i64 0, .slice none 0 0] 28 (0, 0))) (e2 : X.heap[H6]? = some (.cells #[.int .i64 op, .int .i64 0, .int .i64 0, .slice none 0 0] 28 (0, 0))) : RF H H6 op X :=
  ⟨cell_blk e1 rfl, cell_blk e1 rfl, cell_blk e1 rfl, cell_blk e1 rfl, by simp [World.frozen?, e1], by simp [World.frozen?, e1], by simp [World.frozen?, e1], by simp [World.frozen?, e1],
   cell_blk e2 rfl, cell_blk e2 rfl, cell_blk e2 rfl, cell_blk e2 rfl, by simp [World.frozen?, e2], by simp [World.frozen?, e2], by simp [World.frozen?, e2], by simp [World.frozen?, e2], (Array.getElem?_eq_some_iff.1 e1).1, (Array.getElem?_eq_some_iff.1 e2).1⟩
theorem IntsV.drp {w : World} {B b o cap : Nat} {ks : List Int} (h : IntsV w B (some ⟨b, o, none⟩) cap ks) (f : Nat) (hf : f < ks.length) : IntsV w B (some ⟨b, o + f, none⟩) (cap - f) (ks.drop f) := by
  have hc0 := h.cap
  have hm0 := h.max
  obtain ⟨b', o', e, hlt, hc⟩ := h.at_ (by omega)
  injection e with e
  injection e with e1 e2
  subst e1 e2
  refine ⟨by rw [List.length_drop]; omega, by rw [List.length_drop]; omega, fun h0 => ⟨_, _, rfl, hlt, fun i hi => ?_⟩⟩
  rw [List.length_drop] at hi
  have := hc (f + i) (by omega)
  rw [List.getElem_drop, Nat.add_assoc]
  exact this
set_option maxRecDepth 100000 in
set_option maxHeartbeats 4000000 in
theorem rinstr_any (w : World) (word : List UInt8) (a : Option Addr) (cap : Nat) (ks : List Int) (hi : IntsV w w.heap.size a cap ks) (hl : ks.length ≤ 17592186044416) :
    Calls Tryd.prog 68 #[strV word, .slice a ks.length cap] w (riPost w a (opI word) ks) := by
  have hb := below1 w (.cells #[.int .i64 0, .int .i64 0, .int .i64 0, .slice none 0 0] 28)
  have HO := rOp_any ⟨word.toArray⟩ (w.alloc (.cells #[.int .i64 0, .int .i64 0, .int .i64 0, .slice none 0 0] 28))
  have e1 : (⟨word.toArray⟩ : ByteArray).toList = word := by rw [Lib.toList_data]
  rw [e1] at HO
  obtain ⟨F1, F2⟩ := op_facts ⟨opI word, opI_lt word⟩
  have F3 := opI_lt word
  simp only [] at F1 F2
  generalize opI word = op at *
  obtain ⟨Q, hQ⟩ : ∃ Q, Q = riPost w a op ks := ⟨_, rfl⟩
  have HQ0 : Bx (∀ e w', insOf op ks = none → e = .returned (.tuple #[.agg #[.int .i64 0, .int .i64 0, .int .i64 0, .slice none 0 0], .bool false]) → Below w.heap.size w w' → Q e w') := ⟨fun e w' h h1 h2 => by rw [hQ]; unfold riPost; rw [h]; exact ⟨h1, h2⟩⟩
  have HQ1 : Bx (∀ e w' i a' cap', insOf op ks = some i → e = .returned (.tuple #[.agg #[.int .i64 i.op, .int .i64 i.a, .int .i64 i.b, .slice a' i.list.length cap'], .bool true]) → (IntsV w w.heap.size a' cap' i.list ∧ (a' = none ∨ ∃ b o o', a = some ⟨b, o, none⟩ ∧ a' = some ⟨b, o', none⟩)) → Below w.heap.size w w' → Q e w') := ⟨fun e w' i a' cap' h h1 h2 h3 => by rw [hQ]; unfold riPost; rw [h]; exact ⟨a', cap', h1, ⟨h2, h3⟩⟩⟩
  rw [← hQ]
  clear hQ e1
  obtain ⟨H, hH⟩ : ∃ x, w.heap.size = x := ⟨_, rfl⟩
  obtain ⟨n, hn⟩ : ∃ x, ks.length = x := ⟨_, rfl⟩
  rw [hH] at HQ0 HQ1 hi hb
  rw [hn] at hl ⊢
  have hcap : n ≤ cap := by have := hi.cap; omega
  have HI : Bx _ := ⟨hi⟩
  have HB : Bx _ := ⟨hb⟩
  clear hi hb
  by_cases h0 : op = 0
  · have hno : insOf op ks = none := by unfold insOf; rw [if_pos (.inl (F1.2 h0))]
    subst h0
    clear F1 F2 F3
    go_enter Tryd.func68, Tryd.ntmps68
    go_wp2_with (
        go_at_call 13; refine HO.mono ?_; clear HO; rintro e w1 ⟨rfl, hb1⟩
        have HB1 : Bx (Below H w w1) := ⟨HB.out.trans (hb1.mono (by simp; omega))⟩
        have I1 : w1.heap[H]? = some (.cells #[.int .i64 0, .int .i64 0, .int .i64 0, .slice none 0 0] 28 (0, 0)) := by rw [← hH]; exact below_heap hb1 (heap_new w _)
        have hq : H < w1.heap.size := (Array.getElem?_eq_some_iff.1 I1).1
        have c0 : w1.cell? ⟨H, 0, none⟩ = some (.int .i64 0) := cell_blk I1 rfl
        have c1 : w1.cell? ⟨H, 1, none⟩ = some (.int .i64 0) := cell_blk I1 rfl
        have c2 : w1.cell? ⟨H, 2, none⟩ = some (.int .i64 0) := cell_blk I1 rfl
        have c3 : w1.cell? ⟨H, 3, none⟩ = some (.slice none 0 0) := cell_blk I1 rfl
        have f0 : w1.frozen? ⟨H, 0, none⟩ = false := by simp [World.frozen?, I1]
        have f1 : w1.frozen? ⟨H, 1, none⟩ = false := by simp [World.frozen?, I1]
        have f2 : w1.frozen? ⟨H, 2, none⟩ = false := by simp [World.frozen?, I1]
        have f3 : w1.frozen? ⟨H, 3, none⟩ = false := by simp [World.frozen?, I1]
        have I1B : Bx _ := ⟨I1⟩
        clear hb1 I1)
    have q1 := hq
    refine bodyPost_ret (v := .tuple #[.agg #[.int .i64 0, .int .i64 0, .int .i64 0, .slice none 0 0], .bool false]) (by simp [results, Tryd.results68, go_sem, c0, c1, c2, c3, q1]) rfl (HQ0.out _ _ hno rfl ?_)
    exact ((((HB1.out.setCell (p := ⟨H, 0, none⟩) (Nat.le_refl _) _).setCell (p := ⟨H, 1, none⟩) (Nat.le_refl _) _).setCell (p := ⟨H, 2, none⟩) (Nat.le_refl _) _).setCell (p := ⟨H, 3, none⟩) (Nat.le_refl _) _).alloc (by simp; omega) _
  · have HA : Bx (∀ X, _) := ⟨fun X => HasA_any op X (by unfold I64; omega)⟩
    have HBb : Bx (∀ X, _) := ⟨fun X => HasB_any op X⟩
    have HLl : Bx (∀ X, _) := ⟨fun X => HasL_any op X⟩
    have FT : Bx (∀ X, Calls Tryd.prog 42 #[.bool true] X fun e w' => e = .returned (.int .i64 1) ∧ X = w') := ⟨fun X => flag_any true X⟩
    have FF : Bx (∀ X, Calls Tryd.prog 42 #[.bool false] X fun e w' => e = .returned (.int .i64 0) ∧ X = w') := ⟨fun X => flag_any false X⟩
    have h00 : ¬ (op : Int) = 0 := by omega
    cases hA : hasAI op with
    | false =>
      have hB : hasBI op = false := by
        cases h : hasBI op with
        | false => rfl
        | true => rw [F2 h] at hA; cases hA
      rw [hA] at HA
      rw [hB] at HBb
      by_cases hc : n < 0
      · omega
      · by_cases hc2 : n = 0
        · have hff : firstI op = 0 := by unfold firstI; rw [hA, hB]; rfl
          have HY : Bx (insOf op ks = some ⟨op, 0, 0, ks.drop 0⟩) := ⟨by unfold insOf; rw [hff, if_neg (fun h => h.elim (fun h => h0 (F1.1 h)) fun h => h.elim (fun h => by omega) fun h => by omega)]; simp⟩
          have hi1 : ¬ (n : Int) < 0 := by omega
          have hi2 : ¬ (0 : Int) < (n : Int) := by omega
          have hi3 : (n : Int) ≤ (cap : Int) := by omega
          clear F1 F2 F3
          go_enter Tryd.func68, Tryd.ntmps68
          go_wp2_with (
              go_at_call 13; refine HO.mono ?_; clear HO; rintro e w1 ⟨rfl, hb1⟩
              have HB1 : Bx (Below H w w1) := ⟨HB.out.trans (hb1.mono (by simp; omega))⟩
              have I1 : w1.heap[H]? = some (.cells #[.int .i64 0, .int .i64 0, .int .i64 0, .slice none 0 0] 28 (0, 0)) := by rw [← hH]; exact below_heap hb1 (heap_new w _)
              have hq : H < w1.heap.size := (Array.getElem?_eq_some_iff.1 I1).1
              have c0 : w1.cell? ⟨H, 0, none⟩ = some (.int .i64 0) := cell_blk I1 rfl
              have c1 : w1.cell? ⟨H, 1, none⟩ = some (.int .i64 0) := cell_blk I1 rfl
              have c2 : w1.cell? ⟨H, 2, none⟩ = some (.int .i64 0) := cell_blk I1 rfl
              have c3 : w1.cell? ⟨H, 3, none⟩ = some (.slice none 0 0) := cell_blk I1 rfl
              have f0 : w1.frozen? ⟨H, 0, none⟩ = false := by simp [World.frozen?, I1]
              have f1 : w1.frozen? ⟨H, 1, none⟩ = false := by simp [World.frozen?, I1]
              have f2 : w1.frozen? ⟨H, 2, none⟩ = false := by simp [World.frozen?, I1]
              have f3 : w1.frozen? ⟨H, 3, none⟩ = false := by simp [World.frozen?, I1]
              have I1B : Bx _ := ⟨I1⟩
              clear hb1 I1)
          obtain ⟨H6, hH6⟩ : ∃ x, w1.heap.size = x := ⟨_, rfl⟩
          have hlt6 : H < H6 := by omega
          have hne6 : ¬ H = H6 := by omega
          have hne6' : ¬ H6 = H := by omega
          obtain ⟨W2, hW2⟩ : ∃ x, w1.alloc (.cells #[.int .i64 op, .int .i64 0, .int .i64 0, .slice none 0 0] 28) = x := ⟨_, rfl⟩
          have E1 : Bx (W2.heap[H]? = some (.cells #[.int .i64 0, .int .i64 0, .int .i64 0, .slice none 0 0] 28 (0, 0))) := ⟨by rw [← hW2]; exact below_heap (below1 w1 _) I1B.out⟩
          have E2 : Bx (W2.heap[H6]? = some (.cells #[.int .i64 op, .int .i64 0, .int .i64 0, .slice none 0 0] 28 (0, 0))) := ⟨by rw [← hW2, ← hH6]; exact heap_new w1 _⟩
          have HB2 : Bx (Below H w W2) := ⟨by rw [← hW2]; exact HB1.out.trans ((below1 w1 _).mono (by omega))⟩
          have hs2 : H6 + 1 ≤ W2.heap.size := (Array.getElem?_eq_some_iff.1 E2.out).1
          have HF : Bx (∀ X, Below W2.heap.size W2 X → RF H H6 op X) := ⟨fun X hX => RF.of (below_heap hX E1.out) (below_heap hX E2.out)⟩
          have HBX : Bx (∀ X, Below W2.heap.size W2 X → Below H w X) := ⟨fun X hX => HB2.out.trans (hX.mono (by omega))⟩
          rw [hW2, hH6]
          clear c0 c1 c2 c3 f0 f1 f2 f3 hq HB1 E1 E2 HB2 I1B hW2 hH6
          have H1 : Bx (∀ X, Below W2.heap.size W2 X → Calls Tryd.prog 58 #[.int .i64 op] X fun e w' => e = .returned (.bool false) ∧ Below W2.heap.size W2 w') := ⟨fun X hX => (HA.out X).mono fun e w' h => ⟨h.1, hX.trans (h.2.mono hX.size)⟩⟩
          have hbr : Below W2.heap.size W2 W2 := Below.refl _ _
          have HD0 : Bx (∀ X, Below W2.heap.size W2 X → X.cell? ⟨H6, 0, none⟩ = some (.int .i64 op)) := ⟨fun X hX => by have := HF.out X hX; unfold RF at this; exact this.2.2.2.2.2.2.2.2.1⟩
          go_region_held3 (fun Y => Y.cell? ⟨H6, 0, none⟩ = some (.int .i64 op))
            (first | exact HD0.out _ hz1 | exact HD0.out _ hbr.drew)
            (first
              | (go_at_call 58; refine Calls.mono (H1.out _ hbr.drew) ?_; rintro e z1 ⟨rfl, hz1⟩)
              | (go_at_call 42; (first | refine Calls.mono (FT.out _) ?_ | refine Calls.mono (FF.out _) ?_); rintro e z' ⟨rfl, rfl⟩)
              | (go_at_call 59; refine Calls.mono (HBb.out _) ?_; rintro e z' ⟨rfl, rfl⟩))
          have hf0 := HF.out z1 hz1
          unfold RF at hf0
          obtain ⟨c0, c1, c2, c3, f0, f1, f2, f3, d0, d1, d2, d3, g0, g1, g2, g3, q1, q2⟩ := hf0
          have HBZ : Bx (Below H w z1) := ⟨HBX.out _ hz1⟩
          have HZ1 : Bx _ := ⟨hz1⟩
          clear hz1
          go_wp2_with (first
            | (go_at_call 60; refine (HLl.out _).mono ?_; rintro e z' ⟨rfl, rfl⟩)
            | (go_at_call 58; refine Calls.mono (H1.out _ HZ1.out) ?_; rintro e z2 ⟨rfl, hz2⟩
               clear c0 c1 c2 c3 f0 f1 f2 f3 d0 d1 d2 d3 g0 g1 g2 g3 q1 q2
               have hf0 := HF.out z2 hz2
               unfold RF at hf0
               obtain ⟨c0, c1, c2, c3, f0, f1, f2, f3, d0, d1, d2, d3, g0, g1, g2, g3, q1, q2⟩ := hf0
               have HBZ2 : Bx (Below H w z2) := ⟨HBX.out _ hz2⟩
               clear hz2)
            | (go_at_call 59; refine Calls.mono (HBb.out _) ?_; rintro e z' ⟨rfl, rfl⟩))
          refine bodyPost_ret (v := .tuple #[.agg #[.int .i64 op, .int .i64 0, .int .i64 0, .slice none 0 0], .bool true]) (by simp [results, Tryd.results68, go_sem, c0, c1, c2, c3, d0, d1, d2, d3, q1, q2, hne6, hne6']) rfl (HQ1.out _ _ _ none 0 HY.out (by simp [List.length_drop, hn]; try omega) ?_ ?_)
          · rw [List.drop_of_length_le (by omega)]; exact ⟨intsV_nil _ _ _ _, .inl rfl⟩
          · exact ((((HBZ2.out.setCell (p := ⟨H, 0, none⟩) (Nat.le_refl _) _).setCell (p := ⟨H, 1, none⟩) (Nat.le_refl _) _).setCell (p := ⟨H, 2, none⟩) (Nat.le_refl _) _).setCell (p := ⟨H, 3, none⟩) (Nat.le_refl _) _)
        · have hc : 0 < n := by omega
          cases hLL : hasLI op with
          | false =>
            rw [hLL] at HLl
            have hno : insOf op ks = none := by unfold insOf; rw [if_pos]; rw [(show firstI op = 0 by unfold firstI; rw [hA, hB]; rfl), hn]; exact .inr (.inr ⟨hc, hLL⟩)
            have hi1 : ¬ (n : Int) < 0 := by omega
            have hi2 : (0 : Int) < (n : Int) := by omega
            clear F1 F2 F3
            go_enter Tryd.func68, Tryd.ntmps68
            go_wp2_with (
                go_at_call 13; refine HO.mono ?_; clear HO; rintro e w1 ⟨rfl, hb1⟩
                have HB1 : Bx (Below H w w1) := ⟨HB.out.trans (hb1.mono (by simp; omega))⟩
                have I1 : w1.heap[H]? = some (.cells #[.int .i64 0, .int .i64 0, .int .i64 0, .slice none 0 0] 28 (0, 0)) := by rw [← hH]; exact below_heap hb1 (heap_new w _)
                have hq : H < w1.heap.size := (Array.getElem?_eq_some_iff.1 I1).1
                have c0 : w1.cell? ⟨H, 0, none⟩ = some (.int .i64 0) := cell_blk I1 rfl
                have c1 : w1.cell? ⟨H, 1, none⟩ = some (.int .i64 0) := cell_blk I1 rfl
                have c2 : w1.cell? ⟨H, 2, none⟩ = some (.int .i64 0) := cell_blk I1 rfl
                have c3 : w1.cell? ⟨H, 3, none⟩ = some (.slice none 0 0) := cell_blk I1 rfl
                have f0 : w1.frozen? ⟨H, 0, none⟩ = false := by simp [World.frozen?, I1]
                have f1 : w1.frozen? ⟨H, 1, none⟩ = false := by simp [World.frozen?, I1]
                have f2 : w1.frozen? ⟨H, 2, none⟩ = false := by simp [World.frozen?, I1]
                have f3 : w1.frozen? ⟨H, 3, none⟩ = false := by simp [World.frozen?, I1]
                have I1B : Bx _ := ⟨I1⟩
                clear hb1 I1)
            obtain ⟨H6, hH6⟩ : ∃ x, w1.heap.size = x := ⟨_, rfl⟩
            have hlt6 : H < H6 := by omega
            have hne6 : ¬ H = H6 := by omega
            have hne6' : ¬ H6 = H := by omega
            obtain ⟨W2, hW2⟩ : ∃ x, w1.alloc (.cells #[.int .i64 op, .int .i64 0, .int .i64 0, .slice none 0 0] 28) = x := ⟨_, rfl⟩
            have E1 : Bx (W2.heap[H]? = some (.cells #[.int .i64 0, .int .i64 0, .int .i64 0, .slice none 0 0] 28 (0, 0))) := ⟨by rw [← hW2]; exact below_heap (below1 w1 _) I1B.out⟩
            have E2 : Bx (W2.heap[H6]? = some (.cells #[.int .i64 op, .int .i64 0, .int .i64 0, .slice none 0 0] 28 (0, 0))) := ⟨by rw [← hW2, ← hH6]; exact heap_new w1 _⟩
            have HB2 : Bx (Below H w W2) := ⟨by rw [← hW2]; exact HB1.out.trans ((below1 w1 _).mono (by omega))⟩
            have hs2 : H6 + 1 ≤ W2.heap.size := (Array.getElem?_eq_some_iff.1 E2.out).1
            have HF : Bx (∀ X, Below W2.heap.size W2 X → RF H H6 op X) := ⟨fun X hX => RF.of (below_heap hX E1.out) (below_heap hX E2.out)⟩
            have HBX : Bx (∀ X, Below W2.heap.size W2 X → Below H w X) := ⟨fun X hX => HB2.out.trans (hX.mono (by omega))⟩
            rw [hW2, hH6]
            clear c0 c1 c2 c3 f0 f1 f2 f3 hq HB1 E1 E2 HB2 I1B hW2 hH6
            have H1 : Bx (∀ X, Below W2.heap.size W2 X → Calls Tryd.prog 58 #[.int .i64 op] X fun e w' => e = .returned (.bool false) ∧ Below W2.heap.size W2 w') := ⟨fun X hX => (HA.out X).mono fun e w' h => ⟨h.1, hX.trans (h.2.mono hX.size)⟩⟩
            have hbr : Below W2.heap.size W2 W2 := Below.refl _ _
            have HD0 : Bx (∀ X, Below W2.heap.size W2 X → X.cell? ⟨H6, 0, none⟩ = some (.int .i64 op)) := ⟨fun X hX => by have := HF.out X hX; unfold RF at this; exact this.2.2.2.2.2.2.2.2.1⟩
            go_region_held3 (fun Y => Y.cell? ⟨H6, 0, none⟩ = some (.int .i64 op))
              (first | exact HD0.out _ hz1 | exact HD0.out _ hbr.drew)
              (first
                | (go_at_call 58; refine Calls.mono (H1.out _ hbr.drew) ?_; rintro e z1 ⟨rfl, hz1⟩)
                | (go_at_call 42; (first | refine Calls.mono (FT.out _) ?_ | refine Calls.mono (FF.out _) ?_); rintro e z' ⟨rfl, rfl⟩)
                | (go_at_call 59; refine Calls.mono (HBb.out _) ?_; rintro e z' ⟨rfl, rfl⟩))
            have hf0 := HF.out z1 hz1
            unfold RF at hf0
            obtain ⟨c0, c1, c2, c3, f0, f1, f2, f3, d0, d1, d2, d3, g0, g1, g2, g3, q1, q2⟩ := hf0
            have HBZ : Bx (Below H w z1) := ⟨HBX.out _ hz1⟩
            have HZ1 : Bx _ := ⟨hz1⟩
            clear hz1
            go_wp2_with (go_at_call 60; refine (HLl.out _).mono ?_; rintro e z' ⟨rfl, rfl⟩)
            refine bodyPost_ret (v := .tuple #[.agg #[.int .i64 0, .int .i64 0, .int .i64 0, .slice none 0 0], .bool false]) (by simp [results, Tryd.results68, go_sem, c0, c1, c2, c3, q1]) rfl (HQ0.out _ _ hno rfl ?_)
            exact (((HBZ.out.setCell (p := ⟨H, 0, none⟩) (Nat.le_refl _) _).setCell (p := ⟨H, 1, none⟩) (Nat.le_refl _) _).setCell (p := ⟨H, 2, none⟩) (Nat.le_refl _) _).setCell (p := ⟨H, 3, none⟩) (Nat.le_refl _) _
          | true =>
            rw [hLL] at HLl
            have hff : firstI op = 0 := by unfold firstI; rw [hA, hB]; rfl
            have HY : Bx (insOf op ks = some ⟨op, 0, 0, ks.drop 0⟩) := ⟨by unfold insOf; rw [hff, if_neg (fun h => h.elim (fun h => h0 (F1.1 h)) fun h => h.elim (fun h => by omega) fun h => by rw [hLL] at h; cases h.2)]; simp⟩
            obtain ⟨b, o, rfl, hbl, hcs⟩ := HI.out.at_ (by omega)
            have hbne : ¬ b = H := by omega
            clear hcs
            have hi1 : ¬ (n : Int) < 0 := by omega
            have hi2 : (0 : Int) < (n : Int) := by omega
            have hi3 : (n : Int) ≤ (cap : Int) := by omega
            clear F1 F2 F3
            go_enter Tryd.func68, Tryd.ntmps68
            go_wp2_with (
                go_at_call 13; refine HO.mono ?_; clear HO; rintro e w1 ⟨rfl, hb1⟩
                have HB1 : Bx (Below H w w1) := ⟨HB.out.trans (hb1.mono (by simp; omega))⟩
                have I1 : w1.heap[H]? = some (.cells #[.int .i64 0, .int .i64 0, .int .i64 0, .slice none 0 0] 28 (0, 0)) := by rw [← hH]; exact below_heap hb1 (heap_new w _)
                have hq : H < w1.heap.size := (Array.getElem?_eq_some_iff.1 I1).1
                have c0 : w1.cell? ⟨H, 0, none⟩ = some (.int .i64 0) := cell_blk I1 rfl
                have c1 : w1.cell? ⟨H, 1, none⟩ = some (.int .i64 0) := cell_blk I1 rfl
                have c2 : w1.cell? ⟨H, 2, none⟩ = some (.int .i64 0) := cell_blk I1 rfl
                have c3 : w1.cell? ⟨H, 3, none⟩ = some (.slice none 0 0) := cell_blk I1 rfl
                have f0 : w1.frozen? ⟨H, 0, none⟩ = false := by simp [World.frozen?, I1]
                have f1 : w1.frozen? ⟨H, 1, none⟩ = false := by simp [World.frozen?, I1]
                have f2 : w1.frozen? ⟨H, 2, none⟩ = false := by simp [World.frozen?, I1]
                have f3 : w1.frozen? ⟨H, 3, none⟩ = false := by simp [World.frozen?, I1]
                have I1B : Bx _ := ⟨I1⟩
                clear hb1 I1)
            obtain ⟨H6, hH6⟩ : ∃ x, w1.heap.size = x := ⟨_, rfl⟩
            have hlt6 : H < H6 := by omega
            have hne6 : ¬ H = H6 := by omega
            have hne6' : ¬ H6 = H := by omega
            obtain ⟨W2, hW2⟩ : ∃ x, w1.alloc (.cells #[.int .i64 op, .int .i64 0, .int .i64 0, .slice none 0 0] 28) = x := ⟨_, rfl⟩
            have E1 : Bx (W2.heap[H]? = some (.cells #[.int .i64 0, .int .i64 0, .int .i64 0, .slice none 0 0] 28 (0, 0))) := ⟨by rw [← hW2]; exact below_heap (below1 w1 _) I1B.out⟩
            have E2 : Bx (W2.heap[H6]? = some (.cells #[.int .i64 op, .int .i64 0, .int .i64 0, .slice none 0 0] 28 (0, 0))) := ⟨by rw [← hW2, ← hH6]; exact heap_new w1 _⟩
            have HB2 : Bx (Below H w W2) := ⟨by rw [← hW2]; exact HB1.out.trans ((below1 w1 _).mono (by omega))⟩
            have hs2 : H6 + 1 ≤ W2.heap.size := (Array.getElem?_eq_some_iff.1 E2.out).1
            have HF : Bx (∀ X, Below W2.heap.size W2 X → RF H H6 op X) := ⟨fun X hX => RF.of (below_heap hX E1.out) (below_heap hX E2.out)⟩
            have HBX : Bx (∀ X, Below W2.heap.size W2 X → Below H w X) := ⟨fun X hX => HB2.out.trans (hX.mono (by omega))⟩
            rw [hW2, hH6]
            clear c0 c1 c2 c3 f0 f1 f2 f3 hq HB1 E1 E2 HB2 I1B hW2 hH6
            have H1 : Bx (∀ X, Below W2.heap.size W2 X → Calls Tryd.prog 58 #[.int .i64 op] X fun e w' => e = .returned (.bool false) ∧ Below W2.heap.size W2 w') := ⟨fun X hX => (HA.out X).mono fun e w' h => ⟨h.1, hX.trans (h.2.mono hX.size)⟩⟩
            have hbr : Below W2.heap.size W2 W2 := Below.refl _ _
            have HD0 : Bx (∀ X, Below W2.heap.size W2 X → X.cell? ⟨H6, 0, none⟩ = some (.int .i64 op)) := ⟨fun X hX => by have := HF.out X hX; unfold RF at this; exact this.2.2.2.2.2.2.2.2.1⟩
            go_region_held3 (fun Y => Y.cell? ⟨H6, 0, none⟩ = some (.int .i64 op))
              (first | exact HD0.out _ hz1 | exact HD0.out _ hbr.drew)
              (first
                | (go_at_call 58; refine Calls.mono (H1.out _ hbr.drew) ?_; rintro e z1 ⟨rfl, hz1⟩)
                | (go_at_call 42; (first | refine Calls.mono (FT.out _) ?_ | refine Calls.mono (FF.out _) ?_); rintro e z' ⟨rfl, rfl⟩)
                | (go_at_call 59; refine Calls.mono (HBb.out _) ?_; rintro e z' ⟨rfl, rfl⟩))
            have hf0 := HF.out z1 hz1
            unfold RF at hf0
            obtain ⟨c0, c1, c2, c3, f0, f1, f2, f3, d0, d1, d2, d3, g0, g1, g2, g3, q1, q2⟩ := hf0
            have HBZ : Bx (Below H w z1) := ⟨HBX.out _ hz1⟩
            have HZ1 : Bx _ := ⟨hz1⟩
            clear hz1
            go_wp2_with (first
              | (go_at_call 60; refine (HLl.out _).mono ?_; rintro e z' ⟨rfl, rfl⟩)
              | (go_at_call 58; refine Calls.mono (H1.out _ HZ1.out) ?_; rintro e z2 ⟨rfl, hz2⟩
                 clear c0 c1 c2 c3 f0 f1 f2 f3 d0 d1 d2 d3 g0 g1 g2 g3 q1 q2
                 have hf0 := HF.out z2 hz2
                 unfold RF at hf0
                 obtain ⟨c0, c1, c2, c3, f0, f1, f2, f3, d0, d1, d2, d3, g0, g1, g2, g3, q1, q2⟩ := hf0
                 have HBZ2 : Bx (Below H w z2) := ⟨HBX.out _ hz2⟩
                 have hbl2 : b < z2.heap.size := by omega
                 have hb6 : ¬ b = H6 := by omega
                 clear hz2)
              | (go_at_call 59; refine Calls.mono (HBb.out _) ?_; rintro e z' ⟨rfl, rfl⟩))
            refine bodyPost_ret (v := .tuple #[.agg #[.int .i64 op, .int .i64 0, .int .i64 0, .slice (some ⟨b, o, none⟩) n cap], .bool true]) (by simp [results, Tryd.results68, go_sem, c0, c1, c2, c3, d0, d1, d2, d3, q1, q2, hne6, hne6']) rfl (HQ1.out _ _ _ (some ⟨b, o, none⟩) cap HY.out (by simp [List.length_drop, hn]) ?_ ?_)
            · rw [List.drop_zero]; exact ⟨HI.out, .inr ⟨_, _, _, rfl, rfl⟩⟩
            · exact (((((HBZ2.out.setCell (p := ⟨H6, 3, none⟩) (Nat.le_of_lt hlt6) _).setCell (p := ⟨H, 0, none⟩) (Nat.le_refl _) _).setCell (p := ⟨H, 1, none⟩) (Nat.le_refl _) _).setCell (p := ⟨H, 2, none⟩) (Nat.le_refl _) _).setCell (p := ⟨H, 3, none⟩) (Nat.le_refl _) _)
    | true =>
      rw [hA] at HA
      cases hB : hasBI op with
      | false =>
        rw [hB] at HBb
        by_cases hc : n < 1
        · have hno : insOf op ks = none := by unfold insOf; rw [if_pos]; rw [(show firstI op = 1 by unfold firstI; rw [hA, hB]; rfl), hn]; exact .inr (.inl hc)
          have hi1 : (n : Int) < 1 := by omega
          clear F1 F2 F3
          go_enter Tryd.func68, Tryd.ntmps68
          go_wp2_with (
              go_at_call 13; refine HO.mono ?_; clear HO; rintro e w1 ⟨rfl, hb1⟩
              have HB1 : Bx (Below H w w1) := ⟨HB.out.trans (hb1.mono (by simp; omega))⟩
              have I1 : w1.heap[H]? = some (.cells #[.int .i64 0, .int .i64 0, .int .i64 0, .slice none 0 0] 28 (0, 0)) := by rw [← hH]; exact below_heap hb1 (heap_new w _)
              have hq : H < w1.heap.size := (Array.getElem?_eq_some_iff.1 I1).1
              have c0 : w1.cell? ⟨H, 0, none⟩ = some (.int .i64 0) := cell_blk I1 rfl
              have c1 : w1.cell? ⟨H, 1, none⟩ = some (.int .i64 0) := cell_blk I1 rfl
              have c2 : w1.cell? ⟨H, 2, none⟩ = some (.int .i64 0) := cell_blk I1 rfl
              have c3 : w1.cell? ⟨H, 3, none⟩ = some (.slice none 0 0) := cell_blk I1 rfl
              have f0 : w1.frozen? ⟨H, 0, none⟩ = false := by simp [World.frozen?, I1]
              have f1 : w1.frozen? ⟨H, 1, none⟩ = false := by simp [World.frozen?, I1]
              have f2 : w1.frozen? ⟨H, 2, none⟩ = false := by simp [World.frozen?, I1]
              have f3 : w1.frozen? ⟨H, 3, none⟩ = false := by simp [World.frozen?, I1]
              have I1B : Bx _ := ⟨I1⟩
              clear hb1 I1)
          obtain ⟨H6, hH6⟩ : ∃ x, w1.heap.size = x := ⟨_, rfl⟩
          have hlt6 : H < H6 := by omega
          have hne6 : ¬ H = H6 := by omega
          have hne6' : ¬ H6 = H := by omega
          obtain ⟨W2, hW2⟩ : ∃ x, w1.alloc (.cells #[.int .i64 op, .int .i64 0, .int .i64 0, .slice none 0 0] 28) = x := ⟨_, rfl⟩
          have E1 : Bx (W2.heap[H]? = some (.cells #[.int .i64 0, .int .i64 0, .int .i64 0, .slice none 0 0] 28 (0, 0))) := ⟨by rw [← hW2]; exact below_heap (below1 w1 _) I1B.out⟩
          have E2 : Bx (W2.heap[H6]? = some (.cells #[.int .i64 op, .int .i64 0, .int .i64 0, .slice none 0 0] 28 (0, 0))) := ⟨by rw [← hW2, ← hH6]; exact heap_new w1 _⟩
          have HB2 : Bx (Below H w W2) := ⟨by rw [← hW2]; exact HB1.out.trans ((below1 w1 _).mono (by omega))⟩
          have hs2 : H6 + 1 ≤ W2.heap.size := (Array.getElem?_eq_some_iff.1 E2.out).1
          have HF : Bx (∀ X, Below W2.heap.size W2 X → RF H H6 op X) := ⟨fun X hX => RF.of (below_heap hX E1.out) (below_heap hX E2.out)⟩
          have HBX : Bx (∀ X, Below W2.heap.size W2 X → Below H w X) := ⟨fun X hX => HB2.out.trans (hX.mono (by omega))⟩
          rw [hW2, hH6]
          clear c0 c1 c2 c3 f0 f1 f2 f3 hq HB1 E1 E2 HB2 I1B hW2 hH6
          have H1 : Bx (∀ X, Below W2.heap.size W2 X → Calls Tryd.prog 58 #[.int .i64 op] X fun e w' => e = .returned (.bool true) ∧ Below W2.heap.size W2 w') := ⟨fun X hX => (HA.out X).mono fun e w' h => ⟨h.1, hX.trans (h.2.mono hX.size)⟩⟩
          have hbr : Below W2.heap.size W2 W2 := Below.refl _ _
          have HD0 : Bx (∀ X, Below W2.heap.size W2 X → X.cell? ⟨H6, 0, none⟩ = some (.int .i64 op)) := ⟨fun X hX => by have := HF.out X hX; unfold RF at this; exact this.2.2.2.2.2.2.2.2.1⟩
          go_region_held3 (fun Y => Y.cell? ⟨H6, 0, none⟩ = some (.int .i64 op))
            (first | exact HD0.out _ hz1 | exact HD0.out _ hbr.drew)
            (first
              | (go_at_call 58; refine Calls.mono (H1.out _ hbr.drew) ?_; rintro e z1 ⟨rfl, hz1⟩)
              | (go_at_call 42; (first | refine Calls.mono (FT.out _) ?_ | refine Calls.mono (FF.out _) ?_); rintro e z' ⟨rfl, rfl⟩)
              | (go_at_call 59; refine Calls.mono (HBb.out _) ?_; rintro e z' ⟨rfl, rfl⟩))
          have hf0 := HF.out z1 hz1
          unfold RF at hf0
          obtain ⟨c0, c1, c2, c3, f0, f1, f2, f3, d0, d1, d2, d3, g0, g1, g2, g3, q1, q2⟩ := hf0
          have HBZ : Bx (Below H w z1) := ⟨HBX.out _ hz1⟩
          have HZ1 : Bx _ := ⟨hz1⟩
          clear hz1
          go_wp2_with (go_at_call 60; refine (HLl.out _).mono ?_; rintro e z' ⟨rfl, rfl⟩)
          refine bodyPost_ret (v := .tuple #[.agg #[.int .i64 0, .int .i64 0, .int .i64 0, .slice none 0 0], .bool false]) (by simp [results, Tryd.results68, go_sem, c0, c1, c2, c3, q1]) rfl (HQ0.out _ _ hno rfl ?_)
          exact (((HBZ.out.setCell (p := ⟨H, 0, none⟩) (Nat.le_refl _) _).setCell (p := ⟨H, 1, none⟩) (Nat.le_refl _) _).setCell (p := ⟨H, 2, none⟩) (Nat.le_refl _) _).setCell (p := ⟨H, 3, none⟩) (Nat.le_refl _) _
        · by_cases hc2 : n = 1
          · have hff : firstI op = 1 := by unfold firstI; rw [hA, hB]; rfl
            have HY : Bx (insOf op ks = some ⟨op, ks[0]'(by omega), 0, ks.drop 1⟩) := ⟨by unfold insOf; rw [hff, if_neg (fun h => h.elim (fun h => h0 (F1.1 h)) fun h => h.elim (fun h => by omega) fun h => by omega)]; rw [show ks.getD 0 0 = ks[0] by rw [List.getD_eq_getElem?_getD, List.getElem?_eq_getElem (by omega)]; rfl]; rfl⟩
            obtain ⟨b, o, rfl, hbl, hcs⟩ := HI.out.at_ (by omega)
            have hc0 := hcs 0 (by omega)
            rw [Nat.add_zero] at hc0
            generalize ks[0]'(by omega) = y0 at *
            have hbne : ¬ b = H := by omega
            clear hcs
            have hi1 : ¬ (n : Int) < 1 := by omega
            have hi2 : ¬ (1 : Int) < (n : Int) := by omega
            have hi3 : (n : Int) ≤ (cap : Int) := by omega
            have hi4 : (0 : Int) < (n : Int) := by omega
            clear F1 F2 F3
            go_enter Tryd.func68, Tryd.ntmps68
            go_wp2_with (
                go_at_call 13; refine HO.mono ?_; clear HO; rintro e w1 ⟨rfl, hb1⟩
                have HB1 : Bx (Below H w w1) := ⟨HB.out.trans (hb1.mono (by simp; omega))⟩
                have I1 : w1.heap[H]? = some (.cells #[.int .i64 0, .int .i64 0, .int .i64 0, .slice none 0 0] 28 (0, 0)) := by rw [← hH]; exact below_heap hb1 (heap_new w _)
                have hq : H < w1.heap.size := (Array.getElem?_eq_some_iff.1 I1).1
                have c0 : w1.cell? ⟨H, 0, none⟩ = some (.int .i64 0) := cell_blk I1 rfl
                have c1 : w1.cell? ⟨H, 1, none⟩ = some (.int .i64 0) := cell_blk I1 rfl
                have c2 : w1.cell? ⟨H, 2, none⟩ = some (.int .i64 0) := cell_blk I1 rfl
                have c3 : w1.cell? ⟨H, 3, none⟩ = some (.slice none 0 0) := cell_blk I1 rfl
                have f0 : w1.frozen? ⟨H, 0, none⟩ = false := by simp [World.frozen?, I1]
                have f1 : w1.frozen? ⟨H, 1, none⟩ = false := by simp [World.frozen?, I1]
                have f2 : w1.frozen? ⟨H, 2, none⟩ = false := by simp [World.frozen?, I1]
                have f3 : w1.frozen? ⟨H, 3, none⟩ = false := by simp [World.frozen?, I1]
                have I1B : Bx _ := ⟨I1⟩
                clear hb1 I1)
            obtain ⟨H6, hH6⟩ : ∃ x, w1.heap.size = x := ⟨_, rfl⟩
            have hlt6 : H < H6 := by omega
            have hne6 : ¬ H = H6 := by omega
            have hne6' : ¬ H6 = H := by omega
            obtain ⟨W2, hW2⟩ : ∃ x, w1.alloc (.cells #[.int .i64 op, .int .i64 0, .int .i64 0, .slice none 0 0] 28) = x := ⟨_, rfl⟩
            have E1 : Bx (W2.heap[H]? = some (.cells #[.int .i64 0, .int .i64 0, .int .i64 0, .slice none 0 0] 28 (0, 0))) := ⟨by rw [← hW2]; exact below_heap (below1 w1 _) I1B.out⟩
            have E2 : Bx (W2.heap[H6]? = some (.cells #[.int .i64 op, .int .i64 0, .int .i64 0, .slice none 0 0] 28 (0, 0))) := ⟨by rw [← hW2, ← hH6]; exact heap_new w1 _⟩
            have HB2 : Bx (Below H w W2) := ⟨by rw [← hW2]; exact HB1.out.trans ((below1 w1 _).mono (by omega))⟩
            have hs2 : H6 + 1 ≤ W2.heap.size := (Array.getElem?_eq_some_iff.1 E2.out).1
            have HF : Bx (∀ X, Below W2.heap.size W2 X → RF H H6 op X) := ⟨fun X hX => RF.of (below_heap hX E1.out) (below_heap hX E2.out)⟩
            have HBX : Bx (∀ X, Below W2.heap.size W2 X → Below H w X) := ⟨fun X hX => HB2.out.trans (hX.mono (by omega))⟩
            rw [hW2, hH6]
            clear c0 c1 c2 c3 f0 f1 f2 f3 hq HB1 E1 E2 HB2 I1B hW2 hH6
            have H1 : Bx (∀ X, Below W2.heap.size W2 X → Calls Tryd.prog 58 #[.int .i64 op] X fun e w' => e = .returned (.bool true) ∧ Below W2.heap.size W2 w') := ⟨fun X hX => (HA.out X).mono fun e w' h => ⟨h.1, hX.trans (h.2.mono hX.size)⟩⟩
            have hbr : Below W2.heap.size W2 W2 := Below.refl _ _
            have HD0 : Bx (∀ X, Below W2.heap.size W2 X → X.cell? ⟨H6, 0, none⟩ = some (.int .i64 op)) := ⟨fun X hX => by have := HF.out X hX; unfold RF at this; exact this.2.2.2.2.2.2.2.2.1⟩
            go_region_held3 (fun Y => Y.cell? ⟨H6, 0, none⟩ = some (.int .i64 op))
              (first | exact HD0.out _ hz1 | exact HD0.out _ hbr.drew)
              (first
                | (go_at_call 58; refine Calls.mono (H1.out _ hbr.drew) ?_; rintro e z1 ⟨rfl, hz1⟩)
                | (go_at_call 42; (first | refine Calls.mono (FT.out _) ?_ | refine Calls.mono (FF.out _) ?_); rintro e z' ⟨rfl, rfl⟩)
                | (go_at_call 59; refine Calls.mono (HBb.out _) ?_; rintro e z' ⟨rfl, rfl⟩))
            have hf0 := HF.out z1 hz1
            unfold RF at hf0
            obtain ⟨c0, c1, c2, c3, f0, f1, f2, f3, d0, d1, d2, d3, g0, g1, g2, g3, q1, q2⟩ := hf0
            have HBZ : Bx (Below H w z1) := ⟨HBX.out _ hz1⟩
            have HZ1 : Bx _ := ⟨hz1⟩
            clear hz1
            go_wp2_with (first
              | (go_at_call 60; refine (HLl.out _).mono ?_; rintro e z' ⟨rfl, rfl⟩)
              | (go_at_call 58; refine Calls.mono (H1.out _ HZ1.out) ?_; rintro e z2 ⟨rfl, hz2⟩
                 clear c0 c1 c2 c3 f0 f1 f2 f3 d0 d1 d2 d3 g0 g1 g2 g3 q1 q2
                 have hf0 := HF.out z2 hz2
                 unfold RF at hf0
                 obtain ⟨c0, c1, c2, c3, f0, f1, f2, f3, d0, d1, d2, d3, g0, g1, g2, g3, q1, q2⟩ := hf0
                 have HBZ2 : Bx (Below H w z2) := ⟨HBX.out _ hz2⟩
                 have k0 : z2.cell? ⟨b, o, none⟩ = some (.int .i64 y0) := (HBZ2.out.cell (p := ⟨b, o, none⟩) hbl).trans hc0
                 have hbl2 : b < z2.heap.size := by omega
                 have hb6 : ¬ b = H6 := by omega
                 clear hz2)
              | (go_at_call 59; refine Calls.mono (HBb.out _) ?_; rintro e z' ⟨rfl, rfl⟩))
            refine bodyPost_ret (v := .tuple #[.agg #[.int .i64 op, .int .i64 y0, .int .i64 0, .slice none 0 0], .bool true]) (by simp [results, Tryd.results68, go_sem, c0, c1, c2, c3, d0, d1, d2, d3, q1, q2, hne6, hne6']) rfl (HQ1.out _ _ _ none 0 HY.out (by simp [List.length_drop, hn]; try omega) ?_ ?_)
            · rw [List.drop_of_length_le (by omega)]; exact ⟨intsV_nil _ _ _ _, .inl rfl⟩
            · exact (((((HBZ2.out.setCell (p := ⟨H6, 1, none⟩) (Nat.le_of_lt hlt6) _).setCell (p := ⟨H, 0, none⟩) (Nat.le_refl _) _).setCell (p := ⟨H, 1, none⟩) (Nat.le_refl _) _).setCell (p := ⟨H, 2, none⟩) (Nat.le_refl _) _).setCell (p := ⟨H, 3, none⟩) (Nat.le_refl _) _)
          · have hc : 1 < n := by omega
            cases hLL : hasLI op with
            | false =>
              rw [hLL] at HLl
              have hno : insOf op ks = none := by unfold insOf; rw [if_pos]; rw [(show firstI op = 1 by unfold firstI; rw [hA, hB]; rfl), hn]; exact .inr (.inr ⟨hc, hLL⟩)
              have hi1 : ¬ (n : Int) < 1 := by omega
              have hi2 : (1 : Int) < (n : Int) := by omega
              clear F1 F2 F3
              go_enter Tryd.func68, Tryd.ntmps68
              go_wp2_with (
                  go_at_call 13; refine HO.mono ?_; clear HO; rintro e w1 ⟨rfl, hb1⟩
                  have HB1 : Bx (Below H w w1) := ⟨HB.out.trans (hb1.mono (by simp; omega))⟩
                  have I1 : w1.heap[H]? = some (.cells #[.int .i64 0, .int .i64 0, .int .i64 0, .slice none 0 0] 28 (0, 0)) := by rw [← hH]; exact below_heap hb1 (heap_new w _)
                  have hq : H < w1.heap.size := (Array.getElem?_eq_some_iff.1 I1).1
                  have c0 : w1.cell? ⟨H, 0, none⟩ = some (.int .i64 0) := cell_blk I1 rfl
                  have c1 : w1.cell? ⟨H, 1, none⟩ = some (.int .i64 0) := cell_blk I1 rfl
                  have c2 : w1.cell? ⟨H, 2, none⟩ = some (.int .i64 0) := cell_blk I1 rfl
                  have c3 : w1.cell? ⟨H, 3, none⟩ = some (.slice none 0 0) := cell_blk I1 rfl
                  have f0 : w1.frozen? ⟨H, 0, none⟩ = false := by simp [World.frozen?, I1]
                  have f1 : w1.frozen? ⟨H, 1, none⟩ = false := by simp [World.frozen?, I1]
                  have f2 : w1.frozen? ⟨H, 2, none⟩ = false := by simp [World.frozen?, I1]
                  have f3 : w1.frozen? ⟨H, 3, none⟩ = false := by simp [World.frozen?, I1]
                  have I1B : Bx _ := ⟨I1⟩
                  clear hb1 I1)
              obtain ⟨H6, hH6⟩ : ∃ x, w1.heap.size = x := ⟨_, rfl⟩
              have hlt6 : H < H6 := by omega
              have hne6 : ¬ H = H6 := by omega
              have hne6' : ¬ H6 = H := by omega
              obtain ⟨W2, hW2⟩ : ∃ x, w1.alloc (.cells #[.int .i64 op, .int .i64 0, .int .i64 0, .slice none 0 0] 28) = x := ⟨_, rfl⟩
              have E1 : Bx (W2.heap[H]? = some (.cells #[.int .i64 0, .int .i64 0, .int .i64 0, .slice none 0 0] 28 (0, 0))) := ⟨by rw [← hW2]; exact below_heap (below1 w1 _) I1B.out⟩
              have E2 : Bx (W2.heap[H6]? = some (.cells #[.int .i64 op, .int .i64 0, .int .i64 0, .slice none 0 0] 28 (0, 0))) := ⟨by rw [← hW2, ← hH6]; exact heap_new w1 _⟩
              have HB2 : Bx (Below H w W2) := ⟨by rw [← hW2]; exact HB1.out.trans ((below1 w1 _).mono (by omega))⟩
              have hs2 : H6 + 1 ≤ W2.heap.size := (Array.getElem?_eq_some_iff.1 E2.out).1
              have HF : Bx (∀ X, Below W2.heap.size W2 X → RF H H6 op X) := ⟨fun X hX => RF.of (below_heap hX E1.out) (below_heap hX E2.out)⟩
              have HBX : Bx (∀ X, Below W2.heap.size W2 X → Below H w X) := ⟨fun X hX => HB2.out.trans (hX.mono (by omega))⟩
              rw [hW2, hH6]
              clear c0 c1 c2 c3 f0 f1 f2 f3 hq HB1 E1 E2 HB2 I1B hW2 hH6
              have H1 : Bx (∀ X, Below W2.heap.size W2 X → Calls Tryd.prog 58 #[.int .i64 op] X fun e w' => e = .returned (.bool true) ∧ Below W2.heap.size W2 w') := ⟨fun X hX => (HA.out X).mono fun e w' h => ⟨h.1, hX.trans (h.2.mono hX.size)⟩⟩
              have hbr : Below W2.heap.size W2 W2 := Below.refl _ _
              have HD0 : Bx (∀ X, Below W2.heap.size W2 X → X.cell? ⟨H6, 0, none⟩ = some (.int .i64 op)) := ⟨fun X hX => by have := HF.out X hX; unfold RF at this; exact this.2.2.2.2.2.2.2.2.1⟩
              go_region_held3 (fun Y => Y.cell? ⟨H6, 0, none⟩ = some (.int .i64 op))
                (first | exact HD0.out _ hz1 | exact HD0.out _ hbr.drew)
                (first
                  | (go_at_call 58; refine Calls.mono (H1.out _ hbr.drew) ?_; rintro e z1 ⟨rfl, hz1⟩)
                  | (go_at_call 42; (first | refine Calls.mono (FT.out _) ?_ | refine Calls.mono (FF.out _) ?_); rintro e z' ⟨rfl, rfl⟩)
                  | (go_at_call 59; refine Calls.mono (HBb.out _) ?_; rintro e z' ⟨rfl, rfl⟩))
              have hf0 := HF.out z1 hz1
              unfold RF at hf0
              obtain ⟨c0, c1, c2, c3, f0, f1, f2, f3, d0, d1, d2, d3, g0, g1, g2, g3, q1, q2⟩ := hf0
              have HBZ : Bx (Below H w z1) := ⟨HBX.out _ hz1⟩
              have HZ1 : Bx _ := ⟨hz1⟩
              clear hz1
              go_wp2_with (go_at_call 60; refine (HLl.out _).mono ?_; rintro e z' ⟨rfl, rfl⟩)
              refine bodyPost_ret (v := .tuple #[.agg #[.int .i64 0, .int .i64 0, .int .i64 0, .slice none 0 0], .bool false]) (by simp [results, Tryd.results68, go_sem, c0, c1, c2, c3, q1]) rfl (HQ0.out _ _ hno rfl ?_)
              exact (((HBZ.out.setCell (p := ⟨H, 0, none⟩) (Nat.le_refl _) _).setCell (p := ⟨H, 1, none⟩) (Nat.le_refl _) _).setCell (p := ⟨H, 2, none⟩) (Nat.le_refl _) _).setCell (p := ⟨H, 3, none⟩) (Nat.le_refl _) _
            | true =>
              rw [hLL] at HLl
              have hff : firstI op = 1 := by unfold firstI; rw [hA, hB]; rfl
              have HY : Bx (insOf op ks = some ⟨op, ks[0]'(by omega), 0, ks.drop 1⟩) := ⟨by unfold insOf; rw [hff, if_neg (fun h => h.elim (fun h => h0 (F1.1 h)) fun h => h.elim (fun h => by omega) fun h => by rw [hLL] at h; cases h.2)]; rw [show ks.getD 0 0 = ks[0] by rw [List.getD_eq_getElem?_getD, List.getElem?_eq_getElem (by omega)]; rfl]; rfl⟩
              obtain ⟨b, o, rfl, hbl, hcs⟩ := HI.out.at_ (by omega)
              have hc0 := hcs 0 (by omega)
              rw [Nat.add_zero] at hc0
              generalize ks[0]'(by omega) = y0 at *
              have hbne : ¬ b = H := by omega
              clear hcs
              have hi1 : ¬ (n : Int) < 1 := by omega
              have hi2 : (1 : Int) < (n : Int) := by omega
              have hi3 : (n : Int) ≤ (cap : Int) := by omega
              have hi4 : (0 : Int) < (n : Int) := by omega
              clear F1 F2 F3
              go_enter Tryd.func68, Tryd.ntmps68
              go_wp2_with (
                  go_at_call 13; refine HO.mono ?_; clear HO; rintro e w1 ⟨rfl, hb1⟩
                  have HB1 : Bx (Below H w w1) := ⟨HB.out.trans (hb1.mono (by simp; omega))⟩
                  have I1 : w1.heap[H]? = some (.cells #[.int .i64 0, .int .i64 0, .int .i64 0, .slice none 0 0] 28 (0, 0)) := by rw [← hH]; exact below_heap hb1 (heap_new w _)
                  have hq : H < w1.heap.size := (Array.getElem?_eq_some_iff.1 I1).1
                  have c0 : w1.cell? ⟨H, 0, none⟩ = some (.int .i64 0) := cell_blk I1 rfl
                  have c1 : w1.cell? ⟨H, 1, none⟩ = some (.int .i64 0) := cell_blk I1 rfl
                  have c2 : w1.cell? ⟨H, 2, none⟩ = some (.int .i64 0) := cell_blk I1 rfl
                  have c3 : w1.cell? ⟨H, 3, none⟩ = some (.slice none 0 0) := cell_blk I1 rfl
                  have f0 : w1.frozen? ⟨H, 0, none⟩ = false := by simp [World.frozen?, I1]
                  have f1 : w1.frozen? ⟨H, 1, none⟩ = false := by simp [World.frozen?, I1]
                  have f2 : w1.frozen? ⟨H, 2, none⟩ = false := by simp [World.frozen?, I1]
                  have f3 : w1.frozen? ⟨H, 3, none⟩ = false := by simp [World.frozen?, I1]
                  have I1B : Bx _ := ⟨I1⟩
                  clear hb1 I1)
              obtain ⟨H6, hH6⟩ : ∃ x, w1.heap.size = x := ⟨_, rfl⟩
              have hlt6 : H < H6 := by omega
              have hne6 : ¬ H = H6 := by omega
              have hne6' : ¬ H6 = H := by omega
              obtain ⟨W2, hW2⟩ : ∃ x, w1.alloc (.cells #[.int .i64 op, .int .i64 0, .int .i64 0, .slice none 0 0] 28) = x := ⟨_, rfl⟩
              have E1 : Bx (W2.heap[H]? = some (.cells #[.int .i64 0, .int .i64 0, .int .i64 0, .slice none 0 0] 28 (0, 0))) := ⟨by rw [← hW2]; exact below_heap (below1 w1 _) I1B.out⟩
              have E2 : Bx (W2.heap[H6]? = some (.cells #[.int .i64 op, .int .i64 0, .int .i64 0, .slice none 0 0] 28 (0, 0))) := ⟨by rw [← hW2, ← hH6]; exact heap_new w1 _⟩
              have HB2 : Bx (Below H w W2) := ⟨by rw [← hW2]; exact HB1.out.trans ((below1 w1 _).mono (by omega))⟩
              have hs2 : H6 + 1 ≤ W2.heap.size := (Array.getElem?_eq_some_iff.1 E2.out).1
              have HF : Bx (∀ X, Below W2.heap.size W2 X → RF H H6 op X) := ⟨fun X hX => RF.of (below_heap hX E1.out) (below_heap hX E2.out)⟩
              have HBX : Bx (∀ X, Below W2.heap.size W2 X → Below H w X) := ⟨fun X hX => HB2.out.trans (hX.mono (by omega))⟩
              rw [hW2, hH6]
              clear c0 c1 c2 c3 f0 f1 f2 f3 hq HB1 E1 E2 HB2 I1B hW2 hH6
              have H1 : Bx (∀ X, Below W2.heap.size W2 X → Calls Tryd.prog 58 #[.int .i64 op] X fun e w' => e = .returned (.bool true) ∧ Below W2.heap.size W2 w') := ⟨fun X hX => (HA.out X).mono fun e w' h => ⟨h.1, hX.trans (h.2.mono hX.size)⟩⟩
              have hbr : Below W2.heap.size W2 W2 := Below.refl _ _
              have HD0 : Bx (∀ X, Below W2.heap.size W2 X → X.cell? ⟨H6, 0, none⟩ = some (.int .i64 op)) := ⟨fun X hX => by have := HF.out X hX; unfold RF at this; exact this.2.2.2.2.2.2.2.2.1⟩
              go_region_held3 (fun Y => Y.cell? ⟨H6, 0, none⟩ = some (.int .i64 op))
                (first | exact HD0.out _ hz1 | exact HD0.out _ hbr.drew)
                (first
                  | (go_at_call 58; refine Calls.mono (H1.out _ hbr.drew) ?_; rintro e z1 ⟨rfl, hz1⟩)
                  | (go_at_call 42; (first | refine Calls.mono (FT.out _) ?_ | refine Calls.mono (FF.out _) ?_); rintro e z' ⟨rfl, rfl⟩)
                  | (go_at_call 59; refine Calls.mono (HBb.out _) ?_; rintro e z' ⟨rfl, rfl⟩))
              have hf0 := HF.out z1 hz1
              unfold RF at hf0
              obtain ⟨c0, c1, c2, c3, f0, f1, f2, f3, d0, d1, d2, d3, g0, g1, g2, g3, q1, q2⟩ := hf0
              have HBZ : Bx (Below H w z1) := ⟨HBX.out _ hz1⟩
              have HZ1 : Bx _ := ⟨hz1⟩
              clear hz1
              go_wp2_with (first
                | (go_at_call 60; refine (HLl.out _).mono ?_; rintro e z' ⟨rfl, rfl⟩)
                | (go_at_call 58; refine Calls.mono (H1.out _ HZ1.out) ?_; rintro e z2 ⟨rfl, hz2⟩
                   clear c0 c1 c2 c3 f0 f1 f2 f3 d0 d1 d2 d3 g0 g1 g2 g3 q1 q2
                   have hf0 := HF.out z2 hz2
                   unfold RF at hf0
                   obtain ⟨c0, c1, c2, c3, f0, f1, f2, f3, d0, d1, d2, d3, g0, g1, g2, g3, q1, q2⟩ := hf0
                   have HBZ2 : Bx (Below H w z2) := ⟨HBX.out _ hz2⟩
                   have k0 : z2.cell? ⟨b, o, none⟩ = some (.int .i64 y0) := (HBZ2.out.cell (p := ⟨b, o, none⟩) hbl).trans hc0
                   have hbl2 : b < z2.heap.size := by omega
                   have hb6 : ¬ b = H6 := by omega
                   clear hz2)
                | (go_at_call 59; refine Calls.mono (HBb.out _) ?_; rintro e z' ⟨rfl, rfl⟩))
              refine bodyPost_ret (v := .tuple #[.agg #[.int .i64 op, .int .i64 y0, .int .i64 0, .slice (some ⟨b, o + 1, none⟩) (n - 1) (cap - 1)], .bool true]) (by simp [results, Tryd.results68, go_sem, c0, c1, c2, c3, d0, d1, d2, d3, q1, q2, hne6, hne6']) rfl (HQ1.out _ _ _ (some ⟨b, o + 1, none⟩) (cap - 1) HY.out (by simp [List.length_drop, hn]) ?_ ?_)
              · exact ⟨HI.out.drp 1 (by omega), .inr ⟨_, _, _, rfl, rfl⟩⟩
              · exact ((((((HBZ2.out.setCell (p := ⟨H6, 1, none⟩) (Nat.le_of_lt hlt6) _).setCell (p := ⟨H6, 3, none⟩) (Nat.le_of_lt hlt6) _).setCell (p := ⟨H, 0, none⟩) (Nat.le_refl _) _).setCell (p := ⟨H, 1, none⟩) (Nat.le_refl _) _).setCell (p := ⟨H, 2, none⟩) (Nat.le_refl _) _).setCell (p := ⟨H, 3, none⟩) (Nat.le_refl _) _)
      | true =>
        rw [hB] at HBb
        by_cases hc : n < 2
        · have hno : insOf op ks = none := by unfold insOf; rw [if_pos]; rw [(show firstI op = 2 by unfold firstI; rw [hA, hB]; rfl), hn]; exact .inr (.inl hc)
          have hi1 : (n : Int) < 2 := by omega
          clear F1 F2 F3
          go_enter Tryd.func68, Tryd.ntmps68
          go_wp2_with (
              go_at_call 13; refine HO.mono ?_; clear HO; rintro e w1 ⟨rfl, hb1⟩
              have HB1 : Bx (Below H w w1) := ⟨HB.out.trans (hb1.mono (by simp; omega))⟩
              have I1 : w1.heap[H]? = some (.cells #[.int .i64 0, .int .i64 0, .int .i64 0, .slice none 0 0] 28 (0, 0)) := by rw [← hH]; exact below_heap hb1 (heap_new w _)
              have hq : H < w1.heap.size := (Array.getElem?_eq_some_iff.1 I1).1
              have c0 : w1.cell? ⟨H, 0, none⟩ = some (.int .i64 0) := cell_blk I1 rfl
              have c1 : w1.cell? ⟨H, 1, none⟩ = some (.int .i64 0) := cell_blk I1 rfl
              have c2 : w1.cell? ⟨H, 2, none⟩ = some (.int .i64 0) := cell_blk I1 rfl
              have c3 : w1.cell? ⟨H, 3, none⟩ = some (.slice none 0 0) := cell_blk I1 rfl
              have f0 : w1.frozen? ⟨H, 0, none⟩ = false := by simp [World.frozen?, I1]
              have f1 : w1.frozen? ⟨H, 1, none⟩ = false := by simp [World.frozen?, I1]
              have f2 : w1.frozen? ⟨H, 2, none⟩ = false := by simp [World.frozen?, I1]
              have f3 : w1.frozen? ⟨H, 3, none⟩ = false := by simp [World.frozen?, I1]
              have I1B : Bx _ := ⟨I1⟩
              clear hb1 I1)
          obtain ⟨H6, hH6⟩ : ∃ x, w1.heap.size = x := ⟨_, rfl⟩
          have hlt6 : H < H6 := by omega
          have hne6 : ¬ H = H6 := by omega
          have hne6' : ¬ H6 = H := by omega
          obtain ⟨W2, hW2⟩ : ∃ x, w1.alloc (.cells #[.int .i64 op, .int .i64 0, .int .i64 0, .slice none 0 0] 28) = x := ⟨_, rfl⟩
          have E1 : Bx (W2.heap[H]? = some (.cells #[.int .i64 0, .int .i64 0, .int .i64 0, .slice none 0 0] 28 (0, 0))) := ⟨by rw [← hW2]; exact below_heap (below1 w1 _) I1B.out⟩
          have E2 : Bx (W2.heap[H6]? = some (.cells #[.int .i64 op, .int .i64 0, .int .i64 0, .slice none 0 0] 28 (0, 0))) := ⟨by rw [← hW2, ← hH6]; exact heap_new w1 _⟩
          have HB2 : Bx (Below H w W2) := ⟨by rw [← hW2]; exact HB1.out.trans ((below1 w1 _).mono (by omega))⟩
          have hs2 : H6 + 1 ≤ W2.heap.size := (Array.getElem?_eq_some_iff.1 E2.out).1
          have HF : Bx (∀ X, Below W2.heap.size W2 X → RF H H6 op X) := ⟨fun X hX => RF.of (below_heap hX E1.out) (below_heap hX E2.out)⟩
          have HBX : Bx (∀ X, Below W2.heap.size W2 X → Below H w X) := ⟨fun X hX => HB2.out.trans (hX.mono (by omega))⟩
          rw [hW2, hH6]
          clear c0 c1 c2 c3 f0 f1 f2 f3 hq HB1 E1 E2 HB2 I1B hW2 hH6
          have H1 : Bx (∀ X, Below W2.heap.size W2 X → Calls Tryd.prog 58 #[.int .i64 op] X fun e w' => e = .returned (.bool true) ∧ Below W2.heap.size W2 w') := ⟨fun X hX => (HA.out X).mono fun e w' h => ⟨h.1, hX.trans (h.2.mono hX.size)⟩⟩
          have hbr : Below W2.heap.size W2 W2 := Below.refl _ _
          have HD0 : Bx (∀ X, Below W2.heap.size W2 X → X.cell? ⟨H6, 0, none⟩ = some (.int .i64 op)) := ⟨fun X hX => by have := HF.out X hX; unfold RF at this; exact this.2.2.2.2.2.2.2.2.1⟩
          go_region_held3 (fun Y => Y.cell? ⟨H6, 0, none⟩ = some (.int .i64 op))
            (first | exact HD0.out _ hz1 | exact HD0.out _ hbr.drew)
            (first
              | (go_at_call 58; refine Calls.mono (H1.out _ hbr.drew) ?_; rintro e z1 ⟨rfl, hz1⟩)
              | (go_at_call 42; (first | refine Calls.mono (FT.out _) ?_ | refine Calls.mono (FF.out _) ?_); rintro e z' ⟨rfl, rfl⟩)
              | (go_at_call 59; refine Calls.mono (HBb.out _) ?_; rintro e z' ⟨rfl, rfl⟩))
          have hf0 := HF.out z1 hz1
          unfold RF at hf0
          obtain ⟨c0, c1, c2, c3, f0, f1, f2, f3, d0, d1, d2, d3, g0, g1, g2, g3, q1, q2⟩ := hf0
          have HBZ : Bx (Below H w z1) := ⟨HBX.out _ hz1⟩
          have HZ1 : Bx _ := ⟨hz1⟩
          clear hz1
          go_wp2_with (go_at_call 60; refine (HLl.out _).mono ?_; rintro e z' ⟨rfl, rfl⟩)
          refine bodyPost_ret (v := .tuple #[.agg #[.int .i64 0, .int .i64 0, .int .i64 0, .slice none 0 0], .bool false]) (by simp [results, Tryd.results68, go_sem, c0, c1, c2, c3, q1]) rfl (HQ0.out _ _ hno rfl ?_)
          exact (((HBZ.out.setCell (p := ⟨H, 0, none⟩) (Nat.le_refl _) _).setCell (p := ⟨H, 1, none⟩) (Nat.le_refl _) _).setCell (p := ⟨H, 2, none⟩) (Nat.le_refl _) _).setCell (p := ⟨H, 3, none⟩) (Nat.le_refl _) _
        · by_cases hc2 : n = 2
          · have hff : firstI op = 2 := by unfold firstI; rw [hA, hB]; rfl
            have HY : Bx (insOf op ks = some ⟨op, ks[0]'(by omega), ks[1]'(by omega), ks.drop 2⟩) := ⟨by unfold insOf; rw [hff, if_neg (fun h => h.elim (fun h => h0 (F1.1 h)) fun h => h.elim (fun h => by omega) fun h => by omega)]; rw [show ks.getD 0 0 = ks[0] by rw [List.getD_eq_getElem?_getD, List.getElem?_eq_getElem (by omega)]; rfl]; rw [show ks.getD 1 0 = ks[1] by rw [List.getD_eq_getElem?_getD, List.getElem?_eq_getElem (by omega)]; rfl]; rfl⟩
            obtain ⟨b, o, rfl, hbl, hcs⟩ := HI.out.at_ (by omega)
            have hc0 := hcs 0 (by omega)
            rw [Nat.add_zero] at hc0
            have hc1 := hcs 1 (by omega)
            generalize ks[0]'(by omega) = y0 at *
            generalize ks[1]'(by omega) = y1 at *
            have hbne : ¬ b = H := by omega
            clear hcs
            have hi1 : ¬ (n : Int) < 2 := by omega
            have hi2 : ¬ (2 : Int) < (n : Int) := by omega
            have hi3 : (n : Int) ≤ (cap : Int) := by omega
            have hi4 : (0 : Int) < (n : Int) := by omega
            have hi5 : (1 : Int) < (n : Int) := by omega
            clear F1 F2 F3
            go_enter Tryd.func68, Tryd.ntmps68
            go_wp2_with (
                go_at_call 13; refine HO.mono ?_; clear HO; rintro e w1 ⟨rfl, hb1⟩
                have HB1 : Bx (Below H w w1) := ⟨HB.out.trans (hb1.mono (by simp; omega))⟩
                have I1 : w1.heap[H]? = some (.cells #[.int .i64 0, .int .i64 0, .int .i64 0, .slice none 0 0] 28 (0, 0)) := by rw [← hH]; exact below_heap hb1 (heap_new w _)
                have hq : H < w1.heap.size := (Array.getElem?_eq_some_iff.1 I1).1
                have c0 : w1.cell? ⟨H, 0, none⟩ = some (.int .i64 0) := cell_blk I1 rfl
                have c1 : w1.cell? ⟨H, 1, none⟩ = some (.int .i64 0) := cell_blk I1 rfl
                have c2 : w1.cell? ⟨H, 2, none⟩ = some (.int .i64 0) := cell_blk I1 rfl
                have c3 : w1.cell? ⟨H, 3, none⟩ = some (.slice none 0 0) := cell_blk I1 rfl
                have f0 : w1.frozen? ⟨H, 0, none⟩ = false := by simp [World.frozen?, I1]
                have f1 : w1.frozen? ⟨H, 1, none⟩ = false := by simp [World.frozen?, I1]
                have f2 : w1.frozen? ⟨H, 2, none⟩ = false := by simp [World.frozen?, I1]
                have f3 : w1.frozen? ⟨H, 3, none⟩ = false := by simp [World.frozen?, I1]
                have I1B : Bx _ := ⟨I1⟩
                clear hb1 I1)
            obtain ⟨H6, hH6⟩ : ∃ x, w1.heap.size = x := ⟨_, rfl⟩
            have hlt6 : H < H6 := by omega
            have hne6 : ¬ H = H6 := by omega
            have hne6' : ¬ H6 = H := by omega
            obtain ⟨W2, hW2⟩ : ∃ x, w1.alloc (.cells #[.int .i64 op, .int .i64 0, .int .i64 0, .slice none 0 0] 28) = x := ⟨_, rfl⟩
            have E1 : Bx (W2.heap[H]? = some (.cells #[.int .i64 0, .int .i64 0, .int .i64 0, .slice none 0 0] 28 (0, 0))) := ⟨by rw [← hW2]; exact below_heap (below1 w1 _) I1B.out⟩
            have E2 : Bx (W2.heap[H6]? = some (.cells #[.int .i64 op, .int .i64 0, .int .i64 0, .slice none 0 0] 28 (0, 0))) := ⟨by rw [← hW2, ← hH6]; exact heap_new w1 _⟩
            have HB2 : Bx (Below H w W2) := ⟨by rw [← hW2]; exact HB1.out.trans ((below1 w1 _).mono (by omega))⟩
            have hs2 : H6 + 1 ≤ W2.heap.size := (Array.getElem?_eq_some_iff.1 E2.out).1
            have HF : Bx (∀ X, Below W2.heap.size W2 X → RF H H6 op X) := ⟨fun X hX => RF.of (below_heap hX E1.out) (below_heap hX E2.out)⟩
            have HBX : Bx (∀ X, Below W2.heap.size W2 X → Below H w X) := ⟨fun X hX => HB2.out.trans (hX.mono (by omega))⟩
            rw [hW2, hH6]
            clear c0 c1 c2 c3 f0 f1 f2 f3 hq HB1 E1 E2 HB2 I1B hW2 hH6
            have H1 : Bx (∀ X, Below W2.heap.size W2 X → Calls Tryd.prog 58 #[.int .i64 op] X fun e w' => e = .returned (.bool true) ∧ Below W2.heap.size W2 w') := ⟨fun X hX => (HA.out X).mono fun e w' h => ⟨h.1, hX.trans (h.2.mono hX.size)⟩⟩
            have hbr : Below W2.heap.size W2 W2 := Below.refl _ _
            have HD0 : Bx (∀ X, Below W2.heap.size W2 X → X.cell? ⟨H6, 0, none⟩ = some (.int .i64 op)) := ⟨fun X hX => by have := HF.out X hX; unfold RF at this; exact this.2.2.2.2.2.2.2.2.1⟩
            go_region_held3 (fun Y => Y.cell? ⟨H6, 0, none⟩ = some (.int .i64 op))
              (first | exact HD0.out _ hz1 | exact HD0.out _ hbr.drew)
              (first
                | (go_at_call 58; refine Calls.mono (H1.out _ hbr.drew) ?_; rintro e z1 ⟨rfl, hz1⟩)
                | (go_at_call 42; (first | refine Calls.mono (FT.out _) ?_ | refine Calls.mono (FF.out _) ?_); rintro e z' ⟨rfl, rfl⟩)
                | (go_at_call 59; refine Calls.mono (HBb.out _) ?_; rintro e z' ⟨rfl, rfl⟩))
            have hf0 := HF.out z1 hz1
            unfold RF at hf0
            obtain ⟨c0, c1, c2, c3, f0, f1, f2, f3, d0, d1, d2, d3, g0, g1, g2, g3, q1, q2⟩ := hf0
            have HBZ : Bx (Below H w z1) := ⟨HBX.out _ hz1⟩
            have HZ1 : Bx _ := ⟨hz1⟩
            clear hz1
            go_wp2_with (first
              | (go_at_call 60; refine (HLl.out _).mono ?_; rintro e z' ⟨rfl, rfl⟩)
              | (go_at_call 58; refine Calls.mono (H1.out _ HZ1.out) ?_; rintro e z2 ⟨rfl, hz2⟩
                 clear c0 c1 c2 c3 f0 f1 f2 f3 d0 d1 d2 d3 g0 g1 g2 g3 q1 q2
                 have hf0 := HF.out z2 hz2
                 unfold RF at hf0
                 obtain ⟨c0, c1, c2, c3, f0, f1, f2, f3, d0, d1, d2, d3, g0, g1, g2, g3, q1, q2⟩ := hf0
                 have HBZ2 : Bx (Below H w z2) := ⟨HBX.out _ hz2⟩
                 have k0 : z2.cell? ⟨b, o, none⟩ = some (.int .i64 y0) := (HBZ2.out.cell (p := ⟨b, o, none⟩) hbl).trans hc0
                 have k1 : z2.cell? ⟨b, o + 1, none⟩ = some (.int .i64 y1) := (HBZ2.out.cell (p := ⟨b, o + 1, none⟩) hbl).trans hc1
                 have hbl2 : b < z2.heap.size := by omega
                 have hb6 : ¬ b = H6 := by omega
                 clear hz2)
              | (go_at_call 59; refine Calls.mono (HBb.out _) ?_; rintro e z' ⟨rfl, rfl⟩))
            refine bodyPost_ret (v := .tuple #[.agg #[.int .i64 op, .int .i64 y0, .int .i64 y1, .slice none 0 0], .bool true]) (by simp [results, Tryd.results68, go_sem, c0, c1, c2, c3, d0, d1, d2, d3, q1, q2, hne6, hne6']) rfl (HQ1.out _ _ _ none 0 HY.out (by simp [List.length_drop, hn]; try omega) ?_ ?_)
            · rw [List.drop_of_length_le (by omega)]; exact ⟨intsV_nil _ _ _ _, .inl rfl⟩
            · exact ((((((HBZ2.out.setCell (p := ⟨H6, 1, none⟩) (Nat.le_of_lt hlt6) _).setCell (p := ⟨H6, 2, none⟩) (Nat.le_of_lt hlt6) _).setCell (p := ⟨H, 0, none⟩) (Nat.le_refl _) _).setCell (p := ⟨H, 1, none⟩) (Nat.le_refl _) _).setCell (p := ⟨H, 2, none⟩) (Nat.le_refl _) _).setCell (p := ⟨H, 3, none⟩) (Nat.le_refl _) _)
          · have hc : 2 < n := by omega
            cases hLL : hasLI op with
            | false =>
              rw [hLL] at HLl
              have hno : insOf op ks = none := by unfold insOf; rw [if_pos]; rw [(show firstI op = 2 by unfold firstI; rw [hA, hB]; rfl), hn]; exact .inr (.inr ⟨hc, hLL⟩)
              have hi1 : ¬ (n : Int) < 2 := by omega
              have hi2 : (2 : Int) < (n : Int) := by omega
              clear F1 F2 F3
              go_enter Tryd.func68, Tryd.ntmps68
              go_wp2_with (
                  go_at_call 13; refine HO.mono ?_; clear HO; rintro e w1 ⟨rfl, hb1⟩
                  have HB1 : Bx (Below H w w1) := ⟨HB.out.trans (hb1.mono (by simp; omega))⟩
                  have I1 : w1.heap[H]? = some (.cells #[.int .i64 0, .int .i64 0, .int .i64 0, .slice none 0 0] 28 (0, 0)) := by rw [← hH]; exact below_heap hb1 (heap_new w _)
                  have hq : H < w1.heap.size := (Array.getElem?_eq_some_iff.1 I1).1
                  have c0 : w1.cell? ⟨H, 0, none⟩ = some (.int .i64 0) := cell_blk I1 rfl
                  have c1 : w1.cell? ⟨H, 1, none⟩ = some (.int .i64 0) := cell_blk I1 rfl
                  have c2 : w1.cell? ⟨H, 2, none⟩ = some (.int .i64 0) := cell_blk I1 rfl
                  have c3 : w1.cell? ⟨H, 3, none⟩ = some (.slice none 0 0) := cell_blk I1 rfl
                  have f0 : w1.frozen? ⟨H, 0, none⟩ = false := by simp [World.frozen?, I1]
                  have f1 : w1.frozen? ⟨H, 1, none⟩ = false := by simp [World.frozen?, I1]
                  have f2 : w1.frozen? ⟨H, 2, none⟩ = false := by simp [World.frozen?, I1]
                  have f3 : w1.frozen? ⟨H, 3, none⟩ = false := by simp [World.frozen?, I1]
                  have I1B : Bx _ := ⟨I1⟩
                  clear hb1 I1)
              obtain ⟨H6, hH6⟩ : ∃ x, w1.heap.size = x := ⟨_, rfl⟩
              have hlt6 : H < H6 := by omega
              have hne6 : ¬ H = H6 := by omega
              have hne6' : ¬ H6 = H := by omega
              obtain ⟨W2, hW2⟩ : ∃ x, w1.alloc (.cells #[.int .i64 op, .int .i64 0, .int .i64 0, .slice none 0 0] 28) = x := ⟨_, rfl⟩
              have E1 : Bx (W2.heap[H]? = some (.cells #[.int .i64 0, .int .i64 0, .int .i64 0, .slice none 0 0] 28 (0, 0))) := ⟨by rw [← hW2]; exact below_heap (below1 w1 _) I1B.out⟩
              have E2 : Bx (W2.heap[H6]? = some (.cells #[.int .i64 op, .int .i64 0, .int .i64 0, .slice none 0 0] 28 (0, 0))) := ⟨by rw [← hW2, ← hH6]; exact heap_new w1 _⟩
              have HB2 : Bx (Below H w W2) := ⟨by rw [← hW2]; exact HB1.out.trans ((below1 w1 _).mono (by omega))⟩
              have hs2 : H6 + 1 ≤ W2.heap.size := (Array.getElem?_eq_some_iff.1 E2.out).1
              have HF : Bx (∀ X, Below W2.heap.size W2 X → RF H H6 op X) := ⟨fun X hX => RF.of (below_heap hX E1.out) (below_heap hX E2.out)⟩
              have HBX : Bx (∀ X, Below W2.heap.size W2 X → Below H w X) := ⟨fun X hX => HB2.out.trans (hX.mono (by omega))⟩
              rw [hW2, hH6]
              clear c0 c1 c2 c3 f0 f1 f2 f3 hq HB1 E1 E2 HB2 I1B hW2 hH6
              have H1 : Bx (∀ X, Below W2.heap.size W2 X → Calls Tryd.prog 58 #[.int .i64 op] X fun e w' => e = .returned (.bool true) ∧ Below W2.heap.size W2 w') := ⟨fun X hX => (HA.out X).mono fun e w' h => ⟨h.1, hX.trans (h.2.mono hX.size)⟩⟩
              have hbr : Below W2.heap.size W2 W2 := Below.refl _ _
              have HD0 : Bx (∀ X, Below W2.heap.size W2 X → X.cell? ⟨H6, 0, none⟩ = some (.int .i64 op)) := ⟨fun X hX => by have := HF.out X hX; unfold RF at this; exact this.2.2.2.2.2.2.2.2.1⟩
              go_region_held3 (fun Y => Y.cell? ⟨H6, 0, none⟩ = some (.int .i64 op))
                (first | exact HD0.out _ hz1 | exact HD0.out _ hbr.drew)
                (first
                  | (go_at_call 58; refine Calls.mono (H1.out _ hbr.drew) ?_; rintro e z1 ⟨rfl, hz1⟩)
                  | (go_at_call 42; (first | refine Calls.mono (FT.out _) ?_ | refine Calls.mono (FF.out _) ?_); rintro e z' ⟨rfl, rfl⟩)
                  | (go_at_call 59; refine Calls.mono (HBb.out _) ?_; rintro e z' ⟨rfl, rfl⟩))
              have hf0 := HF.out z1 hz1
              unfold RF at hf0
              obtain ⟨c0, c1, c2, c3, f0, f1, f2, f3, d0, d1, d2, d3, g0, g1, g2, g3, q1, q2⟩ := hf0
              have HBZ : Bx (Below H w z1) := ⟨HBX.out _ hz1⟩
              have HZ1 : Bx _ := ⟨hz1⟩
              clear hz1
              go_wp2_with (go_at_call 60; refine (HLl.out _).mono ?_; rintro e z' ⟨rfl, rfl⟩)
              refine bodyPost_ret (v := .tuple #[.agg #[.int .i64 0, .int .i64 0, .int .i64 0, .slice none 0 0], .bool false]) (by simp [results, Tryd.results68, go_sem, c0, c1, c2, c3, q1]) rfl (HQ0.out _ _ hno rfl ?_)
              exact (((HBZ.out.setCell (p := ⟨H, 0, none⟩) (Nat.le_refl _) _).setCell (p := ⟨H, 1, none⟩) (Nat.le_refl _) _).setCell (p := ⟨H, 2, none⟩) (Nat.le_refl _) _).setCell (p := ⟨H, 3, none⟩) (Nat.le_refl _) _
            | true =>
              rw [hLL] at HLl
              have hff : firstI op = 2 := by unfold firstI; rw [hA, hB]; rfl
              have HY : Bx (insOf op ks = some ⟨op, ks[0]'(by omega), ks[1]'(by omega), ks.drop 2⟩) := ⟨by unfold insOf; rw [hff, if_neg (fun h => h.elim (fun h => h0 (F1.1 h)) fun h => h.elim (fun h => by omega) fun h => by rw [hLL] at h; cases h.2)]; rw [show ks.getD 0 0 = ks[0] by rw [List.getD_eq_getElem?_getD, List.getElem?_eq_getElem (by omega)]; rfl]; rw [show ks.getD 1 0 = ks[1] by rw [List.getD_eq_getElem?_getD, List.getElem?_eq_getElem (by omega)]; rfl]; rfl⟩
              obtain ⟨b, o, rfl, hbl, hcs⟩ := HI.out.at_ (by omega)
              have hc0 := hcs 0 (by omega)
              rw [Nat.add_zero] at hc0
              have hc1 := hcs 1 (by omega)
              generalize ks[0]'(by omega) = y0 at *
              generalize ks[1]'(by omega) = y1 at *
              have hbne : ¬ b = H := by omega
              clear hcs
              have hi1 : ¬ (n : Int) < 2 := by omega
              have hi2 : (2 : Int) < (n : Int) := by omega
              have hi3 : (n : Int) ≤ (cap : Int) := by omega
              have hi4 : (0 : Int) < (n : Int) := by omega
              have hi5 : (1 : Int) < (n : Int) := by omega
              clear F1 F2 F3
              go_enter Tryd.func68, Tryd.ntmps68
              go_wp2_with (
                  go_at_call 13; refine HO.mono ?_; clear HO; rintro e w1 ⟨rfl, hb1⟩
                  have HB1 : Bx (Below H w w1) := ⟨HB.out.trans (hb1.mono (by simp; omega))⟩
                  have I1 : w1.heap[H]? = some (.cells #[.int .i64 0, .int .i64 0, .int .i64 0, .slice none 0 0] 28 (0, 0)) := by rw [← hH]; exact below_heap hb1 (heap_new w _)
                  have hq : H < w1.heap.size := (Array.getElem?_eq_some_iff.1 I1).1
                  have c0 : w1.cell? ⟨H, 0, none⟩ = some (.int .i64 0) := cell_blk I1 rfl
                  have c1 : w1.cell? ⟨H, 1, none⟩ = some (.int .i64 0) := cell_blk I1 rfl
                  have c2 : w1.cell? ⟨H, 2, none⟩ = some (.int .i64 0) := cell_blk I1 rfl
                  have c3 : w1.cell? ⟨H, 3, none⟩ = some (.slice none 0 0) := cell_blk I1 rfl
                  have f0 : w1.frozen? ⟨H, 0, none⟩ = false := by simp [World.frozen?, I1]
                  have f1 : w1.frozen? ⟨H, 1, none⟩ = false := by simp [World.frozen?, I1]
                  have f2 : w1.frozen? ⟨H, 2, none⟩ = false := by simp [World.frozen?, I1]
                  have f3 : w1.frozen? ⟨H, 3, none⟩ = false := by simp [World.frozen?, I1]
                  have I1B : Bx _ := ⟨I1⟩
                  clear hb1 I1)
              obtain ⟨H6, hH6⟩ : ∃ x, w1.heap.size = x := ⟨_, rfl⟩
              have hlt6 : H < H6 := by omega
              have hne6 : ¬ H = H6 := by omega
              have hne6' : ¬ H6 = H := by omega
              obtain ⟨W2, hW2⟩ : ∃ x, w1.alloc (.cells #[.int .i64 op, .int .i64 0, .int .i64 0, .slice none 0 0] 28) = x := ⟨_, rfl⟩
              have E1 : Bx (W2.heap[H]? = some (.cells #[.int .i64 0, .int .i64 0, .int .i64 0, .slice none 0 0] 28 (0, 0))) := ⟨by rw [← hW2]; exact below_heap (below1 w1 _) I1B.out⟩
              have E2 : Bx (W2.heap[H6]? = some (.cells #[.int .i64 op, .int .i64 0, .int .i64 0, .slice none 0 0] 28 (0, 0))) := ⟨by rw [← hW2, ← hH6]; exact heap_new w1 _⟩
              have HB2 : Bx (Below H w W2) := ⟨by rw [← hW2]; exact HB1.out.trans ((below1 w1 _).mono (by omega))⟩
              have hs2 : H6 + 1 ≤ W2.heap.size := (Array.getElem?_eq_some_iff.1 E2.out).1
              have HF : Bx (∀ X, Below W2.heap.size W2 X → RF H H6 op X) := ⟨fun X hX => RF.of (below_heap hX E1.out) (below_heap hX E2.out)⟩
              have HBX : Bx (∀ X, Below W2.heap.size W2 X → Below H w X) := ⟨fun X hX => HB2.out.trans (hX.mono (by omega))⟩
              rw [hW2, hH6]
              clear c0 c1 c2 c3 f0 f1 f2 f3 hq HB1 E1 E2 HB2 I1B hW2 hH6
              have H1 : Bx (∀ X, Below W2.heap.size W2 X → Calls Tryd.prog 58 #[.int .i64 op] X fun e w' => e = .returned (.bool true) ∧ Below W2.heap.size W2 w') := ⟨fun X hX => (HA.out X).mono fun e w' h => ⟨h.1, hX.trans (h.2.mono hX.size)⟩⟩
              have hbr : Below W2.heap.size W2 W2 := Below.refl _ _
              have HD0 : Bx (∀ X, Below W2.heap.size W2 X → X.cell? ⟨H6, 0, none⟩ = some (.int .i64 op)) := ⟨fun X hX => by have := HF.out X hX; unfold RF at this; exact this.2.2.2.2.2.2.2.2.1⟩
              go_region_held3 (fun Y => Y.cell? ⟨H6, 0, none⟩ = some (.int .i64 op))
                (first | exact HD0.out _ hz1 | exact HD0.out _ hbr.drew)
                (first
                  | (go_at_call 58; refine Calls.mono (H1.out _ hbr.drew) ?_; rintro e z1 ⟨rfl, hz1⟩)
                  | (go_at_call 42; (first | refine Calls.mono (FT.out _) ?_ | refine Calls.mono (FF.out _) ?_); rintro e z' ⟨rfl, rfl⟩)
                  | (go_at_call 59; refine Calls.mono (HBb.out _) ?_; rintro e z' ⟨rfl, rfl⟩))
              have hf0 := HF.out z1 hz1
              unfold RF at hf0
              obtain ⟨c0, c1, c2, c3, f0, f1, f2, f3, d0, d1, d2, d3, g0, g1, g2, g3, q1, q2⟩ := hf0
              have HBZ : Bx (Below H w z1) := ⟨HBX.out _ hz1⟩
              have HZ1 : Bx _ := ⟨hz1⟩
              clear hz1
              go_wp2_with (first
                | (go_at_call 60; refine (HLl.out _).mono ?_; rintro e z' ⟨rfl, rfl⟩)
                | (go_at_call 58; refine Calls.mono (H1.out _ HZ1.out) ?_; rintro e z2 ⟨rfl, hz2⟩
                   clear c0 c1 c2 c3 f0 f1 f2 f3 d0 d1 d2 d3 g0 g1 g2 g3 q1 q2
                   have hf0 := HF.out z2 hz2
                   unfold RF at hf0
                   obtain ⟨c0, c1, c2, c3, f0, f1, f2, f3, d0, d1, d2, d3, g0, g1, g2, g3, q1, q2⟩ := hf0
                   have HBZ2 : Bx (Below H w z2) := ⟨HBX.out _ hz2⟩
                   have k0 : z2.cell? ⟨b, o, none⟩ = some (.int .i64 y0) := (HBZ2.out.cell (p := ⟨b, o, none⟩) hbl).trans hc0
                   have k1 : z2.cell? ⟨b, o + 1, none⟩ = some (.int .i64 y1) := (HBZ2.out.cell (p := ⟨b, o + 1, none⟩) hbl).trans hc1
                   have hbl2 : b < z2.heap.size := by omega
                   have hb6 : ¬ b = H6 := by omega
                   clear hz2)
                | (go_at_call 59; refine Calls.mono (HBb.out _) ?_; rintro e z' ⟨rfl, rfl⟩))
              refine bodyPost_ret (v := .tuple #[.agg #[.int .i64 op, .int .i64 y0, .int .i64 y1, .slice (some ⟨b, o + 2, none⟩) (n - 2) (cap - 2)], .bool true]) (by simp [results, Tryd.results68, go_sem, c0, c1, c2, c3, d0, d1, d2, d3, q1, q2, hne6, hne6']) rfl (HQ1.out _ _ _ (some ⟨b, o + 2, none⟩) (cap - 2) HY.out (by simp [List.length_drop, hn]) ?_ ?_)
              · exact ⟨HI.out.drp 2 (by omega), .inr ⟨_, _, _, rfl, rfl⟩⟩
              · exact (((((((HBZ2.out.setCell (p := ⟨H6, 1, none⟩) (Nat.le_of_lt hlt6) _).setCell (p := ⟨H6, 2, none⟩) (Nat.le_of_lt hlt6) _).setCell (p := ⟨H6, 3, none⟩) (Nat.le_of_lt hlt6) _).setCell (p := ⟨H, 0, none⟩) (Nat.le_refl _) _).setCell (p := ⟨H, 1, none⟩) (Nat.le_refl _) _).setCell (p := ⟨H, 2, none⟩) (Nat.le_refl _) _).setCell (p := ⟨H, 3, none⟩) (Nat.le_refl _) _)
end Go.Proofs.YtijdcplffmdijaaDoor
