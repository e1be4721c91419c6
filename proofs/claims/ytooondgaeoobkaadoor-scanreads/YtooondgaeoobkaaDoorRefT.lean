import Derived.Test.YtooondgaeoobkaaDoorSign
namespace Go.Proofs.YtooondgaeoobkaaDoor
open Go.RowKit
set_option linter.unusedVariables false
set_option linter.unusedSimpArgs false

theorem tab_new (W : World) (T : List (List UInt8)) : TabAt (W.alloc (.cells (T.map fun l => Value.string ⟨l.toArray⟩).toArray 9)) W.heap.size T := by
  intro i hi
  rw [cell_of_row _ W.heap.size i _ 9 (0, 0) (heap_alloc_new W _)]
  simp [hi]

theorem refWords (w : World) : Calls Tryd.prog 19 #[] w fun e w' => e = .returned (.slice (some ⟨w.heap.size, 0, none⟩) 21 21) ∧ w' = w.alloc (.cells (wordsT.map fun l => Value.string ⟨l.toArray⟩).toArray 9) := by
  go_enter Tryd.func19, Tryd.ntmps19
  go_wp2
  go_ret
  exact ⟨rfl, rfl⟩
theorem refSigns (w : World) : Calls Tryd.prog 20 #[] w fun e w' => e = .returned (.slice (some ⟨w.heap.size, 0, none⟩) 27 27) ∧ w' = w.alloc (.cells (signsT.map fun l => Value.string ⟨l.toArray⟩).toArray 9) := by
  go_enter Tryd.func20, Tryd.ntmps20
  go_wp2
  go_ret
  exact ⟨rfl, rfl⟩
/-- a fresh table -/
theorem refWords' (w : World) : Calls Tryd.prog 19 #[] w fun e w' => ∃ g, e = .returned (.slice (some ⟨g, 0, none⟩) 21 21) ∧ TabAt w' g wordsT ∧ g < w'.heap.size ∧ Below w.heap.size w w' := by
  refine (refWords w).mono ?_
  rintro e w' ⟨rfl, rfl⟩
  exact ⟨w.heap.size, rfl, tab_new w wordsT, by simp, (Below.refl _ _).alloc (Nat.le_refl _) _⟩
theorem refSigns' (w : World) : Calls Tryd.prog 20 #[] w fun e w' => ∃ g, e = .returned (.slice (some ⟨g, 0, none⟩) 27 27) ∧ TabAt w' g signsT ∧ g < w'.heap.size ∧ Below w.heap.size w w' := by
  refine (refSigns w).mono ?_
  rintro e w' ⟨rfl, rfl⟩
  exact ⟨w.heap.size, rfl, tab_new w signsT, by simp, (Below.refl _ _).alloc (Nat.le_refl _) _⟩

set_option maxHeartbeats 400000 in
theorem refText_any (k : Int) (w : World) :
    Calls Tryd.prog 11 #[.int .i64 k] w fun e w' => e = .returned (.string ⟨(textK k).toArray⟩) ∧ Below w.heap.size w w' := by
  by_cases h1 : 10 ≤ k ∧ k < 31
  · obtain ⟨j, rfl⟩ : ∃ j : Nat, k = 10 + (j : Int) := ⟨(k - 10).toNat, by omega⟩
    have hj : j < 21 := by omega
    have HK : Box (textK (10 + (j : Int)) = wordsT.getD j []) := by
      refine ⟨?_⟩
      unfold textK; rw [if_pos h1, show (10 + (j : Int) - 10).toNat = j by omega]
    obtain ⟨h2, h3⟩ := h1
    go_enter Tryd.func11, Tryd.ntmps11
    go_wp2_with (first | (go_at_call 19; refine (refWords' _).mono ?_; rintro e w1 ⟨g, rfl, t1, l1, b1⟩) | (go_at_call 20; refine (refSigns' _).mono ?_; rintro e w2 ⟨g2, rfl, t2, l2, b2⟩; have hc := t1.below l1 b2 j hj))
    go_ret
    exact ⟨by rw [HK.out]; rfl, b1.trans (b2.mono b1.size)⟩
  · by_cases h2 : 40 ≤ k ∧ k < 67
    · obtain ⟨j, rfl⟩ : ∃ j : Nat, k = 40 + (j : Int) := ⟨(k - 40).toNat, by omega⟩
      have hj : j < 27 := by omega
      have HK : Box (textK (40 + (j : Int)) = signsT.getD j []) := by
        refine ⟨?_⟩
        unfold textK; rw [if_neg h1, if_pos h2, show (40 + (j : Int) - 40).toNat = j by omega]
      have h4 : decide (40 + (j : Int) < 31) = false := by simp; omega
      have h5 : (10 : Int) ≤ 40 + (j : Int) := by omega
      clear h1
      obtain ⟨h2, h3⟩ := h2
      go_enter Tryd.func11, Tryd.ntmps11
      go_wp2_with (first | (go_at_call 19; refine (refWords' _).mono ?_; rintro e w1 ⟨g, rfl, t1, l1, b1⟩) | (go_at_call 20; refine (refSigns' _).mono ?_; rintro e w2 ⟨g2, rfl, t2, l2, b2⟩; have hc := t2 j hj))
      go_ret
      exact ⟨by rw [HK.out]; rfl, b1.trans (b2.mono b1.size)⟩
    · have HK : Box (textK k = []) := ⟨by unfold textK; rw [if_neg h1, if_neg h2]⟩
      by_cases a1 : k < 10
      · clear h1 h2
        go_enter Tryd.func11, Tryd.ntmps11
        go_wp2_with (first | (go_at_call 19; refine (refWords' _).mono ?_; rintro e w1 ⟨g, rfl, t1, l1, b1⟩) | (go_at_call 20; refine (refSigns' _).mono ?_; rintro e w2 ⟨g2, rfl, t2, l2, b2⟩))
        go_ret
        exact ⟨by rw [HK.out]; rfl, b1.trans (b2.mono b1.size)⟩
      · by_cases a2 : k < 40
        · have a3 : 31 ≤ k := by omega
          clear h1 h2
          go_enter Tryd.func11, Tryd.ntmps11
          go_wp2_with (first | (go_at_call 19; refine (refWords' _).mono ?_; rintro e w1 ⟨g, rfl, t1, l1, b1⟩) | (go_at_call 20; refine (refSigns' _).mono ?_; rintro e w2 ⟨g2, rfl, t2, l2, b2⟩))
          go_ret
          exact ⟨by rw [HK.out]; rfl, b1.trans (b2.mono b1.size)⟩
        · have a3 : 67 ≤ k := by omega
          clear h1 h2
          go_enter Tryd.func11, Tryd.ntmps11
          go_wp2_with (first | (go_at_call 19; refine (refWords' _).mono ?_; rintro e w1 ⟨g, rfl, t1, l1, b1⟩) | (go_at_call 20; refine (refSigns' _).mono ?_; rintro e w2 ⟨g2, rfl, t2, l2, b2⟩))
          go_ret
          exact ⟨by rw [HK.out]; rfl, b1.trans (b2.mono b1.size)⟩

set_option maxHeartbeats 400000 in
theorem refKind_any (s : ByteArray) (w : World) :
    Calls Tryd.prog 12 #[.string s] w fun e w' => e = .returned (.int .i64 (kindK s.toList)) ∧ Below w.heap.size w w' := by
  have hw10 : ∀ (T : List (List UInt8)) (n : Nat) (t : List UInt8), kindFrom T n t = 0 ∨ n ≤ kindFrom T n t := by
    intro T
    induction T with
    | nil => intro n t; exact .inl rfl
    | cons x r ih =>
      intro n t
      simp only [kindFrom]
      split
      · exact .inr (Nat.le_refl _)
      · rcases ih (n + 1) t with h | h
        · exact .inl h
        · exact .inr (by omega)
  have hk1 : ∀ j, wordK s.toList = 10 + j → kindK s.toList = 10 + j := fun j h => by unfold kindK; rw [if_neg (by omega)]; exact h
  have hk2 : wordK s.toList = 0 → kindK s.toList = signK s.toList := fun h => by unfold kindK; rw [if_pos h]
  have HK1 : Box _ := ⟨hk1⟩
  have HK2 : Box _ := ⟨hk2⟩
  clear hw10 hk1 hk2
  go_enter Tryd.func12, Tryd.ntmps12
  go_wp2_with (first | (go_at_call 19; refine (refWords' _).mono ?_; rintro e w1 ⟨g, rfl, t1, l1, b1⟩))
  go_loop [4] (fun i => ∃ j : Nat, j ≤ 21 ∧ i = .int .i64 j ∧ Box (wordK s.toList = kindFrom (wordsT.drop j) (10 + j) s.toList)) (fun i => 21 - (intOf i).toNat)
  case atStart => exact ⟨0, by omega, rfl, ⟨rfl⟩⟩
  case round =>
    obtain ⟨j, hj, rfl, H⟩ := hrel
    by_cases hlt : j < 21
    · have hc := t1 j hlt
      cases hq : (wordsT[j]?.getD [] == s.toList)
      · have HQ : Box (wordK s.toList = kindFrom (wordsT.drop (j + 1)) (10 + (j + 1)) s.toList) := by
          have := kindFrom_no wordsT j (10 + j) s.toList hlt hq
          exact ⟨H.out.trans this⟩
        go_wp2
        go_round
        case rel => exact ⟨j + 1, by omega, by go_num, HQ⟩
        case measure => simp [intOf]; omega
      · have HQ : Box (wordK s.toList = 10 + j) := ⟨H.out.trans (kindFrom_yes wordsT j (10 + j) s.toList hlt hq)⟩
        go_wp2
        go_ret
        exact ⟨ret_int (by rw [HK1.out j HQ.out]; omega), b1⟩
    · have HQ : Box (wordK s.toList = 0) := ⟨H.out.trans (by rw [List.drop_eq_nil_of_le (show wordsT.length ≤ j from Nat.le_of_not_lt hlt)]; rfl)⟩
      go_wp2_with (first | (go_at_call 20; refine (refSigns' _).mono ?_; rintro e w2 ⟨g2, rfl, t2, l2, b2⟩))
      go_loop [6] (fun i => ∃ j : Nat, j ≤ 27 ∧ i = .int .i64 j ∧ Box (signK s.toList = kindFrom (signsT.drop j) (40 + j) s.toList)) (fun i => 27 - (intOf i).toNat)
      case atStart => exact ⟨0, by omega, rfl, ⟨rfl⟩⟩
      case round =>
        obtain ⟨i, hi, rfl, H⟩ := hrel
        by_cases hli : i < 27
        · have hc := t2 i hli
          cases hq : (signsT[i]?.getD [] == s.toList)
          · have HR : Box (signK s.toList = kindFrom (signsT.drop (i + 1)) (40 + (i + 1)) s.toList) := by
              have := kindFrom_no signsT i (40 + i) s.toList hli hq
              exact ⟨H.out.trans this⟩
            go_wp2
            go_round
            case rel => exact ⟨i + 1, by omega, by go_num, HR⟩
            case measure => simp [intOf]; omega
          · have HR : Box (signK s.toList = 40 + i) := ⟨H.out.trans (kindFrom_yes signsT i (40 + i) s.toList hli hq)⟩
            go_wp2
            go_ret
            exact ⟨ret_int (by rw [HK2.out HQ.out, HR.out]; omega), b1.trans (b2.mono b1.size)⟩
        · have HR : Box (signK s.toList = 0) := ⟨H.out.trans (by rw [List.drop_eq_nil_of_le (show signsT.length ≤ i from Nat.le_of_not_lt hli)]; rfl)⟩
          go_wp2
          go_ret
          exact ⟨ret_int (by rw [HK2.out HQ.out, HR.out]; rfl), b1.trans (b2.mono b1.size)⟩
end Go.Proofs.YtooondgaeoobkaaDoor
