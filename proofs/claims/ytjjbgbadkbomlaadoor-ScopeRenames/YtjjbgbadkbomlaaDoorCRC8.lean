import Derived.Test.YtjjbgbadkbomlaaDoorCSignP
import Derived.Test.YtjjbgbadkbomlaaDoorCCovQ
import Derived.Test.YtjjbgbadkbomlaaDoorCTName
import Derived.Deep.RegionHeld
import Derived.Deep.QuietTactic
import Derived.BigQuiet
namespace Go.Proofs.YtjjbgbadkbomlaaDoor
open Go.RowKit
set_option linter.unusedVariables false
set_option linter.unusedSimpArgs false

theorem tab_new (W : World) (T : List (List UInt8)) : TabAt (W.alloc (.cells (T.map fun l => Value.string ⟨l.toArray⟩).toArray 9)) W.heap.size T := by
  intro i hi
  rw [cell_of_row _ W.heap.size i _ 9 (0, 0) (heap_alloc_new W _)]
  simp [hi]

theorem refWords (w : World) : Calls Tryd.prog 32 #[] w fun e w' => e = .returned (.slice (some ⟨w.heap.size, 0, none⟩) 21 21) ∧ w' = w.alloc (.cells (wordsT.map fun l => Value.string ⟨l.toArray⟩).toArray 9) := by
  go_enter Tryd.func32, Tryd.ntmps32
  go_wp2
  go_ret
  exact ⟨rfl, rfl⟩
theorem refSigns (w : World) : Calls Tryd.prog 33 #[] w fun e w' => e = .returned (.slice (some ⟨w.heap.size, 0, none⟩) 27 27) ∧ w' = w.alloc (.cells (signsT.map fun l => Value.string ⟨l.toArray⟩).toArray 9) := by
  go_enter Tryd.func33, Tryd.ntmps33
  go_wp2
  go_ret
  exact ⟨rfl, rfl⟩
/-- a fresh table -/
theorem refWords' (w : World) : Calls Tryd.prog 32 #[] w fun e w' => ∃ g, e = .returned (.slice (some ⟨g, 0, none⟩) 21 21) ∧ TabAt w' g wordsT ∧ g < w'.heap.size ∧ Below w.heap.size w w' := by
  refine (refWords w).mono ?_
  rintro e w' ⟨rfl, rfl⟩
  exact ⟨w.heap.size, rfl, tab_new w wordsT, by simp, (Below.refl _ _).alloc (Nat.le_refl _) _⟩
theorem refSigns' (w : World) : Calls Tryd.prog 33 #[] w fun e w' => ∃ g, e = .returned (.slice (some ⟨g, 0, none⟩) 27 27) ∧ TabAt w' g signsT ∧ g < w'.heap.size ∧ Below w.heap.size w w' := by
  refine (refSigns w).mono ?_
  rintro e w' ⟨rfl, rfl⟩
  exact ⟨w.heap.size, rfl, tab_new w signsT, by simp, (Below.refl _ _).alloc (Nat.le_refl _) _⟩

set_option maxHeartbeats 400000 in
theorem refKind_any (s : ByteArray) (w : World) :
    Calls Tryd.prog 22 #[.string s] w fun e w' => e = .returned (.int .i64 (kindK s.toList)) ∧ Below w.heap.size w w' := by
  have hw10 : ∀ (T : List (List UInt8)) (n : Nat) (t : List UInt8), kindFrom T n t = 0 ∨ n ≤ kindFrom T n t := by
    intro T
    induction T with
    | nil => intro n t; exact .inl rfl
    | cons x r ih =>
      intro n t
      simp only [kindFrom]
      split
      · exact .inr (Nat.le_refl _)
      · rcases ih (n + 1) t with h | h
        · exact .inl h
        · exact .inr (by omega)
  have hk1 : ∀ j, wordK s.toList = 10 + j → kindK s.toList = 10 + j := fun j h => by unfold kindK; rw [if_neg (by omega)]; exact h
  have hk2 : wordK s.toList = 0 → kindK s.toList = signK s.toList := fun h => by unfold kindK; rw [if_pos h]
  have HK1 : Box _ := ⟨hk1⟩
  have HK2 : Box _ := ⟨hk2⟩
  clear hw10 hk1 hk2
  go_enter Tryd.func22, Tryd.ntmps22
  go_wp2_with (first | (go_at_call 32; refine (refWords' _).mono ?_; rintro e w1 ⟨g, rfl, t1, l1, b1⟩))
  go_loop [4] (fun i => ∃ j : Nat, j ≤ 21 ∧ i = .int .i64 j ∧ Box (wordK s.toList = kindFrom (wordsT.drop j) (10 + j) s.toList)) (fun i => 21 - (intOf i).toNat)
  case atStart => exact ⟨0, by omega, rfl, ⟨rfl⟩⟩
  case round =>
    obtain ⟨j, hj, rfl, H⟩ := hrel
    by_cases hlt : j < 21
    · have hc := t1 j hlt
      cases hq : (wordsT[j]?.getD [] == s.toList)
      · have HQ : Box (wordK s.toList = kindFrom (wordsT.drop (j + 1)) (10 + (j + 1)) s.toList) := by
          have := kindFrom_no wordsT j (10 + j) s.toList hlt hq
          exact ⟨H.out.trans this⟩
        go_wp2
        go_round
        case rel => exact ⟨j + 1, by omega, by go_num, HQ⟩
        case measure => simp [intOf]; omega
      · have HQ : Box (wordK s.toList = 10 + j) := ⟨H.out.trans (kindFrom_yes wordsT j (10 + j) s.toList hlt hq)⟩
        go_wp2
        go_ret
        exact ⟨ret_int (by rw [HK1.out j HQ.out]; omega), b1⟩
    · have HQ : Box (wordK s.toList = 0) := ⟨H.out.trans (by rw [List.drop_eq_nil_of_le (show wordsT.length ≤ j from Nat.le_of_not_lt hlt)]; rfl)⟩
      go_wp2_with (first | (go_at_call 33; refine (refSigns' _).mono ?_; rintro e w2 ⟨g2, rfl, t2, l2, b2⟩))
      go_loop [6] (fun i => ∃ j : Nat, j ≤ 27 ∧ i = .int .i64 j ∧ Box (signK s.toList = kindFrom (signsT.drop j) (40 + j) s.toList)) (fun i => 27 - (intOf i).toNat)
      case atStart => exact ⟨0, by omega, rfl, ⟨rfl⟩⟩
      case round =>
        obtain ⟨i, hi, rfl, H⟩ := hrel
        by_cases hli : i < 27
        · have hc := t2 i hli
          cases hq : (signsT[i]?.getD [] == s.toList)
          · have HR : Box (signK s.toList = kindFrom (signsT.drop (i + 1)) (40 + (i + 1)) s.toList) := by
              have := kindFrom_no signsT i (40 + i) s.toList hli hq
              exact ⟨H.out.trans this⟩
            go_wp2
            go_round
            case rel => exact ⟨i + 1, by omega, by go_num, HR⟩
            case measure => simp [intOf]; omega
          · have HR : Box (signK s.toList = 40 + i) := ⟨H.out.trans (kindFrom_yes signsT i (40 + i) s.toList hli hq)⟩
            go_wp2
            go_ret
            exact ⟨ret_int (by rw [HK2.out HQ.out, HR.out]; omega), b1.trans (b2.mono b1.size)⟩
        · have HR : Box (signK s.toList = 0) := ⟨H.out.trans (by rw [List.drop_eq_nil_of_le (show signsT.length ≤ i from Nat.le_of_not_lt hli)]; rfl)⟩
          go_wp2
          go_ret
          exact ⟨ret_int (by rw [HK2.out HQ.out, HR.out]; rfl), b1.trans (b2.mono b1.size)⟩
end Go.Proofs.YtjjbgbadkbomlaaDoor
namespace Go.Proofs.YtjjbgbadkbomlaaDoor
open Go.RowKit
set_option linter.unusedVariables false
set_option linter.unusedSimpArgs false

def charOk (i : Nat) (c : UInt8) : Bool := wsI (c.toNat : Int) || (decide (i ≠ 0) && digI (c.toNat : Int))
/-- a name, in the reference's words -/
def nameG (xs : List UInt8) : Bool := (decide (1 ≤ xs.length) && decide (xs.length ≤ 32) && (kindK xs == 0)) && (List.range xs.length).all fun i => charOk i (xs.getD i 0)
theorem kindFrom_in (T : List (List UInt8)) : ∀ (n : Nat) (t : List UInt8), kindFrom T n t = 0 ∨ t ∈ T := by
  induction T with
  | nil => intro n t; exact .inl rfl
  | cons x r ih =>
    intro n t
    simp only [kindFrom]
    split
    · rename_i h
      right
      have : x = t := by simpa using h
      rw [this]; simp
    · rcases ih (n + 1) t with h | h
      · exact .inl h
      · exact .inr (by simp [h])
theorem sign_head : ∀ s ∈ signsT, wsI ((s.getD 0 0).toNat : Int) = false := by decide
theorem span_all {p : Int → Bool} : ∀ l : List UInt8, spanL p l = l.length ↔ ∀ b ∈ l, p (b.toNat : Int) = true
  | [] => by simp [spanL]
  | b :: r => by
    have ih := span_all (p := p) r
    have hle := spanL_le p r
    rw [spanL]
    by_cases hb : p (b.toNat : Int) = true
    · rw [if_pos hb]
      constructor
      · intro h x hx
        rcases List.mem_cons.1 hx with rfl | hx
        · exact hb
        · exact ih.1 (by simp at h; omega) x hx
      · intro h
        have := ih.2 fun x hx => h x (by simp [hx])
        simp [this]
    · rw [if_neg hb]
      constructor
      · intro h; simp at h
      · intro h; exact absurd (h b (by simp)) hb
theorem nameG_ok (xs : List UInt8) : nameG xs = nameOk xs := by
  rw [Bool.eq_iff_iff]
  constructor
  · intro h
    unfold nameG at h
    simp only [Bool.and_eq_true, decide_eq_true_eq, beq_iff_eq, List.all_eq_true, List.mem_range] at h
    obtain ⟨⟨⟨h1, h2⟩, h3⟩, h4⟩ := h
    have hat : ∀ i (hi : i < xs.length), xs.getD i 0 = xs[i] := fun i hi => by rw [List.getD_eq_getElem?_getD, List.getElem?_eq_getElem hi]; rfl
    have h0 := h4 0 (by omega)
    unfold charOk at h0
    simp only [ne_eq, not_true_eq_false, decide_false, Bool.false_and, Bool.or_false] at h0
    have hall : ∀ b ∈ xs, wbI (b.toNat : Int) = true := fun b hb => by
      obtain ⟨i, hi, rfl⟩ := List.getElem_of_mem hb
      have := h4 i hi
      rw [hat i hi] at this
      unfold charOk at this
      unfold wbI
      simp only [Bool.or_eq_true, Bool.and_eq_true] at this ⊢
      rcases this with q | q
      · exact .inl q
      · exact .inr q.2
    have hsp : spanTo wbI xs 0 = xs.length := by unfold spanTo; rw [List.drop_zero, (span_all xs).2 hall]; omega
    have hwk : wordK xs = 0 := by
      by_cases e : wordK xs = 0
      · exact e
      · unfold kindK at h3; rw [if_neg e] at h3; exact absurd h3 e
    have hnx : nextR xs 0 = (⟨1, 0, xs.length, 0⟩, 0) := by
      unfold nextR
      rw [if_pos h0]
      unfold wordR
      rw [hsp, Nat.sub_zero, List.drop_zero, List.take_length, if_neg (by rw [hwk]; simp), if_neg (by omega)]
    have hx0 := hat 0 (by omega)
    rw [hx0] at h0
    have hb0 : blankI (xs[0].toNat : Int) = false ∧ ((xs[0].toNat : Int) == 35) = false := by
      generalize (xs[0].toNat : Int) = c at h0
      unfold wsI at h0
      unfold blankI
      simp only [Bool.or_eq_true, Bool.and_eq_true, decide_eq_true_eq, beq_iff_eq] at h0
      constructor
      · simp; omega
      · rw [beq_eq_false_iff_ne]; omega
    have hsk : skipTo xs 0 = 0 := skipTo_no xs 0 (by omega) hb0.1 hb0.2
    have hc : Covers xs 0 [⟨1, 0, xs.length, 0⟩] := ⟨hsk, by show 0 < xs.length; omega, hnx, by show skipTo xs (0 + xs.length) = xs.length; rw [Nat.zero_add, skipTo_end xs xs.length (Nat.le_refl _)]⟩
    unfold nameOk
    rw [covers_scan xs _ hc (by omega)]
    simp [nameToks]
  · intro h
    obtain ⟨_, h2, h3, h4, h5, h6⟩ := nameOk_nextR h
    have hk : kindK xs = 0 := by
      unfold kindK
      rw [if_pos h6]
      rcases kindFrom_in signsT 40 xs with q | q
      · exact q
      · have := sign_head xs q
        rw [this] at h5
        cases h5
    have hall := (span_all (p := wbI) xs).1 (by unfold spanTo at h3; rw [List.drop_zero] at h3; omega)
    unfold nameG
    simp only [Bool.and_eq_true, decide_eq_true_eq, beq_iff_eq, List.all_eq_true, List.mem_range]
    refine ⟨⟨⟨h4, h2⟩, hk⟩, fun i hi => ?_⟩
    unfold charOk
    by_cases e : i = 0
    · subst e; rw [h5]; rfl
    · have : xs.getD i 0 = xs[i] := by rw [List.getD_eq_getElem?_getD, List.getElem?_eq_getElem hi]; rfl
      rw [this]
      have := hall xs[i] (List.getElem_mem hi)
      unfold wbI at this
      simp only [Bool.or_eq_true, Bool.and_eq_true] at this ⊢
      rcases this with q | q
      · exact .inl q
      · exact .inr ⟨by simpa using e, q⟩
end Go.Proofs.YtjjbgbadkbomlaaDoor
namespace Go.Proofs.YtjjbgbadkbomlaaDoor
open Go.RowKit
set_option linter.unusedVariables false
set_option linter.unusedSimpArgs false

set_option maxRecDepth 100000 in
set_option maxHeartbeats 2000000 in
theorem NameR (s : ByteArray) (w : World) (hl : s.size ≤ maxLen) :
    Calls Tryd.prog 15 #[.string s] w fun e w' => e = .returned (.bool (nameG s.data.toList)) ∧ Below w.heap.size w w' := by
  unfold maxLen at hl
  have hsz : s.data.toList.length = s.size := bl s
  have HK : Bx (∀ w, Calls Tryd.prog 22 #[.string s] w fun e w' => e = .returned (.int .i64 (kindK s.data.toList : Nat)) ∧ Below w.heap.size w w') := ⟨fun w => by have := refKind_any s w; rw [ByteArray.toList_eq] at this; exact this⟩
  have HAT : Bx (∀ i (hi : i < s.size), s.data.toList.getD i 0 = s[i]) := ⟨fun i hi => by
    have h' : i < s.data.toList.length := by omega
    rw [List.getD_eq_getElem?_getD, List.getElem?_eq_getElem h']
    rfl⟩
  generalize hR : nameG s.data.toList = R
  have HR : Bx _ := ⟨hR⟩
  clear hR
  by_cases h1 : s.size < 1
  · have HE : Bx (R = false) := ⟨by rw [← HR.out]; unfold nameG; rw [hsz, show decide (1 ≤ s.size) = false from decide_eq_false (by omega)]; rfl⟩
    obtain rfl := HE.out
    have d1 : decide ((s.size : Int) < 1) = true := by simp; omega
    clear HAT HR HE HK
    go_enter Tryd.func15, Tryd.ntmps15
    go_wp2
    go_ret
    exact ⟨rfl, Below.refl _ _⟩
  · have d1 : decide ((s.size : Int) < 1) = false := by simp; omega
    by_cases h2 : 32 < s.size
    · have HE : Bx (R = false) := ⟨by rw [← HR.out]; unfold nameG; rw [hsz, show decide (s.size ≤ 32) = false from decide_eq_false (by omega)]; simp⟩
      obtain rfl := HE.out
      have d2 : decide ((32 : Int) < (s.size : Int)) = true := by simp; omega
      clear HAT HR HE HK
      go_enter Tryd.func15, Tryd.ntmps15
      go_wp2
      go_ret
      exact ⟨rfl, Below.refl _ _⟩
    · have d2 : decide ((32 : Int) < (s.size : Int)) = false := by simp; omega
      by_cases h3 : kindK s.data.toList = 0
      · have HK0 : Bx (∀ w, Calls Tryd.prog 22 #[.string s] w fun e w' => e = .returned (.int .i64 0) ∧ Below w.heap.size w w') := ⟨fun w => by have := HK.out w; rw [h3] at this; exact this⟩
        have HY : Bx ((∀ i, i < s.size → charOk i (s.data.toList.getD i 0) = true) → R = true) := ⟨fun h => by
          rw [← HR.out]; unfold nameG
          rw [hsz, h3, show decide (1 ≤ s.size) = true from decide_eq_true (by omega), show decide (s.size ≤ 32) = true from decide_eq_true (by omega)]
          simp only [Bool.and_true, Bool.true_and, beq_self_eq_true, List.all_eq_true, List.mem_range]
          exact h⟩
        have HO : Bx (∀ i, i < s.size → charOk i (s.data.toList.getD i 0) = false → R = false) := ⟨fun i hi h => by
          rw [← HR.out]; unfold nameG
          rw [Bool.and_eq_false_iff]
          right
          rw [List.all_eq_false]
          exact ⟨i, by rw [List.mem_range, hsz]; exact hi, by rw [h]; simp⟩⟩
        clear HK HR h3
        go_enter Tryd.func15, Tryd.ntmps15
        go_wp2_with (first | (go_at_call 22; refine Calls.mono (HK0.out _) ?_; rintro e w1 ⟨rfl, hb1⟩))
        go_loop [3] (fun x => ∃ i : Nat, i ≤ s.size ∧ x = .int .i64 i ∧ Bx (∀ j, j < i → charOk j (s.data.toList.getD j 0) = true)) (fun x => s.size - (intOf x).toNat)
        case atStart => exact ⟨0, Nat.zero_le _, rfl, ⟨fun j hj => absurd hj (by omega)⟩⟩
        case round =>
          obtain ⟨i, hi, rfl, HS⟩ := hrel
          by_cases hlt : i < s.size
          · have HC : Bx (charOk i s[i] = true → ∀ j, j < i + 1 → charOk j (s.data.toList.getD j 0) = true) := ⟨fun h j hj => by
              by_cases e : j < i
              · exact HS.out j e
              · obtain rfl : j = i := by omega
                rw [HAT.out j hlt]; exact h⟩
            have HD : Bx (charOk i s[i] = false → R = false) := ⟨fun h => HO.out i hlt (by rw [HAT.out i hlt]; exact h)⟩
            unfold charOk wsI digI at HC HD
            clear HS HO HY HAT hsz
            have hcases : (0 ≤ (s[i].toNat : Int) ∧ (s[i].toNat : Int) ≤ 47) ∨ (48 ≤ (s[i].toNat : Int) ∧ (s[i].toNat : Int) ≤ 57) ∨ (58 ≤ (s[i].toNat : Int) ∧ (s[i].toNat : Int) ≤ 64) ∨ (65 ≤ (s[i].toNat : Int) ∧ (s[i].toNat : Int) ≤ 90) ∨ (91 ≤ (s[i].toNat : Int) ∧ (s[i].toNat : Int) ≤ 94) ∨ (95 ≤ (s[i].toNat : Int) ∧ (s[i].toNat : Int) ≤ 95) ∨ (96 ≤ (s[i].toNat : Int) ∧ (s[i].toNat : Int) ≤ 96) ∨ (97 ≤ (s[i].toNat : Int) ∧ (s[i].toNat : Int) ≤ 122) ∨ (123 ≤ (s[i].toNat : Int) ∧ (s[i].toNat : Int) ≤ 255) := by have := s[i].toNat_lt; omega
            rcases hcases with ⟨g1, g2⟩ | ⟨g1, g2⟩ | ⟨g1, g2⟩ | ⟨g1, g2⟩ | ⟨g1, g2⟩ | ⟨g1, g2⟩ | ⟨g1, g2⟩ | ⟨g1, g2⟩ | ⟨g1, g2⟩
            · have q0 : decide (97 ≤ (s[i].toNat : Int)) = false := by simp; omega
              have q1 : decide ((s[i].toNat : Int) ≤ 122) = true := by simp; omega
              have q2 : decide (65 ≤ (s[i].toNat : Int)) = false := by simp; omega
              have q3 : decide ((s[i].toNat : Int) ≤ 90) = true := by simp; omega
              have q4 : decide ((s[i].toNat : Int) < 48) = true := by simp; omega
              have q5 : decide (57 < (s[i].toNat : Int)) = false := by simp; omega
              have q6 : decide (48 ≤ (s[i].toNat : Int)) = false := by simp; omega
              have q7 : decide ((s[i].toNat : Int) ≤ 57) = true := by simp; omega
              have q9 : ((s[i].toNat : Int) == 95) = false := by rw [beq_eq_false_iff_ne]; omega
              rw [q0, q1, q2, q3, q6, q7, q9] at HC HD
              have HX : Bx _ := ⟨HD.out (by simp)⟩
              obtain rfl := HX.out
              clear HC HD HX
              by_cases hz : i = 0
              · subst hz
                go_wp2
                go_ret
                exact ⟨rfl, hb1⟩
              · have hz' : ((i : Int) == 0) = false := by rw [beq_eq_false_iff_ne]; omega
                go_wp2
                go_ret
                exact ⟨rfl, hb1⟩
            · have q0 : decide (97 ≤ (s[i].toNat : Int)) = false := by simp; omega
              have q1 : decide ((s[i].toNat : Int) ≤ 122) = true := by simp; omega
              have q2 : decide (65 ≤ (s[i].toNat : Int)) = false := by simp; omega
              have q3 : decide ((s[i].toNat : Int) ≤ 90) = true := by simp; omega
              have q4 : decide ((s[i].toNat : Int) < 48) = false := by simp; omega
              have q5 : decide (57 < (s[i].toNat : Int)) = false := by simp; omega
              have q6 : decide (48 ≤ (s[i].toNat : Int)) = true := by simp; omega
              have q7 : decide ((s[i].toNat : Int) ≤ 57) = true := by simp; omega
              have q9 : ((s[i].toNat : Int) == 95) = false := by rw [beq_eq_false_iff_ne]; omega
              rw [q0, q1, q2, q3, q6, q7, q9] at HC HD
              by_cases hz : i = 0
              · subst hz
                have HX : Bx _ := ⟨HD.out (by simp)⟩
                obtain rfl := HX.out
                clear HC HD HX
                go_wp2
                go_ret
                exact ⟨rfl, hb1⟩
              · have hz' : ((i : Int) == 0) = false := by rw [beq_eq_false_iff_ne]; omega
                have HX : Bx _ := ⟨HC.out (by simp [hz])⟩
                clear HC HD
                go_wp2
                go_round
                case rel => exact ⟨i + 1, by omega, by go_num, HX⟩
                case measure => simp [intOf]; omega
            · have q0 : decide (97 ≤ (s[i].toNat : Int)) = false := by simp; omega
              have q1 : decide ((s[i].toNat : Int) ≤ 122) = true := by simp; omega
              have q2 : decide (65 ≤ (s[i].toNat : Int)) = false := by simp; omega
              have q3 : decide ((s[i].toNat : Int) ≤ 90) = true := by simp; omega
              have q4 : decide ((s[i].toNat : Int) < 48) = false := by simp; omega
              have q5 : decide (57 < (s[i].toNat : Int)) = true := by simp; omega
              have q6 : decide (48 ≤ (s[i].toNat : Int)) = true := by simp; omega
              have q7 : decide ((s[i].toNat : Int) ≤ 57) = false := by simp; omega
              have q9 : ((s[i].toNat : Int) == 95) = false := by rw [beq_eq_false_iff_ne]; omega
              rw [q0, q1, q2, q3, q6, q7, q9] at HC HD
              have HX : Bx _ := ⟨HD.out (by simp)⟩
              obtain rfl := HX.out
              clear HC HD HX
              by_cases hz : i = 0
              · subst hz
                go_wp2
                go_ret
                exact ⟨rfl, hb1⟩
              · have hz' : ((i : Int) == 0) = false := by rw [beq_eq_false_iff_ne]; omega
                go_wp2
                go_ret
                exact ⟨rfl, hb1⟩
            · have q0 : decide (97 ≤ (s[i].toNat : Int)) = false := by simp; omega
              have q1 : decide ((s[i].toNat : Int) ≤ 122) = true := by simp; omega
              have q2 : decide (65 ≤ (s[i].toNat : Int)) = true := by simp; omega
              have q3 : decide ((s[i].toNat : Int) ≤ 90) = true := by simp; omega
              have q4 : decide ((s[i].toNat : Int) < 48) = false := by simp; omega
              have q5 : decide (57 < (s[i].toNat : Int)) = true := by simp; omega
              have q6 : decide (48 ≤ (s[i].toNat : Int)) = true := by simp; omega
              have q7 : decide ((s[i].toNat : Int) ≤ 57) = false := by simp; omega
              have q9 : ((s[i].toNat : Int) == 95) = false := by rw [beq_eq_false_iff_ne]; omega
              rw [q0, q1, q2, q3, q6, q7, q9] at HC HD
              have HX : Bx _ := ⟨HC.out (by simp)⟩
              clear HC HD
              go_wp2
              go_round
              case rel => exact ⟨i + 1, by omega, by go_num, HX⟩
              case measure => simp [intOf]; omega
            · have q0 : decide (97 ≤ (s[i].toNat : Int)) = false := by simp; omega
              have q1 : decide ((s[i].toNat : Int) ≤ 122) = true := by simp; omega
              have q2 : decide (65 ≤ (s[i].toNat : Int)) = true := by simp; omega
              have q3 : decide ((s[i].toNat : Int) ≤ 90) = false := by simp; omega
              have q4 : decide ((s[i].toNat : Int) < 48) = false := by simp; omega
              have q5 : decide (57 < (s[i].toNat : Int)) = true := by simp; omega
              have q6 : decide (48 ≤ (s[i].toNat : Int)) = true := by simp; omega
              have q7 : decide ((s[i].toNat : Int) ≤ 57) = false := by simp; omega
              have q9 : ((s[i].toNat : Int) == 95) = false := by rw [beq_eq_false_iff_ne]; omega
              rw [q0, q1, q2, q3, q6, q7, q9] at HC HD
              have HX : Bx _ := ⟨HD.out (by simp)⟩
              obtain rfl := HX.out
              clear HC HD HX
              by_cases hz : i = 0
              · subst hz
                go_wp2
                go_ret
                exact ⟨rfl, hb1⟩
              · have hz' : ((i : Int) == 0) = false := by rw [beq_eq_false_iff_ne]; omega
                go_wp2
                go_ret
                exact ⟨rfl, hb1⟩
            · have q0 : decide (97 ≤ (s[i].toNat : Int)) = false := by simp; omega
              have q1 : decide ((s[i].toNat : Int) ≤ 122) = true := by simp; omega
              have q2 : decide (65 ≤ (s[i].toNat : Int)) = true := by simp; omega
              have q3 : decide ((s[i].toNat : Int) ≤ 90) = false := by simp; omega
              have q4 : decide ((s[i].toNat : Int) < 48) = false := by simp; omega
              have q5 : decide (57 < (s[i].toNat : Int)) = true := by simp; omega
              have q6 : decide (48 ≤ (s[i].toNat : Int)) = true := by simp; omega
              have q7 : decide ((s[i].toNat : Int) ≤ 57) = false := by simp; omega
              have q9 : ((s[i].toNat : Int) == 95) = true := by rw [beq_iff_eq]; omega
              rw [q0, q1, q2, q3, q6, q7, q9] at HC HD
              have HX : Bx _ := ⟨HC.out (by simp)⟩
              clear HC HD
              go_wp2
              go_round
              case rel => exact ⟨i + 1, by omega, by go_num, HX⟩
              case measure => simp [intOf]; omega
            · have q0 : decide (97 ≤ (s[i].toNat : Int)) = false := by simp; omega
              have q1 : decide ((s[i].toNat : Int) ≤ 122) = true := by simp; omega
              have q2 : decide (65 ≤ (s[i].toNat : Int)) = true := by simp; omega
              have q3 : decide ((s[i].toNat : Int) ≤ 90) = false := by simp; omega
              have q4 : decide ((s[i].toNat : Int) < 48) = false := by simp; omega
              have q5 : decide (57 < (s[i].toNat : Int)) = true := by simp; omega
              have q6 : decide (48 ≤ (s[i].toNat : Int)) = true := by simp; omega
              have q7 : decide ((s[i].toNat : Int) ≤ 57) = false := by simp; omega
              have q9 : ((s[i].toNat : Int) == 95) = false := by rw [beq_eq_false_iff_ne]; omega
              rw [q0, q1, q2, q3, q6, q7, q9] at HC HD
              have HX : Bx _ := ⟨HD.out (by simp)⟩
              obtain rfl := HX.out
              clear HC HD HX
              by_cases hz : i = 0
              · subst hz
                go_wp2
                go_ret
                exact ⟨rfl, hb1⟩
              · have hz' : ((i : Int) == 0) = false := by rw [beq_eq_false_iff_ne]; omega
                go_wp2
                go_ret
                exact ⟨rfl, hb1⟩
            · have q0 : decide (97 ≤ (s[i].toNat : Int)) = true := by simp; omega
              have q1 : decide ((s[i].toNat : Int) ≤ 122) = true := by simp; omega
              have q2 : decide (65 ≤ (s[i].toNat : Int)) = true := by simp; omega
              have q3 : decide ((s[i].toNat : Int) ≤ 90) = false := by simp; omega
              have q4 : decide ((s[i].toNat : Int) < 48) = false := by simp; omega
              have q5 : decide (57 < (s[i].toNat : Int)) = true := by simp; omega
              have q6 : decide (48 ≤ (s[i].toNat : Int)) = true := by simp; omega
              have q7 : decide ((s[i].toNat : Int) ≤ 57) = false := by simp; omega
              have q9 : ((s[i].toNat : Int) == 95) = false := by rw [beq_eq_false_iff_ne]; omega
              rw [q0, q1, q2, q3, q6, q7, q9] at HC HD
              have HX : Bx _ := ⟨HC.out (by simp)⟩
              clear HC HD
              go_wp2
              go_round
              case rel => exact ⟨i + 1, by omega, by go_num, HX⟩
              case measure => simp [intOf]; omega
            · have q0 : decide (97 ≤ (s[i].toNat : Int)) = true := by simp; omega
              have q1 : decide ((s[i].toNat : Int) ≤ 122) = false := by simp; omega
              have q2 : decide (65 ≤ (s[i].toNat : Int)) = true := by simp; omega
              have q3 : decide ((s[i].toNat : Int) ≤ 90) = false := by simp; omega
              have q4 : decide ((s[i].toNat : Int) < 48) = false := by simp; omega
              have q5 : decide (57 < (s[i].toNat : Int)) = true := by simp; omega
              have q6 : decide (48 ≤ (s[i].toNat : Int)) = true := by simp; omega
              have q7 : decide ((s[i].toNat : Int) ≤ 57) = false := by simp; omega
              have q9 : ((s[i].toNat : Int) == 95) = false := by rw [beq_eq_false_iff_ne]; omega
              rw [q0, q1, q2, q3, q6, q7, q9] at HC HD
              have HX : Bx _ := ⟨HD.out (by simp)⟩
              obtain rfl := HX.out
              clear HC HD HX
              by_cases hz : i = 0
              · subst hz
                go_wp2
                go_ret
                exact ⟨rfl, hb1⟩
              · have hz' : ((i : Int) == 0) = false := by rw [beq_eq_false_iff_ne]; omega
                go_wp2
                go_ret
                exact ⟨rfl, hb1⟩
          · obtain rfl := HY.out (fun j hj => HS.out j (by omega))
            have hlt' : ¬ (i : Int) < (s.size : Int) := by omega
            clear HS HO HY HAT
            go_wp2
            go_ret
            exact ⟨rfl, hb1⟩
      · have HE : Bx (R = false) := ⟨by rw [← HR.out]; unfold nameG; rw [show (kindK s.data.toList == 0) = false by simp [h3]]; simp⟩
        obtain rfl := HE.out
        have e3 : ((kindK s.data.toList : Int) != 0) = true := by rw [bne_iff_ne]; omega
        clear HAT HR HE
        generalize kindK s.data.toList = kk at *
        go_enter Tryd.func15, Tryd.ntmps15
        go_wp2_with (first | (go_at_call 22; refine Calls.mono (HK.out _) ?_; rintro e w1 ⟨rfl, hb1⟩))
        go_ret
        exact ⟨rfl, hb1⟩
end Go.Proofs.YtjjbgbadkbomlaaDoor
