import Derived.Test.YtfocggaocadkmaaDoorCTMem
namespace Go.Proofs.YtfocggaocadkmaaDoor
open Go.RowKit
set_option linter.unusedVariables false
set_option linter.unusedSimpArgs false

/-- how much a list holds: its nodes, their kids and their names' bytes -/
def bulkL (l : List Nd) : Nat := (l.map fun n => n.kids.length + n.name.size + 1).sum
def moreI (n k : Int) : Int := if n > 2147483647 ∨ k > 2147483647 - n then 2147483648 else n + k
set_option maxHeartbeats 1000000 in
theorem more_any (n k : Nat) (w : World) (hn : n ≤ maxLen) (hk : k ≤ maxLen) : Calls Tryd.prog 21 #[.int .i64 n, .int .i64 k] w fun e w' => e = .returned (.int .i64 (moreI n k)) ∧ w = w' := by
  unfold maxLen at hn hk
  by_cases h1 : n ≤ 2147483647
  · go_enter Tryd.func21, Tryd.ntmps21
    go_wp2
    all_goals
      go_ret
      refine ⟨ret_int ?_, rfl⟩
      unfold moreI
      simp at *
      (repeat' split) <;> omega
  · have h2 : (2147483647 : Int) < (n : Int) := by omega
    go_enter Tryd.func21, Tryd.ntmps21
    go_wp2
    all_goals
      go_ret
      refine ⟨ret_int ?_, rfl⟩
      unfold moreI
      simp at *
      (repeat' split) <;> omega

def satN (x : Nat) : Nat := if x ≤ 2147483647 then x else 2147483648
theorem more_sat (x k : Nat) : moreI (satN x : Nat) (k : Nat) = (satN (x + k) : Nat) := by
  unfold moreI satN
  by_cases h1 : x ≤ 2147483647
  · rw [if_pos h1]
    by_cases h2 : x + k ≤ 2147483647
    · rw [if_pos h2, if_neg (by omega)]; omega
    · rw [if_neg h2, if_pos (by omega)]; omega
  · rw [if_neg h1, if_pos (by omega), if_neg (by omega)]; omega
theorem satN_le (x : Nat) : satN x ≤ 2147483648 := by unfold satN; split <;> omega
theorem bulk_take (l : List Nd) (i : Nat) (h : i < l.length) : bulkL (l.take (i + 1)) = bulkL (l.take i) + (ndN l i).kids.length + (ndN l i).name.size + 1 := by
  unfold bulkL
  rw [List.take_succ_eq_append_getElem h]
  have : ndN l i = l[i] := by unfold ndN; rw [List.getD_eq_getElem?_getD, List.getElem?_eq_getElem h]; rfl
  rw [this]
  simp only [List.map_append, List.sum_append, List.map_cons, List.map_nil, List.sum_cons, List.sum_nil]
  omega
theorem bulk_le (l : List Nd) (i : Nat) : bulkL (l.take i) ≤ bulkL l := by
  have : bulkL l = bulkL (l.take i) + bulkL (l.drop i) := by
    conv => lhs; rw [← List.take_append_drop i l]
    unfold bulkL
    rw [List.map_append, List.sum_append]
  omega
theorem bulk_len (l : List Nd) : l.length ≤ bulkL l := by
  unfold bulkL
  induction l with
  | nil => simp
  | cons a r ih => simp; omega

set_option maxRecDepth 100000 in
set_option maxHeartbeats 2000000 in
theorem beyond_some (w : World) (B nb no nc : Nat) (l : List Nd) (hn : Nodes w B nb no nc l) :
    Calls Tryd.prog 11 #[.slice (some ⟨nb, no, none⟩) l.length nc] w fun e w' => e = .returned (.bool (decide (2147483647 < bulkL l))) ∧ w = w' := by
  have HN : Bx _ := ⟨hn⟩
  have hmax := hn.max
  unfold maxLen at hmax
  generalize hF : decide (2147483647 < bulkL l) = F
  have HF : Bx _ := ⟨hF⟩
  clear hF hn
  go_enter Tryd.func11, Tryd.ntmps11
  go_wp2
  go_loop [3, 4] (fun n i => ∃ j s : Nat, j ≤ l.length ∧ s ≤ 2147483648 ∧ n = .int .i64 s ∧ i = .int .i64 j ∧ Bx (s = satN (bulkL (l.take j)))) (fun _ i => l.length - (intOf i).toNat)
  case atStart => exact ⟨0, 0, Nat.zero_le _, by omega, rfl, rfl, ⟨rfl⟩⟩
  case round =>
    obtain ⟨j, s, hj, hs, rfl, rfl, HS⟩ := hrel
    by_cases hlt : j < l.length
    · by_cases hs2 : s ≤ 2147483647
      · obtain ⟨ka, kc, hnd⟩ := HN.out.at_ j hlt
        have c2 := hnd.c2
        have c3 := hnd.c3
        have hwf := (HN.out.wf j hlt).name
        have hkl : (ndN l j).kids.length ≤ maxLen := by
          obtain ⟨_, _, _, _, h2, _⟩ := hnd.kids.ex
          exact h2
        have HB := bulk_take l j hlt
        generalize (ndN l j).kids.length = nk at *
        generalize (ndN l j).name = nm at *
        have M1 : Bx (∀ w, Calls Tryd.prog 21 #[.int .i64 s, .int .i64 nk] w fun e w' => e = .returned (.int .i64 (satN (bulkL (l.take j) + nk) : Nat)) ∧ w = w') := ⟨fun w => by have := more_any s nk w (by unfold maxLen; omega) hkl; rw [HS.out, more_sat] at this; rw [HS.out]; exact this⟩
        have M2 : Bx (∀ w, Calls Tryd.prog 21 #[.int .i64 (satN (bulkL (l.take j) + nk) : Nat), .int .i64 nm.size] w fun e w' => e = .returned (.int .i64 (satN (bulkL (l.take j) + nk + nm.size) : Nat)) ∧ w = w') := ⟨fun w => by have := more_any (satN (bulkL (l.take j) + nk)) nm.size w (by have := satN_le (bulkL (l.take j) + nk); unfold maxLen; omega) hwf; rw [more_sat] at this; exact this⟩
        have M3 : Bx (∀ w, Calls Tryd.prog 21 #[.int .i64 (satN (bulkL (l.take j) + nk + nm.size) : Nat), .int .i64 1] w fun e w' => e = .returned (.int .i64 (satN (bulkL (l.take j) + nk + nm.size + 1) : Nat)) ∧ w = w') := ⟨fun w => by have := more_any (satN (bulkL (l.take j) + nk + nm.size)) 1 w (by have := satN_le (bulkL (l.take j) + nk + nm.size); unfold maxLen; omega) (by simp [maxLen]); rw [more_sat] at this; exact this⟩
        have HS2 : Bx (satN (bulkL (l.take j) + nk + nm.size + 1) = satN (bulkL (l.take (j + 1)))) := ⟨by rw [HB]⟩
        have l3 := satN_le (bulkL (l.take j) + nk + nm.size + 1)
        generalize satN (bulkL (l.take j) + nk + nm.size + 1) = s3 at *
        generalize satN (bulkL (l.take j) + nk + nm.size) = s2 at *
        generalize satN (bulkL (l.take j) + nk) = s1 at *
        have T1 : Bx True := ⟨trivial⟩
        have T2 : Bx True := ⟨trivial⟩
        unfold maxLen at hwf hkl
        clear HB hnd HS HF
        go_wp2_with (first | (go_at_call 21; clear T1; refine Calls.mono (M1.out _) ?_; rintro e w' ⟨rfl, rfl⟩) | (go_at_call 21; clear T2; refine Calls.mono (M2.out _) ?_; rintro e w' ⟨rfl, rfl⟩) | (go_at_call 21; refine Calls.mono (M3.out _) ?_; rintro e w' ⟨rfl, rfl⟩))
        go_round
        case rel => exact ⟨j + 1, s3, by omega, l3, rfl, by go_num, HS2⟩
        case measure => simp [intOf]; omega
      · have HE : Bx (true = F) := ⟨by
          rw [← HF.out]
          have h1 := bulk_le l j
          have h2 := HS.out
          unfold satN at h2
          split at h2
          · omega
          · exact (decide_eq_true (by omega)).symm⟩
        have hd : decide ((s : Int) ≤ 2147483647) = false := by simp; omega
        have hg : (2147483647 : Int) < (s : Int) := by omega
        clear HS HF HN
        go_wp2
        go_ret
        exact ⟨ret_bool HE.out, rfl⟩
    · have HE : Bx (decide ((2147483647 : Int) < (s : Int)) = F) := ⟨by
        rw [← HF.out]
        have h2 := HS.out
        rw [List.take_of_length_le (by omega)] at h2
        unfold satN at h2
        rw [decide_eq_decide]
        split at h2 <;> omega⟩
      clear HS HF HN
      go_wp2
      go_ret
      exact ⟨ret_bool HE.out, rfl⟩

set_option maxRecDepth 100000 in
set_option maxHeartbeats 2000000 in
theorem beyond_none (w : World) (a : Option Addr) (cap : Nat) :
    Calls Tryd.prog 11 #[.slice a 0 cap] w fun e w' => e = .returned (.bool false) ∧ w = w' := by
  go_enter Tryd.func11, Tryd.ntmps11
  go_wp2
  go_loop [3, 4] (fun n i => n = .int .i64 0 ∧ i = .int .i64 0) (fun _ _ => 0)
  case atStart => exact ⟨rfl, rfl⟩
  case round =>
    obtain ⟨rfl, rfl⟩ := hrel
    go_wp2
    go_ret
    exact ⟨rfl, rfl⟩
end Go.Proofs.YtfocggaocadkmaaDoor
