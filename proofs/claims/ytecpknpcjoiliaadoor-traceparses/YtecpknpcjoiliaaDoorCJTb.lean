import Derived.Test.YtecpknpcjoiliaaDoorCJQ
namespace Go.Proofs.YtecpknpcjoiliaaDoor
open Go.RowKit
set_option linter.unusedVariables false
set_option linter.unusedSimpArgs false

def totB : List Ev → Nat
  | [] => 0
  | e :: r => 120 + 21 * e.list.length + totB r
theorem totB_app (a b : List Ev) : totB (a ++ b) = totB a + totB b := by
  induction a with
  | nil => simp [totB]
  | cons x r ih => rw [List.cons_append, totB, totB, ih]; omega
theorem totB_E (l : List Ev) : totE l ≤ 2 * totB l := by
  induction l with
  | nil => simp [totE, totB]
  | cons x r ih => rw [totE, totB]; omega
theorem totB_len (l : List Ev) : 120 * l.length ≤ totB l := by
  induction l with
  | nil => simp [totB]
  | cons x r ih => rw [List.length_cons, totB]; omega
theorem totB_at {l : List Ev} {k : Nat} (h : k < l.length) : totB (l.take (k + 1)) = totB (l.take k) + (120 + 21 * l[k].list.length) := by
  rw [List.take_succ_eq_append_getElem h, totB_app]
  simp [totB]
theorem totB_le (l : List Ev) (k : Nat) : totB (l.take k) ≤ totB l := by
  have e : totB (l.take k ++ l.drop k) = totB l := by rw [List.take_append_drop]
  rw [totB_app] at e
  omega
/-- what more answers -/
def moreN (n k : Nat) : Nat := if 2147483647 < n + k then 2147483648 else n + k
theorem moreN_le (n k : Nat) : moreN n k ≤ 2147483648 := by unfold moreN; split <;> omega
set_option maxHeartbeats 1000000 in
theorem more_any (w : World) (n k : Nat) (hn : n ≤ 2147483648) (hk : k ≤ 4294967296) : Calls Tryd.prog 31 #[.int .i64 (n : Nat), .int .i64 (k : Nat)] w fun e w' => e = .returned (.int .i64 (moreN n k : Nat)) ∧ w' = w := by
  have n0 : (0 : Int) ≤ (n : Int) := by omega
  have n1 : (n : Int) ≤ 2147483648 := by omega
  have k0 : (0 : Int) ≤ (k : Int) := by omega
  have k1 : (k : Int) ≤ 4294967296 := by omega
  by_cases h1 : 2147483647 < n
  · have hm : moreN n k = 2147483648 := by unfold moreN; rw [if_pos (by omega)]
    have h1' : (2147483647 : Int) < (n : Int) := by omega
    rw [hm]
    go_enter Tryd.func31, Tryd.ntmps31
    go_wp2
    go_ret
    exact ⟨rfl, rfl⟩
  · have h1' : ¬ (2147483647 : Int) < (n : Int) := by omega
    by_cases h2 : 2147483647 < n + k
    · have hm : moreN n k = 2147483648 := by unfold moreN; rw [if_pos h2]
      have h2' : (2147483647 : Int) - (n : Int) < (k : Int) := by omega
      rw [hm]
      go_enter Tryd.func31, Tryd.ntmps31
      go_wp2
      go_ret
      exact ⟨rfl, rfl⟩
    · have hm : moreN n k = n + k := by unfold moreN; rw [if_neg h2]
      have h2' : ¬ (2147483647 : Int) - (n : Int) < (k : Int) := by omega
      rw [hm]
      go_enter Tryd.func31, Tryd.ntmps31
      go_wp2
      go_ret
      exact ⟨by first | rfl | simp, rfl⟩
theorem ret_b {a b : Bool} (h : a = b) : Ending.returned (.bool a) = .returned (.bool b) := by rw [h]
set_option maxRecDepth 100000 in
set_option maxHeartbeats 2000000 in
theorem beyond_any (w : World) (a : Option Addr) (cap : Nat) (es : List Ev) (hp : EvsV w w.heap.size a es) : Calls Tryd.prog 12 #[.slice a es.length cap] w fun e w' => e = .returned (.bool (decide (2147483647 < totB es))) ∧ w' = w := by
  have hmax := hp.max
  unfold maxLen at hmax
  obtain ⟨R, hR⟩ : ∃ R, R = decide (2147483647 < totB es) := ⟨_, rfl⟩
  rw [← hR]
  have HR : Bx (R = decide (2147483647 < totB es)) := ⟨hR⟩
  have HP : Bx _ := ⟨hp⟩
  clear hR hp
  go_enter Tryd.func12, Tryd.ntmps12
  go_wp2
  go_loopw [4, 3] (fun x y wr => ∃ (i n : Nat), i ≤ es.length ∧ n ≤ 2147483648 ∧ x = .int .i64 i ∧ y = .int .i64 n ∧ wr = w ∧ Bx (n = if 2147483647 < totB (es.take i) then 2147483648 else totB (es.take i))) (fun x _ _ => es.length - (intOf x).toNat)
  case atStart => exact ⟨0, 0, Nat.zero_le _, by omega, rfl, rfl, rfl, ⟨by simp [totB]⟩⟩
  case round =>
    obtain ⟨i, n, hi, hn, rfl, rfl, rfl, HI⟩ := hrel
    have hle := totB_le es i
    by_cases hlt : i < es.length
    · have hi2 : (i : Int) < (es.length : Int) := by omega
      by_cases hnb : 2147483647 < n
      · have hRt : R = true := by
          have h1 := HI.out
          rw [HR.out]
          split at h1
          · simp; omega
          · omega
        have hn2 : (2147483647 : Int) < (n : Int) := by omega
        clear HI HR
        subst hRt
        go_wp2
        go_ret
        exact ⟨by first | rfl | simp [hn2], rfl⟩
      · have hnt : n = totB (es.take i) := by
          have h1 := HI.out
          split at h1
          · omega
          · exact h1
        have hn2 : (n : Int) ≤ 2147483647 := by omega
        obtain ⟨b, o, rfl, hb, hc⟩ := HP.out.at_ (by omega)
        obtain ⟨la, lc, hev⟩ := hc i hlt
        have c7 := hev.c7
        have hta := totB_at hlt
        have hle2 := totB_le es (i + 1)
        have hlm := hev.li.max
        unfold maxLen at hlm
        clear hev hc
        generalize es[i].list.length = k at *
        have HM1 : Bx (Calls Tryd.prog 31 #[.int .i64 (n : Nat), .int .i64 120] wr fun e w' => e = .returned (.int .i64 (moreN n 120 : Nat)) ∧ w' = wr) := ⟨more_any wr n 120 (by omega) (by omega)⟩
        have hm1 : moreN n 120 ≤ 2147483648 := by unfold moreN; split <;> omega
        by_cases hk : 102261126 < k
        · have hRt : R = true := by
            rw [HR.out]
            simp
            omega
          have hk2 : (102261126 : Int) < (k : Int) := by omega
          clear HI HR hta hle hle2 hnt
          subst hRt
          generalize moreN n 120 = n1 at *
          go_wp2_with (go_at_call 31; refine HM1.out.mono ?_; rintro e1 w1 ⟨rfl, rfl⟩)
          go_ret
          exact ⟨rfl, rfl⟩
        · have hk2 : (k : Int) ≤ 102261126 := by omega
          have hk3 : (0 : Int) ≤ (k : Int) := by omega
          have HM2 : Bx (Calls Tryd.prog 31 #[.int .i64 (moreN n 120 : Nat), .int .i64 ((k : Int) * 21)] wr fun e w' => e = .returned (.int .i64 (moreN (moreN n 120) (k * 21) : Nat)) ∧ w' = wr) := ⟨by
            have := more_any wr (moreN n 120) (k * 21) hm1 (by omega)
            simpa using this⟩
          have HN : Bx (moreN (moreN n 120) (k * 21) ≤ 2147483648 ∧ moreN (moreN n 120) (k * 21) = if 2147483647 < totB (es.take (i + 1)) then 2147483648 else totB (es.take (i + 1))) := ⟨by
            refine ⟨moreN_le _ _, ?_⟩
            rw [hta, ← hnt]
            unfold moreN
            split <;> split <;> (try split) <;> omega⟩
          clear HI hta hle hle2 hnt
          generalize moreN (moreN n 120) (k * 21) = n2 at *
          generalize moreN n 120 = n1 at *
          go_wp2_with (first
            | (go_at_call 31; refine HM1.out.mono ?_; rintro e1 w1 ⟨rfl, rfl⟩; clear HM1)
            | (go_at_call 31; refine HM2.out.mono ?_; rintro e1 w1 ⟨rfl, rfl⟩))
          go_roundw
          case rel => exact ⟨i + 1, n2, hlt, HN.out.1, by go_num, rfl, by first | rfl | trivial, ⟨HN.out.2⟩⟩
          case measure => simp [intOf]; omega
    · have hie : i = es.length := by omega
      subst hie
      have hRn : R = decide ((2147483647 : Int) < (n : Int)) := by
        have h1 := HI.out
        rw [List.take_of_length_le (Nat.le_refl _)] at h1
        rw [HR.out]
        split at h1
        · rw [decide_eq_true (by omega), decide_eq_true (by omega)]
        · rw [decide_eq_false (by omega), decide_eq_false (by omega)]
      have HRn : Bx _ := ⟨hRn⟩
      clear HI HR hRn
      go_wp2
      go_ret
      exact ⟨ret_b HRn.out.symm, rfl⟩
end Go.Proofs.YtecpknpcjoiliaaDoor
