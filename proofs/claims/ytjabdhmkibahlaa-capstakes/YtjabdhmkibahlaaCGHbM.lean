import Derived.Test.YtjabdhmkibahlaaCGHb
namespace Go.Proofs.Ytjabdhmkibahlaa
open Go.RowKit
set_option linter.unusedVariables false
set_option linter.unusedSimpArgs false

set_option maxRecDepth 100000 in
theorem more_any (w : World) (n k : Int) (h0 : 0 ≤ n) (hn : n ≤ 2147483648) (k0 : 0 ≤ k) (hk : k ≤ 9223372036854775807) :
    Calls Try.prog 33 #[.int .i64 n, .int .i64 k] w fun e w' => e = .returned (.int .i64 (moreN n k)) ∧ w' = w := by
  by_cases h1 : n ≤ 2147483647
  · by_cases h2 : n + k ≤ 2147483647
    · have HE : Bx (moreN n k = n + k) := ⟨if_pos h2⟩
      go_enter Try.func33, Try.ntmps33
      go_wp2
      go_ret
      exact ⟨by rw [HE.out]; rfl, rfl⟩
    · have HE : Bx (moreN n k = 2147483648) := ⟨if_neg h2⟩
      go_enter Try.func33, Try.ntmps33
      go_wp2
      go_ret
      exact ⟨by rw [HE.out]; rfl, rfl⟩
  · have HE : Bx (moreN n k = 2147483648) := ⟨if_neg (by omega)⟩
    go_enter Try.func33, Try.ntmps33
    go_wp2
    go_ret
    exact ⟨by rw [HE.out]; rfl, rfl⟩
end Go.Proofs.Ytjabdhmkibahlaa
namespace Go.Proofs.Ytjabdhmkibahlaa
open Go.RowKit
set_option linter.unusedVariables false
set_option linter.unusedSimpArgs false

def BeyG (s : List Ag) (e : Ending) : Prop := ∃ b : Bool, e = .returned (.bool b) ∧ (b = false → totA s ≤ 2147483647)
set_option maxRecDepth 100000 in
set_option maxHeartbeats 1000000 in
theorem beyond_any (w : World) (p : Option Addr) (c : Nat) (s : List Ag) (h : AgsR w p c s) :
    Calls Try.prog 6 #[.slice p s.length c] w fun e w' => BeyG s e ∧ w' = w := by
  have hlc := h.len
  have hcm := h.max
  unfold maxLen at hcm
  have HS : Bx (AgsR w p c s) := ⟨h⟩
  clear h
  go_enter Try.func6, Try.ntmps6
  go_wp2
  go_loopg [3, 4] (s.length + 1) (fun k v3 v4 wr => ∃ (i : Nat) (x : Int), k = s.length + 1 - i ∧ i ≤ s.length ∧ v3 = .int .i64 x ∧ v4 = .int .i64 i ∧ Bx (CapN x (totA (s.take i)) ∧ wr = w) ∧ 0 ≤ x ∧ x ≤ 2147483648)
  case atStart => exact ⟨0, 0, by simp, by omega, rfl, rfl, ⟨⟨fun _ => rfl, fun h => by simp [totA] at h⟩, rfl⟩, by omega, by omega⟩
  case round =>
    obtain ⟨i, x, hk, hil, rfl, rfl, HX, hx0, hx⟩ := hrel
    by_cases hlt : i < s.length
    · by_cases hx4 : x ≤ 2147483647
      · obtain ⟨b, o, ap, ac, hp, hc, rfl, hA, hcl⟩ := HS.out.at_ i hlt
        obtain ⟨hX, hwr⟩ := HX.out
        subst hwr
        obtain ⟨c0, c1, c2, c3⟩ := hcl wr (Below.refl _ _)
        have a1 := hA.arms.len
        have a2 := hA.arms.max
        have a3 := hA.held.len
        have a4 := hA.held.max
        unfold maxLen at a2 a4
        have HN : Bx (CapN (moreN (moreN (moreN x s[i].arms.length) s[i].held.length) (1 : Nat)) (totA (s.take (i + 1)))) := ⟨by
          rw [totA_take s i hlt, ← Nat.add_assoc, ← Nat.add_assoc]
          exact hX.more.more.more⟩
        have m1 := moreN_r hx0 (show (0 : Int) ≤ s[i].arms.length by omega)
        have m2 := moreN_r m1.1 (show (0 : Int) ≤ s[i].held.length by omega)
        have m3 := moreN_r m2.1 (show (0 : Int) ≤ 1 by omega)
        clear HX hX hA hcl HS
        generalize s[i] = a at *
        have H1 : Bx (∀ W, Calls Try.prog 33 #[.int .i64 x, .int .i64 a.arms.length] W fun e w' => e = .returned (.int .i64 (moreN x a.arms.length)) ∧ w' = W) := ⟨fun W => more_any W _ _ hx0 hx (by omega) (by omega)⟩
        have H2 : Bx (∀ W, Calls Try.prog 33 #[.int .i64 (moreN x a.arms.length), .int .i64 a.held.length] W fun e w' => e = .returned (.int .i64 (moreN (moreN x a.arms.length) a.held.length)) ∧ w' = W) := ⟨fun W => more_any W _ _ m1.1 m1.2 (by omega) (by omega)⟩
        have H3 : Bx (∀ W, Calls Try.prog 33 #[.int .i64 (moreN (moreN x a.arms.length) a.held.length), .int .i64 1] W fun e w' => e = .returned (.int .i64 (moreN (moreN (moreN x a.arms.length) a.held.length) 1)) ∧ w' = W) := ⟨fun W => more_any W _ 1 m2.1 m2.2 (by omega) (by omega)⟩
        simp only [Int.natCast_one] at HN
        generalize moreN (moreN (moreN x a.arms.length) a.held.length) 1 = y3 at *
        generalize moreN (moreN x a.arms.length) a.held.length = y2 at *
        generalize moreN x a.arms.length = y1 at *
        have M3 : Bx (0 ≤ y3 ∧ y3 ≤ 2147483648) := ⟨m3⟩
        clear m1 m2 m3 hx0 hx
        go_wp2_with (first
          | (go_at_call 33; refine Calls.mono (H1.out _) ?_; clear H1; rintro e w1 ⟨rfl, rfl⟩)
          | (go_at_call 33; refine Calls.mono (H2.out _) ?_; clear H2; rintro e w2 ⟨rfl, rfl⟩)
          | (go_at_call 33; refine Calls.mono (H3.out _) ?_; clear H3; rintro e w3 ⟨rfl, rfl⟩))
        go_roundg (s.length + 1 - (i + 1))
        case measure => omega
        case rel => exact ⟨i + 1, y3, rfl, by omega, rfl, by simp, ⟨HN.out, rfl⟩, M3.out.1, M3.out.2⟩
      · have HF : Bx (wr = w) := ⟨HX.out.2⟩
        have g0 : decide (x ≤ 2147483647) = false := by simpa using hx4
        have g1 : decide (2147483647 < x) = true := by simp; omega
        clear HX
        go_wp2
        go_ret
        exact ⟨⟨true, by first | rfl | (rw [g1]), fun h => by cases h⟩, HF.out⟩
    · have hie : i = s.length := by omega
      subst hie
      have HF : Bx (wr = w ∧ CapN x (totA s)) := ⟨HX.out.2, by have := HX.out.1; rw [List.take_length] at this; exact this⟩
      clear HX
      by_cases hx4 : x ≤ 2147483647
      · have HT : Bx (totA s ≤ 2147483647) := ⟨by
          obtain ⟨q1, q2⟩ := HF.out.2
          by_cases ht : 2147483647 < (totA s : Int)
          · have := q2 ht; omega
          · omega⟩
        go_wp2
        go_ret
        exact ⟨⟨_, rfl, fun _ => HT.out⟩, HF.out.1⟩
      · have g1 : decide (2147483647 < x) = true := by simp; omega
        go_wp2
        go_ret
        exact ⟨⟨true, by first | rfl | (rw [g1]), fun h => by cases h⟩, HF.out.1⟩
end Go.Proofs.Ytjabdhmkibahlaa
