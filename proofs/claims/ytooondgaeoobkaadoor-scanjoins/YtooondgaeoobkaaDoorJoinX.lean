import Derived.Test.YtooondgaeoobkaaDoorJoinV
namespace Go.Proofs.YtooondgaeoobkaaDoor
open Go.RowKit
set_option linter.unusedVariables false
set_option linter.unusedSimpArgs false

set_option maxHeartbeats 1000000 in
set_option maxRecDepth 100000 in
theorem joins_fault1 (a1 a2 : Option Addr) (n1 cap1 n2 cap2 : Nat) (z : Int) (w : World) (k1 k2 f1 c1 f2 c2 : Nat) (hL : Laid w) (hc : c1 ≠ 0)
    (HS1 : Box (∀ W, Below w.heap.size w W → Calls Tryd.prog 13 #[.slice a1 n1 cap1] W fun e w' => ∃ x cp, e = .returned (.tuple #[.slice x k1 cp, .agg #[.int .i64 f1, .int .i64 c1]]) ∧ Below W.heap.size W w'))
    (HS2 : Box (∀ W, Below w.heap.size w W → Calls Tryd.prog 13 #[.slice a2 n2 cap2] W fun e w' => ∃ x cp, e = .returned (.tuple #[.slice x k2 cp, .agg #[.int .i64 f2, .int .i64 c2]]) ∧ Below W.heap.size W w')) :
    Calls Tryd.prog 6 #[.slice a1 n1 cap1, .slice a2 n2 cap2, .int .i64 z] w fun e w' => e = .returned (.bool true) ∧ Below w.heap.size w w' := by
  have hc' : ((c1 : Int) != 0) = true := by rw [bne_iff_ne]; omega
  go_enter Tryd.func6, Tryd.ntmps6
  go_wp2_with fail
  refine (shown_any w hL).mono ?_
  rintro e w1 ⟨rfl, b1⟩
  go_wp2_with fail
  refine Calls.mono (HS1.out _ b1) ?_
  rintro e w2 ⟨xa, cpa, rfl, b2⟩
  have b2' : Below w.heap.size w (w2.alloc (.cells #[.int .i64 f1, .int .i64 c1] 34)) := (b1.trans (b2.mono b1.size)).alloc (Nat.le_trans b1.size b2.size) _
  go_wp2_with fail
  refine Calls.mono (HS2.out _ b2') ?_
  rintro e w3 ⟨xb, cpb, rfl, b3⟩
  have hz3 : w2.heap.size < w3.heap.size := by have := b3.size; simp at this; omega
  have hc3 : w3.cell? ⟨w2.heap.size, 1, none⟩ = some (.int .i64 c1) := by rw [b3.cell (by simp)]; simp
  have b3' : Below w.heap.size w w3 := b2'.trans (b3.mono (Nat.le_trans b2'.size (Nat.le_refl _)))
  go_wp2
  go_ret
  exact ⟨rfl, b3'.alloc b3'.size _⟩

set_option maxHeartbeats 1000000 in
set_option maxRecDepth 100000 in
theorem joins_fault2 (a1 a2 : Option Addr) (n1 cap1 n2 cap2 : Nat) (z : Int) (w : World) (k1 k2 f1 f2 c2 : Nat) (hL : Laid w) (hc : c2 ≠ 0)
    (HS1 : Box (∀ W, Below w.heap.size w W → Calls Tryd.prog 13 #[.slice a1 n1 cap1] W fun e w' => ∃ x cp, e = .returned (.tuple #[.slice x k1 cp, .agg #[.int .i64 f1, .int .i64 0]]) ∧ Below W.heap.size W w'))
    (HS2 : Box (∀ W, Below w.heap.size w W → Calls Tryd.prog 13 #[.slice a2 n2 cap2] W fun e w' => ∃ x cp, e = .returned (.tuple #[.slice x k2 cp, .agg #[.int .i64 f2, .int .i64 c2]]) ∧ Below W.heap.size W w')) :
    Calls Tryd.prog 6 #[.slice a1 n1 cap1, .slice a2 n2 cap2, .int .i64 z] w fun e w' => e = .returned (.bool true) ∧ Below w.heap.size w w' := by
  have hc' : ((c2 : Int) != 0) = true := by rw [bne_iff_ne]; omega
  go_enter Tryd.func6, Tryd.ntmps6
  go_wp2_with fail
  refine (shown_any w hL).mono ?_
  rintro e w1 ⟨rfl, b1⟩
  go_wp2_with fail
  refine Calls.mono (HS1.out _ b1) ?_
  rintro e w2 ⟨xa, cpa, rfl, b2⟩
  have b2' : Below w.heap.size w (w2.alloc (.cells #[.int .i64 f1, .int .i64 0] 34)) := (b1.trans (b2.mono b1.size)).alloc (Nat.le_trans b1.size b2.size) _
  go_wp2_with fail
  refine Calls.mono (HS2.out _ b2') ?_
  rintro e w3 ⟨xb, cpb, rfl, b3⟩
  have hz3 : w2.heap.size < w3.heap.size := by have := b3.size; simp at this; omega
  have hc3 : w3.cell? ⟨w2.heap.size, 1, none⟩ = some (.int .i64 0) := by rw [b3.cell (by simp)]; simp
  have b3' : Below w.heap.size w w3 := b2'.trans (b3.mono (Nat.le_trans b2'.size (Nat.le_refl _)))
  go_wp2
  go_ret
  exact ⟨rfl, b3'.alloc b3'.size _⟩

/-- **THE LAW ScanJoins**, whatever it is given -/
theorem joins_walk (a1 a2 : Option Addr) (cap1 cap2 : Nat) (one two : List UInt8) (z : Int) (w : World) (hs1 : IsSrc w a1 cap1 one) (hs2 : IsSrc w a2 cap2 two) (hn1 : a1 = none → cap1 = 0) (hn2 : a2 = none → cap2 = 0) (hL : Laid w)
    (hz0 : -9223372036854775808 ≤ z) (hz1 : z ≤ 9223372036854775807) :
    Calls Tryd.prog 6 #[.slice a1 one.length cap1, .slice a2 two.length cap2, .int .i64 z] w fun e w' => e = .returned (.bool true) ∧ Below w.heap.size w w' := by
  have S1 := fun W (hW : Below w.heap.size w W) => Scan_x a1 cap1 one W (hs1.below hW) (hL.below hW) _ rfl
  have S2 := fun W (hW : Below w.heap.size w W) => Scan_x a2 cap2 two W (hs2.below hW) (hL.below hW) _ rfl
  by_cases h1 : (scanAll one).2.2 = 0
  · by_cases h2 : (scanAll two).2.2 = 0
    · have l1 := (scan_covers one h1).2
      have l2 := (scan_covers two h2).2
      by_cases hz : 0 ≤ z
      · obtain ⟨n, rfl⟩ := Int.eq_ofNat_of_zero_le hz
        exact joins_pos a1 a2 cap1 cap2 n one two w hs1 hs2 hn1 hn2 hL l1 l2 h1 h2 (by omega)
      · obtain ⟨n, hn⟩ := Int.eq_ofNat_of_zero_le (show 0 ≤ -z - 1 by omega)
        have e : z = -(n : Int) - 1 := by omega
        subst e
        exact joins_neg a1 a2 cap1 cap2 n one two w hs1 hs2 hn1 hn2 hL l1 l2 h1 h2 (by omega)
    · refine joins_fault2 a1 a2 _ cap1 _ cap2 z w (scanAll one).1.length (scanAll two).1.length (scanAll one).2.1 (scanAll two).2.1 (scanAll two).2.2 hL h2 ⟨fun W hW => (S1 W hW).mono ?_⟩ ⟨fun W hW => (S2 W hW).mono ?_⟩
      · rintro e w' ⟨x, cp, rfl, _, hb⟩
        exact ⟨x, cp, by rw [h1]; rfl, hb⟩
      · rintro e w' ⟨x, cp, rfl, _, hb⟩
        exact ⟨x, cp, rfl, hb⟩
  · refine joins_fault1 a1 a2 _ cap1 _ cap2 z w (scanAll one).1.length (scanAll two).1.length (scanAll one).2.1 (scanAll one).2.2 (scanAll two).2.1 (scanAll two).2.2 hL h1 ⟨fun W hW => (S1 W hW).mono ?_⟩ ⟨fun W hW => (S2 W hW).mono ?_⟩
    · rintro e w' ⟨x, cp, rfl, _, hb⟩
      exact ⟨x, cp, rfl, hb⟩
    · rintro e w' ⟨x, cp, rfl, _, hb⟩
      exact ⟨x, cp, rfl, hb⟩
end Go.Proofs.YtooondgaeoobkaaDoor
