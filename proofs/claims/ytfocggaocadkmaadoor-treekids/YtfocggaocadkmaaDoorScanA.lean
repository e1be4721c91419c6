import Derived.Test.YtfocggaocadkmaaDoorScan
namespace Go.Proofs.YtfocggaocadkmaaDoor
open Go.RowKit
set_option linter.unusedVariables false
set_option linter.unusedSimpArgs false

/-- a slice of bytes: nil, or of none, or with its bytes -/
structure IsSrc (w : World) (a : Option Addr) (cap : Nat) (xs : List UInt8) : Prop where
  at_ : 0 < xs.length → ∃ b o, a = some ⟨b, o, none⟩ ∧ b < w.heap.size ∧ Src w b o xs
  cap_ : xs.length ≤ cap
  max_ : xs.length ≤ maxLen
theorem IsSrc.below {w w' : World} {a : Option Addr} {cap : Nat} {xs : List UInt8} (h : IsSrc w a cap xs) (hb : Below w.heap.size w w') : IsSrc w' a cap xs := by
  refine ⟨fun h0 => ?_, h.cap_, h.max_⟩
  obtain ⟨b, o, h1, h2, h3⟩ := h.at_ h0
  exact ⟨b, o, h1, by have := hb.size; omega, h3.below h2 hb⟩

set_option maxRecDepth 100000 in
set_option maxHeartbeats 400000 in
theorem Scan_long (a : Option Addr) (n cap : Nat) (w : World) (hn : 65536 < n) (hm : n ≤ maxLen) :
    Calls Tryd.prog 15 #[.slice a n cap] w fun e w' => e = .returned (.tuple #[.slice none 0 0, .agg #[.int .i64 65536, .int .i64 10]]) ∧ Below w.heap.size w w' := by
  unfold maxLen at hm
  have h1 : (65536 : Int) < (n : Int) := by omega
  go_enter Tryd.func15, Tryd.ntmps15
  go_wp2
  refine bodyPost_ret (v := .tuple #[.slice none 0 0, .agg #[.int .i64 65536, .int .i64 10]]) (by simp [results, Tryd.results15, go_sem]) rfl ⟨rfl, ?_⟩
  exact (Below.refl _ _).alloc (Nat.le_refl _) _

set_option maxRecDepth 100000 in
set_option maxHeartbeats 400000 in
theorem Scan_none (a : Option Addr) (cap : Nat) (w : World) :
    Calls Tryd.prog 15 #[.slice a 0 cap] w fun e w' => e = .returned (.tuple #[.slice none 0 0, .agg #[.int .i64 0, .int .i64 0]]) ∧ Below w.heap.size w w' := by
  go_enter Tryd.func15, Tryd.ntmps15
  go_wp2_with (first | (go_at_call 26; refine (skip_none _ _ _).mono ?_; rintro e w' ⟨rfl, rfl⟩))
  go_loopw [4, 5] (fun v i wr => v = .slice none 0 0 ∧ i = .int .i64 0 ∧ wr = w.alloc (.cells #[.int .i64 0, .int .i64 0] 39)) (fun _ _ _ => 0)
  case atStart => exact ⟨rfl, rfl, rfl⟩
  case round =>
    obtain ⟨rfl, rfl, rfl⟩ := hrel
    go_wp2
    refine bodyPost_ret (v := .tuple #[.slice none 0 0, .agg #[.int .i64 0, .int .i64 0]]) (by simp [results, Tryd.results15, go_sem]) rfl ⟨rfl, ?_⟩
    exact (Below.refl _ _).alloc (Nat.le_refl _) _

/-- **scan.Scan**, whatever bytes it is given -/
theorem Scan_any (a : Option Addr) (cap : Nat) (xs : List UInt8) (w : World) (hs : IsSrc w a cap xs) (hL : Laid w) :
    Calls Tryd.prog 15 #[.slice a xs.length cap] w fun e w' => ∃ v, e = .returned (.tuple #[v, .agg #[.int .i64 (scanAll xs).2.1, .int .i64 (scanAll xs).2.2]]) ∧ w'.ownsRow w.heap.size 44 4 v (scanAll xs).1.length (toksC (scanAll xs).1) ∧ Below w.heap.size w w' := by
  by_cases h1 : 65536 < xs.length
  · have hA : scanAll xs = ([], 65536, 10) := by unfold scanAll; rw [if_pos h1]
    rw [hA]
    refine (Scan_long a xs.length cap w h1 hs.max_).mono ?_
    rintro e w' ⟨rfl, hb⟩
    exact ⟨.slice none 0 0, rfl, World.ownsRow_nil _ _ _ _, hb⟩
  · by_cases h0 : 0 < xs.length
    · obtain ⟨b, o, rfl, hb, hc⟩ := hs.at_ h0
      exact Scan_some b o cap xs w hc hb (by omega) hs.cap_ hL
    · have hx : xs = [] := List.eq_nil_of_length_eq_zero (by omega)
      subst hx
      have hA : scanAll [] = ([], 0, 0) := rfl
      rw [hA]
      refine (Scan_none a cap w).mono ?_
      rintro e w' ⟨rfl, hb⟩
      exact ⟨.slice none 0 0, rfl, World.ownsRow_nil _ _ _ _, hb⟩

end Go.Proofs.YtfocggaocadkmaaDoor
