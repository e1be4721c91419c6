import Derived.Test.YtjfabholalnbeabCEChn
namespace Go.Proofs.Ytjfabholalnbeab
open Go.RowKit
set_option linter.unusedVariables false
set_option linter.unusedSimpArgs false

set_option maxRecDepth 100000 in
set_option maxHeartbeats 1500000 in
theorem chn_walk (w : World) (p : Option Addr) (c : Nat) (s : List Ag) (hs : AgsR w p c s) (hz : Lists s) (hsl : s.length ≤ 1152921504606846976) :
    Calls Try.prog 3 #[.slice p s.length c] w fun e w' => e = .returned (.bool true) ∧ Below w.heap.size w w' := by
  by_cases ht : totA s ≤ 2147483647
  · by_cases h3 : s.length ≤ 300
    · cases hok : stOk s with
      | true => exact chn_yes w p c s hs hz hsl ht h3 hok
      | false =>
        have HH : Bx _ := ⟨heavy_no hs hz hsl ht⟩
        have HD : Bx (∀ W, Below w.heap.size w W → Calls Try.prog 10 #[.slice p s.length c] W fun e w' => e = .returned (.tuple #[.slice none 0 0, .int .i64 140]) ∧ Below W.heap.size W w') := ⟨fun W hW => Dead_no W p c s (hs.later hW) ht hok⟩
        have HC : Bx (∀ W, Below w.heap.size w W → Calls Try.prog 11 #[.slice p s.length c] W fun e w' => e = .returned (.int .i64 140) ∧ Below W.heap.size W w') := ⟨fun W hW => Check_no (hs.later hW) ht hok⟩
        clear hs hz hok ht
        go_enter Try.func3, Try.ntmps3
        go_wp2_with (first
          | (go_at_call 8; refine Calls.mono HH.out ?_; rintro e w1 ⟨rfl, hb1⟩; have B1 : Bx (Below w.heap.size w w1) := ⟨hb1⟩; clear hb1)
          | (go_at_call 9; refine Calls.mono (shown15_any _) ?_; rintro e w2 ⟨rfl, hb2⟩; have B2 : Bx (Below w.heap.size w w2) := ⟨blw B1.out hb2⟩; clear hb2)
          | (go_at_call 10; refine Calls.mono (HD.out w2 B2.out) ?_; rintro e w3 ⟨rfl, hb3⟩; have B3 : Bx (Below w.heap.size w w3) := ⟨blw B2.out hb3⟩; clear hb3)
          | (go_at_call 11; refine Calls.mono (HC.out w3 B3.out) ?_; rintro e w4 ⟨rfl, hb4⟩; have B4 : Bx (Below w.heap.size w w4) := ⟨blw B3.out hb4⟩; clear hb4))
        go_ret
        exact ⟨rfl, B4.out⟩
    · have HH : Bx _ := ⟨heavy_no hs hz hsl ht⟩
      clear hs hz ht
      go_enter Try.func3, Try.ntmps3
      go_wp2_with (first
        | (go_at_call 8; refine Calls.mono HH.out ?_; rintro e w1 ⟨rfl, hb1⟩; have B1 : Bx (Below w.heap.size w w1) := ⟨hb1⟩; clear hb1))
      go_ret
      exact ⟨rfl, B1.out⟩
  · have HH : Bx _ := ⟨heavy_yes hs hz hsl ht⟩
    clear hs hz ht
    go_enter Try.func3, Try.ntmps3
    go_wp2_with (first
      | (go_at_call 8; refine Calls.mono HH.out ?_; rintro e w1 ⟨rfl, hb1⟩; have B1 : Bx (Below w.heap.size w w1) := ⟨hb1⟩; clear hb1))
    go_ret
    exact ⟨rfl, B1.out⟩
end Go.Proofs.Ytjfabholalnbeab
