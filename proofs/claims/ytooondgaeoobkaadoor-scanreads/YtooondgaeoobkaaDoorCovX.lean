import Derived.Test.YtooondgaeoobkaaDoorCovW
namespace Go.Proofs.YtooondgaeoobkaaDoor
open Go.RowKit
set_option linter.unusedVariables false
set_option linter.unusedSimpArgs false

theorem owns_zero {w : World} {B : Nat} {e : TypeId} {s : Nat} {v : Value} {cs : List Value} (h : w.ownsRow B e s v 0 cs) : ∃ x cp, v = .slice x 0 cp := by
  rcases h.2 with ⟨h2, _⟩ | ⟨g, cap, cur, hv, _⟩
  · exact ⟨none, 0, h2⟩
  · exact ⟨_, cap, hv⟩

set_option maxHeartbeats 1000000 in
set_option maxRecDepth 100000 in
theorem covers_empty (a a' : Option Addr) (n n' cap c' : Nat) (w : World) (fa : Nat) (hL : Laid w) (hn : n ≤ 65536)
    (HSC : Box (∀ W, Below w.heap.size w W → Calls Tryd.prog 13 #[.slice a n cap] W fun e w' => ∃ x cp, e = .returned (.tuple #[.slice x 0 cp, .agg #[.int .i64 fa, .int .i64 0]]) ∧ Below W.heap.size W w'))
    (hsl : ∀ W, (Instr.slice 26 (.slice a n cap) (some (.int .i64 0)) none none).run Tryd.prog W = .ok (.slice a' n' c') W)
    (HP : Box (∀ W, Below w.heap.size w W → Calls Tryd.prog 17 #[.slice a' n' c'] W fun e' w' => e' = .returned (.bool true) ∧ W = w')) :
    Calls Tryd.prog 5 #[.slice a n cap] w fun e w' => e = .returned (.bool true) ∧ Below w.heap.size w w' := by
  go_enter Tryd.func5, Tryd.ntmps5
  go_wp2_with (first
    | (go_at_call 8; refine (shown_any w hL).mono ?_; rintro e w1 ⟨rfl, b1⟩)
    | (go_at_call 13; refine (HSC.out _ b1).mono ?_; rintro e w2 ⟨x, cp, rfl, b2⟩))
  have HW : CovMem w (w2.alloc (.cells #[.int .i64 fa, .int .i64 0] 34)) := ⟨(b1.trans (b2.mono b1.size)).alloc (Nat.le_trans b1.size b2.size) _⟩
  clear HSC b1 b2
  go_loopw [6, 7] (fun at_ i wr => at_ = .int .i64 0 ∧ i = .int .i64 0 ∧ CovMem w wr) (fun _ _ _ => 0)
  case atStart => exact ⟨rfl, rfl, HW⟩
  case round =>
    obtain ⟨rfl, rfl, HM⟩ := hrel
    go_wp2_with (first | (go_at_call 17; refine (HP.out _ HM.below).mono ?_; rintro e w' ⟨rfl, rfl⟩))
    go_ret
    exact ⟨rfl, HM.below⟩

set_option maxHeartbeats 1000000 in
set_option maxRecDepth 100000 in
theorem covers_fault (a : Option Addr) (n cap : Nat) (w : World) (fa fc : Nat) (hL : Laid w) (hn : n ≤ maxLen) (hfa : fa ≤ n) (hfc : fc ≠ 0)
    (HSC : Box (∀ W, Below w.heap.size w W → Calls Tryd.prog 13 #[.slice a n cap] W fun e w' => ∃ x cp, e = .returned (.tuple #[.slice x 0 cp, .agg #[.int .i64 fa, .int .i64 fc]]) ∧ Below W.heap.size W w')) :
    Calls Tryd.prog 5 #[.slice a n cap] w fun e w' => e = .returned (.bool true) ∧ Below w.heap.size w w' := by
  unfold maxLen at hn
  have hc : ((fc : Int) != 0) = true := by rw [bne_iff_ne]; omega
  go_enter Tryd.func5, Tryd.ntmps5
  go_wp2_with (first
    | (go_at_call 8; refine (shown_any w hL).mono ?_; rintro e w1 ⟨rfl, b1⟩)
    | (go_at_call 13; refine (HSC.out _ b1).mono ?_; rintro e w2 ⟨x, cp, rfl, b2⟩))
  go_ret
  exact ⟨rfl, (b1.trans (b2.mono b1.size)).alloc (Nat.le_trans b1.size b2.size) _⟩

theorem slice_zero (W : World) (a : Option Addr) (cap : Nat) : ∃ a', (Instr.slice 26 (.slice a 0 cap) (some (.int .i64 0)) none none).run Tryd.prog W = .ok (.slice a' 0 cap) W ∧ ∀ W', (Instr.slice 26 (.slice a 0 cap) (some (.int .i64 0)) none none).run Tryd.prog W' = .ok (.slice a' 0 cap) W' := by
  have ht' : Tryd.prog.underlying 26 = some (.slice (Tryd.prog.elem 26)) := by simp [Program.elem, Tryd.underlying26]
  have he : Tryd.prog.elem 26 = 5 := by simp [Program.elem, Tryd.underlying26]
  have key : ∀ W', (Instr.slice 26 (.slice a 0 cap) (some (.int .i64 0)) none none).run Tryd.prog W' = .ok (.slice (if cap = 0 then a else a.map (·.add 0)) 0 cap) W' := fun W' => by
    rw [run_slice_l W' 26 _ _ _ ht' .i64 _ (by omega) (by omega), he, sizeOf5]
    simp [Result.andThen, sliced]
  exact ⟨_, key W, key⟩

theorem covers_few (xs : List UInt8) : ∀ (l : List Tok) (k : Nat), k ≤ xs.length → Covers xs k l → k + l.length ≤ xs.length
  | [], k, hk, _ => by simpa using hk
  | t :: r, k, hk, hc => by
    obtain ⟨q1, q2, q3, q4⟩ := hc
    have hlen := nextR_len xs t.place q2 (by rw [q3])
    rw [q3] at hlen
    simp only at hlen
    have hkp := (skipTo_le xs k hk).1
    have := covers_few xs r (t.place + t.len) hlen.2 q4
    simp only [List.length_cons]
    omega
theorem scan_few (xs : List UInt8) (h : (scanAll xs).2.2 = 0) : (scanAll xs).1.length ≤ xs.length := by
  have := covers_few xs _ 0 (Nat.zero_le _) (scan_covers xs h).1
  omega

/-- **THE LAW ScanCovers**, whatever bytes it is given -/
theorem covers_walk (a : Option Addr) (cap : Nat) (xs : List UInt8) (w : World) (hs : IsSrc w a cap xs) (hL : Laid w) :
    Calls Tryd.prog 5 #[.slice a xs.length cap] w fun e w' => e = .returned (.bool true) ∧ Below w.heap.size w w' := by
  have hscan := fun W (hW : Below w.heap.size w W) => Scan_any a cap xs W (hs.below hW) (hL.below hW)
  by_cases hc : (scanAll xs).2.2 = 0
  · obtain ⟨hcov, hl⟩ := scan_covers xs hc
    by_cases hn : 0 < (scanAll xs).1.length
    · have h0 : 0 < xs.length := by
        rcases Nat.eq_zero_or_pos xs.length with h | h
        · have : xs = [] := List.eq_nil_of_length_eq_zero h
          rw [this] at hn
          exact absurd hn (by decide)
        · exact h
      obtain ⟨b, o, rfl, hb, hsr⟩ := hs.at_ h0
      refine covers_loop b o cap xs w (scanAll xs).1 (scanAll xs).2.1 hsr hb hs.cap_ hL hl hn ?_ ⟨hcov⟩ ⟨fun W hW => ?_⟩
      · have := scan_few xs hc
        omega
      · refine (hscan W hW).mono ?_
        rintro e w' ⟨v, rfl, hown, hbl⟩
        obtain ⟨g, cp, rfl, _, h3, hT⟩ := toks_of_owns hown hn
        exact ⟨g, cp, by rw [hc]; rfl, h3, hT, hbl⟩
    · have hnil : (scanAll xs).1 = [] := List.eq_nil_of_length_eq_zero (by omega)
      rw [hnil] at hcov
      have hend : skipTo xs 0 = xs.length := hcov
      have HSC : Box (∀ W, Below w.heap.size w W → Calls Tryd.prog 13 #[.slice a xs.length cap] W fun e w' => ∃ x cp, e = .returned (.tuple #[.slice x 0 cp, .agg #[.int .i64 (scanAll xs).2.1, .int .i64 0]]) ∧ Below W.heap.size W w') := by
        refine ⟨fun W hW => (hscan W hW).mono ?_⟩
        rintro e w' ⟨v, rfl, hown, hbl⟩
        rw [hnil] at hown
        obtain ⟨x, cp, rfl⟩ := owns_zero hown
        exact ⟨x, cp, by rw [hc]; rfl, hbl⟩
      by_cases h0 : 0 < xs.length
      · obtain ⟨b, o, rfl, hb, hsr⟩ := hs.at_ h0
        have hsl := fun W => slice_l W b o xs.length cap 0 (Nat.zero_le _) hs.cap_
        refine covers_empty _ _ xs.length _ cap _ w _ hL hl HSC hsl ⟨fun W hW => ?_⟩
        have := passed_cut W b o cap xs 0 xs.length (hsr.below hb hW) (Nat.zero_le _) (Nat.le_refl _) hl hs.cap_ (cap - 0)
        rw [passed_gap xs 0 _ hend] at this
        exact this
      · have hx : xs.length = 0 := by omega
        rw [hx] at HSC ⊢
        obtain ⟨a', _, hsl⟩ := slice_zero w a cap
        exact covers_empty a a' 0 0 cap cap w _ hL (by omega) HSC hsl ⟨fun W hW => passed_none a' cap W⟩
  · obtain ⟨hnil, hat⟩ := scan_fault xs hc
    refine covers_fault a xs.length cap w (scanAll xs).2.1 (scanAll xs).2.2 hL hs.max_ hat hc ⟨fun W hW => ?_⟩
    refine (hscan W hW).mono ?_
    rintro e w' ⟨v, rfl, hown, hbl⟩
    rw [hnil] at hown
    obtain ⟨x, cp, rfl⟩ := owns_zero hown
    exact ⟨x, cp, rfl, hbl⟩
end Go.Proofs.YtooondgaeoobkaaDoor
