import Derived.Test.YtjabdhmkibahlaaCGNs
namespace Go.Proofs.Ytjabdhmkibahlaa
open Go.RowKit Go.MapKept Go.ChangeMaps Go.WideShapes
set_option linter.unusedVariables false
set_option linter.unusedSimpArgs false

/-- what the calls of the examples answer -/
structure ShC (w1 : World) (p : Option Addr) : Prop where
  chk : ∀ X, Below w1.heap.size w1 X → Calls Try.prog 9 #[.slice p 5 5] X fun e w' => e = .returned (.int .i64 0) ∧ Below X.heap.size X w'
  lnk : ∀ X, Below w1.heap.size w1 X → Calls Try.prog 11 #[.slice p 5 5] X fun e w' => ∃ g cap, e = .returned (.slice (some ⟨g, 0, none⟩) 3 cap) ∧ 3 ≤ cap ∧ cap ≤ maxLen ∧ (∀ X, Below w'.heap.size w' X →
    (X.cell? ⟨g, 0, none⟩ = some (.int .i64 0) ∧ X.cell? ⟨g, 1, none⟩ = some (.int .i64 1) ∧ X.cell? ⟨g, 2, none⟩ = some (.int .i64 3)) ∧ (X.cell? ⟨g, 3, none⟩ = some (.int .i64 3) ∧ X.cell? ⟨g, 4, none⟩ = some (.int .i64 2) ∧ X.cell? ⟨g, 5, none⟩ = some (.int .i64 4)) ∧ (X.cell? ⟨g, 6, none⟩ = some (.int .i64 2) ∧ X.cell? ⟨g, 7, none⟩ = some (.int .i64 3) ∧ X.cell? ⟨g, 8, none⟩ = some (.int .i64 4))) ∧ Below X.heap.size X w'
  tka : ∀ X, Below w1.heap.size w1 X → Calls Try.prog 18 #[.slice p 5 5, .agg #[.int .i64 3, .int .i64 2, .int .i64 4]] X fun e w' => ∃ g cap, e = .returned (.tuple #[.slice (some ⟨g, 0, none⟩) 5 cap, .int .i64 0]) ∧ 5 ≤ cap ∧ cap ≤ maxLen ∧ (∀ X, Below w'.heap.size w' X →
    X.cell? ⟨g, 9, none⟩ = some (.bool true) ∧ X.cell? ⟨g, 13, none⟩ = some (.bool true) ∧ X.cell? ⟨g, 5, none⟩ = some (.bool false)) ∧ Below X.heap.size X w'
  tkb : ∀ X, Below w1.heap.size w1 X → Calls Try.prog 18 #[.slice p 5 5, .agg #[.int .i64 0, .int .i64 2, .int .i64 4]] X fun e w' => e = .returned (.tuple #[.slice none 0 0, .int .i64 141]) ∧ Below X.heap.size X w'
  fit : ∀ X, Below w1.heap.size w1 X → Calls Try.prog 10 #[.slice p 5 5, .agg #[.int .i64 3, .int .i64 2, .int .i64 4]] X fun e w' => e = .returned (.bool true) ∧ Below X.heap.size X w'
theorem sh_of {w1 : World} {p : Option Addr} (h : AgsR w1 p 5 exS) : ShC w1 p := by
  refine ⟨fun X hX => ?_, fun X hX => ?_, fun X hX => ?_, fun X hX => ?_, fun X hX => ?_⟩
  · have := Check_any X p 5 exS (h.later hX) exS_few
    rw [show chkI exS = 0 by simp [chkI, exS_ok]] at this
    exact this
  · refine (Links_yes X p 5 exS (h.later hX) exS_few exS_ok (by rw [exS_links]; decide)).mono ?_
    rintro e w' ⟨v, rfl, ho, hb⟩
    rw [exS_links] at ho
    obtain ⟨g, cap, rfl, h1, h2, h3⟩ := links_at ho
    exact ⟨g, cap, rfl, h1, h2, h3, hb⟩
  · refine (Take_yes X p 5 exS ⟨3, 2, 4⟩ (h.later hX) exS_few l64a exS_ok).mono ?_
    rintro e w' ⟨hb, ⟨h0, _⟩ | ⟨_, v, cs, rfl, ho, hc⟩⟩
    · rw [exS_fit] at h0; cases h0
    · obtain ⟨g, cap, rfl, h1, h2, h3⟩ := took_at ho hc
      exact ⟨g, cap, rfl, h1, h2, h3, hb⟩
  · refine (Take_yes X p 5 exS ⟨0, 2, 4⟩ (h.later hX) exS_few l64b exS_ok).mono ?_
    rintro e w' ⟨hb, ⟨_, rfl⟩ | ⟨h0, _⟩⟩
    · exact ⟨rfl, hb⟩
    · rw [exS_not] at h0; cases h0
  · have := Fits_yes X p 5 exS ⟨3, 2, 4⟩ (h.later hX) exS_few l64a exS_ok
    rw [exS_fit] at this
    exact this
set_option maxRecDepth 100000 in
set_option maxHeartbeats 2000000 in
theorem shown_any (w : World) : Calls Try.prog 7 #[] w fun e w' => e = .returned (.bool true) ∧ Below w.heap.size w w' := by
  go_enter Try.func7, Try.ntmps7
  go_wp2_with (first
    | (go_at_call 34; refine Calls.mono (state_any w) ?_; rintro e w1 ⟨p1, rfl, hA, hb1⟩; have HS : Bx (ShC w1 p1) := ⟨sh_of hA⟩; clear hA)
    | (go_at_call 11; refine Calls.mono (HS.out.lnk w1 (Below.refl _ _)) ?_; rintro e w2 ⟨gl, lcap, rfl, hl1, hl2, hl3, hb2⟩; have HL : Bx _ := ⟨hl3⟩; have hlm := hl2; unfold maxLen at hlm; clear hl3)
    | (go_at_call 18; refine Calls.mono (HS.out.tkb w3 z3) ?_; rintro e w4 ⟨rfl, hb4⟩; have z4 : Below w1.heap.size w1 w4 := z3.trans (hb4.mono z3.size))
    | (go_at_call 18; refine Calls.mono (HS.out.tka w2 hb2) ?_; rintro e w3 ⟨gt, tcap, rfl, ht1, ht2, ht3, hb3⟩; have HT : Bx _ := ⟨ht3⟩; have z3 : Below w1.heap.size w1 w3 := hb2.trans (hb3.mono hb2.size); clear ht3)
    | (go_at_call 9; refine Calls.mono (HS.out.chk w4 z4) ?_; rintro e w5 ⟨rfl, hb5⟩; have z5 : Below w1.heap.size w1 w5 := z4.trans (hb5.mono z4.size); obtain ⟨⟨l0, l1, l2⟩, ⟨l3, l4, l5⟩, l6, l7, l8⟩ := HL.out w5 ((hb3.trans (hb4.mono hb3.size)).trans (hb5.mono (hb3.trans (hb4.mono hb3.size)).size)); obtain ⟨t1, t2, t3⟩ := HT.out w5 (hb4.trans (hb5.mono hb4.size)))
    | (go_at_call 10; refine Calls.mono (HS.out.fit w5 z5) ?_; rintro e w6 ⟨rfl, hb6⟩; have z6 : Below w.heap.size w w6 := hb1.trans ((z5.trans (hb6.mono z5.size)).mono hb1.size)))
  go_ret
  exact ⟨rfl, z6⟩
end Go.Proofs.Ytjabdhmkibahlaa
