import Derived.Test.YtadmpgegolmkgaaDoorBWyM
set_option linter.unusedVariables false
set_option linter.unusedSimpArgs false
set_option maxHeartbeats 4000000
set_option maxRecDepth 100000
namespace Go.Proofs.YtadmpgegolmkgaaDoor
open Go.RowKit
def jr (S : List RSt) (i : Nat) (t : RSt) : List RSt := if (rsA S i).come = true then S else S.set i t
abbrev stA (t : RSt) : Array Value := #[.bool t.come, .bool t.seen, .int .i64 t.height, .int .i64 t.frm, .int .i64 t.slot, .bool t.given]
theorem dP {w w' : World} {r : Option Nat} (h : Below w.heap.size w w') : w.grownBy w' r := ⟨h.os, h.tape, h.output, h.size, fun k hk _ => h.block k hk⟩
theorem xQ (w : World) (B : Nat) (hB : B <= w.heap.size) (pg : CPg) (ca : Option Addr) (cc : Nat) (v : Value) (S : List RSt) (h : StO w B v S) (hm : S.length <= 281474976710656) (i : Nat) (hi : i < S.length) (t : RSt) (sl : Nat) (hsl : pg.slots = (sl : Int)) (hsl2 : sl <= 65536) (f g : Nat -> Bool)
    (ht : ∀ m, m < sl -> ∃ d b', Hv pg.params S m d t.frm b' /\ (if t.slot = (m : Int) then t.given else b') = g m) (hf : (rsA S i).come = true -> ∀ m, m < sl -> ∃ d, Hv pg.params S m d i (f m)) :
    Calls Tryd.prog 58 #[.agg (pgC pg ca cc), v, .int .i64 (i : Nat), .agg (stA t)] w fun e w' => ∃ b : Bool, e = .returned (.bool b) /\ Bx ((b = true ↔ ((rsA S i).come = true -> (rsA S i).height = t.height /\ ∀ m, m < sl -> f m = g m)) /\ StO w' B v (jr S i t) /\ w.grownBy w' v.ownBlock) := by
  obtain ⟨gs, c, rfl, hcl, hcm, hgB, hgl, cur, hgk, hgc⟩ := h.ex hi
  obtain ⟨s0, s1, s2, s3, s4, s5⟩ := h.cells hi
  rw [dD hi] at hf ⊢
  unfold maxLen at hcm
  obtain ⟨H, hH⟩ : ∃ H, w.heap.size = H := ⟨_, rfl⟩
  obtain ⟨w1, hw1⟩ : ∃ w1, w.alloc (.cells (pgC pg ca cc) 40) = w1 := ⟨_, rfl⟩
  obtain ⟨w2, hw2⟩ : ∃ w2, w1.alloc (.cells (stA t) 77) = w2 := ⟨_, rfl⟩
  have e1 : w1.heap.size = H + 1 := by rw [← hw1]; simp [hH]
  have b1 : Below w.heap.size w w1 := by rw [← hw1]; exact ak w _
  have b2 : Below w1.heap.size w1 w2 := by rw [← hw2]; exact ak w1 _
  have q1 : w2.heap[H]? = some (.cells (pgC pg ca cc) 40 (0, 0)) := (b2.block H (by omega)).trans (by rw [← hw1]; exact aj _ _ _ hH)
  have q2 : w2.heap[H + 1]? = some (.cells (stA t) 77 (0, 0)) := by rw [← hw2]; exact aj _ _ _ e1
  have b12 : Below w.heap.size w w2 := b1.trans (b2.mono b1.size)
  have hO2 : StO w2 B (.slice (some ⟨gs, 0, none⟩) S.length c) S := aZ h b12
  have hiI : (i : Int) < (S.length : Int) := by omega
  have hHv : Bx (w.heap.size = H) := ⟨hH⟩
  have hg2 : gs < w2.heap.size := Nat.lt_of_lt_of_le hgl b12.size
  have HX : Bx (∀ X, Below w2.heap.size w2 X -> StO X B (.slice (some ⟨gs, 0, none⟩) S.length c) S /\ Below w.heap.size w X /\ ((X.cell? ⟨H, 0, none⟩ = some (.int .i64 pg.params) /\ X.cell? ⟨H, 1, none⟩ = some (.int .i64 pg.slots) /\ X.cell? ⟨H, 2, none⟩ = some (.int .i64 pg.caps) /\ X.cell? ⟨H, 3, none⟩ = some (.bool pg.res) /\ X.cell? ⟨H, 4, none⟩ = some (.slice ca pg.code.length cc) /\ H < X.heap.size) /\ (X.cell? ⟨H + 1, 0, none⟩ = some (.bool t.come) /\ X.cell? ⟨H + 1, 1, none⟩ = some (.bool t.seen) /\ X.cell? ⟨H + 1, 2, none⟩ = some (.int .i64 t.height) /\ X.cell? ⟨H + 1, 3, none⟩ = some (.int .i64 t.frm) /\ X.cell? ⟨H + 1, 4, none⟩ = some (.int .i64 t.slot) /\ X.cell? ⟨H + 1, 5, none⟩ = some (.bool t.given) /\ H + 1 < X.heap.size))) := ⟨fun X hX => by
    have z1 := (hX.block H (ah q1)).trans q1
    have z2 := (hX.block (H + 1) (ah q2)).trans q2
    exact ⟨aZ hO2 hX, b12.trans (hX.mono b12.size), ⟨aa z1 rfl, aa z1 rfl, aa z1 rfl, aa z1 rfl, aa z1 rfl, ah z1⟩, ⟨aa z2 rfl, aa z2 rfl, aa z2 rfl, aa z2 rfl, aa z2 rfl, aa z2 rfl, ah z2⟩⟩⟩
  obtain ⟨x0, x1, x2, x3⟩ := HX.out w2 (Below.refl _ _)
  obtain ⟨y0, y1, y2, y3, y4, y5, y6⟩ := x3
  obtain ⟨p0, p1, p2, p3, p4, p5⟩ := x2
  have ke := fun j => b12.cell (p := ⟨gs, j, none⟩) hgl
  rw [← ke] at s0 s1 s2 s3 s4 s5
  have HHF : Bx _ := ⟨hf⟩
  have HHT : Bx _ := ⟨ht⟩
  have HRS : Bx ((rsA S i) = S[i]) := ⟨dD hi⟩
  unfold pgC stA at *
  have HSL : Bx (pg.slots = (sl : Int)) := ⟨hsl⟩
  clear hsl
  cases hcome : S[i].come with
  | false =>
    have hset := hO2.set hi t
    obtain ⟨k1, k2, k3, k4⟩ := hset
    obtain ⟨W8, hW8⟩ : ∃ W8, w2.setCells gs (i * 6) (stC t) = W8 := ⟨_, rfl⟩
    rw [hW8] at k1 k2 k4
    have HP : Bx (StO W8 B (.slice (some ⟨gs, 0, none⟩) S.length c) (jr S i t) /\ w.grownBy W8 (some gs)) := ⟨by
      unfold jr
      rw [HRS.out, hcome]
      exact k1, ⟨k4.os.trans b12.os, k4.tape.trans b12.tape, k4.output.trans b12.output, Nat.le_trans b12.size k4.size, fun k hk hne => by
        rw [k2 k (fun e => hne (by rw [e])), b12.block k hk]⟩⟩
    rw [hcome] at s0
    clear HX HHF HHT HRS hf ht h hO2 b1 b2 b12 q1 q2 k1 k2 k4 x0 x1 ke hgk
    go_enter Tryd.func58, Tryd.ntmps58
    go_wp2_with (first
      | (refine pO rfl (.tmp 20) (.tmp 19) rfl gs (i * 6) t rfl rfl k3 hW8 ?_)
      | fail)
    go_ret
    exact ⟨true, rfl, ⟨by simp, HP.out⟩⟩
  | true =>
    rw [hcome] at s0
    have hmS : jr S i t = S := by unfold jr; rw [HRS.out, hcome]; rfl
    rw [hmS]
    by_cases hht : S[i].height = t.height
    · have hg0 : (S[i].height != t.height) = false := by simpa using hht
      have HF2 : Bx _ := ⟨HHF.out hcome⟩
      have HTT : Bx (S[i].height = t.height) := ⟨hht⟩
      have HVA : Bx (∀ X, Below w2.heap.size w2 X -> ∀ (m d : Nat) (j : Int) (b : Bool), Hv pg.params S m d j b -> Calls Tryd.prog 56 #[.agg #[.int .i64 pg.params, .int .i64 pg.slots, .int .i64 pg.caps, .bool pg.res, .slice ca pg.code.length cc], .slice (some ⟨gs, 0, none⟩) S.length c, .int .i64 j, .int .i64 (m : Nat)] X fun e w' => e = .returned (.bool b) /\ Bx (Below X.heap.size X w')) := ⟨fun X hX m d j b hh => lu X B (by have := hX.size; have := b12.size; omega) pg ca cc _ S (aZ hO2 hX) hm m d j b hh⟩
      generalize S[i].height = hh0 at *
      generalize S[i].seen = se0 at *
      generalize S[i].frm = fr0 at *
      generalize S[i].slot = slo0 at *
      generalize S[i].given = gi0 at *
      clear HHF hf ht h hO2 b1 b2 b12 q1 q2 x0 x1 ke hgk hcome hht hmS
      go_enter Tryd.func58, Tryd.ntmps58
      go_wp2
      go_quiet (fail)
      go_wp2
      go_loopg [31] (sl + 1) (fun f' v31 wr => ∃ m : Nat, f' = sl + 1 - m /\ m <= sl /\ v31 = .int .i64 m /\ Bx (Below w2.heap.size w2 wr /\ ∀ k, k < m -> f k = g k))
      case atStart => exact ⟨0, by simp, Nat.zero_le _, rfl, ⟨⟨rfl, rfl, rfl, Nat.le_refl _, fun _ _ => rfl⟩, fun k hk => by omega⟩⟩
      case round =>
        clear p0 p1 p2 p3 p4 p5 y0 y1 y2 y3 y4 y5 y6
        obtain ⟨m, hf', hmm, rfl, HR⟩ := hrel
        obtain ⟨z0, z1, z2, z3⟩ := HX.out wr HR.out.1
        obtain ⟨y0, y1, y2, y3, y4, y5, y6⟩ := z3
        obtain ⟨p0, p1, p2, p3, p4, p5⟩ := z2
        by_cases hlt : m < sl
        · obtain ⟨d1, b', hv1, hgm⟩ := HHT.out m hlt
          obtain ⟨d2, hv2⟩ := HF2.out m hlt
          have HA1 : Bx _ := ⟨HVA.out wr HR.out.1 m d1 t.frm b' hv1⟩
          have HA2 : Bx (∀ X, Below wr.heap.size wr X -> (X.cell? ⟨H, 0, none⟩ = some (.int .i64 pg.params) /\ X.cell? ⟨H, 1, none⟩ = some (.int .i64 pg.slots) /\ X.cell? ⟨H, 2, none⟩ = some (.int .i64 pg.caps) /\ X.cell? ⟨H, 3, none⟩ = some (.bool pg.res) /\ X.cell? ⟨H, 4, none⟩ = some (.slice ca pg.code.length cc) /\ H < X.heap.size) /\ (X.cell? ⟨H + 1, 4, none⟩ = some (.int .i64 t.slot) /\ X.cell? ⟨H + 1, 5, none⟩ = some (.bool t.given) /\ H + 1 < X.heap.size) /\ Bx (Calls Tryd.prog 56 #[.agg #[.int .i64 pg.params, .int .i64 pg.slots, .int .i64 pg.caps, .bool pg.res, .slice ca pg.code.length cc], .slice (some ⟨gs, 0, none⟩) S.length c, .int .i64 (i : Nat), .int .i64 (m : Nat)] X fun e w' => e = .returned (.bool (f m)) /\ Bx (Below X.heap.size X w'))) := ⟨fun X hX => by
            have hX2 := HR.out.1.trans (hX.mono HR.out.1.size)
            obtain ⟨_, _, ⟨a0, a1, a2, a3, a4, a5⟩, ⟨_, _, _, _, c4, c5, c6⟩⟩ := HX.out X hX2
            have := HVA.out X hX2 m d2 (i : Nat) (f m) hv2
            exact ⟨⟨a0, a1, a2, a3, a4, a5⟩, ⟨c4, c5, c6⟩, ⟨this⟩⟩⟩
          have HBR : Bx (Below w2.heap.size w2 wr) := ⟨HR.out.1⟩
          have HEQ : Bx (f m = g m -> ∀ k, k < m + 1 -> f k = g k) := ⟨fun e k hk => by
            by_cases hk2 : k < m
            · exact HR.out.2 k hk2
            · obtain rfl : k = m := by omega
              exact e⟩
          have HNE : Bx (f m ≠ g m -> ¬ ∀ m, m < sl -> f m = g m) := ⟨fun e q => e (q m hlt)⟩
          have hmI : (m : Int) < pg.slots := by rw [HSL.out]; omega
          have HB1 : Bx (∀ X, Below w2.heap.size w2 X -> StO X B (.slice (some ⟨gs, 0, none⟩) S.length c) S /\ Below w.heap.size w X) := ⟨fun X hX => ⟨(HX.out X hX).1, (HX.out X hX).2.1⟩⟩
          clear HR HX HHT HF2 HVA hv1 hv2 z0 z1
          generalize hfm : f m = fm at *
          generalize hgg : g m = gm at *
          have hgs : (t.slot = (m : Int) /\ t.given = gm) ∨ (t.slot ≠ (m : Int) /\ b' = gm) := by
            by_cases e : t.slot = (m : Int)
            · rw [if_pos e] at hgm; exact .inl ⟨e, hgm⟩
            · rw [if_neg e] at hgm; exact .inr ⟨e, hgm⟩
          clear hgm
          rcases hgs with ⟨e1, e2⟩ | ⟨e1, e2⟩
          · have hsb : (t.slot == (m : Int)) = true := by simpa using e1
            generalize t.given = gv at *
            subst e2
            clear e1
            cases fm with
            | false =>
             cases gv with
             | false =>
              have HEQ2 : Bx _ := ⟨HEQ.out rfl⟩
              clear HEQ HNE HTT HB1
              go_wp2_with (first
                | (go_at_call 56; refine HA1.out.mono ?_; rintro e X1 ⟨rfl, hX1⟩; obtain ⟨⟨a0, a1, a2, a3, a4, a5⟩, ⟨c4, c5, c6⟩, HC2⟩ := HA2.out X1 hX1.out; clear HA1)
                | (go_at_call 56; refine HC2.out.mono ?_; rintro e X2 ⟨rfl, hX2⟩)
                | fail)
              go_roundg (sl + 1 - (m + 1))
              case measure => omega
              case rel => exact ⟨m + 1, rfl, by omega, by go_num, ⟨HBR.out.trans ((hX1.out.trans (hX2.out.mono hX1.out.size)).mono HBR.out.size), HEQ2.out⟩⟩
             | true =>
              have HNE2 : Bx _ := ⟨HNE.out (by decide)⟩
              clear HEQ HNE
              go_wp2_with (first
                | (go_at_call 56; refine HA1.out.mono ?_; rintro e X1 ⟨rfl, hX1⟩; obtain ⟨⟨a0, a1, a2, a3, a4, a5⟩, ⟨c4, c5, c6⟩, HC2⟩ := HA2.out X1 hX1.out; clear HA1)
                | (go_at_call 56; refine HC2.out.mono ?_; rintro e X2 ⟨rfl, hX2⟩)
                | fail)
              go_ret
              have hfin : Below w2.heap.size w2 X2 := HBR.out.trans ((hX1.out.trans (hX2.out.mono hX1.out.size)).mono HBR.out.size)
              exact ⟨false, rfl, ⟨⟨fun e => (by cases e), fun e => absurd (e (by first | trivial | rfl)).2 HNE2.out⟩, (HB1.out X2 hfin).1, dP (HB1.out X2 hfin).2⟩⟩
            | true =>
             cases gv with
             | false =>
              have HNE2 : Bx _ := ⟨HNE.out (by decide)⟩
              clear HEQ HNE
              go_wp2_with (first
                | (go_at_call 56; refine HA1.out.mono ?_; rintro e X1 ⟨rfl, hX1⟩; obtain ⟨⟨a0, a1, a2, a3, a4, a5⟩, ⟨c4, c5, c6⟩, HC2⟩ := HA2.out X1 hX1.out; clear HA1)
                | (go_at_call 56; refine HC2.out.mono ?_; rintro e X2 ⟨rfl, hX2⟩)
                | fail)
              go_ret
              have hfin : Below w2.heap.size w2 X2 := HBR.out.trans ((hX1.out.trans (hX2.out.mono hX1.out.size)).mono HBR.out.size)
              exact ⟨false, rfl, ⟨⟨fun e => (by cases e), fun e => absurd (e (by first | trivial | rfl)).2 HNE2.out⟩, (HB1.out X2 hfin).1, dP (HB1.out X2 hfin).2⟩⟩
             | true =>
              have HEQ2 : Bx _ := ⟨HEQ.out rfl⟩
              clear HEQ HNE HTT HB1
              go_wp2_with (first
                | (go_at_call 56; refine HA1.out.mono ?_; rintro e X1 ⟨rfl, hX1⟩; obtain ⟨⟨a0, a1, a2, a3, a4, a5⟩, ⟨c4, c5, c6⟩, HC2⟩ := HA2.out X1 hX1.out; clear HA1)
                | (go_at_call 56; refine HC2.out.mono ?_; rintro e X2 ⟨rfl, hX2⟩)
                | fail)
              go_roundg (sl + 1 - (m + 1))
              case measure => omega
              case rel => exact ⟨m + 1, rfl, by omega, by go_num, ⟨HBR.out.trans ((hX1.out.trans (hX2.out.mono hX1.out.size)).mono HBR.out.size), HEQ2.out⟩⟩
          · have hsb : (t.slot == (m : Int)) = false := by simpa using e1
            subst e2
            clear e1
            cases fm with
            | false =>
             cases b' with
             | false =>
              have HEQ2 : Bx _ := ⟨HEQ.out rfl⟩
              clear HEQ HNE HTT HB1
              go_wp2_with (first
                | (go_at_call 56; refine HA1.out.mono ?_; rintro e X1 ⟨rfl, hX1⟩; obtain ⟨⟨a0, a1, a2, a3, a4, a5⟩, ⟨c4, c5, c6⟩, HC2⟩ := HA2.out X1 hX1.out; clear HA1)
                | (go_at_call 56; refine HC2.out.mono ?_; rintro e X2 ⟨rfl, hX2⟩)
                | fail)
              go_roundg (sl + 1 - (m + 1))
              case measure => omega
              case rel => exact ⟨m + 1, rfl, by omega, by go_num, ⟨HBR.out.trans ((hX1.out.trans (hX2.out.mono hX1.out.size)).mono HBR.out.size), HEQ2.out⟩⟩
             | true =>
              have HNE2 : Bx _ := ⟨HNE.out (by decide)⟩
              clear HEQ HNE
              go_wp2_with (first
                | (go_at_call 56; refine HA1.out.mono ?_; rintro e X1 ⟨rfl, hX1⟩; obtain ⟨⟨a0, a1, a2, a3, a4, a5⟩, ⟨c4, c5, c6⟩, HC2⟩ := HA2.out X1 hX1.out; clear HA1)
                | (go_at_call 56; refine HC2.out.mono ?_; rintro e X2 ⟨rfl, hX2⟩)
                | fail)
              go_ret
              have hfin : Below w2.heap.size w2 X2 := HBR.out.trans ((hX1.out.trans (hX2.out.mono hX1.out.size)).mono HBR.out.size)
              exact ⟨false, rfl, ⟨⟨fun e => (by cases e), fun e => absurd (e (by first | trivial | rfl)).2 HNE2.out⟩, (HB1.out X2 hfin).1, dP (HB1.out X2 hfin).2⟩⟩
            | true =>
             cases b' with
             | false =>
              have HNE2 : Bx _ := ⟨HNE.out (by decide)⟩
              clear HEQ HNE
              go_wp2_with (first
                | (go_at_call 56; refine HA1.out.mono ?_; rintro e X1 ⟨rfl, hX1⟩; obtain ⟨⟨a0, a1, a2, a3, a4, a5⟩, ⟨c4, c5, c6⟩, HC2⟩ := HA2.out X1 hX1.out; clear HA1)
                | (go_at_call 56; refine HC2.out.mono ?_; rintro e X2 ⟨rfl, hX2⟩)
                | fail)
              go_ret
              have hfin : Below w2.heap.size w2 X2 := HBR.out.trans ((hX1.out.trans (hX2.out.mono hX1.out.size)).mono HBR.out.size)
              exact ⟨false, rfl, ⟨⟨fun e => (by cases e), fun e => absurd (e (by first | trivial | rfl)).2 HNE2.out⟩, (HB1.out X2 hfin).1, dP (HB1.out X2 hfin).2⟩⟩
             | true =>
              have HEQ2 : Bx _ := ⟨HEQ.out rfl⟩
              clear HEQ HNE HTT HB1
              go_wp2_with (first
                | (go_at_call 56; refine HA1.out.mono ?_; rintro e X1 ⟨rfl, hX1⟩; obtain ⟨⟨a0, a1, a2, a3, a4, a5⟩, ⟨c4, c5, c6⟩, HC2⟩ := HA2.out X1 hX1.out; clear HA1)
                | (go_at_call 56; refine HC2.out.mono ?_; rintro e X2 ⟨rfl, hX2⟩)
                | fail)
              go_roundg (sl + 1 - (m + 1))
              case measure => omega
              case rel => exact ⟨m + 1, rfl, by omega, by go_num, ⟨HBR.out.trans ((hX1.out.trans (hX2.out.mono hX1.out.size)).mono HBR.out.size), HEQ2.out⟩⟩
        · have HE : Bx (∀ m, m < sl -> f m = g m) := ⟨fun k hk => HR.out.2 k (by omega)⟩
          have HBR : Bx (StO wr B (.slice (some ⟨gs, 0, none⟩) S.length c) S /\ Below w.heap.size w wr) := ⟨z0, z1⟩
          have hge : decide ((m : Int) < pg.slots) = false := decide_eq_false (by rw [HSL.out]; omega)
          clear HR HX HHT HF2 HVA z0 z1
          go_wp2
          go_ret
          exact ⟨true, rfl, ⟨⟨fun _ _ => ⟨HTT.out, HE.out⟩, fun _ => rfl⟩, HBR.out.1, dP HBR.out.2⟩⟩
    · have hg0 : (S[i].height != t.height) = true := by simpa using hht
      have HP : Bx (∀ k, StO (w2.drewN k) B (.slice (some ⟨gs, 0, none⟩) S.length c) S /\ w.grownBy (w2.drewN k) (some gs)) := ⟨fun k => by
        obtain ⟨z0, z1, _⟩ := HX.out (w2.drewN k) ⟨rfl, rfl, rfl, Nat.le_refl _, fun _ _ => rfl⟩
        exact ⟨z0, dP z1⟩⟩
      have HTT : Bx (S[i].height ≠ t.height) := ⟨hht⟩
      generalize S[i].height = hh0 at *
      generalize S[i].seen = se0 at *
      generalize S[i].frm = fr0 at *
      generalize S[i].slot = slo0 at *
      generalize S[i].given = gi0 at *
      clear HX HHF HHT HRS hf ht h hO2 b1 b2 b12 q1 q2 x0 x1 ke hgk hcome hht hmS
      go_enter Tryd.func58, Tryd.ntmps58
      go_wp2
      go_quiet (fail)
      go_wp2
      go_ret
      exact ⟨false, rfl, ⟨⟨fun e => (by cases e), fun e => absurd (e (by first | trivial | rfl)).1 HTT.out⟩, HP.out _⟩⟩
theorem fw (w : World) (B : Nat) (hB : B <= w.heap.size) (pg : CPg) (ca : Option Addr) (cc : Nat) (v : Value) (S : List RSt) (h : StO w B v S) (hm : S.length <= 281474976710656) {n L sl : Nat} {s : Wst} (hR : Rel n L sl pg.params S s) (hsl : pg.slots = (sl : Int)) (hsl2 : sl <= 65536) (hL : sl <= 2 ^ (6 + L)) {t : RSt} {p : Wy} (hT : di n L sl pg.params S s.P t p) (i : Nat) (hi : i < n) :
  Calls Tryd.prog 58 #[.agg (pgC pg ca cc), v, .int .i64 (i : Nat), .agg (stA t)] w fun e w' => e = .returned (.bool (bI s.K i p)) /\ Bx (∃ S', StO w' B v S' /\ w.grownBy w' v.ownBlock /\ Rel n L sl pg.params S' ⟨s.P, aI s.K i p, aP s.K i s.D⟩ /\ S'.length = S.length /\ ∀ t' p', di n L sl pg.params S s.P t' p' -> di n L sl pg.params S' s.P t' p') := by
 have hlen := hR.len
 have hci := hR.come i hi
 refine (xQ w B hB pg ca cc v S h hm i (by omega) t sl hsl hsl2 (fun m => den L s.P (kA s.K i).2 m) (fun m => den L s.P p.2 m) (fun m hm2 => ?_) (fun hc m hm2 => ?_)).mono ?_
 ·obtain ⟨q1, q2⟩ := hT.hv m hm2
  obtain ⟨f1, f2, f3⟩ := hT.frm
  by_cases e : t.slot = (m : Int)
  ·have hfn : t.frm.toNat < n := by omega
   have hz : (kA s.K t.frm.toNat).1 ≠ 0 := by
    have := hR.come _ hfn
    rw [f3] at this
    simpa using this.symm
   obtain ⟨d, hd⟩ := hR.hv _ hfn hz m hm2
   rw [show ((t.frm.toNat : Nat) : Int) = t.frm by omega] at hd
   exact ⟨d, _, hd, by rw [if_pos e]; exact q1 e⟩
  ·obtain ⟨d, hd⟩ := q2 e
   exact ⟨d, _, hd, by rw [if_neg e]⟩
 ·have hz : (kA s.K i).1 ≠ 0 := by
   rw [hc] at hci
   simpa using hci.symm
  exact hR.hv i hi hz m hm2
 ·rintro e w' ⟨b, rfl, hb⟩
  obtain ⟨hb1, hO, hg⟩ := hb.out
  by_cases hz : (kA s.K i).1 = 0
  ·obtain ⟨m1, m2, m3⟩ := xE hR hT hi hz
   have hbt : b = true := hb1.2 fun hc => by rw [m3] at hc; cases hc
   have hS : jr S i t = S.set i t := by unfold jr; rw [m3]; rfl
   rw [hS] at hO
   exact ⟨by rw [hbt, m1], ⟨_, hO, hg, m2, by simp, fun t' p' q => q.set (by omega) m3⟩⟩
  ·obtain ⟨m1, m2, m3⟩ := xF hR hL hT hi hz
   have hc : (rsA S i).come = true := by rw [hci]; simpa using hz
   have hS : jr S i t = S := by unfold jr; rw [hc]; rfl
   rw [hS] at hO
   refine ⟨?_, ⟨_, hO, hg, by rw [m1, m2]; exact hR, rfl, fun t' p' q => q⟩⟩
   congr 2
   rw [m3]
   rw [Bool.eq_iff_iff, hb1, decide_eq_true_eq]
   exact ⟨fun q => q hc, fun q _ => q⟩
end Go.Proofs.YtadmpgegolmkgaaDoor
