import Derived.Test.YtjjbgbadkbomlaaDoorCTNode
import Derived.Test.YtjjbgbadkbomlaaDoorCTChkP
import Derived.Deep.LoopGhost
namespace Go.Proofs.YtjjbgbadkbomlaaDoor
open Go.RowKit
set_option linter.unusedVariables false
set_option linter.unusedSimpArgs false

theorem checkNode_any (w : World) (B nb no nc fb N fc : Nat) (l : List Nd) (fs : List Nat) (hw : CkW w B nb no nc fb N fc l fs) (hi : fs.length < l.length) (hN : fs.length ≤ N) (hNm : N ≤ maxLen) (hle : ∀ j, j < fs.length → fs.getD j 0 ≤ j) :
    Calls Tryd.prog 23 #[.slice (some ⟨nb, no, none⟩) l.length nc, .slice (some ⟨fb, 0, none⟩) N fc, .int .i64 fs.length] w fun e w' => e = .returned (.int .i64 (checkNodeI l fs fs.length : Nat)) ∧ Below w.heap.size w w' := by
  obtain ⟨ka, kc, hnd⟩ := hw.nodes.at_ fs.length hi
  have hwf := hw.nodes.wf fs.length hi
  have h5 := hnd.five
  have hk := hnd.kids
  have hnm := hwf.name
  generalize hR : checkNodeI l fs fs.length = R
  unfold checkNodeI at hR
  generalize ndN l fs.length = n at *
  obtain ⟨kd, p, kids, nm, num⟩ := n
  simp only at *
  by_cases e1 : kindI kd = true
  · by_cases e2 : p < 0
    · rw [if_pos (Or.inr e2)] at hR
      subst hR
      exact node_pos w B nb no nc fb N fc l fs ka kc kd p num kids nm 0 hw hi hN hNm hle hk hnm h5 e1 e2
    · rw [if_neg (by simp [e1, e2])] at hR
      by_cases e3 : numFitsI kd num kids.length = true
      · rw [if_neg (by simp [e3])] at hR
        by_cases e4 : nameFitsI kd nm = true
        · rw [if_neg (by simp [e4])] at hR
          by_cases e5 : orderI fs fs.length kids = true
          · by_cases e6 : kidsFitI (kdN l) kd num (kids.map Int.toNat) = true
            · rw [if_neg (by simp [e5, e6])] at hR
              have h44 : kd = 44 → 0 < kids.length := fun h => by
                have := kids_ne e6 (by omega)
                rcases Nat.eq_zero_or_pos kids.length with h0 | h0
                · exact absurd (by rw [List.eq_nil_of_length_eq_zero h0]; rfl) this
                · exact h0
              by_cases e7 : levelsFitI l ⟨kd, p, kids, nm, num⟩ = true
              · rw [if_neg (by simp [e7])] at hR
                subst hR
                exact node_ok w B nb no nc fb N fc l fs ka kc kd p num kids nm 0 hw hi hN hNm hle hk hnm h5 e1 e2 e3 e4 e5 e6 h44 e7
              · rw [if_pos (by simpa using e7)] at hR
                subst hR
                exact node_level w B nb no nc fb N fc l fs ka kc kd p num kids nm 0 hw hi hN hNm hle hk hnm h5 e1 e2 e3 e4 e5 e6 h44 (by simpa using e7)
            · rw [if_pos (Or.inr (by simpa using e6))] at hR
              subst hR
              exact node_kids w B nb no nc fb N fc l fs ka kc kd p num kids nm 0 hw hi hN hNm hle hk hnm h5 e1 e2 e3 e4 e5 (by simpa using e6)
          · rw [if_pos (Or.inl (by simpa using e5))] at hR
            subst hR
            exact node_order w B nb no nc fb N fc l fs ka kc kd p num kids nm 0 hw hi hN hNm hle hk hnm h5 e1 e2 e3 e4 (by simpa using e5)
        · rw [if_pos (by simpa using e4)] at hR
          subst hR
          exact node_name w B nb no nc fb N fc l fs ka kc kd p num kids nm 0 hw hi hN hNm hle hk hnm h5 e1 e2 e3 (by simpa using e4)
      · rw [if_pos (by simpa using e3)] at hR
        subst hR
        exact node_num w B nb no nc fb N fc l fs ka kc kd p num kids nm 0 hw hi hN hNm hle hk hnm h5 e1 e2 (by simpa using e3)
  · rw [if_pos (Or.inl (by simpa using e1))] at hR
    subst hR
    exact node_kind w B nb no nc fb N fc l fs ka kc kd p num kids nm 0 hw hi hN hNm hle hk hnm h5 (by simpa using e1)

/-- the row of the firsts, as far as it is filled -/
structure FRow (W : World) (fb N : Nat) (fs : List Nat) : Prop where
  ex : ∃ C : Array Value, W.heap[fb]? = some (.cells C 3 (0, 0)) ∧ C.size = N ∧ (∀ j, j < fs.length → C[j]? = some (.int .i64 (fs.getD j 0 : Nat))) ∧ ∀ j, j < N → ∃ x : Int, C[j]? = some (.int .i64 x)
theorem FRow.firsts {W : World} {fb N : Nat} {fs : List Nat} (h : FRow W fb N fs) : FirstsAt W fb fs := by
  obtain ⟨C, h1, h2, h3, _⟩ := h.ex
  intro j hj
  rw [cell_of_row W fb j C 3 (0, 0) h1]
  exact h3 j hj
theorem FRow.cell {W : World} {fb N : Nat} {fs : List Nat} (h : FRow W fb N fs) (j : Nat) (hj : j < N) : ∃ x : Int, W.cell? ⟨fb, j, none⟩ = some (.int .i64 x) := by
  obtain ⟨C, h1, h2, h3, h4⟩ := h.ex
  obtain ⟨x, hx⟩ := h4 j hj
  exact ⟨x, by rw [cell_of_row W fb j C 3 (0, 0) h1]; exact hx⟩
theorem FRow.frozen {W : World} {fb N : Nat} {fs : List Nat} (h : FRow W fb N fs) (j : Nat) : W.frozen? ⟨fb, j, none⟩ = false := by
  obtain ⟨C, h1, _⟩ := h.ex
  simp [World.frozen?, h1]
theorem FRow.lt {W : World} {fb N : Nat} {fs : List Nat} (h : FRow W fb N fs) : fb < W.heap.size := by
  obtain ⟨C, h1, _⟩ := h.ex
  rcases Nat.lt_or_ge fb W.heap.size with h' | h'
  · exact h'
  · simp [Array.getElem?_eq_none h'] at h1
theorem FRow.below {W W' : World} {fb N : Nat} {fs : List Nat} (h : FRow W fb N fs) (hb : Below W.heap.size W W') : FRow W' fb N fs := by
  obtain ⟨C, h1, h2⟩ := h.ex
  exact ⟨C, by rw [hb.block fb h.lt]; exact h1, h2⟩
theorem FRow.set {W : World} {fb N : Nat} {fs : List Nat} (h : FRow W fb N fs) (hi : fs.length < N) (x : Nat) : FRow (W.setCell ⟨fb, fs.length, none⟩ (.int .i64 x)) fb N (fs ++ [x]) := by
  obtain ⟨C, h1, h2, h3, h4⟩ := h.ex
  refine ⟨C.setIfInBounds fs.length (.int .i64 x), heap_setCell_same W fb fs.length C 3 _ h1, by simp [h2], fun j hj => ?_, fun j hj => ?_⟩
  · rw [Array.getElem?_setIfInBounds]
    by_cases hj2 : j < fs.length
    · rw [if_neg (by omega), h3 j hj2]
      simp only [List.getD_eq_getElem?_getD]
      rw [List.getElem?_append_left hj2]
    · have : j = fs.length := by simp at hj; omega
      subst this
      rw [if_pos rfl, if_pos (by omega)]
      simp [List.getD_eq_getElem?_getD]
  · rw [Array.getElem?_setIfInBounds]
    by_cases hj2 : fs.length = j
    · rw [if_pos hj2, if_pos (by omega)]
      exact ⟨_, rfl⟩
    · rw [if_neg hj2]
      exact h4 j hj

theorem FRow.put {W : World} {fb N : Nat} {fs : List Nat} (h : FRow W fb N fs) (hi : fs.length < N) (v : Int) : FRow (W.setCell ⟨fb, fs.length, none⟩ (.int .i64 v)) fb N fs := by
  obtain ⟨C, h1, h2, h3, h4⟩ := h.ex
  refine ⟨C.setIfInBounds fs.length (.int .i64 v), heap_setCell_same W fb fs.length C 3 _ h1, by simp [h2], fun j hj => ?_, fun j hj => ?_⟩
  · rw [Array.getElem?_setIfInBounds, if_neg (by omega), h3 j hj]
  · rw [Array.getElem?_setIfInBounds]
    by_cases hj2 : fs.length = j
    · rw [if_pos hj2, if_pos (by omega)]
      exact ⟨_, rfl⟩
    · rw [if_neg hj2]
      exact h4 j hj
/-- in the midst of Check -/
structure ChkS (w : World) (wr : World) (l : List Nd) (fs : List Nat) : Prop where
  bel : Below w.heap.size w wr
  row : FRow wr w.heap.size l.length fs
  le : ∀ j, j < fs.length → fs.getD j 0 ≤ j
  led : Led l fs.length
  eq : checkAll l = checkGo l (l.length - fs.length) fs
theorem ChkS.ckw {w wr : World} {l : List Nd} {fs : List Nat} {B nb no nc : Nat} (h : ChkS w wr l fs) (hn : Nodes w B nb no nc l) (hL : Laid w) : CkW wr B nb no nc w.heap.size l.length l.length l fs :=
  ⟨hn.below (h.bel.mono hn.hi), h.led, h.row.firsts, hL.below h.bel, h.row.lt⟩

theorem led_snoc {l : List Nd} {fs : List Nat} (h : Led l fs.length) (hz : checkNodeI l fs fs.length = 0) (hle : ∀ j, j < fs.length → fs.getD j 0 ≤ j) : Led l (fs.length + 1) := by
  intro j hj h1 h2
  by_cases hj2 : j < fs.length
  · exact h j hj2 h1 h2
  · have : j = fs.length := by omega
    subst this
    obtain ⟨q1, q2, q3, q4, q5, q6, q7⟩ := node_zero hz
    have hne := kids_ne q6 (by unfold kdN at h1 h2; omega)
    match hk : (ndN l fs.length).kids with
    | [] => rw [hk] at hne; exact absurd rfl hne
    | k :: r =>
      rw [hk] at q5
      obtain ⟨m, hm, hlt⟩ := kids_at hle q5 0 (by simp)
      simp at hm
      exact ⟨m, r, by rw [hm], hlt⟩
theorem ChkS.next {w wr w1 : World} {l : List Nd} {fs : List Nat} (h : ChkS w wr l fs) (hi : fs.length < l.length) (hz : checkNodeI l fs fs.length = 0) (hbel : Below w.heap.size w w1) (hrow : FRow w1 w.heap.size l.length fs) :
    ∀ x, x = firstOf fs (ndN l fs.length) fs.length → ChkS w (w1.setCell ⟨w.heap.size, fs.length, none⟩ (.int .i64 (x : Nat))) l (fs ++ [x]) := by
  rintro x rfl
  obtain ⟨q1, q2, q3, q4, q5, q6, q7⟩ := node_zero hz
  have hr := hrow.set hi (firstOf fs (ndN l fs.length) fs.length)
  refine ⟨Below.setCell (p := ⟨w.heap.size, fs.length, none⟩) hbel (Nat.le_refl _) _, hr, snoc_le h.le (first_le h.le q5), ?_, ?_⟩
  · have := led_snoc h.led hz h.le
    simpa using this
  · rw [h.eq]
    obtain ⟨m, hm⟩ : ∃ m, l.length - fs.length = m + 1 := ⟨l.length - fs.length - 1, by omega⟩
    rw [hm, checkGo, if_pos hz]
    congr 1
    simp
    omega
end Go.Proofs.YtjjbgbadkbomlaaDoor
namespace Go.Proofs.YtjjbgbadkbomlaaDoor
open Go.RowKit
set_option linter.unusedVariables false
set_option linter.unusedSimpArgs false

theorem info3 : (Tryd.prog.info? 3).map (fun i => (i.zero, i.size, i.bytes)) = some (some (.int .i64 0), 1, 8) := by kernel_rfl
def zeros (N : Nat) : Array Value := madeCells #[.int .i64 0] (N * 1)
theorem make_ints (w : World) (N : Nat) (hN : N ≤ 2147483647) : (Instr.makeSlice 25 (.int .i64 N) (.int .i64 N)).run Tryd.prog w = .ok (.slice (some ⟨w.heap.size, 0, none⟩) N N) (w.alloc (.cells (zeros N) 3)) := by
  obtain ⟨i0, hi, hz0, hz1, hz2⟩ := info_parts info3
  have := run_make (P := Tryd.prog) w 25 3 i0 (.int .i64 0) Tryd.underlying25 hi hz0 .i64 .i64 (N : Int) (N : Int) (by omega) (by omega) (by rw [hz2]; omega) (by omega)
  rw [hz1] at this
  simpa [zeros, Value.cells] using this
theorem zeros_row (w : World) (N : Nat) : FRow (w.alloc (.cells (zeros N) 3)) w.heap.size N [] := by
  refine ⟨zeros N, heap_alloc_new w _, by simp [zeros, madeCells], (fun j hj => (by cases hj)), fun j hj => ⟨0, ?_⟩⟩
  simp [zeros, madeCells, hj, Nat.mod_one]

set_option maxRecDepth 100000 in
set_option maxHeartbeats 2000000 in
theorem Check_some (w : World) (B nb no nc : Nat) (l : List Nd) (hn : Nodes w B nb no nc l) (hL : Laid w) (hl31 : l.length ≤ 2147483647) (h0 : 0 < l.length) :
    Calls Tryd.prog 17 #[.slice (some ⟨nb, no, none⟩) l.length nc] w fun e w' => e = .returned (.tuple #[.int .i64 ((checkAll l).1 : Nat), .int .i64 ((checkAll l).2 : Nat)]) ∧ Below w.heap.size w w' := by
  have hmk := make_ints w l.length hl31
  have HN : Bx (Nodes w B nb no nc l ∧ Laid w) := ⟨hn, hL⟩
  have hnb : nb < w.heap.size := Nat.lt_of_lt_of_le hn.lo hn.hi
  generalize hR : checkAll l = R
  have HR : Bx _ := ⟨hR⟩
  clear hn hL hR
  go_enter Tryd.func17, Tryd.ntmps17
  go_wp2
  go_loopw [13] (fun x wr => ∃ fs : List Nat, fs.length ≤ l.length ∧ x = .int .i64 fs.length ∧ Bx (ChkS w wr l fs)) (fun x _ => l.length - (intOf x).toNat)
  case atStart => exact ⟨[], Nat.zero_le _, rfl, ⟨below1 w _, zeros_row w l.length, fun j hj => (by cases hj), fun j hj => (by cases hj), rfl⟩⟩
  case round =>
    obtain ⟨fs, hfs, rfl, HS⟩ := hrel
    by_cases hlt : fs.length < l.length
    · have HC : Bx _ := ⟨checkNode_any wr B nb no nc w.heap.size l.length l.length l fs (HS.out.ckw HN.out.1 HN.out.2) hlt (by omega) (by unfold maxLen; omega) HS.out.le⟩
      have hsz := HS.out.bel.size
      by_cases hz : checkNodeI l fs fs.length = 0
      · rw [hz] at HC
        obtain ⟨q1, q2, q3, q4, q5, q6, q7⟩ := node_zero hz
        have HX : Bx (∀ w1, Below w.heap.size w w1 → FRow w1 w.heap.size l.length fs → ∀ x, x = firstOf fs (ndN l fs.length) fs.length → ChkS w (w1.setCell ⟨w.heap.size, fs.length, none⟩ (.int .i64 (x : Nat))) l (fs ++ [x])) := ⟨fun w1 => HS.out.next hlt hz⟩
        obtain ⟨ka, kc, hnd⟩ := (HN.out.1.below (HS.out.bel.mono HN.out.1.hi)).at_ fs.length hlt
        have hB := HN.out.1.hi
        have HA : Bx (∀ w1, Below wr.heap.size wr w1 → Below w.heap.size w w1 ∧ FRow w1 w.heap.size l.length fs ∧ NdAt w1 B nb (no + fs.length * 5) (ndN l fs.length) ka kc) :=
          ⟨fun w1 hb1 => ⟨HS.out.bel.trans (hb1.mono hsz), HS.out.row.below hb1, hnd.below (hb1.mono (by omega)) HN.out.1.lo⟩⟩
        have hle := HS.out.le
        have hne : ¬ nb = w.heap.size := by omega
        match hk : (ndN l fs.length).kids with
        | [] =>
          have hfo : firstOf fs (ndN l fs.length) fs.length = fs.length := by unfold firstOf; rw [hk]
          rw [hfo] at HX
          clear hnd q1 q2 q3 q4 q5 q6 q7 hle hfo
          go_wp2_with (first | (go_at_call 23; refine Calls.mono HC.out ?_; rintro e w1 ⟨rfl, hb1⟩; obtain ⟨g1, g2, g3⟩ := HA.out w1 hb1; obtain ⟨x0, g4⟩ := g2.cell fs.length hlt; have g5 := g2.frozen fs.length; have g6 := g2.lt; have g7 := g3.c2; rw [hk] at g7; have g8 : Bx _ := ⟨g2⟩; clear g2 g3))
          go_roundw
          case rel => exact ⟨fs ++ [fs.length], by simp; omega, by first | (simp; done) | (simp; go_num), ⟨HX.out _ g1 g8.out _ rfl⟩⟩
          case measure => simp [intOf]; omega
        | k :: r =>
          rw [hk] at q5
          obtain ⟨m, hm, hmlt⟩ := kids_at hle q5 0 (by simp)
          simp at hm
          subst hm
          have hfo : firstOf fs (ndN l fs.length) fs.length = fs.getD m 0 := by unfold firstOf; rw [hk]; simp
          rw [hfo] at HX
          have hfc := HS.out.row.firsts m hmlt
          have hnm : ¬ fs.length = m := by omega
          have hmn : ¬ m = fs.length := by omega
          have HK : Bx (∀ w1, Below wr.heap.size wr w1 → ∃ b o, ka = some ⟨b, o, none⟩ ∧ w1.cell? ⟨b, o, none⟩ = some (.int .i64 (m : Int)) ∧ ¬ b = w.heap.size) := ⟨fun w1 hb1 => by
            obtain ⟨a, cap, he, h1, h2, h3⟩ := (hnd.below (hb1.mono (by omega)) HN.out.1.lo).kids.ex
            simp only [Value.slice.injEq, true_and] at he
            obtain ⟨rfl, rfl⟩ := he
            rw [hk] at h3
            obtain ⟨b, o, rfl, hbB, hcell⟩ := h3 (by simp)
            have := hcell 0 (by simp)
            simp only [List.getElem_cons_zero, Nat.add_zero] at this
            exact ⟨b, o, rfl, this, by omega⟩⟩
          have HF : Bx (∀ w1, Below wr.heap.size wr w1 → w1.cell? ⟨w.heap.size, m, none⟩ = some (.int .i64 (fs.getD m 0 : Nat))) := ⟨fun w1 hb1 => (HS.out.row.below hb1).firsts m hmlt⟩
          obtain ⟨b, o, rfl, _⟩ := HK.out wr (Below.refl _ _)
          have hln : r.length + 1 ≤ maxLen := by
            obtain ⟨a, cap, he, h1, h2, h3⟩ := hnd.kids.ex
            rw [hk] at h2
            simpa using h2
          unfold maxLen at hln
          generalize fs.getD m 0 = z at *
          clear hnd q1 q2 q3 q4 q5 q6 q7 hle hfo hfc
          go_wp2_with (first | (go_at_call 23; refine Calls.mono HC.out ?_; rintro e w1 ⟨rfl, hb1⟩; obtain ⟨g1, g2, g3⟩ := HA.out w1 hb1; obtain ⟨x0, g4⟩ := g2.cell fs.length hlt; have g5 := g2.frozen fs.length; have g6 := g2.lt; have g7 := g3.c2; rw [hk] at g7; have g8 : Bx _ := ⟨g2⟩; have g9 := HF.out w1 hb1; obtain ⟨b', o', hbe, ga, gb⟩ := HK.out w1 hb1; simp only [Option.some.injEq, Addr.mk.injEq, and_true] at hbe; obtain ⟨rfl, rfl⟩ := hbe; clear g2 g3))
          go_roundw
          case rel => exact ⟨fs ++ [z], by simp; omega, by first | (simp; done) | (simp; go_num), ⟨HX.out _ (Below.setCell (p := ⟨w.heap.size, fs.length, none⟩) g1 (Nat.le_refl _) _) (g8.out.put hlt _) _ rfl⟩⟩
          case measure => simp [intOf]; omega
      · have HE : Bx (R = (fs.length, checkNodeI l fs fs.length)) := ⟨by
          rw [← HR.out, HS.out.eq]
          obtain ⟨m, hm⟩ : ∃ m, l.length - fs.length = m + 1 := ⟨l.length - fs.length - 1, by omega⟩
          rw [hm, checkGo, if_neg hz]⟩
        generalize checkNodeI l fs fs.length = cd at *
        have hcd : ((cd : Int) != 0) = true := by rw [bne_iff_ne]; omega
        clear hz
        go_wp2_with (first | (go_at_call 23; refine Calls.mono HC.out ?_; rintro e w1 ⟨rfl, hb1⟩))
        go_ret2
        exact ⟨by rw [HE.out]; rfl, HS.out.bel.trans (hb1.mono hsz)⟩
    · have hfl : fs.length = l.length := by omega
      have HE : Bx (R = rootI l fs) := ⟨by rw [← HR.out, HS.out.eq, show l.length - fs.length = 0 by omega]; rfl⟩
      obtain ⟨N, hN⟩ : ∃ N, l.length = N + 1 := ⟨l.length - 1, by omega⟩
      obtain ⟨ka, kc, hnd⟩ := (HN.out.1.below (HS.out.bel.mono HN.out.1.hi)).at_ N (by omega)
      have hc0 := hnd.c0
      have hfc := HS.out.row.firsts N (by omega)
      have hle := HS.out.le N (by omega)
      have hbel := HS.out.bel
      have hsz := HS.out.row.lt
      change wr.cell? _ = some (.int .i64 (kdN l N)) at hc0
      have HE' : Bx (R = if kdN l N ≠ 46 ∨ fs.getD N 0 ≠ 0 then (N + 1, 25) else (0, 0)) := ⟨by
        rw [HE.out]; unfold rootI; rw [hN]; simp⟩
      generalize fs.getD N 0 = z at *
      generalize kdN l N = kd at *
      have hNi : ((N + 1 : Nat) : Int) - 1 = (N : Int) := by omega
      clear HE HS HR HN
      cases e1 : (kd != 46)
      · cases e2 : ((z : Int) != 0)
        · have HE2 : Bx (R = (0, 0)) := ⟨by rw [HE'.out, if_neg (by simp at e1 e2; omega)]⟩
          clear HE'
          go_wp2
          go_ret2
          exact ⟨by rw [HE2.out]; rfl, hbel⟩
        · have HE2 : Bx (R = (l.length, 25)) := ⟨by rw [HE'.out, if_pos (by simp at e1 e2; omega), hN]⟩
          clear HE'
          go_wp2
          go_ret2
          exact ⟨by rw [HE2.out, hN]; simp, hbel⟩
      · have HE2 : Bx (R = (l.length, 25)) := ⟨by rw [HE'.out, if_pos (by simp at e1; omega), hN]⟩
        clear HE'
        go_wp2
        go_ret2
        exact ⟨by rw [HE2.out, hN]; simp, hbel⟩

set_option maxRecDepth 100000 in
set_option maxHeartbeats 2000000 in
theorem Check_none (w : World) (a : Option Addr) (cap : Nat) :
    Calls Tryd.prog 17 #[.slice a 0 cap] w fun e w' => e = .returned (.tuple #[.int .i64 0, .int .i64 25]) ∧ Below w.heap.size w w' := by
  have hmk := make_ints w 0 (by omega)
  simp only [Int.natCast_zero] at hmk
  go_enter Tryd.func17, Tryd.ntmps17
  go_wp2
  go_loopw [13] (fun x wr => x = .int .i64 0 ∧ Below w.heap.size w wr) (fun _ _ => 0)
  case atStart => exact ⟨rfl, below1 w _⟩
  case round =>
    obtain ⟨rfl, hbel⟩ := hrel
    go_wp2
    go_ret2
    exact ⟨rfl, hbel⟩

/-- nodes, as a slice's value has them: none, or some -/
structure IsNodes (w : World) (B : Nat) (a : Option Addr) (cap : Nat) (l : List Nd) : Prop where
  at_ : 0 < l.length → ∃ nb no, a = some ⟨nb, no, none⟩ ∧ Nodes w B nb no cap l
  hi : B ≤ w.heap.size
theorem IsNodes.below {w w' : World} {B cap : Nat} {a : Option Addr} {l : List Nd} (h : IsNodes w B a cap l) (hb : Below B w w') : IsNodes w' B a cap l := by
  refine ⟨fun h0 => ?_, Nat.le_trans h.hi hb.size⟩
  obtain ⟨nb, no, e, hn⟩ := h.at_ h0
  exact ⟨nb, no, e, hn.below hb⟩

/-- **tree.Check** -/
theorem Check_any (w : World) (B : Nat) (a : Option Addr) (cap : Nat) (l : List Nd) (hn : IsNodes w B a cap l) (hL : Laid w) (hl31 : l.length ≤ 2147483647) :
    Calls Tryd.prog 17 #[.slice a l.length cap] w fun e w' => e = .returned (.tuple #[.int .i64 ((checkAll l).1 : Nat), .int .i64 ((checkAll l).2 : Nat)]) ∧ Below w.heap.size w w' := by
  by_cases h0 : 0 < l.length
  · obtain ⟨nb, no, rfl, h⟩ := hn.at_ h0
    exact Check_some w B nb no cap l h hL hl31 h0
  · have hx : l = [] := List.eq_nil_of_length_eq_zero (by omega)
    subst hx
    exact Check_none w a cap
end Go.Proofs.YtjjbgbadkbomlaaDoor
