import Derived.Test.YtfocggaocadkmaaDoorCTNode
import Derived.Test.YtfocggaocadkmaaDoorCTChkP
import Derived.Deep.LoopGhost
namespace Go.Proofs.YtfocggaocadkmaaDoor
open Go.RowKit
set_option linter.unusedVariables false
set_option linter.unusedSimpArgs false

theorem checkNode_any (w : World) (B nb no nc fb N fc : Nat) (l : List Nd) (fs : List Nat) (hw : CkW w B nb no nc fb N fc l fs) (hi : fs.length < l.length) (hN : fs.length ≤ N) (hNm : N ≤ maxLen) (hle : ∀ j, j < fs.length → fs.getD j 0 ≤ j) :
    Calls Tryd.prog 25 #[.slice (some ⟨nb, no, none⟩) l.length nc, .slice (some ⟨fb, 0, none⟩) N fc, .int .i64 fs.length] w fun e w' => e = .returned (.int .i64 (checkNodeI l fs fs.length : Nat)) ∧ Below w.heap.size w w' := by
  obtain ⟨ka, kc, hnd⟩ := hw.nodes.at_ fs.length hi
  have hwf := hw.nodes.wf fs.length hi
  have h5 := hnd.five
  have hk := hnd.kids
  have hnm := hwf.name
  generalize hR : checkNodeI l fs fs.length = R
  unfold checkNodeI at hR
  generalize ndN l fs.length = n at *
  obtain ⟨kd, p, kids, nm, num⟩ := n
  simp only at *
  by_cases e1 : kindI kd = true
  · by_cases e2 : p < 0
    · rw [if_pos (Or.inr e2)] at hR
      subst hR
      exact node_pos w B nb no nc fb N fc l fs ka kc kd p num kids nm 0 hw hi hN hNm hle hk hnm h5 e1 e2
    · rw [if_neg (by simp [e1, e2])] at hR
      by_cases e3 : numFitsI kd num kids.length = true
      · rw [if_neg (by simp [e3])] at hR
        by_cases e4 : nameFitsI kd nm = true
        · rw [if_neg (by simp [e4])] at hR
          by_cases e5 : orderI fs fs.length kids = true
          · by_cases e6 : kidsFitI (kdN l) kd num (kids.map Int.toNat) = true
            · rw [if_neg (by simp [e5, e6])] at hR
              have h44 : kd = 44 → 0 < kids.length := fun h => by
                have := kids_ne e6 (by omega)
                rcases Nat.eq_zero_or_pos kids.length with h0 | h0
                · exact absurd (by rw [List.eq_nil_of_length_eq_zero h0]; rfl) this
                · exact h0
              by_cases e7 : levelsFitI l ⟨kd, p, kids, nm, num⟩ = true
              · rw [if_neg (by simp [e7])] at hR
                subst hR
                exact node_ok w B nb no nc fb N fc l fs ka kc kd p num kids nm 0 hw hi hN hNm hle hk hnm h5 e1 e2 e3 e4 e5 e6 h44 e7
              · rw [if_pos (by simpa using e7)] at hR
                subst hR
                exact node_level w B nb no nc fb N fc l fs ka kc kd p num kids nm 0 hw hi hN hNm hle hk hnm h5 e1 e2 e3 e4 e5 e6 h44 (by simpa using e7)
            · rw [if_pos (Or.inr (by simpa using e6))] at hR
              subst hR
              exact node_kids w B nb no nc fb N fc l fs ka kc kd p num kids nm 0 hw hi hN hNm hle hk hnm h5 e1 e2 e3 e4 e5 (by simpa using e6)
          · rw [if_pos (Or.inl (by simpa using e5))] at hR
            subst hR
            exact node_order w B nb no nc fb N fc l fs ka kc kd p num kids nm 0 hw hi hN hNm hle hk hnm h5 e1 e2 e3 e4 (by simpa using e5)
        · rw [if_pos (by simpa using e4)] at hR
          subst hR
          exact node_name w B nb no nc fb N fc l fs ka kc kd p num kids nm 0 hw hi hN hNm hle hk hnm h5 e1 e2 e3 (by simpa using e4)
      · rw [if_pos (by simpa using e3)] at hR
        subst hR
        exact node_num w B nb no nc fb N fc l fs ka kc kd p num kids nm 0 hw hi hN hNm hle hk hnm h5 e1 e2 (by simpa using e3)
  · rw [if_pos (Or.inl (by simpa using e1))] at hR
    subst hR
    exact node_kind w B nb no nc fb N fc l fs ka kc kd p num kids nm 0 hw hi hN hNm hle hk hnm h5 (by simpa using e1)

/-- the row of the firsts, as far as it is filled -/
structure FRow (W : World) (fb N : Nat) (fs : List Nat) : Prop where
  ex : ∃ C : Array Value, W.heap[fb]? = some (.cells C 3 (0, 0)) ∧ C.size = N ∧ (∀ j, j < fs.length → C[j]? = some (.int .i64 (fs.getD j 0 : Nat))) ∧ ∀ j, j < N → ∃ x : Int, C[j]? = some (.int .i64 x)
theorem FRow.firsts {W : World} {fb N : Nat} {fs : List Nat} (h : FRow W fb N fs) : FirstsAt W fb fs := by
  obtain ⟨C, h1, h2, h3, _⟩ := h.ex
  intro j hj
  rw [cell_of_row W fb j C 3 (0, 0) h1]
  exact h3 j hj
theorem FRow.cell {W : World} {fb N : Nat} {fs : List Nat} (h : FRow W fb N fs) (j : Nat) (hj : j < N) : ∃ x : Int, W.cell? ⟨fb, j, none⟩ = some (.int .i64 x) := by
  obtain ⟨C, h1, h2, h3, h4⟩ := h.ex
  obtain ⟨x, hx⟩ := h4 j hj
  exact ⟨x, by rw [cell_of_row W fb j C 3 (0, 0) h1]; exact hx⟩
theorem FRow.frozen {W : World} {fb N : Nat} {fs : List Nat} (h : FRow W fb N fs) (j : Nat) : W.frozen? ⟨fb, j, none⟩ = false := by
  obtain ⟨C, h1, _⟩ := h.ex
  simp [World.frozen?, h1]
theorem FRow.lt {W : World} {fb N : Nat} {fs : List Nat} (h : FRow W fb N fs) : fb < W.heap.size := by
  obtain ⟨C, h1, _⟩ := h.ex
  rcases Nat.lt_or_ge fb W.heap.size with h' | h'
  · exact h'
  · simp [Array.getElem?_eq_none h'] at h1
theorem FRow.below {W W' : World} {fb N : Nat} {fs : List Nat} (h : FRow W fb N fs) (hb : Below W.heap.size W W') : FRow W' fb N fs := by
  obtain ⟨C, h1, h2⟩ := h.ex
  exact ⟨C, by rw [hb.block fb h.lt]; exact h1, h2⟩
theorem FRow.set {W : World} {fb N : Nat} {fs : List Nat} (h : FRow W fb N fs) (hi : fs.length < N) (x : Nat) : FRow (W.setCell ⟨fb, fs.length, none⟩ (.int .i64 x)) fb N (fs ++ [x]) := by
  obtain ⟨C, h1, h2, h3, h4⟩ := h.ex
  refine ⟨C.setIfInBounds fs.length (.int .i64 x), heap_setCell_same W fb fs.length C 3 _ h1, by simp [h2], fun j hj => ?_, fun j hj => ?_⟩
  · rw [Array.getElem?_setIfInBounds]
    by_cases hj2 : j < fs.length
    · rw [if_neg (by omega), h3 j hj2]
      simp only [List.getD_eq_getElem?_getD]
      rw [List.getElem?_append_left hj2]
    · have : j = fs.length := by simp at hj; omega
      subst this
      rw [if_pos rfl, if_pos (by omega)]
      simp [List.getD_eq_getElem?_getD]
  · rw [Array.getElem?_setIfInBounds]
    by_cases hj2 : fs.length = j
    · rw [if_pos hj2, if_pos (by omega)]
      exact ⟨_, rfl⟩
    · rw [if_neg hj2]
      exact h4 j hj

theorem FRow.put {W : World} {fb N : Nat} {fs : List Nat} (h : FRow W fb N fs) (hi : fs.length < N) (v : Int) : FRow (W.setCell ⟨fb, fs.length, none⟩ (.int .i64 v)) fb N fs := by
  obtain ⟨C, h1, h2, h3, h4⟩ := h.ex
  refine ⟨C.setIfInBounds fs.length (.int .i64 v), heap_setCell_same W fb fs.length C 3 _ h1, by simp [h2], fun j hj => ?_, fun j hj => ?_⟩
  · rw [Array.getElem?_setIfInBounds, if_neg (by omega), h3 j hj]
  · rw [Array.getElem?_setIfInBounds]
    by_cases hj2 : fs.length = j
    · rw [if_pos hj2, if_pos (by omega)]
      exact ⟨_, rfl⟩
    · rw [if_neg hj2]
      exact h4 j hj
/-- in the midst of Check -/
structure ChkS (w : World) (wr : World) (l : List Nd) (fs : List Nat) : Prop where
  bel : Below w.heap.size w wr
  row : FRow wr w.heap.size l.length fs
  le : ∀ j, j < fs.length → fs.getD j 0 ≤ j
  led : Led l fs.length
  eq : checkAll l = checkGo l (l.length - fs.length) fs
theorem ChkS.ckw {w wr : World} {l : List Nd} {fs : List Nat} {B nb no nc : Nat} (h : ChkS w wr l fs) (hn : Nodes w B nb no nc l) (hL : Laid w) : CkW wr B nb no nc w.heap.size l.length l.length l fs :=
  ⟨hn.below (h.bel.mono hn.hi), h.led, h.row.firsts, hL.below h.bel, h.row.lt⟩

theorem led_snoc {l : List Nd} {fs : List Nat} (h : Led l fs.length) (hz : checkNodeI l fs fs.length = 0) (hle : ∀ j, j < fs.length → fs.getD j 0 ≤ j) : Led l (fs.length + 1) := by
  intro j hj h1 h2
  by_cases hj2 : j < fs.length
  · exact h j hj2 h1 h2
  · have : j = fs.length := by omega
    subst this
    obtain ⟨q1, q2, q3, q4, q5, q6, q7⟩ := node_zero hz
    have hne := kids_ne q6 (by unfold kdN at h1 h2; omega)
    match hk : (ndN l fs.length).kids with
    | [] => rw [hk] at hne; exact absurd rfl hne
    | k :: r =>
      rw [hk] at q5
      obtain ⟨m, hm, hlt⟩ := kids_at hle q5 0 (by simp)
      simp at hm
      exact ⟨m, r, by rw [hm], hlt⟩
theorem ChkS.next {w wr w1 : World} {l : List Nd} {fs : List Nat} (h : ChkS w wr l fs) (hi : fs.length < l.length) (hz : checkNodeI l fs fs.length = 0) (hbel : Below w.heap.size w w1) (hrow : FRow w1 w.heap.size l.length fs) :
    ∀ x, x = firstOf fs (ndN l fs.length) fs.length → ChkS w (w1.setCell ⟨w.heap.size, fs.length, none⟩ (.int .i64 (x : Nat))) l (fs ++ [x]) := by
  rintro x rfl
  obtain ⟨q1, q2, q3, q4, q5, q6, q7⟩ := node_zero hz
  have hr := hrow.set hi (firstOf fs (ndN l fs.length) fs.length)
  refine ⟨Below.setCell (p := ⟨w.heap.size, fs.length, none⟩) hbel (Nat.le_refl _) _, hr, snoc_le h.le (first_le h.le q5), ?_, ?_⟩
  · have := led_snoc h.led hz h.le
    simpa using this
  · rw [h.eq]
    obtain ⟨m, hm⟩ : ∃ m, l.length - fs.length = m + 1 := ⟨l.length - fs.length - 1, by omega⟩
    rw [hm, checkGo, if_pos hz]
    congr 1
    simp
    omega
end Go.Proofs.YtfocggaocadkmaaDoor
