import Derived.Test.YtecpknpcjoiliaaDoorCJTa
import Derived.Test.YtecpknpcjoiliaaDoorCJRc
namespace Go.Proofs.YtecpknpcjoiliaaDoor
open Go.RowKit Go.Shelf
set_option linter.unusedVariables false
set_option linter.unusedSimpArgs false

/-- an event with a letter's number -/
def setE (e : Ev) (c : UInt8) (n : Int) : Ev := if c = 80 then { e with p := n } else if c = 73 then { e with i := n } else if c = 81 then { e with q := n } else if c = 74 then { e with j := n } else if c = 67 then { e with c := n } else { e with num := n }
/-- what a letter takes off the words -/
def stepC (c : UInt8) (e : Ev) (ws : List (List UInt8)) : Option (Ev × List (List UInt8)) :=
  if c = 76 then (numsOf ws).map fun l => ({ e with list := e.list ++ l }, [])
  else match ws with
    | [] => none
    | t :: r => if c = 84 then (if place t trapW = 0 then none else some (setE e c (place t trapW : Nat), r))
      else if c = 83 then (if place t spentW = 0 then none else some (setE e c (place t spentW : Nat), r))
      else (numOf t).map fun n => (setE e c n, r)
def foldC : List UInt8 → Ev → List (List UInt8) → Option (Ev × List (List UInt8))
  | [], e, ws => some (e, ws)
  | c :: cs, e, ws => (stepC c e ws).bind fun x => foldC cs x.1 x.2
def evK (k : Int) : Ev := { noEv with kind := k }
def endC (x : Option (Ev × List (List UInt8))) : Option Ev := match x with
  | none => none
  | some (e, r) => if r = [] ∧ evOk e = true then some e else none
theorem step_num {c : UInt8} (h1 : c ≠ 76) (h2 : c ≠ 84) (h3 : c ≠ 83) (e : Ev) (ws : List (List UInt8)) : stepC c e ws = (takeN ws).map fun x => (setE e c x.1, x.2) := by
  unfold stepC
  rw [if_neg h1]
  cases ws with
  | nil => rfl
  | cons t r =>
    simp only [if_neg h2, if_neg h3, takeN]
    cases numOf t <;> rfl
theorem evOk_zero {e : Ev} (h : (tsh e.kind).2.2 = 2 ∨ (tsh e.kind).2.2 = 3) (hn : e.num = 0) : evOk e = false := by
  unfold evOk tlOk
  rcases h with h | h
  · rw [h, hn]; simp
  · rw [h, hn]; simp
theorem fold_one {c : UInt8} {cs : List UInt8} {e : Ev} {ws : List (List UInt8)} (h1 : c ≠ 76) (h2 : c ≠ 84) (h3 : c ≠ 83) : foldC (c :: cs) e ws = (takeN ws).bind fun x => foldC cs (setE e c x.1) x.2 := by
  rw [foldC, step_num h1 h2 h3]
  cases takeN ws <;> rfl
theorem fold_word {c : UInt8} {l : List (List UInt8)} (hc : c = 84 ∧ l = trapW ∨ c = 83 ∧ l = spentW) {e : Ev} {ws : List (List UInt8)} : foldC [c] e ws = match ws with
    | [] => none
    | t :: r => if place t l = 0 then none else some ({ e with num := (place t l : Nat) }, r) := by
  rcases hc with ⟨rfl, rfl⟩ | ⟨rfl, rfl⟩
  · cases ws with
    | nil => rfl
    | cons t r =>
      simp only [foldC, stepC, show ¬ ((84 : UInt8) = 76) by decide, if_false, if_true]
      by_cases h : place t trapW = 0
      · simp [h]
      · simp [h, setE]
  · cases ws with
    | nil => rfl
    | cons t r =>
      simp only [foldC, stepC, show ¬ ((83 : UInt8) = 76) by decide, show ¬ ((83 : UInt8) = 84) by decide, if_false, if_true]
      by_cases h : place t spentW = 0
      · simp [h]
      · simp [h, setE]
theorem fold_list {e : Ev} {ws : List (List UInt8)} : foldC [76] e ws = (numsOf ws).map fun l => ({ e with list := e.list ++ l }, []) := by
  simp only [foldC, stepC, if_true]
  cases numsOf ws <;> rfl
set_option maxHeartbeats 2000000 in
theorem resC {k : Nat} (hk : 1 ≤ k ∧ k ≤ 11) (ws : List (List UInt8)) : resW (tsh k).2.1 (tsh k).2.2 k ws = endC (foldC (shS k) (evK k) ws) := by
  have hb : ∀ a b, hasB a b = a.testBit b := fun _ _ => rfl
  have hk' : k = 1 ∨ k = 2 ∨ k = 3 ∨ k = 4 ∨ k = 5 ∨ k = 6 ∨ k = 7 ∨ k = 8 ∨ k = 9 ∨ k = 10 ∨ k = 11 := by omega
  rcases hk' with rfl | rfl | rfl | rfl | rfl | rfl | rfl | rfl | rfl | rfl | rfl
  · show resW 5 0 1 ws = endC (foldC [80, 81] (evK 1) ws)
    rw [fold_one (by decide) (by decide) (by decide)]
    unfold resW
    simp only [rdPl, hb, show Nat.testBit 5 0 = true by decide, show Nat.testBit 5 1 = false by decide, show Nat.testBit 5 2 = true by decide, show Nat.testBit 5 3 = false by decide, show Nat.testBit 5 4 = false by decide, if_true, Bool.false_eq_true, if_false]
    cases takeN ws with
    | none => rfl
    | some x =>
      simp only [Option.bind_some]
      rw [fold_one (by decide) (by decide) (by decide)]
      cases takeN x.2 with
      | none => rfl
      | some y => rfl
  · show resW 31 0 2 ws = endC (foldC [80, 73, 81, 74, 67] (evK 2) ws)
    rw [fold_one (by decide) (by decide) (by decide)]
    unfold resW
    simp only [rdPl, hb, show Nat.testBit 31 0 = true by decide, show Nat.testBit 31 1 = true by decide, show Nat.testBit 31 2 = true by decide, show Nat.testBit 31 3 = true by decide, show Nat.testBit 31 4 = true by decide, if_true]
    cases takeN ws with
    | none => rfl
    | some x =>
      simp only [Option.bind_some]
      rw [fold_one (by decide) (by decide) (by decide)]
      cases takeN x.2 with
      | none => rfl
      | some y =>
        simp only [Option.bind_some]
        rw [fold_one (by decide) (by decide) (by decide)]
        cases takeN y.2 with
        | none => rfl
        | some z =>
          simp only [Option.bind_some]
          rw [fold_one (by decide) (by decide) (by decide)]
          cases takeN z.2 with
          | none => rfl
          | some u =>
            simp only [Option.bind_some]
            rw [fold_one (by decide) (by decide) (by decide)]
            cases takeN u.2 with
            | none => rfl
            | some v => rfl
  · show resW 12 1 3 ws = endC (foldC [81, 74, 78] (evK 3) ws)
    rw [fold_one (by decide) (by decide) (by decide)]
    unfold resW
    simp only [rdPl, hb, show Nat.testBit 12 0 = false by decide, show Nat.testBit 12 1 = false by decide, show Nat.testBit 12 2 = true by decide, show Nat.testBit 12 3 = true by decide, show Nat.testBit 12 4 = false by decide, if_true, Bool.false_eq_true, if_false]
    cases takeN ws with
    | none => rfl
    | some x =>
      simp only [Option.bind_some]
      rw [fold_one (by decide) (by decide) (by decide)]
      cases takeN x.2 with
      | none => rfl
      | some y =>
        simp only [Option.bind_some]
        rw [fold_one (by decide) (by decide) (by decide)]
        simp only [Option.map_some, rdTl, if_true]
        cases y.2 with
        | nil => rfl
        | cons t r =>
          simp only [takeN]
          cases numOf t with
          | none => rfl
          | some n => rfl
  · show resW 3 1 4 ws = endC (foldC [80, 73, 78] (evK 4) ws)
    rw [fold_one (by decide) (by decide) (by decide)]
    unfold resW
    simp only [rdPl, hb, show Nat.testBit 3 0 = true by decide, show Nat.testBit 3 1 = true by decide, show Nat.testBit 3 2 = false by decide, show Nat.testBit 3 3 = false by decide, show Nat.testBit 3 4 = false by decide, if_true, Bool.false_eq_true, if_false]
    cases takeN ws with
    | none => rfl
    | some x =>
      simp only [Option.bind_some]
      rw [fold_one (by decide) (by decide) (by decide)]
      cases takeN x.2 with
      | none => rfl
      | some y =>
        simp only [Option.bind_some]
        rw [fold_one (by decide) (by decide) (by decide)]
        simp only [Option.map_some, rdTl, if_true]
        cases y.2 with
        | nil => rfl
        | cons t r =>
          simp only [takeN]
          cases numOf t with
          | none => rfl
          | some n => rfl
  · show resW 1 0 5 ws = endC (foldC [80] (evK 5) ws)
    rw [fold_one (by decide) (by decide) (by decide)]
    unfold resW
    simp only [rdPl, hb, show Nat.testBit 1 0 = true by decide, show Nat.testBit 1 1 = false by decide, show Nat.testBit 1 2 = false by decide, show Nat.testBit 1 3 = false by decide, show Nat.testBit 1 4 = false by decide, if_true, Bool.false_eq_true, if_false]
    cases takeN ws with
    | none => rfl
    | some x => rfl
  · show resW 1 2 6 ws = endC (foldC [80, 84] (evK 6) ws)
    rw [fold_one (by decide) (by decide) (by decide)]
    unfold resW
    simp only [rdPl, hb, show Nat.testBit 1 0 = true by decide, show Nat.testBit 1 1 = false by decide, show Nat.testBit 1 2 = false by decide, show Nat.testBit 1 3 = false by decide, show Nat.testBit 1 4 = false by decide, if_true, Bool.false_eq_true, if_false]
    cases takeN ws with
    | none => rfl
    | some x =>
      simp only [Option.bind_some]
      rw [fold_word (.inl ⟨rfl, rfl⟩)]
      simp only [Option.map_some, rdTl, show ¬ (2 = 1) by decide, if_false, show (2 = 2 ∨ 2 = 3) = True by simp, if_true]
      cases x.2 with
      | nil => rfl
      | cons t r =>
        show (if r = [] ∧ evOk _ = true then some _ else none) = endC (if place t trapW = 0 then none else _)
        by_cases h : place t trapW = 0
        · rw [if_pos h, evOk_zero (.inl rfl) (by show ((place t trapW : Nat) : Int) = 0; rw [h]; rfl)]
          simp [endC]
        · rw [if_neg h]
          rfl
  · show resW 0 0 7 ws = endC (foldC [] (evK 7) ws)
    unfold resW
    rw [rd_none]
    rfl
  · show resW 0 0 8 ws = endC (foldC [] (evK 8) ws)
    unfold resW
    rw [rd_none]
    rfl
  · show resW 0 4 9 ws = endC (foldC [76] (evK 9) ws)
    rw [fold_list]
    unfold resW
    rw [rd_none]
    simp only [rdTl, show ¬ (4 = 1) by decide, show ¬ (4 = 2 ∨ 4 = 3) by decide, if_false, if_true]
    cases numsOf ws with
    | none => rfl
    | some l => rfl
  · show resW 1 0 10 ws = endC (foldC [80] (evK 10) ws)
    rw [fold_one (by decide) (by decide) (by decide)]
    unfold resW
    simp only [rdPl, hb, show Nat.testBit 1 0 = true by decide, show Nat.testBit 1 1 = false by decide, show Nat.testBit 1 2 = false by decide, show Nat.testBit 1 3 = false by decide, show Nat.testBit 1 4 = false by decide, if_true, Bool.false_eq_true, if_false]
    cases takeN ws with
    | none => rfl
    | some x => rfl
  · show resW 1 3 11 ws = endC (foldC [80, 83] (evK 11) ws)
    rw [fold_one (by decide) (by decide) (by decide)]
    unfold resW
    simp only [rdPl, hb, show Nat.testBit 1 0 = true by decide, show Nat.testBit 1 1 = false by decide, show Nat.testBit 1 2 = false by decide, show Nat.testBit 1 3 = false by decide, show Nat.testBit 1 4 = false by decide, if_true, Bool.false_eq_true, if_false]
    cases takeN ws with
    | none => rfl
    | some x =>
      simp only [Option.bind_some]
      rw [fold_word (.inr ⟨rfl, rfl⟩)]
      simp only [Option.map_some, rdTl, show ¬ (3 = 1) by decide, if_false, show (3 = 2 ∨ 3 = 3) = True by simp, if_true]
      cases x.2 with
      | nil => rfl
      | cons t r =>
        show (if r = [] ∧ evOk _ = true then some _ else none) = endC (if place t spentW = 0 then none else _)
        by_cases h : place t spentW = 0
        · rw [if_pos h, evOk_zero (.inr rfl) (by show ((place t spentW : Nat) : Int) = 0; rw [h]; rfl)]
          simp [endC]
        · rw [if_neg h]
          rfl
theorem evOf_C {t w0 : List UInt8} {ws : List (List UInt8)} (hw : wordsL 32 t = w0 :: ws) : evOf t = if tkind w0 = 0 then none else endC (foldC (shS (tkind w0)) (evK (tkind w0)) ws) := by
  unfold wordsL at hw
  injection hw with h1 h2
  have e : evOf t = if tkind w0 = 0 then none else resW (tsh (tkind w0)).2.1 (tsh (tkind w0)).2.2 (tkind w0) ws := by
    unfold evOf
    rw [h1, h2]
    rfl
  rw [e]
  by_cases h : tkind w0 = 0
  · rw [if_pos h, if_pos h]
  · rw [if_neg h, if_neg h, resC ⟨by omega, tkind_le _⟩]
end Go.Proofs.YtecpknpcjoiliaaDoor
namespace Go.Proofs.YtecpknpcjoiliaaDoor
open Go.RowKit Go.Shelf
set_option linter.unusedVariables false
set_option linter.unusedSimpArgs false

/-- the reference's event under way -/
structure RvS (w W : World) (H G : Nat) (e : Ev) (v : Value) (gw : Nat) (ws : List (List UInt8)) : Prop where
  bel : Below H w W
  re : W.heap[H]? = some (evB noEv (.slice none 0 0))
  hg : H < G
  ev : W.heap[G]? = some (evB e v)
  row : NRo W (G + 1) v e.list
  gl : gw < G
  wd : ∀ j (hj : j < ws.length), W.cell? ⟨gw, j, none⟩ = some (strV ws[j])
section
variable {w W W' : World} {H G gw : Nat} {e : Ev} {v : Value} {ws : List (List UInt8)}
theorem RvS.sz (h : RvS w W H G e v gw ws) : G < W.heap.size := heap_lt h.ev
theorem RvS.on (h : RvS w W H G e v gw ws) (hb : Below W.heap.size W W') : RvS w W' H G e v gw ws := by
  have hz := h.sz
  have h1 := h.hg
  have h2 := h.gl
  exact ⟨h.bel.trans (hb.mono (by omega)), below_heap hb h.re, h1, below_heap hb h.ev, h.row.below hb, h2, fun j hj => by rw [hb.cell (p := ⟨gw, j, none⟩) (by show gw < W.heap.size; omega)]; exact h.wd j hj⟩
/-- a cell of the event is written -/
theorem RvS.put (h : RvS w W H G e v gw ws) {e' : Ev} {v' : Value} (i : Nat) (x : Value) (he : (W.setCell ⟨G, i, none⟩ x).heap[G]? = some (evB e' v')) (hr : NRo W (G + 1) v' e'.list) : RvS w (W.setCell ⟨G, i, none⟩ x) H G e' v' gw ws := by
  have h1 := h.hg
  have h2 := h.gl
  have hk : ∀ y, y ≠ G → (W.setCell ⟨G, i, none⟩ x).heap[y]? = W.heap[y]? := fun y hy => Below.heap_setCell W ⟨G, i, none⟩ x y hy
  refine ⟨h.bel.trans ((Below.refl H W).setCell (p := ⟨G, i, none⟩) (by show H ≤ G; omega) x), by rw [hk H (by omega)]; exact h.re, h1, he, owns_same hr fun y hy _ => hk y (by omega), h2, fun j hj => ?_⟩
  have hb : Below G W (W.setCell ⟨G, i, none⟩ x) := (Below.refl G W).setCell (p := ⟨G, i, none⟩) (Nat.le_refl _) x
  rw [hb.cell (p := ⟨gw, j, none⟩) h2]
  exact h.wd j hj
theorem RvS.kind (h : RvS w W H G e v gw ws) (n : Int) : RvS w (W.setCell ⟨G, 0, none⟩ (.int .i64 n)) H G { e with kind := n } v gw ws :=
  h.put 0 _ (by have := Lib.heap_setCell_same (i := 0) h.ev (.int .i64 n); simpa using this) h.row
theorem setE_list (e : Ev) (c : UInt8) (n : Int) : (setE e c n).list = e.list := by
  unfold setE
  repeat' split
  all_goals rfl
theorem RvS.field (h : RvS w W H G e v gw ws) (c : UInt8) (n : Int) : RvS w (W.setCell ⟨G, fiL c, none⟩ (.int .i64 n)) H G (setE e c n) v gw ws := by
  refine h.put _ _ ?_ (by rw [setE_list]; exact h.row)
  have := Lib.heap_setCell_same (i := fiL c) h.ev (.int .i64 n)
  rw [this]
  unfold fiL setE
  repeat' split
  all_goals rfl
theorem RvS.fld (h : RvS w W H G e v gw ws) (c : UInt8) : W.cell? ⟨G, fiL c, none⟩ = some (.int .i64 (fldE e c)) ∧ W.frozen? ⟨G, fiL c, none⟩ = false := by
  obtain ⟨q0, q1, q2, q3, q4, q5, q6, q7⟩ := evB_cells h.ev
  refine ⟨?_, evB_frz h.ev _⟩
  unfold fiL fldE
  split
  · exact q1
  · split
    · exact q2
    · split
      · exact q3
      · split
        · exact q4
        · split
          · exact q5
          · exact q6
/-- a number is laid behind the list -/
theorem RvS.app (h : RvS w W H G e v gw ws) (n : Int) (hl : e.list.length ≤ 8796093022200) :
    ∃ a' n' c' W3, (∀ ty, (Builtin.append_ #[22, 22] ty #[v, .slice (some ⟨W.heap.size, 0, none⟩) 1 1]).run Tryd.prog (W.alloc (.cells #[.int .i64 n] 3)) = .ok (.slice a' n' c') W3) ∧ W3.cell? ⟨G, 7, none⟩ = some v ∧ W3.frozen? ⟨G, 7, none⟩ = false ∧ RvS w (W3.setCell ⟨G, 7, none⟩ (.slice a' n' c')) H G { e with list := e.list ++ [n] } (.slice a' n' c') gw ws := by
  have hz := h.sz
  obtain ⟨v', W3, r1, r2, r3⟩ := app_nro W (G + 1) v e.list h.row n hz hl
  obtain ⟨a', n', c', rfl⟩ : ∃ a' n' c', v' = .slice a' n' c' := by
    have r2' : W3.ownsRow (G + 1) 3 1 v' (e.list ++ [n]).length ((e.list ++ [n]).map (Value.int .i64)) := r2
    rcases r2'.2 with ⟨rfl, _⟩ | ⟨g, cap, cur, rfl, _⟩
    · exact ⟨_, _, _, rfl⟩
    · exact ⟨_, _, _, rfl⟩
  have hb : Below (G + 1) W W3 := (Below.refl _ _).grown r3 hz fun k hk => (h.row.lt hk).1
  have h1 := h.hg
  have h2 := h.gl
  have he3 : W3.heap[G]? = some (evB e v) := by rw [hb.block G (by omega)]; exact h.ev
  refine ⟨a', n', c', W3, r1, (evB_cells he3).2.2.2.2.2.2.2, evB_frz he3 7, ?_⟩
  have hk : ∀ y, y ≠ G → (W3.setCell ⟨G, 7, none⟩ (.slice a' n' c')).heap[y]? = W3.heap[y]? := fun y hy => Below.heap_setCell W3 ⟨G, 7, none⟩ _ y hy
  have hb2 : Below G W3 (W3.setCell ⟨G, 7, none⟩ (.slice a' n' c')) := (Below.refl G W3).setCell (p := ⟨G, 7, none⟩) (Nat.le_refl _) _
  have hb3 : Below G W (W3.setCell ⟨G, 7, none⟩ (.slice a' n' c')) := (hb.mono (by omega)).trans hb2
  refine ⟨h.bel.trans (hb3.mono (by omega)), by rw [hb3.block H (by omega)]; exact h.re, h1, ?_, owns_same r2 fun y hy _ => hk y (by omega), h2, fun j hj => by rw [hb3.cell (p := ⟨gw, j, none⟩) h2]; exact h.wd j hj⟩
  have := Lib.heap_setCell_same (i := 7) he3 (.slice a' n' c')
  simpa using this
theorem RvS.st (h : RvS w W H G e v gw ws) (hH : w.heap.size = H) (e2 : Ev) (v2 : Value) : Below H w (st8 W H e2 v2) := by
  have hz := h.sz
  have h1 := h.hg
  exact h.bel.trans ((st8_kx W H e2 v2).below (by omega) (fun x hx => by omega))
/-- the end where nothing is told -/
theorem RvS.no (h : RvS w W H G e v gw ws) (hH : w.heap.size = H) {res : Option Ev} (hr : res = none) : EvP w res (.returned (.tuple #[evW8 noEv (.slice none 0 0), .bool false])) (st8 W H noEv (.slice none 0 0)) := by
  subst hr
  exact ⟨⟨by rw [hH]; exact h.st hH _ _⟩, ⟨noEv, none, 0, 0, rfl⟩⟩
/-- the end of it all -/
theorem RvS.fin {a : Option Addr} {n c : Nat} (h : RvS w W H G e (.slice a n c) gw ws) (hH : w.heap.size = H) (res : Option Ev) (b : Bool) (hr : res = if b then some e else none) : EvP w res (.returned (.tuple #[evW8 e (.slice a n c), .bool b])) (st8 W H e (.slice a n c)) := by
  have hk := st8_kx W H e (.slice a n c)
  have h1 := h.hg
  refine ⟨⟨by rw [hH]; exact h.st hH _ _⟩, ?_⟩
  rw [hr]
  cases b with
  | true =>
    simp only [if_true]
    have hnl : n = e.list.length := by
      rcases h.row.2 with ⟨q, q2⟩ | ⟨g, cap, cur, q, _⟩
      · simp only [Value.slice.injEq] at q
        omega
      · simp only [Value.slice.injEq] at q
        exact q.2.1
    subst hnl
    refine ⟨a, c, rfl, ⟨?_⟩⟩
    rw [hH]
    have hrow := h.row
    refine ⟨hrow.1, ?_⟩
    rcases hrow.2 with h1' | ⟨g, cap, cur, q1, q2, q3, q4⟩
    · exact .inl h1'
    · exact .inr ⟨g, cap, cur, q1, by omega, hk.at_ q3 (by omega), q4⟩
  | false => exact ⟨e, a, n, c, rfl⟩
end
/-- the first words -/
theorem RvS.start {w W1 : World} {H gw : Nat} {ws : List (List UInt8)} (hb : Below (H + 1) (w.alloc (evB noEv (.slice none 0 0))) W1) (hH : w.heap.size = H) (hg : gw < W1.heap.size) (hw : ∀ j (hj : j < ws.length), W1.cell? ⟨gw, j, none⟩ = some (strV ws[j])) : RvS w (W1.alloc (evB noEv (.slice none 0 0))) H W1.heap.size noEv (.slice none 0 0) gw ws := by
  have b0 : Below H w (w.alloc (evB noEv (.slice none 0 0))) := by rw [← hH]; exact below1 _ _
  have b2 := below1 W1 (evB noEv (.slice none 0 0))
  have hz := hb.size
  have hz0 : (w.alloc (evB noEv (.slice none 0 0))).heap.size = H + 1 := by simp [hH]
  have h0 : (w.alloc (evB noEv (.slice none 0 0))).heap[H]? = some (evB noEv (.slice none 0 0)) := heap_newH _ _ _ hH
  refine ⟨b0.trans ((hb.mono (by omega)).trans (b2.mono (by omega))), ?_, by omega, heap_newH _ _ _ rfl, nro_nil _ _, hg, fun j hj => ?_⟩
  · rw [b2.block H (by omega), hb.block H (by omega)]
    exact h0
  · rw [b2.cell (p := ⟨gw, j, none⟩) hg]
    exact hw j hj
theorem st8_far {W : World} {H G : Nat} {e0 : Ev} {v0 : Value} (h : W.heap[G]? = some (evB e0 v0)) (hne : H < G) (e : Ev) (v : Value) : (st8 W H e v).heap[G]? = some (evB e0 v0) := (st8_kx W H e v).at_ h (by omega)
theorem drew_cells {W : World} {G : Nat} {e : Ev} {v : Value} (h : W.heap[G]? = some (evB e v)) : W.drew.cell? ⟨G, 0, none⟩ = some (.int .i64 e.kind) ∧ W.drew.cell? ⟨G, 1, none⟩ = some (.int .i64 e.p) ∧ W.drew.cell? ⟨G, 2, none⟩ = some (.int .i64 e.i) ∧ W.drew.cell? ⟨G, 3, none⟩ = some (.int .i64 e.q) ∧ W.drew.cell? ⟨G, 4, none⟩ = some (.int .i64 e.j) ∧ W.drew.cell? ⟨G, 5, none⟩ = some (.int .i64 e.c) ∧ W.drew.cell? ⟨G, 6, none⟩ = some (.int .i64 e.num) ∧ W.drew.cell? ⟨G, 7, none⟩ = some v := evB_cells (w := W.drew) h
theorem foldC_drop {cs : List UInt8} {i : Nat} (hi : i < cs.length) (e : Ev) (ws : List (List UInt8)) : foldC (cs.drop i) e ws = (stepC cs[i] e ws).bind fun x => foldC (cs.drop (i + 1)) x.1 x.2 := by
  rw [List.drop_eq_getElem_cons hi, foldC]
end Go.Proofs.YtecpknpcjoiliaaDoor
