import Derived.Test.YtecpknpcjoiliaaDoorCJO
namespace Go.Proofs.YtecpknpcjoiliaaDoor
open Go.RowKit Go.Shelf
set_option linter.unusedVariables false
set_option linter.unusedSimpArgs false

/-- what a line tells, by its places and what stands behind them -/
def resW (has t kd : Nat) (ws : List (List UInt8)) : Option Ev :=
  match rdPl has 0 5 ws with
  | none => none
  | some (l, r) => match rdTl t r with
    | none => none
    | some (num, list, r2) => if r2 = [] ∧ evOk ⟨kd, l.getD 0 0, l.getD 1 0, l.getD 2 0, l.getD 3 0, l.getD 4 0, num, list⟩ = true then some ⟨kd, l.getD 0 0, l.getD 1 0, l.getD 2 0, l.getD 3 0, l.getD 4 0, num, list⟩ else none
theorem if_two (r : List (List UInt8)) (e : Ev) : (if r = [] ∧ evOk e = true then some e else none) = if (!(!r.isEmpty) && !false && evOk e) then some e else none := by
  cases r with
  | nil => cases evOk e <;> simp
  | cons x r => simp
section
variable {has kd : Nat} {ws ws' : List (List UInt8)} {x1 x2 x3 x4 x5 : Int} {f : Bool}
theorem res_f {t : Nat} (hp : rdPl has 0 5 ws = none) (m b : Bool) (e : Ev) : resW has t kd ws = if (m && !true && b) then some e else none := by
  unfold resW
  rw [hp]
  simp
theorem res_0 (hp : if f then rdPl has 0 5 ws = none else rdPl has 0 5 ws = some ([x1, x2, x3, x4, x5], ws')) :
    resW has 0 kd ws = if (!(!ws'.isEmpty) && !f && evOk ⟨kd, x1, x2, x3, x4, x5, 0, []⟩) then some ⟨kd, x1, x2, x3, x4, x5, 0, []⟩ else none := by
  cases f with
  | true => exact res_f (by simpa using hp) _ _ _
  | false =>
    simp only [Bool.false_eq_true, if_false] at hp
    unfold resW
    rw [hp]
    simp only [rdTl, show ¬ (0 = 1) by decide, show ¬ (0 = 2 ∨ 0 = 3) by decide, show ¬ (0 = 4) by decide, if_false, List.getD_cons_zero, List.getD_cons_succ]
    exact if_two _ _
theorem res_1 {n : Int} (hp : if f then rdPl has 0 5 ws = none else rdPl has 0 5 ws = some ([x1, x2, x3, x4, x5], ws')) (hn : ∀ m, numOf (ws'.headD []) = some m → n = m) :
    resW has 1 kd ws = if (!(!ws'.tail.isEmpty) && !(if (numOf (ws'.headD [])).isSome then f else true) && evOk ⟨kd, x1, x2, x3, x4, x5, n, []⟩) then some ⟨kd, x1, x2, x3, x4, x5, n, []⟩ else none := by
  cases f with
  | true =>
    have e : (if (numOf (ws'.headD [])).isSome = true then true else true) = true := by split <;> rfl
    rw [e]
    exact res_f (by simpa using hp) _ _ _
  | false =>
    simp only [Bool.false_eq_true, if_false] at hp
    unfold resW
    rw [hp]
    simp only [rdTl, if_true, List.getD_cons_zero, List.getD_cons_succ]
    cases ws' with
    | nil =>
      have : numOf [] = none := rfl
      simp [this]
    | cons p r =>
      simp only [List.headD_cons, List.tail_cons] at hn ⊢
      have hq2 : numOf p = none ∨ ∃ x, numOf p = some x := by
        rcases numOf p with _ | x
        · exact .inl rfl
        · exact .inr ⟨x, rfl⟩
      rcases hq2 with hq | ⟨x, hq⟩
      · simp [hq]
      · have := hn x hq
        subst this
        simp only [hq, Option.map_some, Option.isSome_some, if_true]
        exact if_two _ _
theorem res_23 {t : Nat} (ht : t = 2 ∨ t = 3) (hs : (tsh kd).2.2 = t) (hp : if f then rdPl has 0 5 ws = none else rdPl has 0 5 ws = some ([x1, x2, x3, x4, x5], ws')) :
    resW has t kd ws = if (!(!ws'.tail.isEmpty) && !f && evOk ⟨kd, x1, x2, x3, x4, x5, (place (ws'.headD []) (nwords t) : Int), []⟩) then some ⟨kd, x1, x2, x3, x4, x5, (place (ws'.headD []) (nwords t) : Int), []⟩ else none := by
  cases f with
  | true => exact res_f (by simpa using hp) _ _ _
  | false =>
    simp only [Bool.false_eq_true, if_false] at hp
    unfold resW
    rw [hp]
    simp only [rdTl, if_neg (show ¬ t = 1 by omega), if_pos ht, List.getD_cons_zero, List.getD_cons_succ]
    cases ws' with
    | nil =>
      have h0 : place ([] : List UInt8) (nwords t) = 0 := by rcases ht with rfl | rfl <;> decide
      have h1 : evOk ⟨kd, x1, x2, x3, x4, x5, ((place ([] : List UInt8) (nwords t) : Nat) : Int), []⟩ = false := by
        rw [h0]
        unfold evOk tlOk
        simp only [hs]
        rw [if_neg (show ¬ t = 4 by omega), if_neg (show ¬ t = 1 by omega), if_pos ht]
        simp
      simp only [List.headD_nil, h1]
      simp
    | cons p r =>
      simp only [List.headD_cons, List.tail_cons]
      exact if_two _ _
theorem has_4 {k : Nat} (hk : (tsh k).2.2 = 4) : (tsh k).2.1 = 0 := by
  unfold tsh tshT at hk ⊢
  match h : (k : Int).toNat - 1 with
  | 0 => rw [h] at hk; exact absurd hk (by decide)
  | 1 => rw [h] at hk; exact absurd hk (by decide)
  | 2 => rw [h] at hk; exact absurd hk (by decide)
  | 3 => rw [h] at hk; exact absurd hk (by decide)
  | 4 => rw [h] at hk; exact absurd hk (by decide)
  | 5 => rw [h] at hk; exact absurd hk (by decide)
  | 6 => rw [h] at hk; exact absurd hk (by decide)
  | 7 => rw [h] at hk; exact absurd hk (by decide)
  | 8 => rfl
  | 9 => rw [h] at hk; exact absurd hk (by decide)
  | 10 => rw [h] at hk; exact absurd hk (by decide)
  | n + 11 => simp [noTsh]
theorem rd_none (ws : List (List UInt8)) : rdPl 0 0 5 ws = some ([0, 0, 0, 0, 0], ws) := by
  have hb : ∀ k, hasB 0 k = false := fun k => by unfold hasB; simp
  simp [rdPl, hb]
theorem res_4n (h0 : has = 0) (hq : numsOf ws = none) (m b : Bool) (e : Ev) : resW has 4 kd ws = if (m && !true && b) then some e else none := by
  subst h0
  unfold resW
  rw [rd_none]
  simp [rdTl, hq]
theorem res_4y {ks : List Int} (h0 : has = 0) (hq : numsOf ws = some ks) : resW has 4 kd ws = if (!false && !false && evOk ⟨kd, 0, 0, 0, 0, 0, 0, ks⟩) then some ⟨kd, 0, 0, 0, 0, 0, 0, ks⟩ else none := by
  subst h0
  unfold resW
  rw [rd_none]
  simp only [rdTl, show ¬ (4 = 1) by decide, show ¬ (4 = 2 ∨ 4 = 3) by decide, if_false, if_true, hq, Option.map_some, List.getD_cons_zero, List.getD_cons_succ]
  simp
end
/-- the event laid down -/
theorem fin_new {w W : World} {H S A : Nat} {s : TSh} {xs : List Int} {ws : List (List UInt8)} {f : Bool} (h : EvS w W H S A s xs ws f) (e : Ev) : EvS w (W.alloc (evB e (.slice none 0 0))) H S A s xs ws f ∧ (W.alloc (evB e (.slice none 0 0))).heap[W.heap.size]? = some (evB e (.slice none 0 0)) := ⟨h.on (below1 _ _), heap_newH _ _ _ rfl⟩
theorem nro_nil (w : World) (B : Nat) : NRo w B (.slice none 0 0) [] := ⟨rfl, .inl ⟨rfl, rfl⟩⟩
theorem evS_fin {w W : World} {H S A E : Nat} {s : TSh} {xs : List Int} {ws : List (List UInt8)} {f : Bool} (h : EvS w W H S A s xs ws f) {e : Ev} (he : W.heap[E]? = some (evB e (.slice none 0 0))) (hl : e.list = []) (hE : H + 1 < E) : Fin w W H E e none 0 0 (joinP ws) (!ws.isEmpty) f :=
  ⟨h.bel, h.re, h.ln, hE, he, by rw [hl]; rfl, by rw [hl]; exact nro_nil _ _⟩
theorem Fin.num {w W : World} {H E : Nat} {e : Ev} {a : Option Addr} {n c : Nat} {t : List UInt8} {m f : Bool} (h : Fin w W H E e a n c t m f) (x : Int) : Fin w (W.setCell ⟨E, 6, none⟩ (.int .i64 x)) H E { e with num := x } a n c t m f := by
  have hk : Kx (fun y => y = E) W (W.setCell ⟨E, 6, none⟩ (.int .i64 x)) := Kx.set W 6 _ rfl
  have hg := h.gt
  have hz := heap_lt h.re
  refine ⟨h.bel.trans (hk.below (by omega) (fun y hy => by omega)), hk.at_ h.re (by omega), hk.at_ h.ln (by omega), hg, ?_, h.nl, ?_⟩
  · have e2 := Lib.heap_setCell_same (i := 6) h.ev (.int .i64 x)
    simpa using e2
  · refine ⟨h.row.1, ?_⟩
    rcases h.row.2 with h1 | ⟨g, cap, cur, h1, h2, h3, h4⟩
    · exact .inl h1
    · refine .inr ⟨g, cap, cur, h1, h2, hk.at_ h3 (fun q => ?_), h4⟩
      rw [q, h.ev] at h3
      injection h3 with h3
      injection h3 with _ h3
      exact absurd h3 (by decide)
theorem Fin.list {w W : World} {H E : Nat} {e : Ev} {t : List UInt8} {m f : Bool} (h : Fin w W H E e none 0 0 t m f) (a : Option Addr) (n c : Nat) (ks : List Int) (hn : n = ks.length) (hr : NRo W H (.slice a n c) ks) : Fin w (W.setCell ⟨E, 7, none⟩ (.slice a n c)) H E { e with list := ks } a n c t m f := by
  have hk : Kx (fun y => y = E) W (W.setCell ⟨E, 7, none⟩ (.slice a n c)) := Kx.set W 7 _ rfl
  have hg := h.gt
  have hz := heap_lt h.re
  refine ⟨h.bel.trans (hk.below (by omega) (fun y hy => by omega)), hk.at_ h.re (by omega), hk.at_ h.ln (by omega), hg, ?_, hn, ?_⟩
  · have e2 := Lib.heap_setCell_same (i := 7) h.ev (.slice a n c)
    simpa using e2
  · refine ⟨hr.1, ?_⟩
    rcases hr.2 with h1 | ⟨g, cap, cur, h1, h2, h3, h4⟩
    · exact .inl h1
    · refine .inr ⟨g, cap, cur, h1, h2, hk.at_ h3 (fun q => ?_), h4⟩
      rw [q, h.ev] at h3
      injection h3 with h3
      injection h3 with _ h3
      exact absurd h3 (by decide)
theorem EvP.drew {w W : World} {res : Option Ev} {e : Ending} (h : EvP w res e W) : EvP w res e W.drew := by
  refine ⟨⟨h.1.out.drew⟩, ?_⟩
  have h2 := h.2
  cases res with
  | none => exact h2
  | some ev =>
    obtain ⟨a, c, h3, h4⟩ := h2
    exact ⟨a, c, h3, ⟨h4.out⟩⟩
/-- the cells of an event that is stored over another one -/
theorem st8_cells {W : World} {H : Nat} {e0 : Ev} {v0 : Value} (h : W.heap[H]? = some (evB e0 v0)) (e : Ev) (v : Value) : (st8 W H e v).drew.cell? ⟨H, 0, none⟩ = some (.int .i64 e.kind) ∧ (st8 W H e v).drew.cell? ⟨H, 1, none⟩ = some (.int .i64 e.p) ∧ (st8 W H e v).drew.cell? ⟨H, 2, none⟩ = some (.int .i64 e.i) ∧ (st8 W H e v).drew.cell? ⟨H, 3, none⟩ = some (.int .i64 e.q) ∧ (st8 W H e v).drew.cell? ⟨H, 4, none⟩ = some (.int .i64 e.j) ∧ (st8 W H e v).drew.cell? ⟨H, 5, none⟩ = some (.int .i64 e.c) ∧ (st8 W H e v).drew.cell? ⟨H, 6, none⟩ = some (.int .i64 e.num) ∧ (st8 W H e v).drew.cell? ⟨H, 7, none⟩ = some v := by
  have hb := st8_blk h e v
  generalize st8 W H e v = W' at *
  exact evB_cells (w := W'.drew) hb
/-- a call in a region that draws, where it is wanted -/
theorem step_callG {P : Program} {ops : Array Oper} {o : Oper} {a : Act} {w : World} {K : Act → World → Prop} {Q : Exit → Act → World → Prop} {E : Prop} (hw : Region.wanted o (yielded ops a.tmps) = true) (f : FuncId) (args : Array Value) (hr : (execOp a.eval o).run P w = .ok (.enter f args) w) {Post : Ending → World → Prop} (hc : Calls P f args w Post) (hK : ∀ e w', Post e w' → ∃ r, e = .returned r ∧ K (a.put o.dst r) w') :
    if Region.wanted o (yielded ops a.tmps) = true then Oper.wp P o a w K Q else E := by
  rw [if_pos hw]
  unfold Oper.wp
  rw [hr, Oper.upon_enter]
  refine Calls.mono hc ?_
  intro e w' h
  obtain ⟨r, rfl, hk⟩ := hK e w' h
  exact hk
theorem chk_bool (e : Ev) : (chkE e == 0) = evOk e := by
  unfold chkE
  cases evOk e <;> rfl
end Go.Proofs.YtecpknpcjoiliaaDoor
