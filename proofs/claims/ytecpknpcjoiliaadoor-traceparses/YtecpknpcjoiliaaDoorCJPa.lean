import Derived.Test.YtecpknpcjoiliaaDoorCJOe
import Derived.Test.YtecpknpcjoiliaaDoorCJI
namespace Go.Proofs.YtecpknpcjoiliaaDoor
open Go.RowKit Go.Shelf
set_option linter.unusedVariables false
set_option linter.unusedSimpArgs false

/-- the events of a text that is left -/
def rdE2 (t : List UInt8) (es : List Ev) : Got (List Ev) Nat := rdEv (pieces 10 t).1 (pieces 10 t).2 es
theorem rdE2_cut {l r : List UInt8} {es : List Ev} (h : (10 : UInt8) ∉ l) : rdE2 (l ++ 10 :: r) es = match evOf l with | none => .no (es.length + 1) | some e => rdE2 r (es ++ [e]) := by
  unfold rdE2
  rw [pieces_app h, rdEv]
  cases evOf l <;> rfl
theorem rdE2_end {t : List UInt8} {es : List Ev} (h : (10 : UInt8) ∉ t) : rdE2 t es = if t = [] then .yes es else .no (es.length + 1) := by
  unfold rdE2
  rw [pieces_none h, rdEv]
theorem drop_cut {s : List UInt8} {i f : Nat} (hf : f ≤ i) (hi : i < s.length) : s.drop f = (s.drop f).take (i - f) ++ s[i] :: s.drop (i + 1) := by
  have e : s[i] :: s.drop (i + 1) = s.drop i := (List.drop_eq_getElem_cons hi).symm
  have e2 : s.drop i = (s.drop f).drop (i - f) := by rw [List.drop_drop]; congr 1; omega
  rw [e, e2, List.take_append_drop]
/-- the cells of events -/
def evCs (es : List Ev) (ls : List (Option Addr × Nat)) : List Value := (es.zip ls).flatMap fun x => [.int .i64 x.1.kind, .int .i64 x.1.p, .int .i64 x.1.i, .int .i64 x.1.q, .int .i64 x.1.j, .int .i64 x.1.c, .int .i64 x.1.num, .slice x.2.1 x.1.list.length x.2.2]
theorem evCs_snoc {es : List Ev} {ls : List (Option Addr × Nat)} (h : ls.length = es.length) (e : Ev) (l : Option Addr × Nat) : evCs (es ++ [e]) (ls ++ [l]) = evCs es ls ++ [.int .i64 e.kind, .int .i64 e.p, .int .i64 e.i, .int .i64 e.q, .int .i64 e.j, .int .i64 e.c, .int .i64 e.num, .slice l.1 e.list.length l.2] := by
  unfold evCs
  rw [List.zip_append h.symm, List.flatMap_append]
  simp
theorem evCs_len {es : List Ev} {ls : List (Option Addr × Nat)} (h : ls.length = es.length) : (evCs es ls).length = es.length * 8 := by
  induction es generalizing ls with
  | nil => simp [evCs]
  | cons e r ih =>
    match ls, h with
    | l :: t, h =>
      have := ih (ls := t) (by simpa using h)
      unfold evCs at this ⊢
      rw [List.zip_cons_cons, List.flatMap_cons, List.length_append, this]
      simp
      omega
theorem evCs_at {es : List Ev} {ls : List (Option Addr × Nat)} (h : ls.length = es.length) (i : Nat) (hi : i < es.length) : ∀ j, j < 8 → (evCs es ls)[i * 8 + j]? = [Value.int .i64 es[i].kind, .int .i64 es[i].p, .int .i64 es[i].i, .int .i64 es[i].q, .int .i64 es[i].j, .int .i64 es[i].c, .int .i64 es[i].num, .slice (ls[i]'(by omega)).1 es[i].list.length (ls[i]'(by omega)).2][j]? := by
  induction es generalizing ls i with
  | nil => simp at hi
  | cons e r ih =>
    match ls, h with
    | l :: t, h =>
      intro j hj
      have ee : evCs (e :: r) (l :: t) = [.int .i64 e.kind, .int .i64 e.p, .int .i64 e.i, .int .i64 e.q, .int .i64 e.j, .int .i64 e.c, .int .i64 e.num, .slice l.1 e.list.length l.2] ++ evCs r t := by simp [evCs]
      rw [ee]
      cases i with
      | zero =>
        rw [Nat.zero_mul, Nat.zero_add, List.getElem?_append_left (by simpa using hj)]
        rfl
      | succ k =>
        rw [List.getElem?_append_right (by simp; omega)]
        have e1 : (k + 1) * 8 + j - 8 = k * 8 + j := by omega
        simp only [List.length_cons, List.length_nil, Nat.zero_add, Nat.reduceAdd]
        rw [e1]
        exact ih (by simpa using h) k (by simpa using hi) j hj
/-- events in a row of one's own, each list in one of its own -/
structure EvO (W : World) (H : Nat) (vv : Value) (es : List Ev) (ls : List (Option Addr × Nat)) : Prop where
  len : ls.length = es.length
  row : W.ownsRow H 24 8 vv es.length (evCs es ls)
  lst : ∀ i (h1 : i < es.length) (h2 : i < ls.length), NRo W H (.slice ls[i].1 es[i].list.length ls[i].2) es[i].list
  inc : ∀ i j (hi : i < ls.length) (hj : j < ls.length), i < j → ∀ gi gj ni nj, (Value.slice ls[i].1 ni ls[i].2).ownBlock = some gi → (Value.slice ls[j].1 nj ls[j].2).ownBlock = some gj → gi < gj
theorem EvO.nil (W : World) (H : Nat) : EvO W H (.slice none 0 0) [] [] := ⟨rfl, ⟨rfl, .inl ⟨rfl, rfl⟩⟩, fun i h => by simp at h, fun i j h => by simp at h⟩
theorem EvO.on {W W' : World} {H : Nat} {vv : Value} {es : List Ev} {ls : List (Option Addr × Nat)} (h : EvO W H vv es ls) (hb : ∀ g, H ≤ g → g < W.heap.size → (∀ s p, W.heap[g]? ≠ some (.stringIter s p)) → W'.heap[g]? = W.heap[g]?) : EvO W' H vv es ls := by
  have hrow : ∀ {e : TypeId} {s : Nat} {v : Value} {n : Nat} {cs : List Value}, W.ownsRow H e s v n cs → W'.ownsRow H e s v n cs := fun {e s v n cs} ho => by
    refine ⟨ho.1, ?_⟩
    rcases ho.2 with hn | ⟨g, cap, cur, rfl, hB, hgg, rest⟩
    · exact .inl hn
    · exact .inr ⟨g, cap, cur, rfl, hB, by rw [hb g hB (heap_lt hgg) (fun s p e => by rw [hgg] at e; cases e)]; exact hgg, rest⟩
  exact ⟨h.len, hrow h.row, fun i h1 h2 => hrow (h.lst i h1 h2), h.inc⟩
theorem EvO.view {W : World} {H : Nat} {a : Option Addr} {n cap : Nat} {es : List Ev} {ls : List (Option Addr × Nat)} (h : EvO W H (.slice a n cap) es ls) : n = es.length ∧ EvsV W W.heap.size a es := by
  have hl := h.len
  rcases h.row.2 with ⟨e, hn⟩ | ⟨g, c, cur, e, hB, hg, q1, q2, q3, q4⟩
  · simp only [Value.slice.injEq] at e
    obtain ⟨rfl, rfl, rfl⟩ := e
    have : es = [] := List.eq_nil_of_length_eq_zero hn
    subst this
    exact ⟨rfl, evsV_nil _ _ _⟩
  · simp only [Value.slice.injEq] at e
    obtain ⟨rfl, rfl, rfl⟩ := e
    refine ⟨rfl, by omega, fun _ => ⟨g, 0, rfl, heap_lt hg, fun i hi => ⟨(ls[i]'(by omega)).1, (ls[i]'(by omega)).2, ?_⟩⟩⟩
    have hlen := evCs_len hl
    have key : ∀ j, j < 8 → W.cell? ⟨g, 0 + i * 8 + j, none⟩ = [Value.int .i64 es[i].kind, .int .i64 es[i].p, .int .i64 es[i].i, .int .i64 es[i].q, .int .i64 es[i].j, .int .i64 es[i].c, .int .i64 es[i].num, .slice (ls[i]'(by omega)).1 es[i].list.length (ls[i]'(by omega)).2][j]? := fun j hj => by
      rw [← evCs_at hl i hi j hj, Nat.zero_add, World.cell?]
      simp only [hg]
      have e4 := congrArg (fun L => L[i * 8 + j]?) q4
      rw [List.getElem?_take_of_lt (by omega), Array.getElem?_toList] at e4
      exact e4
    have k7 := h.lst i hi (by omega)
    exact ⟨key 0 (by omega), key 1 (by omega), key 2 (by omega), key 3 (by omega), key 4 (by omega), key 5 (by omega), key 6 (by omega), key 7 (by omega), k7.iv rfl⟩
theorem infoEv : (Tryd.prog.info? 24).map (fun i => (i.zero, i.size, i.bytes)) = some (some (.agg #[.int .i64 0, .int .i64 0, .int .i64 0, .int .i64 0, .int .i64 0, .int .i64 0, .int .i64 0, .slice none 0 0]), 8, 80) := by kernel_rfl
theorem nro_grown {W W' : World} {H : Nat} {v vv : Value} {ks : List Int} (h : NRo W H v ks) (hg : W.grownBy W' vv.ownBlock) (hne : ∀ g, vv.ownBlock = some g → ∃ cs fz, W.heap[g]? = some (.cells cs 24 fz)) : NRo W' H v ks := by
  have h' : W.ownsRow H 3 1 v ks.length (ks.map (Value.int .i64)) := h
  refine ⟨h'.1, ?_⟩
  rcases h'.2 with hn | ⟨g, cap, cur, rfl, hB, hgg, rest⟩
  · exact .inl hn
  · refine .inr ⟨g, cap, cur, rfl, hB, ?_, rest⟩
    rw [hg.block g (heap_lt hgg) (fun e => by
      obtain ⟨cs, fz, h2⟩ := hne g e.symm
      rw [h2] at hgg
      injection hgg with hgg
      injection hgg with _ hgg
      exact absurd hgg (by decide))]
    exact hgg
/-- an event more -/
theorem EvO.app {W : World} {H : Nat} {vv : Value} {es : List Ev} {ls : List (Option Addr × Nat)} (h : EvO W H vv es ls) (hH : H ≤ W.heap.size) (e : Ev) (a : Option Addr) (c : Nat) (hr : NRo W H (.slice a e.list.length c) e.list) (B : Nat) (hnew : ∀ g, (Value.slice a e.list.length c).ownBlock = some g → B ≤ g) (hold : ∀ i (hi : i < ls.length) n g, (Value.slice ls[i].1 n ls[i].2).ownBlock = some g → g < B) (hn : es.length ≤ 1099511627776) :
    ∃ v' W3, (∀ ty, (Builtin.append_ #[29, 29] ty #[vv, .slice (some ⟨W.heap.size, 0, none⟩) 1 1]).run Tryd.prog (W.alloc (evB e (.slice a e.list.length c))) = .ok v' W3) ∧ EvO W3 H v' (es ++ [e]) (ls ++ [(a, c)]) ∧ W.grownBy W3 vv.ownBlock := by
  obtain ⟨i0, hi0, hz0, hz1, hz2⟩ := info_parts infoEv
  obtain ⟨g, cp, W3, r1, r2, r3⟩ := app1 Tryd.underlying29 hi0 hz0 hz1 hz2 rfl (by decide) W H vv es.length _ h.row #[.int .i64 e.kind, .int .i64 e.p, .int .i64 e.i, .int .i64 e.q, .int .i64 e.j, .int .i64 e.c, .int .i64 e.num, .slice a e.list.length c] rfl (by simp [Value.oneCell']) (by unfold maxLen; omega) (by omega) hH
  have hne := owns_kind h.row
  refine ⟨_, W3, r1, ⟨by simp [h.len], ?_, fun i h1 h2 => ?_, fun i j hi hj hij gi gj ni nj e1 e2 => ?_⟩, r3⟩
  · rw [List.length_append, evCs_snoc h.len]
    exact r2
  · by_cases hi : i < es.length
    · have hl : i < ls.length := by rw [h.len]; exact hi
      have := nro_grown (h.lst i hi hl) r3 hne
      simp only [List.getElem_append_left hi, List.getElem_append_left hl]
      exact this
    · have hie : i = es.length := by simp at h1; omega
      subst hie
      have hl := h.len
      simp only [List.getElem_append_right (Nat.le_refl _), List.getElem_append_right (show ls.length ≤ es.length by omega), hl, Nat.sub_self, List.getElem_cons_zero]
      exact nro_grown hr r3 hne
  · have hil : i < ls.length := by simp at hj; omega
    rw [List.getElem_append_left hil] at e1
    by_cases hjl : j < ls.length
    · rw [List.getElem_append_left hjl] at e2
      exact h.inc i j hil hjl hij gi gj ni nj e1 e2
    · rw [List.getElem_append_right (by omega)] at e2
      have e3 : ([(a, c)] : List (Option Addr × Nat))[j - ls.length]'(by simp at hj ⊢; omega) = (a, c) := by
        have : j - ls.length = 0 := by simp at hj; omega
        simp [this]
      rw [e3] at e2
      have a1 := hold i hil ni gi e1
      have a2 := hnew gj (by
        cases a with
        | none => simp [Value.ownBlock] at e2
        | some ad => exact e2)
      omega
end Go.Proofs.YtecpknpcjoiliaaDoor
