import Derived.Test.YtecpknpcjoiliaaDoorCJLa
namespace Go.Proofs.YtecpknpcjoiliaaDoor
open Go.RowKit Go.Shelf
set_option linter.unusedVariables false
set_option linter.unusedSimpArgs false

abbrev lnX (a b : Value) : Obj := .cells #[a, b] 33 (0, 0)
/-- lend under way -/
structure Lst (w W : World) (H : Nat) (es : List Ev) (va vl : Value) (gs : List (Nat × Nat)) : Prop where
  bel : Below H w W
  r0 : W.heap[H]? = some (lnX (.slice none 0 0) (.slice none 0 0))
  rx : W.heap[H + 1]? = some (lnX va vl)
  lnd : Lnd W (H + 2) es va vl gs
theorem Lst.sz {w W : World} {H : Nat} {es : List Ev} {va vl : Value} {gs : List (Nat × Nat)} (h : Lst w W H es va vl gs) : H + 2 ≤ W.heap.size := heap_lt h.rx
/-- the worlds of a round -/
structure Rnd (w W0 W2 W3 W4 W5 W6 W7 W8 W9 : World) (H n : Nat) (es : List Ev) (e : Ev) (v3 va vl va' vl' : Value) (la : Option Addr) (lc g c : Nat) (gs : List (Nat × Nat)) : Prop where
  w2 : (W0.alloc (evB e (.slice la n lc))).alloc (.cells #[] 3) = W2
  c2 : W2.cell? ⟨W0.heap.size, 7, none⟩ = some (.slice la n lc)
  r3 : ∀ ty, (Builtin.append_ #[22, 22] ty #[.slice (some ⟨W0.heap.size + 1, 0, none⟩) 0 0, .slice la n lc]).run Tryd.prog W2 = .ok v3 W3
  r4 : ∀ ty, (Builtin.append_ #[22, 22] ty #[v3, .slice (some ⟨W3.heap.size, 0, none⟩) 1 1]).run Tryd.prog (W3.alloc (.cells #[.int .i64 (-77)] 3)) = .ok (.slice (some ⟨g, 0, none⟩) (n + 1) c) W4
  cp : n + 1 ≤ c
  c4 : W4.cell? ⟨W0.heap.size, 7, none⟩ = some (.slice la n lc)
  f4 : W4.frozen? ⟨W0.heap.size, 7, none⟩ = false
  w5 : W4.setCell ⟨W0.heap.size, 7, none⟩ (.slice (some ⟨g, 0, none⟩) n c) = W5
  c5 : W5.cell? ⟨H + 1, 1, none⟩ = some vl
  r6 : ∀ ty, (Builtin.append_ #[31, 31] ty #[vl, .slice (some ⟨W5.heap.size, 0, none⟩) 1 1]).run Tryd.prog (W5.alloc (.cells #[.slice (some ⟨g, 0, none⟩) (n + 1) c] 22)) = .ok vl' W6
  c6 : W6.cell? ⟨H + 1, 1, none⟩ = some vl
  f6 : W6.frozen? ⟨H + 1, 1, none⟩ = false
  w7 : W6.setCell ⟨H + 1, 1, none⟩ vl' = W7
  c7 : W7.cell? ⟨H + 1, 0, none⟩ = some va
  b7 : W7.heap[W0.heap.size]? = some (evB e (.slice (some ⟨g, 0, none⟩) n c))
  r8 : ∀ ty, (Builtin.append_ #[29, 29] ty #[va, .slice (some ⟨W7.heap.size, 0, none⟩) 1 1]).run Tryd.prog (W7.alloc (evB e (.slice (some ⟨g, 0, none⟩) n c))) = .ok va' W8
  c8 : W8.cell? ⟨H + 1, 0, none⟩ = some va
  f8 : W8.frozen? ⟨H + 1, 0, none⟩ = false
  w9 : W8.setCell ⟨H + 1, 0, none⟩ va' = W9
  st : Lst w W9 H (es ++ [e]) va' vl' (gs ++ [(g, c)])
theorem grown_at {W W' : World} {r : Option Nat} (hg : W.grownBy W' r) {b : Nat} {o : Obj} (h : W.heap[b]? = some o) (hr : ∀ k, r = some k → b < k) : W'.heap[b]? = some o := by
  rw [hg.block b (heap_lt h) (fun e => by have := hr b e.symm; omega)]; exact h
set_option maxHeartbeats 2000000 in
theorem Lst.round {w W0 : World} {H : Nat} {es : List Ev} {va vl : Value} {gs : List (Nat × Nat)} (h : Lst w W0 H es va vl gs) (hw : w.heap.size = H) (e : Ev) (n : Nat) (hn : n = e.list.length) (la : Option Addr) (lc : Nat) (hi : IntsV W0 H la lc e.list) (hll : n ≤ 8796093022000) (hes : es.length ≤ 1099511627776) :
    ∃ W2 W3 W4 W5 W6 W7 W8 W9 v3 va' vl' g c, Rnd w W0 W2 W3 W4 W5 W6 W7 W8 W9 H n es e v3 va vl va' vl' la lc g c gs := by
  subst hn
  have hz := h.sz
  obtain ⟨E, hE⟩ : ∃ E, E = W0.heap.size := ⟨_, rfl⟩
  obtain ⟨W1, hW1⟩ : ∃ W1, W0.alloc (evB e (.slice la e.list.length lc)) = W1 := ⟨_, rfl⟩
  have hs1 : W1.heap.size = E + 1 := by rw [← hW1, hE]; simp
  have b1 : Below E W0 W1 := by rw [← hW1, hE]; exact below1 _ _
  have he1 : W1.heap[E]? = some (evB e (.slice la e.list.length lc)) := by rw [← hW1, hE]; exact heap_newH _ _ _ rfl
  obtain ⟨W2, hW2⟩ : ∃ W2, W1.alloc (.cells #[] 3) = W2 := ⟨_, rfl⟩
  have hs2 : W2.heap.size = E + 2 := by rw [← hW2]; simp [hs1]
  have b2 : Below (E + 1) W1 W2 := by rw [← hW2, ← hs1]; exact below1 _ _
  have n2 : NRo W2 (E + 1) (.slice (some ⟨E + 1, 0, none⟩) 0 0) [] := by rw [← hW2]; exact NRo.mk0 W1 (E + 1) hs1
  have hb02 : Below E W0 W2 := b1.trans (b2.mono (by omega))
  have hi2 : IntsV W2 H la lc e.list := hi.below (hb02.mono (by omega))
  obtain ⟨v3, W3, r3, n3, g3, z3⟩ := app_ints W2 (E + 1) _ [] n2 (by omega) hi2 (by simp; omega)
  rw [List.nil_append] at n3
  have b3 : Below (E + 1) W2 W3 := (Below.refl _ _).grown g3 (by omega) fun k hk => (n2.lt hk).1
  obtain ⟨v4, W4, r4, n4, g4⟩ := app_nro W3 (E + 1) v3 e.list n3 (-77) (by omega) (by omega)
  have b4 : Below (E + 1) W3 W4 := (Below.refl _ _).grown g4 (by omega) fun k hk => (n3.lt hk).1
  obtain ⟨g, c, rfl, hg1, hg2, hgc⟩ := n4.at_ (by simp)
  have hcc : e.list.length + 1 ≤ c := by
    have h' : W4.ownsRow (E + 1) 3 1 (.slice (some ⟨g, 0, none⟩) (e.list ++ [-77]).length c) (e.list ++ [-77]).length ((e.list ++ [-77]).map (Value.int .i64)) := n4
    rcases h'.2 with ⟨e1, _⟩ | ⟨g', cap', cur, e1, _, _, q1, _⟩
    · cases e1
    · simp only [Value.slice.injEq] at e1
      obtain ⟨_, _, rfl⟩ := e1
      simpa using q1
  have b14 : Below (E + 1) W1 W4 := b2.trans (b3.trans b4)
  have he2 : W2.heap[E]? = some (evB e (.slice la e.list.length lc)) := by rw [b2.block E (by omega)]; exact he1
  have he4 : W4.heap[E]? = some (evB e (.slice la e.list.length lc)) := by rw [b14.block E (by omega)]; exact he1
  obtain ⟨W5, hW5⟩ : ∃ W5, W4.setCell ⟨E, 7, none⟩ (.slice (some ⟨g, 0, none⟩) e.list.length c) = W5 := ⟨_, rfl⟩
  have hk5 : ∀ y, y ≠ E → W5.heap[y]? = W4.heap[y]? := fun y hy => by rw [← hW5]; exact Below.heap_setCell W4 ⟨E, 7, none⟩ _ y hy
  have hs5 : W5.heap.size = W4.heap.size := by rw [← hW5]; simp
  have hb4 : Below E W0 W4 := b1.trans (b14.mono (by omega))
  have hb5 : Below E W0 W5 := by rw [← hW5]; exact hb4.trans ((Below.refl E W4).setCell (p := ⟨E, 7, none⟩) (Nat.le_refl _) _)
  have he5 : W5.heap[E]? = some (evB e (.slice (some ⟨g, 0, none⟩) e.list.length c)) := by
    rw [← hW5]
    have := Lib.heap_setCell_same (i := 7) he4 (.slice (some ⟨g, 0, none⟩) e.list.length c)
    simpa using this
  have hx5 : W5.heap[H + 1]? = some (lnX va vl) := by rw [hb5.block _ (by omega)]; exact h.rx
  have h05 : W5.heap[H]? = some (lnX (.slice none 0 0) (.slice none 0 0)) := by rw [hb5.block _ (by omega)]; exact h.r0
  have l5 : Lnd W5 (H + 2) es va vl gs := h.lnd.on fun y _ hy => hb5.block y (by omega)
  have hn5 : NRo W5 (H + 2) (.slice (some ⟨g, 0, none⟩) (e.list.length + 1) c) (e.list ++ [-77]) := by
    have e1 : e.list.length + 1 = (e.list ++ [-77]).length := by simp
    rw [e1]
    have h1 : NRo W5 (E + 1) (.slice (some ⟨g, 0, none⟩) (e.list ++ [-77]).length c) (e.list ++ [-77]) := owns_same n4 fun y hy _ => hk5 y (by omega)
    refine ⟨h1.1, ?_⟩
    rcases h1.2 with q | ⟨g', cap', cur, q0, q1, q2⟩
    · exact .inl q
    · exact .inr ⟨g', cap', cur, q0, by omega, q2⟩
  have hold : ∀ i (hi : i < gs.length), gs[i].1 < E + 1 := fun i hi => by
    have := (h.lnd.two i (by rw [← h.lnd.len]; exact hi) hi).lt (g := gs[i].1) rfl
    omega
  have hsz5 : E + 1 ≤ W5.heap.size := heap_lt he5
  obtain ⟨vl', W6, r6, g6, va', W8, r8, g8, l9⟩ := l5.app (by omega) hes (H + 1) (by omega) e g c (E + 1) hn5 hg1 hold
  have o5 : ∀ k, vl.ownBlock = some k → H + 2 ≤ k ∧ k < E := fun k hk => by have := owns_block h.lnd.row hk; omega
  have oa : ∀ k, va.ownBlock = some k → H + 2 ≤ k ∧ k < E := fun k hk => by have := owns_block h.lnd.evo.row hk; omega
  have hx6 := grown_at g6 hx5 fun k hk => by have := o5 k hk; omega
  have h06 := grown_at g6 h05 fun k hk => by have := o5 k hk; omega
  have he6 : W6.heap[E]? = some (evB e (.slice (some ⟨g, 0, none⟩) e.list.length c)) := by
    rw [g6.block E hsz5 (fun q => by have := o5 E q.symm; omega)]; exact he5
  have b6 : Below H W5 W6 := (Below.refl _ _).grown g6 (by omega) fun k hk => by have := o5 k hk; omega
  obtain ⟨W7, hW7⟩ : ∃ W7, W6.setCell ⟨H + 1, 1, none⟩ vl' = W7 := ⟨_, rfl⟩
  have hk7 : ∀ y, y ≠ H + 1 → W7.heap[y]? = W6.heap[y]? := fun y hy => by rw [← hW7]; exact Below.heap_setCell W6 ⟨H + 1, 1, none⟩ _ y hy
  have hs7 : W7.heap.size = W6.heap.size := by rw [← hW7]; simp
  have hx7 : W7.heap[H + 1]? = some (lnX va vl') := by
    rw [← hW7]
    have := Lib.heap_setCell_same (i := 1) hx6 vl'
    simpa using this
  have h07 : W7.heap[H]? = some (lnX (.slice none 0 0) (.slice none 0 0)) := by rw [hk7 H (by omega)]; exact h06
  have he7 : W7.heap[E]? = some (evB e (.slice (some ⟨g, 0, none⟩) e.list.length c)) := by rw [hk7 E (by omega)]; exact he6
  have b7 : Below H W6 W7 := by rw [← hW7]; exact (Below.refl H W6).setCell (p := ⟨H + 1, 1, none⟩) (Nat.le_succ _) _
  rw [hW7] at r8 g8
  have hx8 := grown_at g8 hx7 fun k hk => by have := oa k hk; omega
  have h08 := grown_at g8 h07 fun k hk => by have := oa k hk; omega
  have hz6 := heap_lt he6
  have b8 : Below H W7 W8 := (Below.refl _ _).grown g8 (by omega) fun k hk => by have := oa k hk; omega
  obtain ⟨W9, hW9⟩ : ∃ W9, W8.setCell ⟨H + 1, 0, none⟩ va' = W9 := ⟨_, rfl⟩
  rw [hW9] at l9
  have hx9 : W9.heap[H + 1]? = some (lnX va' vl') := by
    rw [← hW9]
    have := Lib.heap_setCell_same (i := 0) hx8 va'
    simpa using this
  have h09 : W9.heap[H]? = some (lnX (.slice none 0 0) (.slice none 0 0)) := by
    rw [← hW9, Below.heap_setCell W8 ⟨H + 1, 0, none⟩ va' H (by show H ≠ H + 1; omega)]; exact h08
  have b9 : Below H W8 W9 := by rw [← hW9]; exact (Below.refl H W8).setCell (p := ⟨H + 1, 0, none⟩) (Nat.le_succ _) _
  have bel9 : Below H w W9 := h.bel.trans ((hb5.mono (by omega)).trans (b6.trans (b7.trans (b8.trans b9))))
  have e1 : (e.list ++ [-77]).length = e.list.length + 1 := by simp
  rw [e1] at r4
  refine ⟨W2, W3, W4, W5, W6, W7, W8, W9, v3, va', vl', g, c, ?_⟩
  subst hE
  exact ⟨by rw [hW1]; exact hW2, cell_blk he2 rfl, r3, r4, hcc, cell_blk he4 rfl, frz_blk he4, hW5, cell_blk hx5 rfl, r6, cell_blk hx6 rfl, frz_blk hx6, hW7, cell_blk hx7 rfl, he7, r8, cell_blk hx8 rfl, frz_blk hx8, hW9, ⟨bel9, h09, hx9, l9⟩⟩
end Go.Proofs.YtecpknpcjoiliaaDoor
