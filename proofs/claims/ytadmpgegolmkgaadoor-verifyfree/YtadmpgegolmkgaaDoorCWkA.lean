import Derived.Test.YtadmpgegolmkgaaDoorCWsU
namespace Go.Proofs.YtadmpgegolmkgaaDoor
open Go.RowKit Go.MapKept Go.ChangeMaps Go.WideShapes
set_option linter.unusedVariables false
set_option linter.unusedSimpArgs false

/-! ### a walker in memory -/
structure WG where
  kb : Nat
  n : Nat
  db : Nat
  dc : Nat
  L : Nat
  mb : Nat
  eb : Nat → Nat
structure WA where
  a0 : Value
  a1 : Value
  a2 : Value
  a3 : Value
  a4 : Value
def WG.h (g : WG) (A : WA) : WH := ⟨A.a0, A.a1, A.a2, A.a3, A.a4, .slice (some ⟨g.kb, 0, none⟩) g.n g.n, .slice (some ⟨g.db, 0, none⟩) g.L g.dc⟩
abbrev Wy := Nat × Nat
def kN (K : List Wy) : List Value := K.flatMap fun p => [Value.int .i64 (p.1 : Int), .int .u64 (p.2 : Int)]
theorem kN_get : ∀ (K : List Wy) (i : Nat) (p : Wy), K[i]? = some p → (kN K)[i * 2]? = some (.int .i64 (p.1 : Int)) ∧ (kN K)[i * 2 + 1]? = some (.int .u64 (p.2 : Int))
  | q :: r, 0, p, h => by simp at h; subst h; exact ⟨rfl, rfl⟩
  | q :: r, i + 1, p, h => by
    have ih := kN_get r i p (by simpa using h)
    have e : ∀ j, (kN (q :: r))[j + 2]? = (kN r)[j]? := fun j => rfl
    rw [show (i + 1) * 2 = i * 2 + 2 by omega, show i * 2 + 2 + 1 = i * 2 + 1 + 2 by omega, e, e]
    exact ih
theorem kN_set : ∀ (K : List Wy) (i : Nat) (h : i < K.length) (p : Wy), ((kN K).set (i * 2) (.int .i64 (p.1 : Int))).set (i * 2 + 1) (.int .u64 (p.2 : Int)) = kN (K.set i p)
  | q :: r, 0, _, p => by simp [kN]
  | q :: r, i + 1, h, p => by
    have := kN_set r i (by simpa using h) p
    rw [show (i + 1) * 2 = i * 2 + 1 + 1 by omega]
    simp only [kN, List.flatMap_cons, List.set_cons_succ, List.cons_append, List.nil_append] at this ⊢
    rw [this]
structure WkM (w : World) (wb : Nat) (g : WG) (A : WA) (L gb : Nat) (P : Prs) (K : List Wy) (D : Nat → Bool) : Prop where
  se : ∃ gc, SeM w wb (g.h A) L gb gc g.mb P
  kn : w.heap[g.kb]? = some (.cells (kN K).toArray 66 (0, 0))
  kl : K.length = g.n
  du : DuE w g.db g.dc g.eb g.L g.n fun _ => D
  nd : g.db ≠ wb ∧ g.db ≠ g.kb ∧ g.db ≠ gb ∧ g.db ≠ g.mb
def wOwn (wb : Nat) (g : WG) (gb : Nat) : Nat → Prop := fun k => sOwn wb gb g.mb k ∨ k = g.kb ∨ dOwn g.eb g.L k
theorem cells_ne {w : World} {a b : Nat} {ca cb : Array Value} {ta tb : TypeId} {fa fb : Nat × Nat} (ha : w.heap[a]? = some (.cells ca ta fa)) (hb : w.heap[b]? = some (.cells cb tb fb)) (ht : ta ≠ tb) : a ≠ b := fun e => by
  subst e
  rw [ha] at hb
  injection hb with hb
  injection hb with _ q
  exact ht q
theorem cells_map {w : World} {a b : Nat} {ca : Array Value} {ta : TypeId} {fa : Nat × Nat} (ha : w.heap[a]? = some (.cells ca ta fa)) (hb : ∃ es clock, w.heap[b]? = some (.map es clock)) : a ≠ b := fun e => by
  subst e
  obtain ⟨es, clock, hb⟩ := hb
  rw [ha] at hb
  injection hb with hb
  cases hb
theorem WkM.ne {w : World} {wb : Nat} {g : WG} {A : WA} {L gb : Nat} {P : Prs} {K : List Wy} {D : Nat → Bool} (h : WkM w wb g A L gb P K D) : g.kb ≠ wb ∧ g.kb ≠ gb ∧ g.kb ≠ g.mb ∧ ∀ l, l < g.L → g.eb l ≠ wb ∧ g.eb l ≠ gb ∧ g.eb l ≠ g.mb ∧ g.eb l ≠ g.kb := by
  obtain ⟨gc, s⟩ := h.se
  have hw := s.wk
  unfold wkA at hw
  obtain ⟨c, f, hg⟩ := owns_kind s.row gb rfl
  refine ⟨cells_ne h.kn hw (by decide), cells_ne h.kn hg (by decide), cells_map h.kn s.mp.obj, fun l hl => ?_⟩
  have he := h.du.wrd l hl
  exact ⟨cells_ne he hw (by decide), cells_ne he hg (by decide), cells_map he s.mp.obj, cells_ne he h.kn (by decide)⟩
theorem WkM.lt {w : World} {wb : Nat} {g : WG} {A : WA} {L gb : Nat} {P : Prs} {K : List Wy} {D : Nat → Bool} (h : WkM w wb g A L gb P K D) : wb < w.heap.size ∧ gb < w.heap.size ∧ g.mb < w.heap.size ∧ g.kb < w.heap.size ∧ g.db < w.heap.size ∧ ∀ l, l < g.L → g.eb l < w.heap.size := by
  obtain ⟨gc, s⟩ := h.se
  obtain ⟨l1, l2, l3⟩ := s.lt
  exact ⟨l1, l2, l3, heap_lt h.kn, h.du.dlt, fun l hl => h.du.elt hl⟩
theorem WkM.fx {w w' : World} {wb : Nat} {g : WG} {A : WA} {L gb : Nat} {P : Prs} {K : List Wy} {D : Nat → Bool} (h : WkM w wb g A L gb P K D) {Q : Nat → Prop} (hb : Fx Q w w') (h1 : ∀ k, wOwn wb g gb k → ¬ Q k) (h2 : ¬ Q g.db) : WkM w' wb g A L gb P K D := by
  obtain ⟨gc, s⟩ := h.se
  obtain ⟨l1, l2, l3, l4, l5, l6⟩ := h.lt
  exact ⟨⟨gc, s.fx hb (h1 _ (.inl (.inl rfl))) (h1 _ (.inl (.inr (.inl rfl)))) (h1 _ (.inl (.inr (.inr rfl))))⟩, (hb.block _ l4 (h1 _ (.inr (.inl rfl)))).trans h.kn, h.kl, h.du.fx hb h2 fun l hl => h1 _ (.inr (.inr ⟨l, hl, rfl⟩)), h.nd⟩
theorem WkM.below {w w' : World} {wb : Nat} {g : WG} {A : WA} {L gb : Nat} {P : Prs} {K : List Wy} {D : Nat → Bool} (h : WkM w wb g A L gb P K D) (hb : Below w.heap.size w w') : WkM w' wb g A L gb P K D := h.fx (Q := fun _ => False) (Fx.of hb) (fun _ _ => id) id
theorem WkM.cells {w : World} {wb : Nat} {g : WG} {A : WA} {L gb : Nat} {P : Prs} {K : List Wy} {D : Nat → Bool} (h : WkM w wb g A L gb P K D) : w.cell? ⟨wb, 0, none⟩ = some A.a0 ∧ w.cell? ⟨wb, 1, none⟩ = some A.a1 ∧ w.cell? ⟨wb, 2, none⟩ = some A.a2 ∧ w.cell? ⟨wb, 3, none⟩ = some A.a3 ∧ w.cell? ⟨wb, 4, none⟩ = some A.a4 ∧ w.cell? ⟨wb, 5, none⟩ = some (.slice (some ⟨g.kb, 0, none⟩) g.n g.n) ∧ w.cell? ⟨wb, 6, none⟩ = some (.slice (some ⟨g.db, 0, none⟩) g.L g.dc) ∧ w.cell? ⟨wb, 7, none⟩ = some (.int .i64 L) := by
  obtain ⟨gc, s⟩ := h.se
  have hw := s.wk
  unfold wkA at hw
  exact ⟨cell_blk hw rfl, cell_blk hw rfl, cell_blk hw rfl, cell_blk hw rfl, cell_blk hw rfl, cell_blk hw rfl, cell_blk hw rfl, cell_blk hw rfl⟩
theorem WkM.known {w : World} {wb : Nat} {g : WG} {A : WA} {L gb : Nat} {P : Prs} {K : List Wy} {D : Nat → Bool} (h : WkM w wb g A L gb P K D) {i : Nat} {p : Wy} (hp : K[i]? = some p) : w.cell? ⟨g.kb, i * 2, none⟩ = some (.int .i64 (p.1 : Int)) ∧ w.cell? ⟨g.kb, i * 2 + 1, none⟩ = some (.int .u64 (p.2 : Int)) := by
  obtain ⟨h1, h2⟩ := kN_get K i p hp
  exact ⟨cell_blk h.kn (by simpa using h1), cell_blk h.kn (by simpa using h2)⟩
/-- a way is written -/
theorem WkM.set {w : World} {wb : Nat} {g : WG} {A : WA} {L gb : Nat} {P : Prs} {K : List Wy} {D : Nat → Bool} (h : WkM w wb g A L gb P K D) {i : Nat} (hi : i < g.n) (p : Wy) : WkM ((w.setCell ⟨g.kb, i * 2, none⟩ (.int .i64 (p.1 : Int))).setCell ⟨g.kb, i * 2 + 1, none⟩ (.int .u64 (p.2 : Int))) wb g A L gb P (K.set i p) D ∧ Fx (· = g.kb) w ((w.setCell ⟨g.kb, i * 2, none⟩ (.int .i64 (p.1 : Int))).setCell ⟨g.kb, i * 2 + 1, none⟩ (.int .u64 (p.2 : Int))) := by
  have x : Fx (· = g.kb) w ((w.setCell ⟨g.kb, i * 2, none⟩ (.int .i64 (p.1 : Int))).setCell ⟨g.kb, i * 2 + 1, none⟩ (.int .u64 (p.2 : Int))) := Fx.set (P := (· = g.kb)) (p := ⟨g.kb, i * 2 + 1, none⟩) (Fx.set (P := (· = g.kb)) (p := ⟨g.kb, i * 2, none⟩) (Fx.refl _ w) (.inl rfl) _) (.inl rfl) _
  have e1 := heap_setCell_same w g.kb (i * 2) (kN K).toArray 66 (.int .i64 (p.1 : Int)) h.kn
  have e2 := heap_setCell_same _ g.kb (i * 2 + 1) _ 66 (.int .u64 (p.2 : Int)) e1
  simp only [List.setIfInBounds_toArray] at e2
  rw [kN_set K i (by rw [h.kl]; exact hi) p] at e2
  obtain ⟨n1, n2, n3, n4⟩ := h.ne
  obtain ⟨gc, s⟩ := h.se
  exact ⟨⟨⟨gc, s.fx x (fun e => n1 e.symm) (fun e => n2 e.symm) (fun e => n3 e.symm)⟩, e2, by rw [List.length_set]; exact h.kl, h.du.fx x h.nd.2.1 fun l hl => (n4 l hl).2.2.2, h.nd⟩, x⟩
theorem way_eq (p q : Wy) (W : World) : (binOp .eql 66 (.agg #[.int .i64 (p.1 : Int), .int .u64 (p.2 : Int)]) (.agg #[.int .i64 (q.1 : Int), .int .u64 (q.2 : Int)])).run Tryd.prog W = .ok (.bool (decide (p = q))) W := by
  obtain ⟨a, b⟩ := p
  obtain ⟨c, d⟩ := q
  simp only
  by_cases ha : a = c
  · subst ha
    by_cases hb : b = d
    · subst hb
      have h0 : ((a : Int) == (a : Int)) = true := by simp
      have h1 : ((b : Int) == (b : Int)) = true := by simp
      have h2 : decide ((a, b) = (a, b)) = true := by simp
      rw [h2]
      go_simp
    · have h0 : ((a : Int) == (a : Int)) = true := by simp
      have h1 : ((b : Int) == (d : Int)) = false := by simp; omega
      have h2 : decide ((a, b) = (a, d)) = false := decide_eq_false fun e => hb (by cases e; rfl)
      rw [h2]
      go_simp
  · have h1 : ((a : Int) == (c : Int)) = false := by simp; omega
    have h2 : decide ((a, b) = (c, d)) = false := decide_eq_false fun e => ha (by cases e; rfl)
    rw [h2]
    go_simp
end Go.Proofs.YtadmpgegolmkgaaDoor
namespace Go.Proofs.YtadmpgegolmkgaaDoor
open Go.RowKit Go.MapKept Go.ChangeMaps Go.WideShapes
set_option linter.unusedVariables false
set_option linter.unusedSimpArgs false

/-- to come to an instruction -/
def comeK (K : List Wy) (i : Nat) (p : Wy) : List Wy := if (K[i]?.getD (0, 0)).1 = 0 then K.set i p else K
def comeD (K : List Wy) (i : Nat) (D : Nat → Bool) : Nat → Bool := if (K[i]?.getD (0, 0)).1 = 0 then ins i D else D
def comeB (K : List Wy) (i : Nat) (p : Wy) : Bool := decide ((comeK K i p)[i]?.getD (0, 0) = p)
/-- what a call leaves behind that turns nothing but a walker -/
def WkPost (w : World) (wb : Nat) (g : WG) (A : WA) (L gb : Nat) (P : Prs) (K : List Wy) (D : Nat → Bool) (w' : World) : Prop := ∃ gb', WkM w' wb g A L gb' P K D ∧ Fx (wOwn wb g gb) w w' ∧ (gb' = gb ∨ w.heap.size ≤ gb')
theorem WkPost.refl {w w' : World} {wb : Nat} {g : WG} {A : WA} {L gb : Nat} {P : Prs} {K : List Wy} {D : Nat → Bool} (h : WkM w wb g A L gb P K D) (hb : Below w.heap.size w w') : WkPost w wb g A L gb P K D w' := ⟨gb, h.below hb, Fx.of hb, .inl rfl⟩
theorem WkPost.trans {w w1 w2 : World} {wb : Nat} {g : WG} {A : WA} {L gb gb1 : Nat} {P2 : Prs} {K2 : List Wy} {D2 : Nat → Bool} (x : Fx (wOwn wb g gb) w w1) (hg : gb1 = gb ∨ w.heap.size ≤ gb1) (h2 : WkPost w1 wb g A L gb1 P2 K2 D2 w2) : WkPost w wb g A L gb P2 K2 D2 w2 := by
  obtain ⟨gb', s, y, hg'⟩ := h2
  have hs := x.size
  refine ⟨gb', s, ⟨y.os.trans x.os, y.tape.trans x.tape, y.output.trans x.output, Nat.le_trans x.size y.size, fun k hk hn => ?_⟩, ?_⟩
  · refine (y.block k (Nat.lt_of_lt_of_le hk x.size) fun q => hn ?_).trans (x.block k hk hn)
    rcases q with (q | q | q) | q | q
    · exact .inl (.inl q)
    · rcases hg with e | e
      · exact .inl (.inr (.inl (q.trans e)))
      · omega
    · exact .inl (.inr (.inr q))
    · exact .inr (.inl q)
    · exact .inr (.inr q)
  · rcases hg' with e | e
    · rcases hg with e2 | e2
      · exact .inl (e.trans e2)
      · exact .inr (by omega)
    · exact .inr (by omega)
theorem WkPost.own {w w' : World} {wb : Nat} {g : WG} {A : WA} {L gb : Nat} {P : Prs} {K : List Wy} {D : Nat → Bool} (h : WkPost w wb g A L gb P K D w') {k : Nat} {o : Obj} (hk : w.heap[k]? = some o) (hn : ¬ wOwn wb g gb k) : w'.heap[k]? = some o := by
  obtain ⟨gb', s, x, _⟩ := h
  exact (x.block k (heap_lt hk) hn).trans hk
theorem WkM.own {w : World} {wb : Nat} {g : WG} {A : WA} {L gb : Nat} {P : Prs} {K : List Wy} {D : Nat → Bool} (h : WkM w wb g A L gb P K D) {k : Nat} (hk : w.heap.size ≤ k) : ¬ wOwn wb g gb k := by
  obtain ⟨l1, l2, l3, l4, l5, l6⟩ := h.lt
  rintro ((q | q | q) | q | ⟨l, hl, q⟩)
  · omega
  · omega
  · omega
  · omega
  · have := l6 l hl; omega
set_option maxRecDepth 100000 in
set_option maxHeartbeats 2000000 in
theorem come_any (w : World) (wb : Nat) (g : WG) (A : WA) (L gb : Nat) (P : Prs) (K : List Wy) (D : Nat → Bool) (h : WkM w wb g A L gb P K D) (i : Nat) (hi : i < g.n) (p : Wy) :
    Calls Tryd.prog 41 #[.pointer (some ⟨wb, 0, none⟩), .int .i64 (i : Int), .agg #[.int .i64 (p.1 : Int), .int .u64 (p.2 : Int)]] w fun e w' => e = .returned (.bool (comeB K i p)) ∧ Bx (WkPost w wb g A L gb P (comeK K i p) (comeD K i D) w') := by
  obtain ⟨H, hH⟩ : ∃ H, w.heap.size = H := ⟨_, rfl⟩
  obtain ⟨q, hq⟩ : ∃ q, K[i]? = some q := ⟨_, List.getElem?_eq_getElem (by rw [h.kl]; exact hi)⟩
  have hiK : i < K.length := by rw [h.kl]; exact hi
  obtain ⟨w0, hw0⟩ : ∃ w0, w.alloc (.cells #[.int .i64 (p.1 : Int), .int .u64 (p.2 : Int)] 66) = w0 := ⟨_, rfl⟩
  have b0 : Below w.heap.size w w0 := by rw [← hw0]; exact below1 w _
  have s0 : w0.heap.size = H + 1 := by rw [← hw0]; simp [hH]
  have q0 : w0.heap[H]? = some (.cells #[.int .i64 (p.1 : Int), .int .u64 (p.2 : Int)] 66 (0, 0)) := by rw [← hw0]; exact heap_newH _ _ _ hH
  have h0 := h.below b0
  have nH : ¬ wOwn wb g gb H := h.own (by omega)
  obtain ⟨_, _, _, _, _, c5, c6, _⟩ := h0.cells
  obtain ⟨ca, ca1⟩ := h0.known hq
  have p0 : w0.cell? ⟨H, 0, none⟩ = some (.int .i64 (p.1 : Int)) := cell_blk q0 rfl
  have p1 : w0.cell? ⟨H, 1, none⟩ = some (.int .u64 (p.2 : Int)) := cell_blk q0 rfl
  have fz : ∀ j, w0.frozen? ⟨g.kb, j, none⟩ = false := fun j => frz_blk h0.kn
  have hxI : (i : Int) < (g.n : Int) := by omega
  unfold comeB comeK comeD
  rw [hq]
  simp only [Option.getD_some]
  by_cases hz : q.1 = 0
  · simp only [if_pos hz]
    have e1 : ((K.set i p)[i]?.getD (0, 0)) = p := by rw [List.getElem?_set_self hiK]; rfl
    rw [e1]
    have e2 : decide (p = p) = true := by simp
    rw [e2]
    rw [hz] at ca
    have HA : Bx (∀ k, (((w0.drewN k).setCell ⟨g.kb, i * 2, none⟩ (.int .i64 (p.1 : Int))).setCell ⟨g.kb, i * 2 + 1, none⟩ (.int .u64 (p.2 : Int))).cell? ⟨wb, 6, none⟩ = some (.slice (some ⟨g.db, 0, none⟩) g.L g.dc) ∧ Calls Tryd.prog 60 #[.slice (some ⟨g.db, 0, none⟩) g.L g.dc, .int .i64 (i : Int)] (((w0.drewN k).setCell ⟨g.kb, i * 2, none⟩ (.int .i64 (p.1 : Int))).setCell ⟨g.kb, i * 2 + 1, none⟩ (.int .u64 (p.2 : Int))) fun e w' => e = .returned (.tuple #[]) ∧ w'.cell? ⟨wb, 5, none⟩ = some (.slice (some ⟨g.kb, 0, none⟩) g.n g.n) ∧ w'.cell? ⟨g.kb, i * 2, none⟩ = some (.int .i64 (p.1 : Int)) ∧ w'.cell? ⟨g.kb, i * 2 + 1, none⟩ = some (.int .u64 (p.2 : Int)) ∧ w'.cell? ⟨H, 0, none⟩ = some (.int .i64 (p.1 : Int)) ∧ w'.cell? ⟨H, 1, none⟩ = some (.int .u64 (p.2 : Int)) ∧ Bx (∀ m, WkPost w wb g A L gb P (K.set i p) (ins i D) (w'.drewN m))) := ⟨fun k => by
      have hk := h0.below (below_drewN (Below.refl _ w0) k)
      obtain ⟨hX, xX⟩ := hk.set hi p
      have xX' : Fx (· = g.kb) w0 (((w0.drewN k).setCell ⟨g.kb, i * 2, none⟩ (.int .i64 (p.1 : Int))).setCell ⟨g.kb, i * 2 + 1, none⟩ (.int .u64 (p.2 : Int))) := (Fx.of (below_drewN (Below.refl _ w0) k)).trans xX
      generalize ((w0.drewN k).setCell ⟨g.kb, i * 2, none⟩ (.int .i64 (p.1 : Int))).setCell ⟨g.kb, i * 2 + 1, none⟩ (.int .u64 (p.2 : Int)) = X at *
      obtain ⟨_, _, _, _, _, y5, y6, _⟩ := hX.cells
      have qX : X.heap[H]? = some (.cells #[.int .i64 (p.1 : Int), .int .u64 (p.2 : Int)] 66 (0, 0)) := (xX'.block H (by omega) (fun e => nH (.inr (.inl e)))).trans q0
      refine ⟨y6, (due_add X g.db g.dc g.eb g.L g.n D hX.du i hi).mono ?_⟩
      rintro e w' ⟨rfl, hb⟩
      obtain ⟨hd, hx⟩ := hb.out
      obtain ⟨n1, n2, n3, n4⟩ := hX.ne
      obtain ⟨l1, l2, l3, l4, l5, l6⟩ := hX.lt
      obtain ⟨gc, sX⟩ := hX.se
      have k' := (hx.block g.kb l4 (fun ⟨l, hl, e⟩ => (n4 l hl).2.2.2 e.symm)).trans hX.kn
      have hW' : WkM w' wb g A L gb P (K.set i p) (ins i D) := ⟨⟨gc, sX.fx hx (fun ⟨l, hl, e⟩ => (n4 l hl).1 e.symm) (fun ⟨l, hl, e⟩ => (n4 l hl).2.1 e.symm) (fun ⟨l, hl, e⟩ => (n4 l hl).2.2.1 e.symm)⟩, k', hX.kl, hd, hX.nd⟩
      have x' : Fx (wOwn wb g gb) w w' := (Fx.of b0).trans ((xX'.mono fun k _ e => .inr (.inl e)).trans (hx.mono fun k _ e => .inr (.inr e)))
      have qw : w'.heap[H]? = some (.cells #[.int .i64 (p.1 : Int), .int .u64 (p.2 : Int)] 66 (0, 0)) := (hx.block H (heap_lt qX) (fun e => nH (.inr (.inr e)))).trans qX
      obtain ⟨_, _, _, _, _, z5, _, _⟩ := hW'.cells
      obtain ⟨v0, v1⟩ := hW'.known (List.getElem?_set_self hiK)
      exact ⟨rfl, z5, v0, v1, cell_blk qw rfl, cell_blk qw rfl, ⟨fun m => ⟨gb, hW'.below (below_drewN (Below.refl _ w') m), x'.drewN m, .inl rfl⟩⟩⟩⟩
    have hpp := way_eq p p
    rw [e2] at hpp
    have hkl0 : g.kb < w0.heap.size := h0.lt.2.2.2.1
    have hHl0 : H < w0.heap.size := by omega
    have hkH : g.kb ≠ H := fun e => nH (.inr (.inl e.symm))
    have hwk : wb ≠ g.kb := fun e => h0.ne.1 e.symm
    clear h0 h q0 nH b0 hq e1 e2
    generalize ins i D = D' at *
    generalize q.2 = z at *
    go_enter Tryd.func41, Tryd.ntmps41
    go_wp2
    go_region
    go_wp2_with (first
      | (go_at_call 60; refine Calls.mono (HA.out 1).2 ?_; rintro e w2 ⟨rfl, y5, y0, y1, z0, z1, HX⟩; clear HA c5 c6 ca ca1 fz p0 p1))
    go_quiet (fail)
    go_wp2
    go_ret
    exact ⟨rfl, ⟨HX.out _⟩⟩
  · simp only [if_neg hz]
    rw [hq]
    simp only [Option.getD_some]
    have hzI : ((q.1 : Int) == 0) = false := by simp; omega
    have hpp := way_eq q p
    have HX : Bx (∀ k, WkPost w wb g A L gb P K D (w0.drewN k)) := ⟨fun k => WkPost.refl h (below_drewN b0 k)⟩
    generalize decide (q = p) = r at *
    clear h0 h q0 nH b0 hq hz
    go_enter Tryd.func41, Tryd.ntmps41
    go_wp2
    go_quiet (fail)
    go_wp2
    go_ret
    exact ⟨rfl, ⟨HX.out _⟩⟩
end Go.Proofs.YtadmpgegolmkgaaDoor
