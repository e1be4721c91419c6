import Derived.Test.YteinpijbdgcehaaCOLe
import Derived.Maps.AppendAt
import Derived.Laws.OwnMore
import Derived.OneCell
import Derived.Laws.AppendOwnNone
namespace Go.Proofs.Yteinpijbdgcehaa
open Go.RowKit
set_option linter.unusedVariables false
set_option linter.unusedSimpArgs false

theorem owns_below {w w' : World} {B : Nat} {e : TypeId} {s : Nat} {v : Value} {n : Nat} {cs : List Value} (h : w.ownsRow B e s v n cs) (hb : Below w.heap.size w w') : w'.ownsRow B e s v n cs := own_new h hb
theorem owns_base {w : World} {B B' : Nat} {e : TypeId} {s : Nat} {v : Value} {n : Nat} {cs : List Value} (h : w.ownsRow B e s v n cs) (hb : B' ≤ B) : w.ownsRow B' e s v n cs := own_low h hb
theorem below_drewN {B : Nat} {a w : World} (h : Below B a w) (n : Nat) : Below B a (w.drewN n) := ⟨h.os, h.tape, h.output, h.size, h.block⟩
/-! ### rows of memory -/
structure Row where
  e : TypeId
  s : Nat
  v : Value
  n : Nat
  xs : List Value
/-- the row stands in w, in a block from B on -/
structure Row.ok (r : Row) (w : World) (B : Nat) : Prop where
  own : w.ownsRow B r.e r.s r.v r.n r.xs
theorem Row.ok.below {r : Row} {w w' : World} {B : Nat} (h : r.ok w B) (hb : Below w.heap.size w w') : r.ok w' B := ⟨owns_below h.own hb⟩
theorem Row.ok.low {r : Row} {w : World} {B B' : Nat} (h : r.ok w B) (hb : B' ≤ B) : r.ok w B' := ⟨owns_base h.own hb⟩
theorem Row.ok.set {r : Row} {w : World} {B : Nat} (h : r.ok w B) {a : Addr} (ha : r.v.ownBlock ≠ some a.block) (u : Value) : r.ok (w.setCell a u) B := ⟨ownsRow_setCell_other h.own ha u⟩

/-- two values whose rows lie in different blocks -/
def Apart (v u : Value) : Prop := ∀ g, v.ownBlock = some g → u.ownBlock ≠ some g
theorem Apart.symm {v u : Value} (h : Apart v u) : Apart u v := fun g h1 h2 => h g h2 h1
/-- rows of other elements lie in other blocks -/
theorem apart_kind {w : World} {B B' : Nat} {e e' : TypeId} {s s' : Nat} {v v' : Value} {n n' : Nat} {xs xs' : List Value} (h : w.ownsRow B e s v n xs) (h' : w.ownsRow B' e' s' v' n' xs') (hne : e ≠ e') : Apart v v' := by
  intro g hg hg'
  rcases h.2 with ⟨rfl, _⟩ | ⟨g1, c1, cur1, rfl, _, hh1, _⟩
  · cases hg
  · rcases h'.2 with ⟨rfl, _⟩ | ⟨g2, c2, cur2, rfl, _, hh2, _⟩
    · cases hg'
    · have e1 : g1 = g := by simpa [Value.ownBlock] using hg
      have e2 : g2 = g := by simpa [Value.ownBlock] using hg'
      subst e1
      subst e2
      rw [hh1] at hh2
      injection hh2 with hh2
      injection hh2 with _ h3
      exact hne h3
/-- a row that is new lies apart from those that stood -/
theorem apart_new {w : World} {B : Nat} {e : TypeId} {s : Nat} {v v' : Value} {n : Nat} {xs : List Value} (h : w.ownsRow B e s v n xs) {g : Nat} (hv : v'.ownBlock = some g) (hg : w.heap.size ≤ g) : Apart v v' := by
  intro k hk hk'
  have := (h.lt k hk).2
  rw [hv] at hk'
  injection hk' with hk'
  omega

/-- what an append leaves -/
structure Appended (w w' : World) (B : Nat) (e : TypeId) (s : Nat) (v : Value) (n : Nat) (v' : Value) : Prop where
  old : Below B w w'
  lies : v'.ownBlock = v.ownBlock ∨ v'.ownBlock = some w.heap.size
  keep : ∀ r : Row, r.ok w B → (∀ g, v.ownBlock = some g → r.v.ownBlock = some g → r.e = e ∧ r.s = s ∧ r.n ≤ n) → r.ok w' B
theorem Appended.apart {w w' : World} {B : Nat} {e : TypeId} {s : Nat} {v : Value} {n : Nat} {v' : Value} (h : Appended w w' B e s v n v') {r : Row} (hr : r.ok w B) (ha : Apart v r.v) : r.ok w' B ∧ Apart v' r.v := by
  refine ⟨h.keep r hr fun g h1 h2 => absurd h2 (ha g h1), ?_⟩
  intro g h1 h2
  rcases h.lies with hl | hl
  · rw [hl] at h1; exact ha g h1 h2
  · rw [hl] at h1
    injection h1 with h1
    have := (hr.own.lt g h2).2
    omega

theorem run_append_keep (w : World) (B : Nat) (t ty e : TypeId) (i : TypeInfo) (z : Value) (size bytes : Nat) (ht : Try.prog.underlying t = some (.slice e)) (hi : Try.prog.info? e = some i) (hz : i.zero = some z)
    (hsize : i.size = size) (hby : i.bytes = bytes) (hzs : z.cells.size = size) (hsz : 0 < size)
    (v : Value) (n : Nat) (xs : List Value) (hown : w.ownsRow B e size v n xs)
    (a : Addr) (m c : Nat) (news : List Value) (hl : news.length = m * size) (hnews : ∀ j u, news[j]? = some u → w.cell? (a.add j) = some u) (h1 : ∀ u ∈ news, u.oneCell' = true)
    (h63 : n + m ≤ maxLen) (hbytes : (n + m) * bytes ≤ 140737488355328) (hbase : B ≤ w.heap.size) :
    ∃ v' w', (Builtin.append_ #[t, t] ty #[v, .slice (some a) m c]).run Try.prog w = .ok v' w' ∧ w'.ownsRow B e size v' (n + m) (xs ++ news) ∧ Appended w w' B e size v n v' ∧ (v' = .slice none 0 0 ↔ v = .slice none 0 0 ∧ m = 0) := by
  obtain ⟨v', w', hr, h2, h3, h4, h5⟩ := run_append_own_at (P := Try.prog) w B t ty e i z size bytes ht hi hz hsize hby hzs hsz v n xs hown a m c news hl hnews h1 h63 hbytes hbase
  refine ⟨v', w', hr, h2, ⟨(Below.refl B w).grown h3 hbase (fun k hk => (hown.lt k hk).1), h5, ?_⟩, h4⟩
  intro r hok hcl
  subst hsize
  subst hby
  rcases hown.2 with ⟨rfl, rfl⟩ | ⟨g, cap, cur, rfl, hbg, hg, hnc, hcm, hcs, htake⟩
  · exact ⟨hok.own.kept h3 (by cases hh : r.v.ownBlock <;> simp [Value.ownBlock])⟩
  · by_cases hsame : r.v.ownBlock = some g
    · obtain ⟨he, hs, hn⟩ := hcl g rfl hsame
      rcases hok.own.2 with ⟨hv, _⟩ | ⟨g', rcap, rcur, hv, hb', hg', hnc', hcm', hcs', htake'⟩
      · rw [hv] at hsame; cases hsame
      · have e1 : g' = g := by rw [hv] at hsame; simpa [Value.ownBlock] using hsame
        subst e1
        rw [hg] at hg'
        injection hg' with hg'
        injection hg' with hg1 hg2
        subst hg1
        by_cases hroom : n + m ≤ cap
        · have hfit : n * i.size + news.length ≤ cur.size := by rw [hl, hcs, ← Nat.add_mul]; exact Nat.mul_le_mul_right _ hroom
          have hr' := run_append_room (P := Try.prog) w t ty e i ht hi g' n cap cur hg a m c news hl hnews h1 hroom hfit
          rw [hr] at hr'
          injection hr' with hv2 hw2
          subst hw2
          refine ⟨⟨hok.own.1, .inr ⟨g', rcap, _, hv, hb', by rw [← hg2]; exact setRow_heap w g' cur _ e _ hg, hnc', hcm', ?_, ?_⟩⟩⟩
          · rw [← hcs']
            simp only [List.size_toArray, List.length_append, List.length_take, List.length_drop, Array.length_toList]
            omega
          · rw [← htake', hs]
            have hle : r.n * i.size ≤ n * i.size := Nat.mul_le_mul_right _ hn
            have hcur : n * i.size ≤ cur.toList.length := by simp; omega
            simp only [List.append_assoc]
            rw [List.take_append_of_le_length (by rw [List.length_take]; omega), List.take_take, Nat.min_eq_left hle]
        · have holds : ∀ j u, xs[j]? = some u → w.cell? ((⟨g', 0, none⟩ : Addr).add j) = some u := hown.cells (g := g') rfl
          have hr' := run_append_grow (P := Try.prog) w t ty e i z ht hi hz ⟨g', 0, none⟩ n cap xs hown.1 holds a m c news hl hnews (by omega) (by simp only [maxLen] at h63; omega) (growslice_fits (by omega) hbytes)
          rw [hr] at hr'
          injection hr' with hv2 hw2
          subst hw2
          have hk : w.grownBy (w.drew.alloc (.cells (xs.toArray ++ news.toArray ++ Builtin.zeroCells z.cells (grownCap w (n + m) cap e - (n + m))) e)) none := ⟨rfl, rfl, rfl, by simp, fun k hk _ => Below.heap_alloc w.drew _ k hk⟩
          exact ⟨hok.own.kept hk (by cases hh : r.v.ownBlock <;> simp)⟩
    · exact ⟨hok.own.kept h3 (.inr (by simpa [Value.ownBlock] using hsame))⟩

/-- **append**, of one row's elements behind another's -/
theorem app_row {ops : Array Oper} {rest : List Oper} {op : Oper} {a : Act} {Q : Exit → Act → World → Prop} {w : World} (hgd : op.guard = none) (s x : Operand) (t : TypeId)
    (ho : op.op = .call { callee := .builtin .append, args := #[s, x], argTypes := #[t, t] })
    (B : Nat) (e : TypeId) (i : TypeInfo) (z : Value) (size bytes : Nat) (ht : Try.prog.underlying t = some (.slice e)) (hi : Try.prog.info? e = some i) (hz : i.zero = some z)
    (hsize : i.size = size) (hby : i.bytes = bytes) (hzs : z.cells.size = size) (hsz : 0 < size)
    (v : Value) (n : Nat) (xs : List Value) (hs : a.eval s = v) (hown : w.ownsRow B e size v n xs)
    (B2 : Nat) (u : Value) (m : Nat) (news : List Value) (hx : a.eval x = u) (hown2 : w.ownsRow B2 e size u m news) (h1 : ∀ u ∈ news, u.oneCell' = true)
    (h63 : n + m ≤ maxLen) (hbytes : (n + m) * bytes ≤ 140737488355328) (hbase : B ≤ w.heap.size)
    (h : ∀ v' w', w'.ownsRow B e size v' (n + m) (xs ++ news) → Appended w w' B e size v n v' → wpList Try.prog ops Q rest (a.put op.dst v') w') : wpList Try.prog ops Q (op :: rest) a w := by
  rcases hown2.2 with ⟨hu, hm⟩ | ⟨g, cap, cur, hu, _⟩
  · subst hm
    have hn0 : news = [] := List.eq_nil_of_length_eq_zero (by simpa using hown2.1)
    subst hn0
    refine wpList_append_own_none hgd s x t ho B e i size ht hi v n xs hs hown (hx.trans hu) ?_
    exact h v w (by simpa using hown) ⟨Below.refl _ _, .inl rfl, fun r hr _ => hr⟩
  · refine wpList_plain hgd fun K hK => ?_
    obtain ⟨v', w', hr, h2, h3, h4⟩ := run_append_keep w B t op.type e i z size bytes ht hi hz hsize hby hzs hsz v n xs hown ⟨g, 0, none⟩ m cap news hown2.1 (hown2.cells (g := g) (by rw [hu]; rfl)) h1 h63 hbytes hbase
    have hxu := hx.trans hu
    unfold Oper.wp execOp
    simp only [ho, resolve, invoke, builtin, Sem.run_bind, Sem.run_pure, Result.andThen_ok, List.map_toArray, List.map_cons, List.map_nil, hs, hxu, hr]
    exact hK _ _ (h v' w' h2 h3)

/-- **append**, of one element that lies in a new block -/
theorem app_elt {ops : Array Oper} {rest : List Oper} {op : Oper} {a : Act} {Q : Exit → Act → World → Prop} {w : World} (hgd : op.guard = none) (s x : Operand) (t : TypeId)
    (ho : op.op = .call { callee := .builtin .append, args := #[s, x], argTypes := #[t, t] })
    (B : Nat) (e : TypeId) (i : TypeInfo) (z : Value) (size bytes : Nat) (ht : Try.prog.underlying t = some (.slice e)) (hi : Try.prog.info? e = some i) (hz : i.zero = some z)
    (hsize : i.size = size) (hby : i.bytes = bytes) (hzs : z.cells.size = size) (hsz : 0 < size)
    (v : Value) (n : Nat) (xs : List Value) (hs : a.eval s = v) (hown : w.ownsRow B e size v n xs)
    (N : Nat) (news : List Value) (hx : a.eval x = .slice (some ⟨N, 0, none⟩) 1 1) (hl : news.length = size) (hnews : ∀ j u, news[j]? = some u → w.cell? ((⟨N, 0, none⟩ : Addr).add j) = some u) (h1 : ∀ u ∈ news, u.oneCell' = true)
    (h63 : n + 1 ≤ maxLen) (hbytes : (n + 1) * bytes ≤ 140737488355328) (hbase : B ≤ w.heap.size)
    (h : ∀ v' w', w'.ownsRow B e size v' (n + 1) (xs ++ news) → Appended w w' B e size v n v' → wpList Try.prog ops Q rest (a.put op.dst v') w') : wpList Try.prog ops Q (op :: rest) a w := by
  refine wpList_plain hgd fun K hK => ?_
  obtain ⟨v', w', hr, h2, h3, h4⟩ := run_append_keep w B t op.type e i z size bytes ht hi hz hsize hby hzs hsz v n xs hown ⟨N, 0, none⟩ 1 1 news (by rw [hl, Nat.one_mul]) hnews h1 h63 hbytes hbase
  unfold Oper.wp execOp
  simp only [ho, resolve, invoke, builtin, Sem.run_bind, Sem.run_pure, Result.andThen_ok, List.map_toArray, List.map_cons, List.map_nil, hs, hx, hr]
  exact hK _ _ (h v' w' h2 h3)

/-! ### five numbers -/
structure Q5 where
  a : Int
  b : Int
  c : Int
  d : Int
  e : Int
def q5C (q : Q5) : List Value := [.int .i64 q.a, .int .i64 q.b, .int .i64 q.c, .int .i64 q.d, .int .i64 q.e]
def qsC (l : List Q5) : List Value := l.flatMap q5C
def prQ (x : OPr) : Q5 := ⟨x.p, x.i, x.q, x.j, x.ch⟩
theorem prsC_q (l : List OPr) : prsC l = qsC (l.map prQ) := by
  unfold prsC qsC
  rw [List.flatMap_map]
  rfl
theorem qsC_len (l : List Q5) : (qsC l).length = l.length * 5 := by
  induction l with
  | nil => rfl
  | cons t r ih => unfold qsC at *; simp only [List.flatMap_cons, List.length_append, List.length_cons, ih]; simp [q5C]; omega
theorem qsC_append (l r : List Q5) : qsC (l ++ r) = qsC l ++ qsC r := by unfold qsC; simp
theorem qsC_one (q : Q5) : qsC [q] = q5C q := by unfold qsC; simp
theorem q5C_cell (q : Q5) : ∀ u ∈ q5C q, u.oneCell' = true := by
  intro u hu
  simp only [q5C, List.mem_cons, List.not_mem_nil, or_false] at hu
  rcases hu with rfl | rfl | rfl | rfl | rfl <;> rfl
theorem qsC_cell (l : List Q5) : ∀ u ∈ qsC l, u.oneCell' = true := by
  intro u hu
  unfold qsC at hu
  obtain ⟨q, _, h⟩ := List.mem_flatMap.1 hu
  exact q5C_cell q u h
theorem qsC_at : ∀ (l : List Q5) (j : Nat) (h : j < l.length), (qsC l)[j * 5]? = some (.int .i64 l[j].a) ∧ (qsC l)[j * 5 + 1]? = some (.int .i64 l[j].b) ∧ (qsC l)[j * 5 + 2]? = some (.int .i64 l[j].c) ∧ (qsC l)[j * 5 + 3]? = some (.int .i64 l[j].d) ∧ (qsC l)[j * 5 + 4]? = some (.int .i64 l[j].e)
  | t :: r, 0, h => ⟨rfl, rfl, rfl, rfl, rfl⟩
  | t :: r, j + 1, h => by
    have ih := qsC_at r j (by simpa using h)
    have e : ∀ i, (qsC (t :: r))[i + 5]? = (qsC r)[i]? := fun i => rfl
    rw [show (j + 1) * 5 = j * 5 + 5 by omega, show j * 5 + 5 + 1 = j * 5 + 1 + 5 by omega, show j * 5 + 5 + 2 = j * 5 + 2 + 5 by omega, show j * 5 + 5 + 3 = j * 5 + 3 + 5 by omega, show j * 5 + 5 + 4 = j * 5 + 4 + 5 by omega, e, e, e, e, e]
    exact ih
theorem qsC_set : ∀ (l : List Q5) (j : Nat) (h : j < l.length) (q : Q5), qsC (l.set j q) = (((((qsC l).set (j * 5) (.int .i64 q.a)).set (j * 5 + 1) (.int .i64 q.b)).set (j * 5 + 2) (.int .i64 q.c)).set (j * 5 + 3) (.int .i64 q.d)).set (j * 5 + 4) (.int .i64 q.e)
  | t :: r, 0, h, q => rfl
  | t :: r, j + 1, h, q => by
    have ih := qsC_set r j (by simpa using h) q
    have e : ∀ (r' : List Q5), qsC (t :: r') = .int .i64 t.a :: .int .i64 t.b :: .int .i64 t.c :: .int .i64 t.d :: .int .i64 t.e :: qsC r' := fun _ => rfl
    rw [List.set_cons_succ, e, e, ih, show (j + 1) * 5 = j * 5 + 1 + 1 + 1 + 1 + 1 by omega]
    simp only [List.set_cons_succ]

/-- a list of such in memory -/
structure QX (w : World) (x : Option Addr) (cp : Nat) (l : List Q5) : Prop where
  at_ : 0 < l.length → ∃ g, x = some ⟨g, 0, none⟩ ∧ g < w.heap.size ∧ ∀ j (h : j < l.length), w.cell? ⟨g, j * 5, none⟩ = some (.int .i64 l[j].a) ∧ w.cell? ⟨g, j * 5 + 1, none⟩ = some (.int .i64 l[j].b) ∧ w.cell? ⟨g, j * 5 + 2, none⟩ = some (.int .i64 l[j].c) ∧ w.cell? ⟨g, j * 5 + 3, none⟩ = some (.int .i64 l[j].d) ∧ w.cell? ⟨g, j * 5 + 4, none⟩ = some (.int .i64 l[j].e)
  cap : l.length ≤ cp
theorem qx_of_owns {w : World} {B : Nat} {v : Value} {l : List Q5} (h : w.ownsRow B 47 5 v l.length (qsC l)) : ∃ x cp, v = .slice x l.length cp ∧ QX w x cp l := by
  rcases h.2 with ⟨hv, h0⟩ | ⟨g, cap, cur, hv, hb, hg, hnc, _⟩
  · refine ⟨none, 0, by rw [h0]; exact hv, fun h1 => by omega, by omega⟩
  · refine ⟨_, cap, hv, fun h1 => ⟨g, rfl, (Array.getElem?_eq_some_iff.1 hg).1, fun j hj => ?_⟩, hnc⟩
    subst hv
    obtain ⟨a, b, c, d, e⟩ := qsC_at l j hj
    exact ⟨by rw [h.cellAt _ (by omega)]; exact a, by rw [h.cellAt _ (by omega)]; exact b, by rw [h.cellAt _ (by omega)]; exact c, by rw [h.cellAt _ (by omega)]; exact d, by rw [h.cellAt _ (by omega)]; exact e⟩
theorem QX.drewN {w : World} {x : Option Addr} {cp : Nat} {l : List Q5} (h : QX w x cp l) (n : Nat) : QX (w.drewN n) x cp l := by
  refine ⟨fun h0 => ?_, h.cap⟩
  obtain ⟨g, h1, h2, h3⟩ := h.at_ h0
  exact ⟨g, h1, by simpa using h2, fun j hj => by simpa using h3 j hj⟩

/-- a cell of an own row is written over -/
theorem owns_set {w : World} {B : Nat} {e : TypeId} {s g n cap : Nat} {xs : List Value} (h : w.ownsRow B e s (.slice (some ⟨g, 0, none⟩) n cap) n xs) (j : Nat) (hj : j < n * s) (u : Value) :
    (w.setCell ⟨g, j, none⟩ u).ownsRow B e s (.slice (some ⟨g, 0, none⟩) n cap) n (xs.set j u) := by
  refine ⟨by simpa using h.1, ?_⟩
  rcases h.2 with ⟨hv, _⟩ | ⟨g', cap', cur, hv, hb, hg, hnc, hcm, hcs, htake⟩
  · cases hv
  · injection hv with h1 h2 h3
    injection h1 with h1
    injection h1 with h1
    subst h1
    subst h3
    have hlt := (Array.getElem?_eq_some_iff.1 hg).1
    refine .inr ⟨g, cap, cur.setIfInBounds j u, rfl, hb, ?_, hnc, hcm, by simpa using hcs, ?_⟩
    · unfold World.setCell
      simp only [Array.getElem?_modify, hg]
      simp
    · rw [← htake]
      simp [List.take_set]
end Go.Proofs.Yteinpijbdgcehaa
