import Derived.Test.YtecpknpcjoiliabDoorCUN
import Derived.Test.YtecpknpcjoiliabDoorCUM
import Derived.Maps.AppendAt
import Derived.Laws.OwnMore
import Derived.OneCell
import Derived.Laws.AppendOwnNone
import Derived.BigQuiet
namespace Go.Proofs.YtecpknpcjoiliabDoor
open Go.RowKit
set_option linter.unusedVariables false
set_option linter.unusedSimpArgs false

theorem owns_below {w w' : World} {B : Nat} {e : TypeId} {s : Nat} {v : Value} {n : Nat} {cs : List Value} (h : w.ownsRow B e s v n cs) (hb : Below w.heap.size w w') : w'.ownsRow B e s v n cs := owns_same h fun g _ hg => hb.block g hg
theorem owns_base {w : World} {B B' : Nat} {e : TypeId} {s : Nat} {v : Value} {n : Nat} {cs : List Value} (h : w.ownsRow B e s v n cs) (hb : B' ≤ B) : w.ownsRow B' e s v n cs := by
  refine ⟨h.1, ?_⟩
  rcases h.2 with q | ⟨g, cap, cur, q1, q2, q3⟩
  · exact .inl q
  · exact .inr ⟨g, cap, cur, q1, by omega, q3⟩
theorem drew_belowN {B : Nat} {a w : World} (h : Below B a w) (n : Nat) : Below B a (w.drewN n) := ⟨h.os, h.tape, h.output, h.size, h.block⟩
/-! ### rows of memory -/
structure BRow where
  e : TypeId
  s : Nat
  v : Value
  n : Nat
  xs : List Value
/-- the row stands in w, in a block from B on -/
structure BRow.ok (r : BRow) (w : World) (B : Nat) : Prop where
  own : w.ownsRow B r.e r.s r.v r.n r.xs
theorem BRow.ok.below {r : BRow} {w w' : World} {B : Nat} (h : r.ok w B) (hb : Below w.heap.size w w') : r.ok w' B := ⟨owns_below h.own hb⟩
theorem BRow.ok.low {r : BRow} {w : World} {B B' : Nat} (h : r.ok w B) (hb : B' ≤ B) : r.ok w B' := ⟨owns_base h.own hb⟩
theorem BRow.ok.set {r : BRow} {w : World} {B : Nat} (h : r.ok w B) {a : Addr} (ha : r.v.ownBlock ≠ some a.block) (u : Value) : r.ok (w.setCell a u) B := ⟨ownsRow_setCell_other h.own ha u⟩

/-- two values whose rows lie in different blocks -/
def Apart (v u : Value) : Prop := ∀ g, v.ownBlock = some g → u.ownBlock ≠ some g
theorem Apart.symm {v u : Value} (h : Apart v u) : Apart u v := fun g h1 h2 => h g h2 h1
/-- rows of other elements lie in other blocks -/
theorem apart_kind {w : World} {B B' : Nat} {e e' : TypeId} {s s' : Nat} {v v' : Value} {n n' : Nat} {xs xs' : List Value} (h : w.ownsRow B e s v n xs) (h' : w.ownsRow B' e' s' v' n' xs') (hne : e ≠ e') : Apart v v' := by
  intro g hg hg'
  rcases h.2 with ⟨rfl, _⟩ | ⟨g1, c1, cur1, rfl, _, hh1, _⟩
  · cases hg
  · rcases h'.2 with ⟨rfl, _⟩ | ⟨g2, c2, cur2, rfl, _, hh2, _⟩
    · cases hg'
    · have e1 : g1 = g := by simpa [Value.ownBlock] using hg
      have e2 : g2 = g := by simpa [Value.ownBlock] using hg'
      subst e1
      subst e2
      rw [hh1] at hh2
      injection hh2 with hh2
      injection hh2 with _ h3
      exact hne h3
/-- a row that is new lies apart from those that stood -/
theorem apart_new {w : World} {B : Nat} {e : TypeId} {s : Nat} {v v' : Value} {n : Nat} {xs : List Value} (h : w.ownsRow B e s v n xs) {g : Nat} (hv : v'.ownBlock = some g) (hg : w.heap.size ≤ g) : Apart v v' := by
  intro k hk hk'
  have := (h.lt k hk).2
  rw [hv] at hk'
  injection hk' with hk'
  omega

/-- what an append leaves -/
structure Appended (w w' : World) (B : Nat) (e : TypeId) (s : Nat) (v : Value) (n : Nat) (v' : Value) : Prop where
  old : Below B w w'
  lies : v'.ownBlock = v.ownBlock ∨ v'.ownBlock = some w.heap.size
  keep : ∀ r : BRow, r.ok w B → (∀ g, v.ownBlock = some g → r.v.ownBlock = some g → r.e = e ∧ r.s = s ∧ r.n ≤ n) → r.ok w' B
theorem Appended.apart {w w' : World} {B : Nat} {e : TypeId} {s : Nat} {v : Value} {n : Nat} {v' : Value} (h : Appended w w' B e s v n v') {r : BRow} (hr : r.ok w B) (ha : Apart v r.v) : r.ok w' B ∧ Apart v' r.v := by
  refine ⟨h.keep r hr fun g h1 h2 => absurd h2 (ha g h1), ?_⟩
  intro g h1 h2
  rcases h.lies with hl | hl
  · rw [hl] at h1; exact ha g h1 h2
  · rw [hl] at h1
    injection h1 with h1
    have := (hr.own.lt g h2).2
    omega

theorem run_append_keep (w : World) (B : Nat) (t ty e : TypeId) (i : TypeInfo) (z : Value) (size bytes : Nat) (ht : Tryd.prog.underlying t = some (.slice e)) (hi : Tryd.prog.info? e = some i) (hz : i.zero = some z)
    (hsize : i.size = size) (hby : i.bytes = bytes) (hzs : z.cells.size = size) (hsz : 0 < size)
    (v : Value) (n : Nat) (xs : List Value) (hown : w.ownsRow B e size v n xs)
    (a : Addr) (m c : Nat) (news : List Value) (hl : news.length = m * size) (hnews : ∀ j u, news[j]? = some u → w.cell? (a.add j) = some u) (h1 : ∀ u ∈ news, u.oneCell' = true)
    (h63 : n + m ≤ maxLen) (hbytes : (n + m) * bytes ≤ 140737488355328) (hbase : B ≤ w.heap.size) :
    ∃ v' w', (Builtin.append_ #[t, t] ty #[v, .slice (some a) m c]).run Tryd.prog w = .ok v' w' ∧ w'.ownsRow B e size v' (n + m) (xs ++ news) ∧ Appended w w' B e size v n v' ∧ (v' = .slice none 0 0 ↔ v = .slice none 0 0 ∧ m = 0) := by
  obtain ⟨v', w', hr, h2, h3, h4, h5⟩ := run_append_own_at (P := Tryd.prog) w B t ty e i z size bytes ht hi hz hsize hby hzs hsz v n xs hown a m c news hl hnews h1 h63 hbytes hbase
  refine ⟨v', w', hr, h2, ⟨(Below.refl B w).grown h3 hbase (fun k hk => (hown.lt k hk).1), h5, ?_⟩, h4⟩
  intro r hok hcl
  subst hsize
  subst hby
  rcases hown.2 with ⟨rfl, rfl⟩ | ⟨g, cap, cur, rfl, hbg, hg, hnc, hcm, hcs, htake⟩
  · exact ⟨hok.own.kept h3 (by cases hh : r.v.ownBlock <;> simp [Value.ownBlock])⟩
  · by_cases hsame : r.v.ownBlock = some g
    · obtain ⟨he, hs, hn⟩ := hcl g rfl hsame
      rcases hok.own.2 with ⟨hv, _⟩ | ⟨g', rcap, rcur, hv, hb', hg', hnc', hcm', hcs', htake'⟩
      · rw [hv] at hsame; cases hsame
      · have e1 : g' = g := by rw [hv] at hsame; simpa [Value.ownBlock] using hsame
        subst e1
        rw [hg] at hg'
        injection hg' with hg'
        injection hg' with hg1 hg2
        subst hg1
        by_cases hroom : n + m ≤ cap
        · have hfit : n * i.size + news.length ≤ cur.size := by rw [hl, hcs, ← Nat.add_mul]; exact Nat.mul_le_mul_right _ hroom
          have hr' := run_append_room (P := Tryd.prog) w t ty e i ht hi g' n cap cur hg a m c news hl hnews h1 hroom hfit
          rw [hr] at hr'
          injection hr' with hv2 hw2
          subst hw2
          refine ⟨⟨hok.own.1, .inr ⟨g', rcap, _, hv, hb', by rw [← hg2]; exact setRow_heap w g' cur _ e _ hg, hnc', hcm', ?_, ?_⟩⟩⟩
          · rw [← hcs']
            simp only [List.size_toArray, List.length_append, List.length_take, List.length_drop, Array.length_toList]
            omega
          · rw [← htake', hs]
            have hle : r.n * i.size ≤ n * i.size := Nat.mul_le_mul_right _ hn
            have hcur : n * i.size ≤ cur.toList.length := by simp; omega
            simp only [List.append_assoc]
            rw [List.take_append_of_le_length (by rw [List.length_take]; omega), List.take_take, Nat.min_eq_left hle]
        · have holds : ∀ j u, xs[j]? = some u → w.cell? ((⟨g', 0, none⟩ : Addr).add j) = some u := hown.cells (g := g') rfl
          have hr' := run_append_grow (P := Tryd.prog) w t ty e i z ht hi hz ⟨g', 0, none⟩ n cap xs hown.1 holds a m c news hl hnews (by omega) (by simp only [maxLen] at h63; omega) (growslice_fits (by omega) hbytes)
          rw [hr] at hr'
          injection hr' with hv2 hw2
          subst hw2
          have hk : w.grownBy (w.drew.alloc (.cells (xs.toArray ++ news.toArray ++ Builtin.zeroCells z.cells (grownCap w (n + m) cap e - (n + m))) e)) none := ⟨rfl, rfl, rfl, by simp, fun k hk _ => Below.heap_alloc w.drew _ k hk⟩
          exact ⟨hok.own.kept hk (by cases hh : r.v.ownBlock <;> simp)⟩
    · exact ⟨hok.own.kept h3 (.inr (by simpa [Value.ownBlock] using hsame))⟩

/-- **append**, of one row's elements behind another's -/
theorem app_row {ops : Array Oper} {rest : List Oper} {op : Oper} {a : Act} {Q : Exit → Act → World → Prop} {w : World} (hgd : op.guard = none) (s x : Operand) (t : TypeId)
    (ho : op.op = .call { callee := .builtin .append, args := #[s, x], argTypes := #[t, t] })
    (B : Nat) (e : TypeId) (i : TypeInfo) (z : Value) (size bytes : Nat) (ht : Tryd.prog.underlying t = some (.slice e)) (hi : Tryd.prog.info? e = some i) (hz : i.zero = some z)
    (hsize : i.size = size) (hby : i.bytes = bytes) (hzs : z.cells.size = size) (hsz : 0 < size)
    (v : Value) (n : Nat) (xs : List Value) (hs : a.eval s = v) (hown : w.ownsRow B e size v n xs)
    (B2 : Nat) (u : Value) (m : Nat) (news : List Value) (hx : a.eval x = u) (hown2 : w.ownsRow B2 e size u m news) (h1 : ∀ u ∈ news, u.oneCell' = true)
    (h63 : n + m ≤ maxLen) (hbytes : (n + m) * bytes ≤ 140737488355328) (hbase : B ≤ w.heap.size)
    (h : ∀ v' w', w'.ownsRow B e size v' (n + m) (xs ++ news) → Appended w w' B e size v n v' → wpList Tryd.prog ops Q rest (a.put op.dst v') w') : wpList Tryd.prog ops Q (op :: rest) a w := by
  rcases hown2.2 with ⟨hu, hm⟩ | ⟨g, cap, cur, hu, _⟩
  · subst hm
    have hn0 : news = [] := List.eq_nil_of_length_eq_zero (by simpa using hown2.1)
    subst hn0
    refine wpList_append_own_none hgd s x t ho B e i size ht hi v n xs hs hown (hx.trans hu) ?_
    exact h v w (by simpa using hown) ⟨Below.refl _ _, .inl rfl, fun r hr _ => hr⟩
  · refine wpList_plain hgd fun K hK => ?_
    obtain ⟨v', w', hr, h2, h3, h4⟩ := run_append_keep w B t op.type e i z size bytes ht hi hz hsize hby hzs hsz v n xs hown ⟨g, 0, none⟩ m cap news hown2.1 (hown2.cells (g := g) (by rw [hu]; rfl)) h1 h63 hbytes hbase
    have hxu := hx.trans hu
    unfold Oper.wp execOp
    simp only [ho, resolve, invoke, builtin, Sem.run_bind, Sem.run_pure, Result.andThen_ok, List.map_toArray, List.map_cons, List.map_nil, hs, hxu, hr]
    exact hK _ _ (h v' w' h2 h3)

/-- **append**, of one element that lies in a new block -/
theorem app_elt {ops : Array Oper} {rest : List Oper} {op : Oper} {a : Act} {Q : Exit → Act → World → Prop} {w : World} (hgd : op.guard = none) (s x : Operand) (t : TypeId)
    (ho : op.op = .call { callee := .builtin .append, args := #[s, x], argTypes := #[t, t] })
    (B : Nat) (e : TypeId) (i : TypeInfo) (z : Value) (size bytes : Nat) (ht : Tryd.prog.underlying t = some (.slice e)) (hi : Tryd.prog.info? e = some i) (hz : i.zero = some z)
    (hsize : i.size = size) (hby : i.bytes = bytes) (hzs : z.cells.size = size) (hsz : 0 < size)
    (v : Value) (n : Nat) (xs : List Value) (hs : a.eval s = v) (hown : w.ownsRow B e size v n xs)
    (N : Nat) (news : List Value) (hx : a.eval x = .slice (some ⟨N, 0, none⟩) 1 1) (hl : news.length = size) (hnews : ∀ j u, news[j]? = some u → w.cell? ((⟨N, 0, none⟩ : Addr).add j) = some u) (h1 : ∀ u ∈ news, u.oneCell' = true)
    (h63 : n + 1 ≤ maxLen) (hbytes : (n + 1) * bytes ≤ 140737488355328) (hbase : B ≤ w.heap.size)
    (h : ∀ v' w', w'.ownsRow B e size v' (n + 1) (xs ++ news) → Appended w w' B e size v n v' → wpList Tryd.prog ops Q rest (a.put op.dst v') w') : wpList Tryd.prog ops Q (op :: rest) a w := by
  refine wpList_plain hgd fun K hK => ?_
  obtain ⟨v', w', hr, h2, h3, h4⟩ := run_append_keep w B t op.type e i z size bytes ht hi hz hsize hby hzs hsz v n xs hown ⟨N, 0, none⟩ 1 1 news (by rw [hl, Nat.one_mul]) hnews h1 h63 hbytes hbase
  unfold Oper.wp execOp
  simp only [ho, resolve, invoke, builtin, Sem.run_bind, Sem.run_pure, Result.andThen_ok, List.map_toArray, List.map_cons, List.map_nil, hs, hx, hr]
  exact hK _ _ (h v' w' h2 h3)

/-! ### three numbers -/
def pk1 (q : Pk) : List Value := [.int .i64 q.kind, .int .i64 q.n, .int .i64 q.v]
theorem pk3_append (l r : List Pk) : pkC (l ++ r) = pkC l ++ pkC r := by unfold pkC; simp
theorem pk3_one (q : Pk) : pkC [q] = pk1 q := by unfold pkC; simp [pk1]
theorem pk1_cell (q : Pk) : ∀ u ∈ pk1 q, u.oneCell' = true := by
  intro u hu
  simp only [pk1, List.mem_cons, List.not_mem_nil, or_false] at hu
  rcases hu with rfl | rfl | rfl <;> rfl
theorem pk3_cons (t : Pk) (r : List Pk) : pkC (t :: r) = .int .i64 t.kind :: .int .i64 t.n :: .int .i64 t.v :: pkC r := rfl
theorem pk3_cell : ∀ (l : List Pk), ∀ u ∈ pkC l, u.oneCell' = true
  | [], u, hu => by cases hu
  | t :: r, u, hu => by
    rw [pk3_cons] at hu
    simp only [List.mem_cons] at hu
    rcases hu with rfl | rfl | rfl | hu
    · rfl
    · rfl
    · rfl
    · exact pk3_cell r u hu
theorem pk3_at : ∀ (l : List Pk) (j : Nat) (h : j < l.length), (pkC l)[j * 3]? = some (.int .i64 l[j].kind) ∧ (pkC l)[j * 3 + 1]? = some (.int .i64 l[j].n) ∧ (pkC l)[j * 3 + 2]? = some (.int .i64 l[j].v)
  | t :: r, 0, h => ⟨rfl, rfl, rfl⟩
  | t :: r, j + 1, h => by
    have ih := pk3_at r j (by simpa using h)
    have e : ∀ i, (pkC (t :: r))[i + 3]? = (pkC r)[i]? := fun i => rfl
    rw [show (j + 1) * 3 = j * 3 + 3 by omega, show j * 3 + 3 + 1 = j * 3 + 1 + 3 by omega, show j * 3 + 3 + 2 = j * 3 + 2 + 3 by omega, e, e, e]
    exact ih
theorem pk3_set : ∀ (l : List Pk) (j : Nat) (h : j < l.length) (q : Pk), pkC (l.set j q) = (((pkC l).set (j * 3) (.int .i64 q.kind)).set (j * 3 + 1) (.int .i64 q.n)).set (j * 3 + 2) (.int .i64 q.v)
  | t :: r, 0, h, q => rfl
  | t :: r, j + 1, h, q => by
    have ih := pk3_set r j (by simpa using h) q
    rw [List.set_cons_succ, pk3_cons, pk3_cons, ih, show (j + 1) * 3 = j * 3 + 1 + 1 + 1 by omega]
    simp only [List.set_cons_succ]
/-- a list of such in memory -/
structure QX (w : World) (x : Option Addr) (cp : Nat) (l : List Pk) : Prop where
  at_ : 0 < l.length → ∃ g, x = some ⟨g, 0, none⟩ ∧ g < w.heap.size ∧ ∀ j (h : j < l.length), w.cell? ⟨g, j * 3, none⟩ = some (.int .i64 l[j].kind) ∧ w.cell? ⟨g, j * 3 + 1, none⟩ = some (.int .i64 l[j].n) ∧ w.cell? ⟨g, j * 3 + 2, none⟩ = some (.int .i64 l[j].v)
  cap : l.length ≤ cp
theorem qx_of_owns {w : World} {B : Nat} {v : Value} {l : List Pk} (h : w.ownsRow B 39 3 v l.length (pkC l)) : ∃ x cp, v = .slice x l.length cp ∧ QX w x cp l := by
  rcases h.2 with ⟨hv, h0⟩ | ⟨g, cap, cur, hv, hb, hg, hnc, _⟩
  · refine ⟨none, 0, by rw [h0]; exact hv, fun h1 => by omega, by omega⟩
  · refine ⟨_, cap, hv, fun h1 => ⟨g, rfl, (Array.getElem?_eq_some_iff.1 hg).1, fun j hj => ?_⟩, hnc⟩
    subst hv
    obtain ⟨a, b, c⟩ := pk3_at l j hj
    exact ⟨by rw [h.cellAt _ (by omega)]; exact a, by rw [h.cellAt _ (by omega)]; exact b, by rw [h.cellAt _ (by omega)]; exact c⟩
theorem QX.drewN {w : World} {x : Option Addr} {cp : Nat} {l : List Pk} (h : QX w x cp l) (n : Nat) : QX (w.drewN n) x cp l := by
  refine ⟨fun h0 => ?_, h.cap⟩
  obtain ⟨g, h1, h2, h3⟩ := h.at_ h0
  exact ⟨g, h1, by simpa using h2, fun j hj => by simpa using h3 j hj⟩
theorem cell_one_new (W : World) (x : Value) (t : TypeId) : ∀ j u', [x][j]? = some u' → (W.alloc (.cells #[x] t)).cell? ((⟨W.heap.size, 0, none⟩ : Addr).add j) = some u' := World.news_of_block (cs := #[x]) (heap_alloc_new W _)
/-- a cell of an own row is written over -/
theorem owns_set {w : World} {B : Nat} {e : TypeId} {s g n cap : Nat} {xs : List Value} (h : w.ownsRow B e s (.slice (some ⟨g, 0, none⟩) n cap) n xs) (j : Nat) (hj : j < n * s) (u : Value) :
    (w.setCell ⟨g, j, none⟩ u).ownsRow B e s (.slice (some ⟨g, 0, none⟩) n cap) n (xs.set j u) := by
  refine ⟨by simpa using h.1, ?_⟩
  rcases h.2 with ⟨hv, _⟩ | ⟨g', cap', cur, hv, hb, hg, hnc, hcm, hcs, htake⟩
  · cases hv
  · injection hv with h1 h2 h3
    injection h1 with h1
    injection h1 with h1
    subst h1
    subst h3
    have hlt := (Array.getElem?_eq_some_iff.1 hg).1
    refine .inr ⟨g, cap, cur.setIfInBounds j u, rfl, hb, ?_, hnc, hcm, by simpa using hcs, ?_⟩
    · unfold World.setCell
      simp only [Array.getElem?_modify, hg]
      simp
    · rw [← htake]
      simp [List.take_set]
end Go.Proofs.YtecpknpcjoiliabDoor
namespace Go.Proofs.YtecpknpcjoiliabDoor
open Go.RowKit
set_option linter.unusedVariables false
set_option linter.unusedSimpArgs false

set_option maxRecDepth 100000 in
set_option maxHeartbeats 1000000 in
theorem picks_eq (x y : Option Addr) (cx cy n : Nat) (l : List Pk) (w : World) (hn : l.length = n) (hm : n ≤ 30000000) (hx : QX w x cx l) (hy : QX w y cy l) :
    Calls Tryd.prog 15 #[.slice x n cx, .slice y n cy] w fun e w' => e = .returned (.bool true) ∧ ∃ k, w' = w.drewN k := by
  go_enter Tryd.func15, Tryd.ntmps15
  go_wp2
  go_loopw [5] (fun i wr => ∃ j k : Nat, j ≤ n ∧ i = .int .i64 j ∧ wr = w.drewN k) (fun i _ => n - (intOf i).toNat)
  case atStart => exact ⟨0, 0, Nat.zero_le _, rfl, rfl⟩
  case round =>
    obtain ⟨j, k, hj, rfl, rfl⟩ := hrel
    by_cases hlt : j < n
    · obtain ⟨g, rfl, hg, hc⟩ := hx.at_ (by omega)
      obtain ⟨g', rfl, hg', hc'⟩ := hy.at_ (by omega)
      obtain ⟨a0, a1, a2⟩ := hc j (by omega)
      obtain ⟨b0, b1, b2⟩ := hc' j (by omega)
      have hcx := hx.cap
      have hcy := hy.cap
      generalize l[j] = q at *
      clear hx hy hc hc'
      go_wp2
      go_quiet (fail)
      go_wp2
      go_roundw
      case rel => exact ⟨j + 1, k + nq, by omega, by go_num, rfl⟩
      case measure => simp [intOf]; omega
    · go_wp2
      go_ret
      exact ⟨rfl, k, rfl⟩

/-- a list that was handed out, and what it must read as -/
structure Ent where
  x : Value
  y : Value
  l : List Pk
def outR (e : Ent) : BRow := ⟨39, 3, e.x, e.l.length, pkC e.l⟩
def wantR (e : Ent) : BRow := ⟨39, 3, e.y, e.l.length, pkC e.l⟩
def bookR (h : Nat) (vo vw : Value) (fr : Int) : BRow := ⟨26, 1, .slice (some ⟨h, 0, none⟩) 3 3, 3, [vo, vw, .int .i64 fr]⟩
def outsR (vo : Value) (es : List Ent) : BRow := ⟨29, 1, vo, es.length, es.map Ent.x⟩
def wantsR (vw : Value) (es : List Ent) : BRow := ⟨29, 1, vw, es.length, es.map Ent.y⟩

/-- the book as it stands -/
structure Bk (w : World) (B h : Nat) (vo vw : Value) (fr : Int) (es : List Ent) : Prop where
  book : (bookR h vo vw fr).ok w B
  outs : (outsR vo es).ok w B
  wants : (wantsR vw es).ok w B
  rows : ∀ e ∈ es, (outR e).ok w B ∧ (wantR e).ok w B
  apart : Apart vo vw
  small : ∀ e ∈ es, e.l.length ≤ 30000000
  few : es.length ≤ 100

theorem row1_of {w : World} {B : Nat} {e : TypeId} {v : Value} {n : Nat} {xs : List Value} (h : w.ownsRow B e 1 v n xs) :
    ∃ x cp, v = .slice x n cp ∧ n ≤ cp ∧ (0 < n → ∃ g, x = some ⟨g, 0, none⟩ ∧ g < w.heap.size ∧ ∀ j, j < n → w.cell? ⟨g, j, none⟩ = xs[j]?) := by
  rcases h.2 with ⟨hv, h0⟩ | ⟨g, cap, cur, hv, hb, hg, hnc, _⟩
  · exact ⟨none, 0, by rw [h0]; exact hv, by omega, fun h1 => by omega⟩
  · refine ⟨_, cap, hv, hnc, fun h1 => ⟨g, rfl, (Array.getElem?_eq_some_iff.1 hg).1, fun j hj => ?_⟩⟩
    subst hv
    exact h.cellAt j (by omega)
theorem book_cells {w : World} {B h : Nat} {vo vw : Value} {fr : Int} (hb : (bookR h vo vw fr).ok w B) : h < w.heap.size ∧ w.cell? ⟨h, 0, none⟩ = some vo ∧ w.cell? ⟨h, 1, none⟩ = some vw ∧ w.cell? ⟨h, 2, none⟩ = some (.int .i64 fr) ∧ (∀ j, w.frozen? ⟨h, j, none⟩ = false) ∧ B ≤ h := by
  have ho : w.ownsRow B 26 1 (.slice (some ⟨h, 0, none⟩) 3 3) 3 [vo, vw, .int .i64 fr] := hb.own
  refine ⟨(ho.lt h rfl).2, ho.cellAt 0 (by decide), ho.cellAt 1 (by decide), ho.cellAt 2 (by decide), fun j => ?_, (ho.lt h rfl).1⟩
  rcases ho.2 with ⟨hv, _⟩ | ⟨g, cap, cur, hv, hb, hg, _⟩
  · cases hv
  · injection hv with h1
    injection h1 with h1
    injection h1 with h1
    subst h1
    have hg' : w.heap[h]? = some (.cells cur 26 (0, 0)) := hg
    simp [World.frozen?, hg']

theorem Bk.below {w w' : World} {B h : Nat} {vo vw : Value} {fr : Int} {es : List Ent} (hB : Bk w B h vo vw fr es) (hb : Below w.heap.size w w') : Bk w' B h vo vw fr es :=
  ⟨hB.book.below hb, hB.outs.below hb, hB.wants.below hb, fun e he => ⟨(hB.rows e he).1.below hb, (hB.rows e he).2.below hb⟩, hB.apart, hB.small, hB.few⟩
theorem drawn_below (w : World) (n : Nat) : Below w.heap.size w (w.drewN n) := drew_belowN (Below.refl _ _) n

set_option maxRecDepth 100000 in
set_option maxHeartbeats 1000000 in
theorem holds_any (B h : Nat) (vo vw : Value) (fr : Int) (es : List Ent) (w : World) (hB : Bk w B h vo vw fr es) :
    Calls Tryd.prog 16 #[.pointer (some ⟨h, 0, none⟩)] w fun e w' => e = .returned (.bool true) ∧ ∃ k, w' = w.drewN k := by
  have hfew := hB.few
  have hB0 : Bx (Bk w B h vo vw fr es) := ⟨hB⟩
  clear hB
  go_enter Tryd.func16, Tryd.ntmps16
  go_wp2
  go_loopw [3] (fun i wr => ∃ j : Nat, j ≤ es.length ∧ i = .int .i64 j ∧ ∃ k, Bx (wr = w.drewN k)) (fun i _ => es.length - (intOf i).toNat)
  case atStart => exact ⟨0, Nat.zero_le _, rfl, 0, ⟨rfl⟩⟩
  case round =>
    obtain ⟨j, hj, rfl, k, hk⟩ := hrel
    have hB : Bk wr B h vo vw fr es := by rw [hk.out]; exact hB0.out.below (drawn_below w k)
    obtain ⟨hh, c0, c1, c2, hfz, hBh⟩ := book_cells hB.book
    have ho : wr.ownsRow B 29 1 vo es.length (es.map Ent.x) := hB.outs.own
    have hw : wr.ownsRow B 29 1 vw es.length (es.map Ent.y) := hB.wants.own
    obtain ⟨xo, co, hvo, hco, Ho⟩ := row1_of ho
    obtain ⟨xw, cw, hvw, hcw, Hw⟩ := row1_of hw
    have HR := hB.rows
    have HS := hB.small
    clear hB ho hw hfz hBh c2
    rw [hvo] at c0
    rw [hvw] at c1
    clear hvo hvw
    by_cases hlt : j < es.length
    · obtain ⟨g, rfl, hg, hc⟩ := Ho (by omega)
      obtain ⟨g', rfl, hg', hc'⟩ := Hw (by omega)
      have a0 := hc j hlt
      have b0 := hc' j hlt
      simp only [List.getElem?_map, List.getElem?_eq_getElem hlt, Option.map_some] at a0 b0
      obtain ⟨r1, r2⟩ := HR es[j] (List.getElem_mem hlt)
      have hsm := HS es[j] (List.getElem_mem hlt)
      have r1' : wr.ownsRow B 39 3 es[j].x es[j].l.length (pkC es[j].l) := r1.own
      have r2' : wr.ownsRow B 39 3 es[j].y es[j].l.length (pkC es[j].l) := r2.own
      obtain ⟨xa, ca, ha, qa⟩ := qx_of_owns r1'
      obtain ⟨xb, cb, hb, qb⟩ := qx_of_owns r2'
      rw [ha] at a0
      rw [hb] at b0
      have HC : Bx (∀ p, Calls Tryd.prog 15 #[.slice xa es[j].l.length ca, .slice xb es[j].l.length cb] (wr.drewN p) fun e w' => e = .returned (.bool true) ∧ ∃ m, w' = (wr.drewN p).drewN m) :=
        ⟨fun p => picks_eq xa xb ca cb _ es[j].l _ rfl hsm (qa.drewN p) (qb.drewN p)⟩
      generalize es[j].l.length = L at *
      clear HR HS Ho Hw hc hc' r1 r2 r1' r2' qa qb ha hb
      go_wp2
      go_quiet ((go_at_call 15; exact Calls.quiet_of (HC.out _)))
      go_wp2
      go_roundw
      case rel => exact ⟨j + 1, by omega, by go_num, k + nq, ⟨by rw [hk.out, World.drewN_drewN]⟩⟩
      case measure => simp [intOf]; omega
    · clear HR HS Ho Hw
      go_wp2
      go_ret
      exact ⟨rfl, k, hk.out⟩
end Go.Proofs.YtecpknpcjoiliabDoor
