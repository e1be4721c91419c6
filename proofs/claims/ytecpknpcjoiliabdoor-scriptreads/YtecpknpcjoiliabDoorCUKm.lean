import Derived.Test.YtecpknpcjoiliabDoorCUKk
namespace Go.Proofs.YtecpknpcjoiliabDoor
open Go.RowKit
set_option linter.unusedVariables false
set_option linter.unusedSimpArgs false

/-- what is left when the lists are written over -/
structure Sp (w w' : World) (B : Nat) : Prop where
  old : Below B w w'
  rows : ∀ r : BRow, r.ok w B → r.e ≠ 26 → r.e ≠ 29 → r.e ≠ 39 → r.ok w' B
theorem Sp.refl (w : World) (B : Nat) : Sp w w B := ⟨Below.refl _ _, fun r h _ _ _ => h⟩
theorem Sp.trans {a b c : World} {B : Nat} (h : Sp a b B) (k : Sp b c B) : Sp a c B := ⟨h.old.trans k.old, fun r hr h1 h2 h3 => k.rows r (h.rows r hr h1 h2 h3) h1 h2 h3⟩
theorem Sp.drewN {w w' : World} {B : Nat} (h : Sp w w' B) (hz : B ≤ w'.heap.size) (n : Nat) : Sp w (w'.drewN n) B := h.trans ⟨(drawn_below w' n).mono hz, fun r hr _ _ _ => hr.below (drawn_below w' n)⟩
theorem Kept.sp {w w' : World} {B : Nat} (h : Kept w w' B) : Sp w w' B := ⟨h.old, fun r hr h1 h2 _ => h.rows r hr h1 h2⟩

def setQ (W : World) (g k : Nat) (q : Pk) : World := ((W.setCell ⟨g, k * 3, none⟩ (.int .i64 q.kind)).setCell ⟨g, k * 3 + 1, none⟩ (.int .i64 q.n)).setCell ⟨g, k * 3 + 2, none⟩ (.int .i64 q.v)
theorem setQ_other {r : BRow} {W : World} {B g k : Nat} {q : Pk} (h : r.ok W B) (hne : r.v.ownBlock ≠ some g) : r.ok (setQ W g k q) B :=
  ((h.set (a := ⟨g, k * 3, none⟩) hne _).set (a := ⟨g, k * 3 + 1, none⟩) hne _).set (a := ⟨g, k * 3 + 2, none⟩) hne _
theorem setQ_row {W : World} {B g k c : Nat} {q : Pk} {l : List Pk} (h : W.ownsRow B 39 3 (.slice (some ⟨g, 0, none⟩) l.length c) l.length (pkC l)) (hk : k < l.length) : (setQ W g k q).ownsRow B 39 3 (.slice (some ⟨g, 0, none⟩) l.length c) l.length (pkC (l.set k q)) := by
  rw [pk3_set l k hk q]
  exact owns_set (owns_set (owns_set h _ (by omega) _) _ (by omega) _) _ (by omega) _
theorem setQ_below {W : World} {B g k : Nat} {q : Pk} (h : B ≤ g) : Below B W (setQ W g k q) := (((Below.refl _ _).setCell h _).setCell h _).setCell h _

/-- all lists lie apart -/
def Alone (es : List Ent) : Prop := ∀ k j (hk : k < es.length) (hj : j < es.length), (k ≠ j → Apart es[k].x es[j].x ∧ Apart es[k].y es[j].y) ∧ Apart es[k].x es[j].y
def Like (es' es : List Ent) : Prop := es'.length = es.length ∧ ∀ j (h' : j < es'.length) (h : j < es.length), es'[j].x = es[j].x ∧ es'[j].y = es[j].y ∧ es'[j].l.length = es[j].l.length
theorem Like.refl (es : List Ent) : Like es es := ⟨rfl, fun _ _ _ => ⟨rfl, rfl, rfl⟩⟩
theorem Alone.like {es' es : List Ent} (h : Alone es) (hl : Like es' es) : Alone es' := by
  intro k j hk hj
  have hk' := hl.1 ▸ hk
  have hj' := hl.1 ▸ hj
  obtain ⟨a1, a2, _⟩ := hl.2 k hk hk'
  obtain ⟨b1, b2, _⟩ := hl.2 j hj hj'
  rw [a1, a2, b1, b2]
  exact h k j hk' hj'
theorem Like.set {es' es : List Ent} (h : Like es' es) (i : Nat) (hi : i < es'.length) (l : List Pk) (hl : l.length = es'[i].l.length) : Like (es'.set i ⟨es'[i].x, es'[i].y, l⟩) es := by
  refine ⟨by rw [List.length_set]; exact h.1, fun j h1 h2 => ?_⟩
  have h3 : j < es'.length := by simpa using h1
  obtain ⟨a1, a2, a3⟩ := h.2 j h3 h2
  rw [List.getElem_set]
  split
  · rename_i e
    subst e
    exact ⟨a1, a2, by rw [← a3]; exact hl⟩
  · exact ⟨a1, a2, a3⟩

/-- one place of a list is written over, and of what it must read as -/
theorem bk_marked {W : World} {B h g g' i k cx cy : Nat} {vo vw : Value} {fr : Int} {es : List Ent} {q : Pk} (hB : Bk W B h vo vw fr es) (ha : Alone es) (hi : i < es.length) (hk : k < es[i].l.length)
    (hx : es[i].x = .slice (some ⟨g, 0, none⟩) es[i].l.length cx) (hy : es[i].y = .slice (some ⟨g', 0, none⟩) es[i].l.length cy) {X : BRow} (hXo : X.ok W B) (hXx : Apart es[i].x X.v) (hXy : Apart es[i].y X.v) :
    X.ok (setQ (setQ W g k q) g' k q) B ∧ Bk (setQ (setQ W g k q) g' k q) B h vo vw fr (es.set i ⟨es[i].x, es[i].y, es[i].l.set k q⟩) ∧ Sp W (setQ (setQ W g k q) g' k q) B := by
  obtain ⟨rx, ry⟩ := hB.rows es[i] (List.getElem_mem hi)
  have rx' : W.ownsRow B 39 3 es[i].x es[i].l.length (pkC es[i].l) := rx.own
  have ry' : W.ownsRow B 39 3 es[i].y es[i].l.length (pkC es[i].l) := ry.own
  have ex : es[i].x.ownBlock = some g := by rw [hx]; rfl
  have ey : es[i].y.ownBlock = some g' := by rw [hy]; rfl
  have gg : g ≠ g' := fun e => (ha i i hi hi).2 g ex (by rw [ey, e])
  have hgB := (rx'.lt g ex).1
  have hgB' := (ry'.lt g' ey).1
  have two : ∀ r : BRow, r.ok W B → r.v.ownBlock ≠ some g → r.v.ownBlock ≠ some g' → r.ok (setQ (setQ W g k q) g' k q) B := fun r hr h1 h2 => setQ_other (setQ_other hr h1) h2
  have kind : ∀ r : BRow, r.ok W B → r.e ≠ 39 → r.ok (setQ (setQ W g k q) g' k q) B := fun r hr he =>
    two r hr (fun e => apart_kind hr.own rx' he g e ex) (fun e => apart_kind hr.own ry' he g' e ey)
  refine ⟨two X hXo (fun e => hXx g ex e) (fun e => hXy g' ey e), ⟨kind _ hB.book (show (26 : Nat) ≠ 39 by decide), ?_, ?_, ?_, hB.apart, ?_, by rw [List.length_set]; exact hB.few⟩, ⟨(setQ_below hgB).trans (setQ_below hgB'), fun r hr _ _ h4 => kind r hr h4⟩⟩
  · have := kind _ hB.outs (show (29 : Nat) ≠ 39 by decide)
    have e : outsR vo (es.set i ⟨es[i].x, es[i].y, es[i].l.set k q⟩) = outsR vo es := by
      unfold outsR
      rw [List.length_set, List.map_set]
      congr 1
      apply List.ext_getElem (by simp)
      intro j h1 h2
      rw [List.getElem_set]
      split
      · rename_i e; subst e; simp
      · rfl
    rw [e]
    exact this
  · have := kind _ hB.wants (show (29 : Nat) ≠ 39 by decide)
    have e : wantsR vw (es.set i ⟨es[i].x, es[i].y, es[i].l.set k q⟩) = wantsR vw es := by
      unfold wantsR
      rw [List.length_set, List.map_set]
      congr 1
      apply List.ext_getElem (by simp)
      intro j h1 h2
      rw [List.getElem_set]
      split
      · rename_i e; subst e; simp
      · rfl
    rw [e]
    exact this
  · intro e he
    obtain ⟨j, hj, rfl⟩ := List.getElem_of_mem he
    have hj' : j < es.length := by simpa using hj
    rw [List.getElem_set]
    split
    · rename_i e
      subst e
      refine ⟨⟨?_⟩, ⟨?_⟩⟩
      · have h1 : W.ownsRow B 39 3 (.slice (some ⟨g, 0, none⟩) es[i].l.length cx) es[i].l.length (pkC es[i].l) := by rw [← hx]; exact rx'
        have h2 := setQ_row (q := q) h1 hk
        have h3 : (⟨39, 3, es[i].x, es[i].l.length, pkC (es[i].l.set k q)⟩ : BRow).ok (setQ W g k q) B := ⟨by rw [← hx] at h2; exact h2⟩
        have h4 := (setQ_other (g := g') (k := k) (q := q) h3 (by show es[i].x.ownBlock ≠ some g'; rw [ex]; simpa using gg)).own
        show (setQ (setQ W g k q) g' k q).ownsRow B 39 3 es[i].x (es[i].l.set k q).length (pkC (es[i].l.set k q))
        rw [List.length_set]
        exact h4
      · have h3 : (⟨39, 3, es[i].y, es[i].l.length, pkC es[i].l⟩ : BRow).ok W B := ⟨ry'⟩
        have h4 := (setQ_other (g := g) (k := k) (q := q) h3 (by show es[i].y.ownBlock ≠ some g; rw [ey]; simpa using gg.symm)).own
        have h5 : (setQ W g k q).ownsRow B 39 3 (.slice (some ⟨g', 0, none⟩) es[i].l.length cy) es[i].l.length (pkC es[i].l) := by rw [← hy]; exact h4
        have h6 := setQ_row (q := q) h5 hk
        rw [← hy] at h6
        show (setQ (setQ W g k q) g' k q).ownsRow B 39 3 es[i].y (es[i].l.set k q).length (pkC (es[i].l.set k q))
        rw [List.length_set]
        exact h6
    · rename_i hne
      obtain ⟨s1, s2⟩ := hB.rows es[j] (List.getElem_mem hj')
      have a1 := ha i j hi hj'
      have a2 := ha j i hj' hi
      refine ⟨two _ s1 (fun e => (a1.1 hne).1 g ex e) (fun e => a2.2 g' e ey), two _ s2 (fun e => a1.2 g ex e) (fun e => (a1.1 hne).2 g' ey e)⟩
  · intro e he
    obtain ⟨j, hj, rfl⟩ := List.getElem_of_mem he
    have hj' : j < es.length := by simpa using hj
    rw [List.getElem_set]
    split
    · rename_i e
      subst e
      simpa using hB.small _ (List.getElem_mem hi)
    · exact hB.small _ (List.getElem_mem hj')
end Go.Proofs.YtecpknpcjoiliabDoor
namespace Go.Proofs.YtecpknpcjoiliabDoor
open Go.RowKit
set_option linter.unusedVariables false
set_option linter.unusedSimpArgs false

theorem own_frozen {w : World} {B : Nat} {e : TypeId} {s : Nat} {v : Value} {n : Nat} {xs : List Value} (h : w.ownsRow B e s v n xs) {g : Nat} (hg : v.ownBlock = some g) (j : Nat) : w.frozen? ⟨g, j, none⟩ = false := by
  rcases h.2 with ⟨hv, _⟩ | ⟨g', cap, cur, hv, _, hh, _⟩
  · rw [hv] at hg; cases hg
  · have : g' = g := by rw [hv] at hg; simpa [Value.ownBlock] using hg
    subst this
    simp [World.frozen?, hh]

/-- what stands at a place of the book -/
structure AtE (W : World) (h n ro co rw cw : Nat) (j : Nat) (x y : Option Addr) (L ca cb : Nat) : Prop where
  hh : h < W.heap.size
  c0 : W.cell? ⟨h, 0, none⟩ = some (.slice (some ⟨ro, 0, none⟩) n co)
  c1 : W.cell? ⟨h, 1, none⟩ = some (.slice (some ⟨rw, 0, none⟩) n cw)
  hro : ro < W.heap.size
  hrw : rw < W.heap.size
  r0 : W.cell? ⟨ro, j, none⟩ = some (.slice x L ca)
  r1 : W.cell? ⟨rw, j, none⟩ = some (.slice y L cb)
  n0 : n ≤ co
  n1 : n ≤ cw
theorem bk_at {W : World} {B h : Nat} {vo vw : Value} {fr : Int} {es : List Ent} (hB : Bk W B h vo vw fr es) (n j L : Nat) (hn : es.length = n) (hj : j < es.length) (hL : es[j].l.length = L) :
    ∃ ro co rw cw x y ca cb, vo = .slice (some ⟨ro, 0, none⟩) n co ∧ vw = .slice (some ⟨rw, 0, none⟩) n cw ∧ es[j].x = .slice x L ca ∧ es[j].y = .slice y L cb ∧ AtE W h n ro co rw cw j x y L ca cb ∧ QX W x ca es[j].l ∧ QX W y cb es[j].l := by
  subst hn
  subst hL
  obtain ⟨hh, c0, c1, c2, hfz, hBh⟩ := book_cells hB.book
  have ho : W.ownsRow B 29 1 vo es.length (es.map Ent.x) := hB.outs.own
  have hw : W.ownsRow B 29 1 vw es.length (es.map Ent.y) := hB.wants.own
  obtain ⟨xo, co, hvo, hco, Ho⟩ := row1_of ho
  obtain ⟨xw, cw, hvw, hcw, Hw⟩ := row1_of hw
  obtain ⟨ro, rfl, hro, Ho⟩ := Ho (by omega)
  obtain ⟨rw', rfl, hrw, Hw⟩ := Hw (by omega)
  obtain ⟨r1, r2⟩ := hB.rows es[j] (List.getElem_mem hj)
  have r1' : W.ownsRow B 39 3 es[j].x es[j].l.length (pkC es[j].l) := r1.own
  have r2' : W.ownsRow B 39 3 es[j].y es[j].l.length (pkC es[j].l) := r2.own
  obtain ⟨x, ca, hx, qx⟩ := qx_of_owns r1'
  obtain ⟨y, cb, hy, qy⟩ := qx_of_owns r2'
  have a0 := Ho j hj
  have a1 := Hw j hj
  simp only [List.getElem?_map, List.getElem?_eq_getElem hj, Option.map_some] at a0 a1
  rw [hx] at a0
  rw [hy] at a1
  rw [hvo] at c0
  rw [hvw] at c1
  exact ⟨ro, co, rw', cw, x, y, ca, cb, hvo, hvw, hx, hy, ⟨hh, c0, c1, hro, hrw, a0, a1, hco, hcw⟩, qx, qy⟩
/-- blocks of the book and of its lists -/
theorem bk_ne {W : World} {B h ro co rw cw n : Nat} {vo vw : Value} {fr : Int} {es : List Ent} (hB : Bk W B h vo vw fr es) (ho : vo = .slice (some ⟨ro, 0, none⟩) n co) (hw : vw = .slice (some ⟨rw, 0, none⟩) n cw) (j : Nat) (hj : j < es.length) (g : Nat) (hg : es[j].x.ownBlock = some g ∨ es[j].y.ownBlock = some g) :
    h ≠ g ∧ ro ≠ g ∧ rw ≠ g ∧ (∀ i, W.frozen? ⟨g, i, none⟩ = false) ∧ g < W.heap.size := by
  obtain ⟨r1, r2⟩ := hB.rows es[j] (List.getElem_mem hj)
  have r1' : W.ownsRow B 39 3 es[j].x es[j].l.length (pkC es[j].l) := r1.own
  have r2' : W.ownsRow B 39 3 es[j].y es[j].l.length (pkC es[j].l) := r2.own
  have eo : vo.ownBlock = some ro := by rw [ho]; rfl
  have ew : vw.ownBlock = some rw := by rw [hw]; rfl
  rcases hg with hg | hg
  · exact ⟨fun e => apart_kind r1' hB.book.own (show (39 : Nat) ≠ 26 by decide) g hg (by rw [← e]; rfl), fun e => apart_kind r1' hB.outs.own (show (39 : Nat) ≠ 29 by decide) g hg (by rw [← e]; exact eo), fun e => apart_kind r1' hB.wants.own (show (39 : Nat) ≠ 29 by decide) g hg (by rw [← e]; exact ew), own_frozen r1' hg, (r1'.lt g hg).2⟩
  · exact ⟨fun e => apart_kind r2' hB.book.own (show (39 : Nat) ≠ 26 by decide) g hg (by rw [← e]; rfl), fun e => apart_kind r2' hB.outs.own (show (39 : Nat) ≠ 29 by decide) g hg (by rw [← e]; exact eo), fun e => apart_kind r2' hB.wants.own (show (39 : Nat) ≠ 29 by decide) g hg (by rw [← e]; exact ew), own_frozen r2' hg, (r2'.lt g hg).2⟩

/-- behind the first loop -/
structure MarksB (X : BRow) (w wr : World) (B h : Nat) (vo vw : Value) (cur es : List Ent) : Prop where
  okX : X.ok wr B
  bk : Bk wr B h vo vw 0 cur
  like : Like cur es
  sp : Sp w wr B

/-- ahead of a round of the third loop -/
structure Third (X : BRow) (w wr : World) (B h n i : Nat) (vo vw : Value) (cur news : List Ent) : Prop where
  okX : X.ok wr B
  aX : ∀ e ∈ cur, Apart e.x X.v
  bk : Bk wr B h vo vw 0 (cur ++ news)
  len : cur.length = n
  nlen : news.length = i
  sp : Sp w wr B
  alone : ∀ k (hk : k < (cur ++ news).length), i ≤ k → k < n → ∀ j (hj : j < (cur ++ news).length), (k ≠ j → Apart (cur ++ news)[k].x (cur ++ news)[j].x) ∧ Apart (cur ++ news)[k].x (cur ++ news)[j].y
  small : ∀ e ∈ cur, e.l.length ≤ 20000000
theorem MarksB.third {X : BRow} {w wr : World} {B h n : Nat} {vo vw : Value} {cur es : List Ent} (hM : MarksB X w wr B h vo vw cur es) (hX : ∀ e ∈ es, Apart e.x X.v ∧ Apart e.y X.v) (ha : Alone es) (hn : es.length = n) (hs : ∀ e ∈ es, e.l.length ≤ 20000000) (k : Nat) (hz : B ≤ wr.heap.size) : Third X w (wr.drewN k) B h n 0 vo vw cur [] := by
  refine ⟨hM.okX.below (drawn_below wr k), fun e he => by
    obtain ⟨j, hj, rfl⟩ := List.getElem_of_mem he
    have hj' : j < es.length := by rw [← hM.like.1]; exact hj
    rw [(hM.like.2 j hj hj').1]
    exact (hX _ (List.getElem_mem hj')).1, by simpa using hM.bk.below (drawn_below wr k), hM.like.1.trans hn, rfl, hM.sp.drewN hz k, ?_, ?_⟩
  · have hA := ha.like hM.like
    intro k hk _ _ j hj
    simp only [List.append_nil] at hk hj ⊢
    exact ⟨fun hne => ((hA k j hk hj).1 hne).1, (hA k j hk hj).2⟩
  · intro e he
    obtain ⟨j, hj, rfl⟩ := List.getElem_of_mem he
    have hj' : j < es.length := by rw [← hM.like.1]; exact hj
    rw [(hM.like.2 j hj hj').2.2]
    exact hs _ (List.getElem_mem hj')

/-- ahead of a round of the loop in it -/
structure Fourth (X : BRow) (w wr : World) (B h q : Nat) (vo vw : Value) (all : List Ent) (l0 : List Pk) (t : Pk) (pv pu : Nat) (v u : Value) : Prop where
  okX : X.ok wr B
  vX : Apart v X.v
  uX : Apart u X.v
  bk : Bk wr B h vo vw 0 all
  sp : Sp w wr B
  rv : wr.ownsRow B 39 3 v (l0.length + pv) (pkC (l0 ++ List.replicate pv t))
  ru : wr.ownsRow B 39 3 u (l0.length + pu) (pkC (l0 ++ List.replicate pu t))
  vu : Apart v u
  fu : ∀ e ∈ all, Apart u e.x ∧ Apart u e.y
  fv : ∀ e ∈ all, Apart v e.y
  fx : ∀ j (hj : j < all.length), (j ≠ q → Apart v all[j].x) ∧ (j = q → all[j].l.length ≤ l0.length)
theorem rep_more (l0 : List Pk) (p : Nat) (t : Pk) : pkC (l0 ++ List.replicate p t) ++ pk1 t = pkC (l0 ++ List.replicate (p + 1) t) := by
  rw [List.replicate_succ', ← List.append_assoc, pk3_append _ [t], pk3_one]
theorem Fourth.stepV {X : BRow} {w wr W : World} {B h q : Nat} {vo vw : Value} {all : List Ent} {l0 : List Pk} {t : Pk} {pv pu : Nat} {v u v' : Value} {o : Obj} (H : Fourth X w wr B h q vo vw all l0 t pv pu v u)
    (hA : Appended (wr.alloc o) W B 39 3 v (l0.length + pv) v') (hown : W.ownsRow B 39 3 v' (l0.length + pv + 1) (pkC (l0 ++ List.replicate pv t) ++ pk1 t)) : Fourth X w W B h q vo vw all l0 t (pv + 1) pu v' u := by
  have hz : B ≤ wr.heap.size := by have := book_cells H.bk.book; omega
  have K : ∀ r : BRow, r.ok wr B → Apart v r.v → r.ok W B ∧ Apart v' r.v := fun r hr ha => hA.apart (ok_alloc hr o) ha
  have KK : ∀ r : BRow, r.ok wr B → r.e ≠ 39 → r.ok W B := fun r hr he => (K r hr (apart_kind H.rv hr.own (fun e => he e.symm))).1
  refine ⟨(K X H.okX H.vX).1, (K X H.okX H.vX).2, H.uX, ⟨KK _ H.bk.book (show (26 : Nat) ≠ 39 by decide), KK _ H.bk.outs (show (29 : Nat) ≠ 39 by decide), KK _ H.bk.wants (show (29 : Nat) ≠ 39 by decide), ?_, H.bk.apart, H.bk.small, H.bk.few⟩, H.sp.trans ⟨((Below.refl _ _).alloc hz _).trans hA.old, fun r hr _ _ h4 => KK r hr h4⟩, ?_, (K ⟨39, 3, u, _, _⟩ ⟨H.ru⟩ H.vu).1.own, (K ⟨39, 3, u, _, _⟩ ⟨H.ru⟩ H.vu).2, H.fu, fun e he => (K _ (H.bk.rows e he).2 (H.fv e he)).2, fun j hj => ⟨fun hne => (K _ (H.bk.rows _ (List.getElem_mem hj)).1 ((H.fx j hj).1 hne)).2, (H.fx j hj).2⟩⟩
  · intro e he
    obtain ⟨j, hj, rfl⟩ := List.getElem_of_mem he
    obtain ⟨r1, r2⟩ := H.bk.rows _ he
    refine ⟨?_, (K _ r2 (H.fv _ he)).1⟩
    by_cases hjq : j = q
    · refine hA.keep _ (ok_alloc r1 o) fun g _ _ => ⟨rfl, rfl, ?_⟩
      have := (H.fx j hj).2 hjq
      show all[j].l.length ≤ l0.length + pv
      omega
    · exact (K _ r1 ((H.fx j hj).1 hjq)).1
  · rw [rep_more] at hown
    exact hown
theorem Fourth.stepU {X : BRow} {w wr W : World} {B h q : Nat} {vo vw : Value} {all : List Ent} {l0 : List Pk} {t : Pk} {pv pu : Nat} {v u u' : Value} {o : Obj} (H : Fourth X w wr B h q vo vw all l0 t pv pu v u)
    (hA : Appended (wr.alloc o) W B 39 3 u (l0.length + pu) u') (hown : W.ownsRow B 39 3 u' (l0.length + pu + 1) (pkC (l0 ++ List.replicate pu t) ++ pk1 t)) : Fourth X w W B h q vo vw all l0 t pv (pu + 1) v u' := by
  have hz : B ≤ wr.heap.size := by have := book_cells H.bk.book; omega
  have K : ∀ r : BRow, r.ok wr B → Apart u r.v → r.ok W B ∧ Apart u' r.v := fun r hr ha => hA.apart (ok_alloc hr o) ha
  have KK : ∀ r : BRow, r.ok wr B → r.e ≠ 39 → r.ok W B := fun r hr he => (K r hr (apart_kind H.ru hr.own (fun e => he e.symm))).1
  have hvu := K ⟨39, 3, v, _, _⟩ ⟨H.rv⟩ H.vu.symm
  refine ⟨(K X H.okX H.uX).1, H.vX, (K X H.okX H.uX).2, ⟨KK _ H.bk.book (show (26 : Nat) ≠ 39 by decide), KK _ H.bk.outs (show (29 : Nat) ≠ 39 by decide), KK _ H.bk.wants (show (29 : Nat) ≠ 39 by decide), fun e he => ⟨(K _ (H.bk.rows e he).1 (H.fu e he).1).1, (K _ (H.bk.rows e he).2 (H.fu e he).2).1⟩, H.bk.apart, H.bk.small, H.bk.few⟩, H.sp.trans ⟨((Below.refl _ _).alloc hz _).trans hA.old, fun r hr _ _ h4 => KK r hr h4⟩, hvu.1.own, ?_, hvu.2.symm, fun e he => ⟨(K _ (H.bk.rows e he).1 (H.fu e he).1).2, (K _ (H.bk.rows e he).2 (H.fu e he).2).2⟩, H.fv, H.fx⟩
  rw [rep_more] at hown
  exact hown
/-- where the loop begins -/
theorem Third.fourth {X : BRow} {w wr W : World} {B h n q : Nat} {vo vw : Value} {cur news : List Ent} {m : Value} (H : Third X w wr B h n q vo vw cur news) (hq : q < n) (hql : q < (cur ++ news).length) (t : Pk)
    (hA : Appended (wr.alloc (.cells #[] 39)) W B 39 3 (.slice (some ⟨wr.heap.size, 0, none⟩) 0 0) 0 m) (hm : W.ownsRow B 39 3 m (cur ++ news)[q].l.length (pkC (cur ++ news)[q].l)) :
    Fourth X w W B h q vo vw (cur ++ news) (cur ++ news)[q].l t 0 0 (cur ++ news)[q].x m := by
  have hz : B ≤ wr.heap.size := by have := book_cells H.bk.book; omega
  obtain ⟨H2, hfr, hb2, hz2⟩ := copied hA hz
  have rq := H.bk.rows _ (List.getElem_mem hql)
  have ap : ∀ r : BRow, r.ok wr B → Apart m r.v := fun r hr g h1 h2 => by
    have := hfr g h1
    have := (hr.own.lt g h2).2
    omega
  have hxq : Apart (cur ++ news)[q].x X.v := by
    rw [List.getElem_append_left (by rw [H.len]; exact hq)]
    exact H.aX _ (List.getElem_mem _)
  refine ⟨H2 _ H.okX, hxq, ap _ H.okX, H.bk.map H2, H.sp.trans ⟨hb2, fun r hr _ _ _ => H2 r hr⟩, ?_, ?_, (ap _ rq.1).symm, fun e he => ⟨ap _ (H.bk.rows e he).1, ap _ (H.bk.rows e he).2⟩, ?_, ?_⟩
  · have := (H2 _ rq.1).own
    simpa [outR] using this
  · simpa using hm
  · intro e he
    obtain ⟨j, hj, rfl⟩ := List.getElem_of_mem he
    exact (H.alone q hql (Nat.le_refl _) hq j hj).2
  · intro j hj
    refine ⟨fun hne => (H.alone q hql (Nat.le_refl _) hq j hj).1 (fun e => hne e.symm), fun e => ?_⟩
    subst e
    exact Nat.le_refl _
/-- where it ends -/
theorem Fourth.third {X : BRow} (hXe : X.e = 39) {w wr0 wr W : World} {B h n q : Nat} {vo vw vo' vw' : Value} {cur news : List Ent} {l0 : List Pk} {t : Pk} {p : Nat} {v u : Value} (T : Third X w wr0 B h n q vo vw cur news) (H : Fourth X w wr B h q vo vw (cur ++ news) l0 t p p v u) (hq : q < n)
    (hB : Bk W B h vo' vw' 0 ((cur ++ news) ++ [⟨v, u, l0 ++ List.replicate p t⟩])) (hK : Kept wr W B) : Third X w W B h n (q + 1) vo' vw' cur (news ++ [⟨v, u, l0 ++ List.replicate p t⟩]) := by
  refine ⟨hK.rows X H.okX (by rw [hXe]; decide) (by rw [hXe]; decide), T.aX, by rw [← List.append_assoc]; exact hB, T.len, by rw [List.length_append, T.nlen]; rfl, H.sp.trans hK.sp, ?_, T.small⟩
  have e : cur ++ (news ++ [⟨v, u, l0 ++ List.replicate p t⟩]) = (cur ++ news) ++ [⟨v, u, l0 ++ List.replicate p t⟩] := by rw [List.append_assoc]
  simp only [e]
  generalize hal : cur ++ news = all at *
  have hlen : all.length = n + q := by rw [← hal, List.length_append, T.len, T.nlen]
  intro k hk h1 h2 j hj
  have hk' : k < all.length := by omega
  rw [List.getElem_append_left hk']
  simp at hj
  by_cases hja : j < all.length
  · rw [List.getElem_append_left hja]
    have := T.alone k (by rw [hal]; exact hk') (by omega) h2 j (by rw [hal]; exact hja)
    simp only [hal] at this
    exact this
  · have hje : j = all.length := by omega
    subst hje
    rw [List.getElem_append_right (Nat.le_refl _)]
    simp only [Nat.sub_self, List.getElem_cons_zero]
    exact ⟨fun _ => ((H.fx k hk').1 (by omega)).symm, ((H.fu _ (List.getElem_mem hk')).1).symm⟩

theorem Third.fourthEnd {X : BRow} (hXe : X.e = 39) {w wr0 wr W : World} {B h n q : Nat} {vo vw vo' vw' : Value} {cur news : List Ent} {l0 : List Pk} {t : Pk} {p : Nat} {v u : Value} (T : Third X w wr0 B h n q vo vw cur news) (H : Fourth X w wr B h q vo vw (cur ++ news) l0 t p p v u) (hq : q < n)
    (hB : Bk W B h vo' vw' 0 ((cur ++ news) ++ [⟨v, u, l0 ++ List.replicate p t⟩])) (hK : Kept wr W B) : Third X w W B h n (q + 1) vo' vw' cur (news ++ [⟨v, u, l0 ++ List.replicate p t⟩]) := Fourth.third hXe T H hq hB hK

theorem Bk.fresh {w : World} {B h : Nat} {vo vw : Value} {fr : Int} {es : List Ent} (hB : Bk w B h vo vw fr es) (z : Int) : Bk (w.setCell ⟨h, 2, none⟩ (.int .i64 z)) B h vo vw z es := by
  have hbo : w.ownsRow B 26 1 (.slice (some ⟨h, 0, none⟩) 3 3) 3 [vo, vw, .int .i64 fr] := hB.book.own
  have K : ∀ r : BRow, r.ok w B → r.e ≠ 26 → r.ok (w.setCell ⟨h, 2, none⟩ (.int .i64 z)) B := fun r hr he => hr.set (a := ⟨h, 2, none⟩) (fun e => apart_kind hr.own hbo he _ e rfl) _
  exact ⟨⟨owns_set hbo 2 (by decide) _⟩, K _ hB.outs (show (29 : Nat) ≠ 26 by decide), K _ hB.wants (show (29 : Nat) ≠ 26 by decide), fun e he => ⟨K _ (hB.rows e he).1 (show (39 : Nat) ≠ 26 by decide), K _ (hB.rows e he).2 (show (39 : Nat) ≠ 26 by decide)⟩, hB.apart, hB.small, hB.few⟩
theorem Sp.fresh {w w' : World} {B h : Nat} {vo vw : Value} {fr : Int} {es : List Ent} (hS : Sp w w' B) (hB : Bk w' B h vo vw fr es) (z : Value) : Sp w (w'.setCell ⟨h, 2, none⟩ z) B := by
  have hBh := (book_cells hB.book).2.2.2.2.2
  exact ⟨hS.old.setCell hBh _, fun r hr h1 h2 h3 => (hS.rows r hr h1 h2 h3).set (a := ⟨h, 2, none⟩) (fun e => apart_kind (hS.rows r hr h1 h2 h3).own hB.book.own h1 _ e rfl) _⟩
end Go.Proofs.YtecpknpcjoiliabDoor
