import Derived.Test.YteinpijbdgcehaaCOBk
namespace Go.Proofs.Yteinpijbdgcehaa
open Go.RowKit
set_option linter.unusedVariables false
set_option linter.unusedSimpArgs false

/-- what is left when the lists are written over -/
structure Sp (w w' : World) (B : Nat) : Prop where
  old : Below B w w'
  rows : ∀ r : Row, r.ok w B → r.e ≠ 28 → r.e ≠ 33 → r.e ≠ 47 → r.ok w' B
theorem Sp.refl (w : World) (B : Nat) : Sp w w B := ⟨Below.refl _ _, fun r h _ _ _ => h⟩
theorem Sp.trans {a b c : World} {B : Nat} (h : Sp a b B) (k : Sp b c B) : Sp a c B := ⟨h.old.trans k.old, fun r hr h1 h2 h3 => k.rows r (h.rows r hr h1 h2 h3) h1 h2 h3⟩
theorem Sp.drewN {w w' : World} {B : Nat} (h : Sp w w' B) (hz : B ≤ w'.heap.size) (n : Nat) : Sp w (w'.drewN n) B := h.trans ⟨(drawn_below w' n).mono hz, fun r hr _ _ _ => hr.below (drawn_below w' n)⟩
theorem Kept.sp {w w' : World} {B : Nat} (h : Kept w w' B) : Sp w w' B := ⟨h.old, fun r hr h1 h2 _ => h.rows r hr h1 h2⟩

def setQ (W : World) (g k : Nat) (q : Q5) : World := ((((W.setCell ⟨g, k * 5, none⟩ (.int .i64 q.a)).setCell ⟨g, k * 5 + 1, none⟩ (.int .i64 q.b)).setCell ⟨g, k * 5 + 2, none⟩ (.int .i64 q.c)).setCell ⟨g, k * 5 + 3, none⟩ (.int .i64 q.d)).setCell ⟨g, k * 5 + 4, none⟩ (.int .i64 q.e)
theorem setQ_other {r : Row} {W : World} {B g k : Nat} {q : Q5} (h : r.ok W B) (hne : r.v.ownBlock ≠ some g) : r.ok (setQ W g k q) B :=
  ((((h.set (a := ⟨g, k * 5, none⟩) hne _).set (a := ⟨g, k * 5 + 1, none⟩) hne _).set (a := ⟨g, k * 5 + 2, none⟩) hne _).set (a := ⟨g, k * 5 + 3, none⟩) hne _).set (a := ⟨g, k * 5 + 4, none⟩) hne _
theorem setQ_row {W : World} {B g k c : Nat} {q : Q5} {l : List Q5} (h : W.ownsRow B 47 5 (.slice (some ⟨g, 0, none⟩) l.length c) l.length (qsC l)) (hk : k < l.length) : (setQ W g k q).ownsRow B 47 5 (.slice (some ⟨g, 0, none⟩) l.length c) l.length (qsC (l.set k q)) := by
  rw [qsC_set l k hk q]
  exact owns_set (owns_set (owns_set (owns_set (owns_set h _ (by omega) _) _ (by omega) _) _ (by omega) _) _ (by omega) _) _ (by omega) _
theorem setQ_below {W : World} {B g k : Nat} {q : Q5} (h : B ≤ g) : Below B W (setQ W g k q) := (((((Below.refl _ _).setCell h _).setCell h _).setCell h _).setCell h _).setCell h _

/-- all lists lie apart -/
def Alone (es : List Ent) : Prop := ∀ k j (hk : k < es.length) (hj : j < es.length), (k ≠ j → Apart es[k].x es[j].x ∧ Apart es[k].y es[j].y) ∧ Apart es[k].x es[j].y
def Like (es' es : List Ent) : Prop := es'.length = es.length ∧ ∀ j (h' : j < es'.length) (h : j < es.length), es'[j].x = es[j].x ∧ es'[j].y = es[j].y ∧ es'[j].l.length = es[j].l.length
theorem Like.refl (es : List Ent) : Like es es := ⟨rfl, fun _ _ _ => ⟨rfl, rfl, rfl⟩⟩
theorem Alone.like {es' es : List Ent} (h : Alone es) (hl : Like es' es) : Alone es' := by
  intro k j hk hj
  have hk' := hl.1 ▸ hk
  have hj' := hl.1 ▸ hj
  obtain ⟨a1, a2, _⟩ := hl.2 k hk hk'
  obtain ⟨b1, b2, _⟩ := hl.2 j hj hj'
  rw [a1, a2, b1, b2]
  exact h k j hk' hj'
theorem Like.set {es' es : List Ent} (h : Like es' es) (i : Nat) (hi : i < es'.length) (l : List Q5) (hl : l.length = es'[i].l.length) : Like (es'.set i ⟨es'[i].x, es'[i].y, l⟩) es := by
  refine ⟨by rw [List.length_set]; exact h.1, fun j h1 h2 => ?_⟩
  have h3 : j < es'.length := by simpa using h1
  obtain ⟨a1, a2, a3⟩ := h.2 j h3 h2
  rw [List.getElem_set]
  split
  · rename_i e
    subst e
    exact ⟨a1, a2, by rw [← a3]; exact hl⟩
  · exact ⟨a1, a2, a3⟩

/-- one place of a list is written over, and of what it must read as -/
theorem marked {W : World} {B h g g' i k cx cy : Nat} {vo vw : Value} {fr : Int} {es : List Ent} {q : Q5} (hB : Bk W B h vo vw fr es) (ha : Alone es) (hi : i < es.length) (hk : k < es[i].l.length)
    (hx : es[i].x = .slice (some ⟨g, 0, none⟩) es[i].l.length cx) (hy : es[i].y = .slice (some ⟨g', 0, none⟩) es[i].l.length cy) :
    Bk (setQ (setQ W g k q) g' k q) B h vo vw fr (es.set i ⟨es[i].x, es[i].y, es[i].l.set k q⟩) ∧ Sp W (setQ (setQ W g k q) g' k q) B := by
  obtain ⟨rx, ry⟩ := hB.rows es[i] (List.getElem_mem hi)
  have rx' : W.ownsRow B 47 5 es[i].x es[i].l.length (qsC es[i].l) := rx.own
  have ry' : W.ownsRow B 47 5 es[i].y es[i].l.length (qsC es[i].l) := ry.own
  have ex : es[i].x.ownBlock = some g := by rw [hx]; rfl
  have ey : es[i].y.ownBlock = some g' := by rw [hy]; rfl
  have gg : g ≠ g' := fun e => (ha i i hi hi).2 g ex (by rw [ey, e])
  have hgB := (rx'.lt g ex).1
  have hgB' := (ry'.lt g' ey).1
  have two : ∀ r : Row, r.ok W B → r.v.ownBlock ≠ some g → r.v.ownBlock ≠ some g' → r.ok (setQ (setQ W g k q) g' k q) B := fun r hr h1 h2 => setQ_other (setQ_other hr h1) h2
  have kind : ∀ r : Row, r.ok W B → r.e ≠ 47 → r.ok (setQ (setQ W g k q) g' k q) B := fun r hr he =>
    two r hr (fun e => apart_kind hr.own rx' he g e ex) (fun e => apart_kind hr.own ry' he g' e ey)
  refine ⟨⟨kind _ hB.book (show (28 : Nat) ≠ 47 by decide), ?_, ?_, ?_, hB.apart, ?_, by rw [List.length_set]; exact hB.few⟩, ⟨(setQ_below hgB).trans (setQ_below hgB'), fun r hr _ _ h4 => kind r hr h4⟩⟩
  · have := kind _ hB.outs (show (33 : Nat) ≠ 47 by decide)
    have e : outsR vo (es.set i ⟨es[i].x, es[i].y, es[i].l.set k q⟩) = outsR vo es := by
      unfold outsR
      rw [List.length_set, List.map_set]
      congr 1
      apply List.ext_getElem (by simp)
      intro j h1 h2
      rw [List.getElem_set]
      split
      · rename_i e; subst e; simp
      · rfl
    rw [e]
    exact this
  · have := kind _ hB.wants (show (33 : Nat) ≠ 47 by decide)
    have e : wantsR vw (es.set i ⟨es[i].x, es[i].y, es[i].l.set k q⟩) = wantsR vw es := by
      unfold wantsR
      rw [List.length_set, List.map_set]
      congr 1
      apply List.ext_getElem (by simp)
      intro j h1 h2
      rw [List.getElem_set]
      split
      · rename_i e; subst e; simp
      · rfl
    rw [e]
    exact this
  · intro e he
    obtain ⟨j, hj, rfl⟩ := List.getElem_of_mem he
    have hj' : j < es.length := by simpa using hj
    rw [List.getElem_set]
    split
    · rename_i e
      subst e
      refine ⟨⟨?_⟩, ⟨?_⟩⟩
      · have h1 : W.ownsRow B 47 5 (.slice (some ⟨g, 0, none⟩) es[i].l.length cx) es[i].l.length (qsC es[i].l) := by rw [← hx]; exact rx'
        have h2 := setQ_row (q := q) h1 hk
        have h3 : (⟨47, 5, es[i].x, es[i].l.length, qsC (es[i].l.set k q)⟩ : Row).ok (setQ W g k q) B := ⟨by rw [← hx] at h2; exact h2⟩
        have h4 := (setQ_other (g := g') (k := k) (q := q) h3 (by show es[i].x.ownBlock ≠ some g'; rw [ex]; simpa using gg)).own
        show (setQ (setQ W g k q) g' k q).ownsRow B 47 5 es[i].x (es[i].l.set k q).length (qsC (es[i].l.set k q))
        rw [List.length_set]
        exact h4
      · have h3 : (⟨47, 5, es[i].y, es[i].l.length, qsC es[i].l⟩ : Row).ok W B := ⟨ry'⟩
        have h4 := (setQ_other (g := g) (k := k) (q := q) h3 (by show es[i].y.ownBlock ≠ some g; rw [ey]; simpa using gg.symm)).own
        have h5 : (setQ W g k q).ownsRow B 47 5 (.slice (some ⟨g', 0, none⟩) es[i].l.length cy) es[i].l.length (qsC es[i].l) := by rw [← hy]; exact h4
        have h6 := setQ_row (q := q) h5 hk
        rw [← hy] at h6
        show (setQ (setQ W g k q) g' k q).ownsRow B 47 5 es[i].y (es[i].l.set k q).length (qsC (es[i].l.set k q))
        rw [List.length_set]
        exact h6
    · rename_i hne
      obtain ⟨s1, s2⟩ := hB.rows es[j] (List.getElem_mem hj')
      have a1 := ha i j hi hj'
      have a2 := ha j i hj' hi
      refine ⟨two _ s1 (fun e => (a1.1 hne).1 g ex e) (fun e => a2.2 g' e ey), two _ s2 (fun e => a1.2 g ex e) (fun e => (a1.1 hne).2 g' ey e)⟩
  · intro e he
    obtain ⟨j, hj, rfl⟩ := List.getElem_of_mem he
    have hj' : j < es.length := by simpa using hj
    rw [List.getElem_set]
    split
    · rename_i e
      subst e
      simpa using hB.small _ (List.getElem_mem hi)
    · exact hB.small _ (List.getElem_mem hj')
end Go.Proofs.Yteinpijbdgcehaa
