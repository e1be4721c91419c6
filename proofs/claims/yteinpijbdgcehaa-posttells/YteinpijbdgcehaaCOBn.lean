import Derived.Test.YteinpijbdgcehaaCOBm
namespace Go.Proofs.Yteinpijbdgcehaa
open Go.RowKit
set_option linter.unusedVariables false
set_option linter.unusedSimpArgs false

theorem own_frozen {w : World} {B : Nat} {e : TypeId} {s : Nat} {v : Value} {n : Nat} {xs : List Value} (h : w.ownsRow B e s v n xs) {g : Nat} (hg : v.ownBlock = some g) (j : Nat) : w.frozen? ⟨g, j, none⟩ = false := by
  rcases h.2 with ⟨hv, _⟩ | ⟨g', cap, cur, hv, _, hh, _⟩
  · rw [hv] at hg; cases hg
  · have : g' = g := by rw [hv] at hg; simpa [Value.ownBlock] using hg
    subst this
    simp [World.frozen?, hh]

/-- what stands at a place of the book -/
structure AtE (W : World) (h n ro co rw cw : Nat) (j : Nat) (x y : Option Addr) (L ca cb : Nat) : Prop where
  hh : h < W.heap.size
  c0 : W.cell? ⟨h, 0, none⟩ = some (.slice (some ⟨ro, 0, none⟩) n co)
  c1 : W.cell? ⟨h, 1, none⟩ = some (.slice (some ⟨rw, 0, none⟩) n cw)
  hro : ro < W.heap.size
  hrw : rw < W.heap.size
  r0 : W.cell? ⟨ro, j, none⟩ = some (.slice x L ca)
  r1 : W.cell? ⟨rw, j, none⟩ = some (.slice y L cb)
  n0 : n ≤ co
  n1 : n ≤ cw
theorem bk_at {W : World} {B h : Nat} {vo vw : Value} {fr : Int} {es : List Ent} (hB : Bk W B h vo vw fr es) (n j L : Nat) (hn : es.length = n) (hj : j < es.length) (hL : es[j].l.length = L) :
    ∃ ro co rw cw x y ca cb, vo = .slice (some ⟨ro, 0, none⟩) n co ∧ vw = .slice (some ⟨rw, 0, none⟩) n cw ∧ es[j].x = .slice x L ca ∧ es[j].y = .slice y L cb ∧ AtE W h n ro co rw cw j x y L ca cb ∧ QX W x ca es[j].l ∧ QX W y cb es[j].l := by
  subst hn
  subst hL
  obtain ⟨hh, c0, c1, c2, hfz, hBh⟩ := book_cells hB.book
  have ho : W.ownsRow B 33 1 vo es.length (es.map Ent.x) := hB.outs.own
  have hw : W.ownsRow B 33 1 vw es.length (es.map Ent.y) := hB.wants.own
  obtain ⟨xo, co, hvo, hco, Ho⟩ := row1_of ho
  obtain ⟨xw, cw, hvw, hcw, Hw⟩ := row1_of hw
  obtain ⟨ro, rfl, hro, Ho⟩ := Ho (by omega)
  obtain ⟨rw', rfl, hrw, Hw⟩ := Hw (by omega)
  obtain ⟨r1, r2⟩ := hB.rows es[j] (List.getElem_mem hj)
  have r1' : W.ownsRow B 47 5 es[j].x es[j].l.length (qsC es[j].l) := r1.own
  have r2' : W.ownsRow B 47 5 es[j].y es[j].l.length (qsC es[j].l) := r2.own
  obtain ⟨x, ca, hx, qx⟩ := qx_of_owns r1'
  obtain ⟨y, cb, hy, qy⟩ := qx_of_owns r2'
  have a0 := Ho j hj
  have a1 := Hw j hj
  simp only [List.getElem?_map, List.getElem?_eq_getElem hj, Option.map_some] at a0 a1
  rw [hx] at a0
  rw [hy] at a1
  rw [hvo] at c0
  rw [hvw] at c1
  exact ⟨ro, co, rw', cw, x, y, ca, cb, hvo, hvw, hx, hy, ⟨hh, c0, c1, hro, hrw, a0, a1, hco, hcw⟩, qx, qy⟩
/-- blocks of the book and of its lists -/
theorem bk_ne {W : World} {B h ro co rw cw n : Nat} {vo vw : Value} {fr : Int} {es : List Ent} (hB : Bk W B h vo vw fr es) (ho : vo = .slice (some ⟨ro, 0, none⟩) n co) (hw : vw = .slice (some ⟨rw, 0, none⟩) n cw) (j : Nat) (hj : j < es.length) (g : Nat) (hg : es[j].x.ownBlock = some g ∨ es[j].y.ownBlock = some g) :
    h ≠ g ∧ ro ≠ g ∧ rw ≠ g ∧ (∀ i, W.frozen? ⟨g, i, none⟩ = false) ∧ g < W.heap.size := by
  obtain ⟨r1, r2⟩ := hB.rows es[j] (List.getElem_mem hj)
  have r1' : W.ownsRow B 47 5 es[j].x es[j].l.length (qsC es[j].l) := r1.own
  have r2' : W.ownsRow B 47 5 es[j].y es[j].l.length (qsC es[j].l) := r2.own
  have eo : vo.ownBlock = some ro := by rw [ho]; rfl
  have ew : vw.ownBlock = some rw := by rw [hw]; rfl
  rcases hg with hg | hg
  · exact ⟨fun e => apart_kind r1' hB.book.own (show (47 : Nat) ≠ 28 by decide) g hg (by rw [← e]; rfl), fun e => apart_kind r1' hB.outs.own (show (47 : Nat) ≠ 33 by decide) g hg (by rw [← e]; exact eo), fun e => apart_kind r1' hB.wants.own (show (47 : Nat) ≠ 33 by decide) g hg (by rw [← e]; exact ew), own_frozen r1' hg, (r1'.lt g hg).2⟩
  · exact ⟨fun e => apart_kind r2' hB.book.own (show (47 : Nat) ≠ 28 by decide) g hg (by rw [← e]; rfl), fun e => apart_kind r2' hB.outs.own (show (47 : Nat) ≠ 33 by decide) g hg (by rw [← e]; exact eo), fun e => apart_kind r2' hB.wants.own (show (47 : Nat) ≠ 33 by decide) g hg (by rw [← e]; exact ew), own_frozen r2' hg, (r2'.lt g hg).2⟩

/-- behind the first loop -/
structure MarksB (w wr : World) (B h : Nat) (vo vw : Value) (cur es : List Ent) : Prop where
  bk : Bk wr B h vo vw 0 cur
  like : Like cur es
  sp : Sp w wr B

/-- ahead of a round of the third loop -/
structure Third (w wr : World) (B h n i : Nat) (vo vw : Value) (cur news : List Ent) : Prop where
  bk : Bk wr B h vo vw 0 (cur ++ news)
  len : cur.length = n
  nlen : news.length = i
  sp : Sp w wr B
  alone : ∀ k (hk : k < (cur ++ news).length), i ≤ k → k < n → ∀ j (hj : j < (cur ++ news).length), (k ≠ j → Apart (cur ++ news)[k].x (cur ++ news)[j].x) ∧ Apart (cur ++ news)[k].x (cur ++ news)[j].y
  small : ∀ e ∈ cur, e.l.length ≤ 20000000
theorem MarksB.third {w wr : World} {B h n : Nat} {vo vw : Value} {cur es : List Ent} (hM : MarksB w wr B h vo vw cur es) (ha : Alone es) (hn : es.length = n) (hs : ∀ e ∈ es, e.l.length ≤ 20000000) (k : Nat) (hz : B ≤ wr.heap.size) : Third w (wr.drewN k) B h n 0 vo vw cur [] := by
  refine ⟨by simpa using hM.bk.below (drawn_below wr k), hM.like.1.trans hn, rfl, hM.sp.drewN hz k, ?_, ?_⟩
  · have hA := ha.like hM.like
    intro k hk _ _ j hj
    simp only [List.append_nil] at hk hj ⊢
    exact ⟨fun hne => ((hA k j hk hj).1 hne).1, (hA k j hk hj).2⟩
  · intro e he
    obtain ⟨j, hj, rfl⟩ := List.getElem_of_mem he
    have hj' : j < es.length := by rw [← hM.like.1]; exact hj
    rw [(hM.like.2 j hj hj').2.2]
    exact hs _ (List.getElem_mem hj')

/-- ahead of a round of the loop in it -/
structure Fourth (w wr : World) (B h q : Nat) (vo vw : Value) (all : List Ent) (l0 : List Q5) (t : Q5) (pv pu : Nat) (v u : Value) : Prop where
  bk : Bk wr B h vo vw 0 all
  sp : Sp w wr B
  rv : wr.ownsRow B 47 5 v (l0.length + pv) (qsC (l0 ++ List.replicate pv t))
  ru : wr.ownsRow B 47 5 u (l0.length + pu) (qsC (l0 ++ List.replicate pu t))
  vu : Apart v u
  fu : ∀ e ∈ all, Apart u e.x ∧ Apart u e.y
  fv : ∀ e ∈ all, Apart v e.y
  fx : ∀ j (hj : j < all.length), (j ≠ q → Apart v all[j].x) ∧ (j = q → all[j].l.length ≤ l0.length)
theorem rep_more (l0 : List Q5) (p : Nat) (t : Q5) : qsC (l0 ++ List.replicate p t) ++ q5C t = qsC (l0 ++ List.replicate (p + 1) t) := by
  rw [List.replicate_succ', ← List.append_assoc, qsC_append _ [t], qsC_one]
theorem Fourth.stepV {w wr W : World} {B h q : Nat} {vo vw : Value} {all : List Ent} {l0 : List Q5} {t : Q5} {pv pu : Nat} {v u v' : Value} {o : Obj} (H : Fourth w wr B h q vo vw all l0 t pv pu v u)
    (hA : Appended (wr.alloc o) W B 47 5 v (l0.length + pv) v') (hown : W.ownsRow B 47 5 v' (l0.length + pv + 1) (qsC (l0 ++ List.replicate pv t) ++ q5C t)) : Fourth w W B h q vo vw all l0 t (pv + 1) pu v' u := by
  have hz : B ≤ wr.heap.size := by have := book_cells H.bk.book; omega
  have K : ∀ r : Row, r.ok wr B → Apart v r.v → r.ok W B ∧ Apart v' r.v := fun r hr ha => hA.apart (ok_alloc hr o) ha
  have KK : ∀ r : Row, r.ok wr B → r.e ≠ 47 → r.ok W B := fun r hr he => (K r hr (apart_kind H.rv hr.own (fun e => he e.symm))).1
  refine ⟨⟨KK _ H.bk.book (show (28 : Nat) ≠ 47 by decide), KK _ H.bk.outs (show (33 : Nat) ≠ 47 by decide), KK _ H.bk.wants (show (33 : Nat) ≠ 47 by decide), ?_, H.bk.apart, H.bk.small, H.bk.few⟩, H.sp.trans ⟨((Below.refl _ _).alloc hz _).trans hA.old, fun r hr _ _ h4 => KK r hr h4⟩, ?_, (K ⟨47, 5, u, _, _⟩ ⟨H.ru⟩ H.vu).1.own, (K ⟨47, 5, u, _, _⟩ ⟨H.ru⟩ H.vu).2, H.fu, fun e he => (K _ (H.bk.rows e he).2 (H.fv e he)).2, fun j hj => ⟨fun hne => (K _ (H.bk.rows _ (List.getElem_mem hj)).1 ((H.fx j hj).1 hne)).2, (H.fx j hj).2⟩⟩
  · intro e he
    obtain ⟨j, hj, rfl⟩ := List.getElem_of_mem he
    obtain ⟨r1, r2⟩ := H.bk.rows _ he
    refine ⟨?_, (K _ r2 (H.fv _ he)).1⟩
    by_cases hjq : j = q
    · refine hA.keep _ (ok_alloc r1 o) fun g _ _ => ⟨rfl, rfl, ?_⟩
      have := (H.fx j hj).2 hjq
      show all[j].l.length ≤ l0.length + pv
      omega
    · exact (K _ r1 ((H.fx j hj).1 hjq)).1
  · rw [rep_more] at hown
    exact hown
theorem Fourth.stepU {w wr W : World} {B h q : Nat} {vo vw : Value} {all : List Ent} {l0 : List Q5} {t : Q5} {pv pu : Nat} {v u u' : Value} {o : Obj} (H : Fourth w wr B h q vo vw all l0 t pv pu v u)
    (hA : Appended (wr.alloc o) W B 47 5 u (l0.length + pu) u') (hown : W.ownsRow B 47 5 u' (l0.length + pu + 1) (qsC (l0 ++ List.replicate pu t) ++ q5C t)) : Fourth w W B h q vo vw all l0 t pv (pu + 1) v u' := by
  have hz : B ≤ wr.heap.size := by have := book_cells H.bk.book; omega
  have K : ∀ r : Row, r.ok wr B → Apart u r.v → r.ok W B ∧ Apart u' r.v := fun r hr ha => hA.apart (ok_alloc hr o) ha
  have KK : ∀ r : Row, r.ok wr B → r.e ≠ 47 → r.ok W B := fun r hr he => (K r hr (apart_kind H.ru hr.own (fun e => he e.symm))).1
  have hvu := K ⟨47, 5, v, _, _⟩ ⟨H.rv⟩ H.vu.symm
  refine ⟨⟨KK _ H.bk.book (show (28 : Nat) ≠ 47 by decide), KK _ H.bk.outs (show (33 : Nat) ≠ 47 by decide), KK _ H.bk.wants (show (33 : Nat) ≠ 47 by decide), fun e he => ⟨(K _ (H.bk.rows e he).1 (H.fu e he).1).1, (K _ (H.bk.rows e he).2 (H.fu e he).2).1⟩, H.bk.apart, H.bk.small, H.bk.few⟩, H.sp.trans ⟨((Below.refl _ _).alloc hz _).trans hA.old, fun r hr _ _ h4 => KK r hr h4⟩, hvu.1.own, ?_, hvu.2.symm, fun e he => ⟨(K _ (H.bk.rows e he).1 (H.fu e he).1).2, (K _ (H.bk.rows e he).2 (H.fu e he).2).2⟩, H.fv, H.fx⟩
  rw [rep_more] at hown
  exact hown
/-- where the loop begins -/
theorem Third.fourth {w wr W : World} {B h n q : Nat} {vo vw : Value} {cur news : List Ent} {m : Value} (H : Third w wr B h n q vo vw cur news) (hq : q < n) (hql : q < (cur ++ news).length) (t : Q5)
    (hA : Appended (wr.alloc (.cells #[] 47)) W B 47 5 (.slice (some ⟨wr.heap.size, 0, none⟩) 0 0) 0 m) (hm : W.ownsRow B 47 5 m (cur ++ news)[q].l.length (qsC (cur ++ news)[q].l)) :
    Fourth w W B h q vo vw (cur ++ news) (cur ++ news)[q].l t 0 0 (cur ++ news)[q].x m := by
  have hz : B ≤ wr.heap.size := by have := book_cells H.bk.book; omega
  obtain ⟨H2, hfr, hb2, hz2⟩ := copied hA hz
  have rq := H.bk.rows _ (List.getElem_mem hql)
  have ap : ∀ r : Row, r.ok wr B → Apart m r.v := fun r hr g h1 h2 => by
    have := hfr g h1
    have := (hr.own.lt g h2).2
    omega
  refine ⟨H.bk.map H2, H.sp.trans ⟨hb2, fun r hr _ _ _ => H2 r hr⟩, ?_, ?_, (ap _ rq.1).symm, fun e he => ⟨ap _ (H.bk.rows e he).1, ap _ (H.bk.rows e he).2⟩, ?_, ?_⟩
  · have := (H2 _ rq.1).own
    simpa [outR] using this
  · simpa using hm
  · intro e he
    obtain ⟨j, hj, rfl⟩ := List.getElem_of_mem he
    exact (H.alone q hql (Nat.le_refl _) hq j hj).2
  · intro j hj
    refine ⟨fun hne => (H.alone q hql (Nat.le_refl _) hq j hj).1 (fun e => hne e.symm), fun e => ?_⟩
    subst e
    exact Nat.le_refl _
/-- where it ends -/
theorem Fourth.third {w wr0 wr W : World} {B h n q : Nat} {vo vw vo' vw' : Value} {cur news : List Ent} {l0 : List Q5} {t : Q5} {p : Nat} {v u : Value} (T : Third w wr0 B h n q vo vw cur news) (H : Fourth w wr B h q vo vw (cur ++ news) l0 t p p v u) (hq : q < n)
    (hB : Bk W B h vo' vw' 0 ((cur ++ news) ++ [⟨v, u, l0 ++ List.replicate p t⟩])) (hK : Kept wr W B) : Third w W B h n (q + 1) vo' vw' cur (news ++ [⟨v, u, l0 ++ List.replicate p t⟩]) := by
  refine ⟨by rw [← List.append_assoc]; exact hB, T.len, by rw [List.length_append, T.nlen]; rfl, H.sp.trans hK.sp, ?_, T.small⟩
  have e : cur ++ (news ++ [⟨v, u, l0 ++ List.replicate p t⟩]) = (cur ++ news) ++ [⟨v, u, l0 ++ List.replicate p t⟩] := by rw [List.append_assoc]
  simp only [e]
  generalize hal : cur ++ news = all at *
  have hlen : all.length = n + q := by rw [← hal, List.length_append, T.len, T.nlen]
  intro k hk h1 h2 j hj
  have hk' : k < all.length := by omega
  rw [List.getElem_append_left hk']
  simp at hj
  by_cases hja : j < all.length
  · rw [List.getElem_append_left hja]
    have := T.alone k (by rw [hal]; exact hk') (by omega) h2 j (by rw [hal]; exact hja)
    simp only [hal] at this
    exact this
  · have hje : j = all.length := by omega
    subst hje
    rw [List.getElem_append_right (Nat.le_refl _)]
    simp only [Nat.sub_self, List.getElem_cons_zero]
    exact ⟨fun _ => ((H.fx k hk').1 (by omega)).symm, ((H.fu _ (List.getElem_mem hk')).1).symm⟩

theorem Third.fourthEnd {w wr0 wr W : World} {B h n q : Nat} {vo vw vo' vw' : Value} {cur news : List Ent} {l0 : List Q5} {t : Q5} {p : Nat} {v u : Value} (T : Third w wr0 B h n q vo vw cur news) (H : Fourth w wr B h q vo vw (cur ++ news) l0 t p p v u) (hq : q < n)
    (hB : Bk W B h vo' vw' 0 ((cur ++ news) ++ [⟨v, u, l0 ++ List.replicate p t⟩])) (hK : Kept wr W B) : Third w W B h n (q + 1) vo' vw' cur (news ++ [⟨v, u, l0 ++ List.replicate p t⟩]) := Fourth.third T H hq hB hK

theorem Bk.fresh {w : World} {B h : Nat} {vo vw : Value} {fr : Int} {es : List Ent} (hB : Bk w B h vo vw fr es) (z : Int) : Bk (w.setCell ⟨h, 2, none⟩ (.int .i64 z)) B h vo vw z es := by
  have hbo : w.ownsRow B 28 1 (.slice (some ⟨h, 0, none⟩) 3 3) 3 [vo, vw, .int .i64 fr] := hB.book.own
  have K : ∀ r : Row, r.ok w B → r.e ≠ 28 → r.ok (w.setCell ⟨h, 2, none⟩ (.int .i64 z)) B := fun r hr he => hr.set (a := ⟨h, 2, none⟩) (fun e => apart_kind hr.own hbo he _ e rfl) _
  exact ⟨⟨owns_set hbo 2 (by decide) _⟩, K _ hB.outs (show (33 : Nat) ≠ 28 by decide), K _ hB.wants (show (33 : Nat) ≠ 28 by decide), fun e he => ⟨K _ (hB.rows e he).1 (show (47 : Nat) ≠ 28 by decide), K _ (hB.rows e he).2 (show (47 : Nat) ≠ 28 by decide)⟩, hB.apart, hB.small, hB.few⟩
theorem Sp.fresh {w w' : World} {B h : Nat} {vo vw : Value} {fr : Int} {es : List Ent} (hS : Sp w w' B) (hB : Bk w' B h vo vw fr es) (z : Value) : Sp w (w'.setCell ⟨h, 2, none⟩ z) B := by
  have hBh := (book_cells hB.book).2.2.2.2.2
  exact ⟨hS.old.setCell hBh _, fun r hr h1 h2 h3 => (hS.rows r hr h1 h2 h3).set (a := ⟨h, 2, none⟩) (fun e => apart_kind (hS.rows r hr h1 h2 h3).own hB.book.own h1 _ e rfl) _⟩
end Go.Proofs.Yteinpijbdgcehaa
