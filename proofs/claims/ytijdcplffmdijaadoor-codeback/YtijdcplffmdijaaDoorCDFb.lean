import Derived.Test.YtijdcplffmdijaaDoorCDFa
namespace Go.Proofs.YtijdcplffmdijaaDoor
open Go.RowKit
set_option linter.unusedVariables false
set_option linter.unusedSimpArgs false

theorem Kp.and {P Q : Nat → TypeId → Prop} {a b c : World} (h : Kp P a b) (g : Kp Q b c) : Kp (fun x t => P x t ∧ Q x t) a c :=
  (h.mono fun _ _ h => h.1).trans (g.mono fun _ _ h => h.2)
/-- a prog more -/
theorem UW.addP {w wA w8 : World} {B ub cut cg gg : Nat} {u : CUn} {pv tv : Value} {pcs : List (List Value)} (h1 : w.heap[ub]? = some (.cells #[pv, tv] 36 (0, 0))) (h2 : OwnL TyC w B 54 3 tv u.types) (h3 : w.ownsRow B 57 5 pv u.progs.length pcs.flatten) (h4 : B ≤ cut) (h5 : cut ≤ w.heap.size) (h6 : LastOk w B cut u.progs pcs)
    (hb : Below w.heap.size w wA) {p : CPg} (hp : p.code = []) (hown : w8.ownsRow B 57 5 (.slice (some ⟨gg, 0, none⟩) (u.progs.length + 1) cg) (u.progs.length + 1) (pcs.flatten ++ pgCells p (.slice none 0 0))) (hg : wA.grownBy w8 pv.ownBlock) :
    UW (w8.setCell ⟨ub, 0, none⟩ (.slice (some ⟨gg, 0, none⟩) (u.progs.length + 1) cg)) B ub { u with progs := u.progs ++ [p] } := by
  have k1 : Kp (fun _ _ => True) w wA := Kp.of hb
  have o1 : wA.ownsRow B 57 5 pv u.progs.length pcs.flatten := owns_on h3 k1 fun _ _ => trivial
  have k2 := k1.and (Kp.grown o1 hg)
  have e8 : w8.heap[ub]? = some (.cells #[pv, tv] 36 (0, 0)) := (k2.blk ub _ _ _ h1 ⟨trivial, .inl (by decide)⟩).trans h1
  have k3 := Kp.set (i := 0) (v := .slice (some ⟨gg, 0, none⟩) (u.progs.length + 1) cg) e8
  have K := k2.and k3
  have hsz : w.heap.size ≤ (w8.setCell ⟨ub, 0, none⟩ (.slice (some ⟨gg, 0, none⟩) (u.progs.length + 1) cg)).heap.size := K.size
  refine ⟨.slice (some ⟨gg, 0, none⟩) (u.progs.length + 1) cg, tv, pcs ++ [pgCells p (.slice none 0 0)], (w8.setCell ⟨ub, 0, none⟩ (.slice (some ⟨gg, 0, none⟩) (u.progs.length + 1) cg)).heap.size, ?_, ?_, ?_, by omega, Nat.le_refl _, .inr ⟨u.progs, p, pcs, .slice none 0 0, rfl, rfl, ?_, ?_⟩⟩
  · rw [heap_setCell_same w8 ub 0 _ _ _ e8]; rfl
  · exact h2.on (TyC.on K fun _ => ⟨⟨trivial, .inl (by decide)⟩, by decide⟩) K fun _ _ => ⟨⟨trivial, .inl (by decide)⟩, by decide⟩
  · have e1 : (u.progs ++ [p]).length = u.progs.length + 1 := by simp
    have e2 : (pcs ++ [pgCells p (.slice none 0 0)]).flatten = pcs.flatten ++ pgCells p (.slice none 0 0) := by simp
    rw [e2]
    show World.ownsRow _ B 57 5 _ (u.progs ++ [p]).length _
    rw [e1]
    exact owns_on hown k3 fun _ _ => by decide
  · have ha := (h6.all h4 h5).mono (PgC.on (B := B) (cut := w.heap.size) K (fun _ => ⟨⟨trivial, .inl (by decide)⟩, by decide⟩) fun _ _ => ⟨⟨trivial, .inl (by decide)⟩, by decide⟩)
    refine ha.mono ?_
    rintro a c ⟨v, q1, q2, q3⟩
    exact ⟨v, q1, q2, fun g hg => Nat.lt_of_lt_of_le (q3 g hg) hsz⟩
  · rw [hp]
    exact OwnL.nil _ _ _ _ _
/-- a type more -/
theorem UW.addT {w wA w8 : World} {B ub cut cg gg : Nat} {u : CUn} {pv tv : Value} {pcs tcs : List (List Value)} (h1 : w.heap[ub]? = some (.cells #[pv, tv] 36 (0, 0))) (h2 : All2 (TyC w) u.types tcs) (h2' : w.ownsRow B 54 3 tv u.types.length tcs.flatten) (h3 : w.ownsRow B 57 5 pv u.progs.length pcs.flatten) (h4 : B ≤ cut) (h5 : cut ≤ w.heap.size) (h6 : LastOk w B cut u.progs pcs)
    (hb : Below w.heap.size w wA) {t : CTy} {ka : Option Addr} {kc : Nat} (hk : IK wA ka kc t.kids) (hown : w8.ownsRow B 54 3 (.slice (some ⟨gg, 0, none⟩) (u.types.length + 1) cg) (u.types.length + 1) (tcs.flatten ++ tyCells t (.slice ka t.kids.length kc))) (hg : wA.grownBy w8 tv.ownBlock) :
    UW (w8.setCell ⟨ub, 1, none⟩ (.slice (some ⟨gg, 0, none⟩) (u.types.length + 1) cg)) B ub { u with types := u.types ++ [t] } := by
  have k1 : Kp (fun _ _ => True) w wA := Kp.of hb
  have o1 : wA.ownsRow B 54 3 tv u.types.length tcs.flatten := owns_on h2' k1 fun _ _ => trivial
  have kg := Kp.grown o1 hg
  have k2 := k1.and kg
  have e8 : w8.heap[ub]? = some (.cells #[pv, tv] 36 (0, 0)) := (k2.blk ub _ _ _ h1 ⟨trivial, .inl (by decide)⟩).trans h1
  have k3 := Kp.set (i := 1) (v := .slice (some ⟨gg, 0, none⟩) (u.types.length + 1) cg) e8
  have K := k2.and k3
  have hsz : w.heap.size ≤ (w8.setCell ⟨ub, 1, none⟩ (.slice (some ⟨gg, 0, none⟩) (u.types.length + 1) cg)).heap.size := K.size
  refine ⟨pv, .slice (some ⟨gg, 0, none⟩) (u.types.length + 1) cg, pcs, cut, ?_, ⟨tcs ++ [tyCells t (.slice ka t.kids.length kc)], ?_, ?_⟩, ?_, h4, by omega, ?_⟩
  · rw [heap_setCell_same w8 ub 1 _ _ _ e8]; rfl
  · refine All2.add ⟨ka, kc, rfl, hk.onp (kg.and k3) fun _ => ⟨.inl (by decide), by decide⟩⟩ (h2.mono ?_)
    exact TyC.on K fun _ => ⟨⟨trivial, .inl (by decide)⟩, by decide⟩
  · have e1 : (u.types ++ [t]).length = u.types.length + 1 := by simp
    have e2 : (tcs ++ [tyCells t (.slice ka t.kids.length kc)]).flatten = tcs.flatten ++ tyCells t (.slice ka t.kids.length kc) := by simp
    rw [e2]
    show World.ownsRow _ B 54 3 _ (u.types ++ [t]).length _
    rw [e1]
    exact owns_on hown k3 fun _ _ => by decide
  · exact owns_on h3 K fun _ _ => ⟨⟨trivial, .inl (by decide)⟩, by decide⟩
  · exact h6.on K (fun _ => ⟨⟨trivial, .inl (by decide)⟩, by decide⟩) fun _ => ⟨⟨trivial, .inl (by decide)⟩, by decide⟩
/-- the last prog's code, in memory -/
theorem last_code {w : World} {B : Nat} {pv v : Value} {qs : List CPg} {p : CPg} {cs : List (List Value)} (hl : cs.flatten.length = qs.length * 5) (h3 : w.ownsRow B 57 5 pv (qs ++ [p]).length (cs ++ [pgCells p v]).flatten) :
    ∃ g cap cur, pv = .slice (some ⟨g, 0, none⟩) (qs.length + 1) cap ∧ B ≤ g ∧ w.heap[g]? = some (.cells cur 57 (0, 0)) ∧ qs.length + 1 ≤ cap ∧ cur[qs.length * 5 + 4]? = some v := by
  have e1 : (qs ++ [p]).length = qs.length + 1 := by simp
  rw [e1] at h3
  rcases h3.2 with ⟨_, hn⟩ | ⟨g, cap, cur, rfl, hB, hgg, q1, q2, q3, q4⟩
  · exact absurd hn (by omega)
  · refine ⟨g, cap, cur, rfl, hB, hgg, q1, ?_⟩
    have e := congrArg (fun z : List Value => z[qs.length * 5 + 4]?) q4
    rw [List.getElem?_take_of_lt (by omega), Array.getElem?_toList] at e
    rw [e, List.flatten_append, List.getElem?_append_right (by omega), hl, show qs.length * 5 + 4 - qs.length * 5 = 4 by omega]
    simp [pgCells]
/-- an instruction more -/
theorem UW.addI {w wA w8 : World} {B ub cut cg gg : Nat} {qs : List CPg} {p : CPg} {ts : List CTy} {pv tv v : Value} {cs ics : List (List Value)} (h1 : w.heap[ub]? = some (.cells #[pv, tv] 36 (0, 0))) (h2 : OwnL TyC w B 54 3 tv ts) (h3 : w.ownsRow B 57 5 pv (qs ++ [p]).length (cs ++ [pgCells p v]).flatten) (h4 : B ≤ cut) (h5 : cut ≤ w.heap.size) (h6 : All2 (PgC B cut w) qs cs) (h7 : All2 (InC w) p.code ics) (h8 : w.ownsRow cut 28 4 v p.code.length ics.flatten)
    (hb : Below w.heap.size w wA) {i : CIn} {ka : Option Addr} {kc : Nat} (hk : IK wA ka kc i.list) (hown : w8.ownsRow cut 28 4 (.slice (some ⟨gg, 0, none⟩) (p.code.length + 1) cg) (p.code.length + 1) (ics.flatten ++ inCells i (.slice ka i.list.length kc))) (hg : wA.grownBy w8 v.ownBlock) {g cap : Nat} (hpv : pv = .slice (some ⟨g, 0, none⟩) (qs.length + 1) cap) :
    UW (w8.setCell ⟨g, qs.length * 5 + 4, none⟩ (.slice (some ⟨gg, 0, none⟩) (p.code.length + 1) cg)) B ub ⟨qs ++ [{ p with code := p.code ++ [i] }], ts⟩ := by
  have hl : cs.flatten.length = qs.length * 5 := by rw [flat_len (h6.all pgC_len), h6.len]
  have k1 : Kp (fun _ _ => True) w wA := Kp.of hb
  have o1 : wA.ownsRow cut 28 4 v p.code.length ics.flatten := owns_on h8 k1 fun _ _ => trivial
  have kg := Kp.grown o1 hg
  have k2 := k1.and kg
  have e8 : w8.heap[ub]? = some (.cells #[pv, tv] 36 (0, 0)) := (k2.blk ub _ _ _ h1 ⟨trivial, .inl (by decide)⟩).trans h1
  have o8 := owns_on h3 k2 fun _ _ => ⟨trivial, .inl (by decide)⟩
  have e1 : (qs ++ [p]).length = qs.length + 1 := by simp
  rw [e1] at o8
  rcases o8.2 with ⟨_, hn⟩ | ⟨g', cap', cur, hpv', hB, hgg, q1, q2, q3, q4⟩
  · exact absurd hn (by omega)
  rw [hpv] at hpv'
  injection hpv' with hpa _ hpc
  injection hpa with hpa
  injection hpa with hpa
  subst hpa hpc
  have k3 := Kp.set (i := qs.length * 5 + 4) (v := .slice (some ⟨gg, 0, none⟩) (p.code.length + 1) cg) hgg
  have K := k2.and k3
  have hsz := K.size
  refine ⟨pv, tv, cs ++ [pgCells p (.slice (some ⟨gg, 0, none⟩) (p.code.length + 1) cg)], cut, ?_, ?_, ?_, h4, by omega, .inr ⟨qs, _, cs, .slice (some ⟨gg, 0, none⟩) (p.code.length + 1) cg, rfl, rfl, ?_, ?_⟩⟩
  · exact (k3.blk ub _ _ _ e8 (by decide)).trans e8
  · exact h2.on (TyC.on K fun _ => ⟨⟨trivial, .inl (by decide)⟩, by decide⟩) K fun _ _ => ⟨⟨trivial, .inl (by decide)⟩, by decide⟩
  · have e2 : (qs ++ [{ p with code := p.code ++ [i] }]).length = qs.length + 1 := by simp
    show World.ownsRow _ B 57 5 _ (qs ++ [{ p with code := p.code ++ [i] }]).length _
    rw [e2, hpv]
    have hlen : (cs ++ [pgCells p (.slice (some ⟨gg, 0, none⟩) (p.code.length + 1) cg)]).flatten.length = (qs.length + 1) * 5 := by
      rw [List.flatten_append, List.length_append, hl]
      simp [pgCells]
      omega
    refine ⟨hlen, .inr ⟨g, cap, cur.setIfInBounds (qs.length * 5 + 4) (.slice (some ⟨gg, 0, none⟩) (p.code.length + 1) cg), rfl, hB, ?_, q1, q2, by simpa using q3, ?_⟩⟩
    · rw [heap_setCell_same w8 g (qs.length * 5 + 4) _ _ _ hgg]
    · rw [Array.toList_setIfInBounds, List.take_set, q4, List.flatten_append, List.flatten_append, List.set_append_right _ _ (by omega), hl, show qs.length * 5 + 4 - qs.length * 5 = 4 by omega]
      simp [pgCells]
  · exact h6.mono (PgC.on K (fun _ => ⟨⟨trivial, .inl (by decide)⟩, by decide⟩) fun b hb => ⟨⟨trivial, .inr hb⟩, by decide⟩)
  · refine ⟨ics ++ [inCells i (.slice ka i.list.length kc)], All2.add ⟨ka, kc, rfl, hk.onp (kg.and k3) fun _ => ⟨.inl (by decide), by decide⟩⟩ (h7.mono (InC.on K fun _ => ⟨⟨trivial, .inl (by decide)⟩, by decide⟩)), ?_⟩
    have e2 : (p.code ++ [i]).length = p.code.length + 1 := by simp
    have e3 : (ics ++ [inCells i (.slice ka i.list.length kc)]).flatten = ics.flatten ++ inCells i (.slice ka i.list.length kc) := by simp
    rw [e3]
    show World.ownsRow _ cut 28 4 _ (p.code ++ [i]).length _
    rw [e2]
    exact owns_on hown k3 fun _ _ => by decide
end Go.Proofs.YtijdcplffmdijaaDoor
