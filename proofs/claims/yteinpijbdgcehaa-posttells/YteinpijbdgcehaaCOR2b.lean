import Derived.Test.YteinpijbdgcehaaCOR2
namespace Go.Proofs.Yteinpijbdgcehaa
open Go.RowKit Go.Shelf
set_option linter.unusedVariables false
set_option linter.unusedSimpArgs false

/-- receivers in the midst of a round: the process stands there -/
structure Rc4 (w W0 : World) (A k tb : Nat) (t : Int × Nat × Int) (own : Nat → Option (Int × Option Nat)) (M : Int → Value) (gs : Int → List OGr) (W4 : World) (own4 : Nat → Option (Int × Option Nat)) (M4 : Int → Value) (gs4 : Int → List OGr) (pre : List OGr) (q : OGr) (gb cap0 : Nat) : Prop where
  rows : RcR W4 (A + 4) own4 M4 gs4
  map : RcM W4 A k M
  oth : ∀ c, c ≠ t.2.2 → M4 c = M c ∧ gs4 c = gs c
  here : gs4 t.2.2 = pre ++ [q]
  val : M4 t.2.2 = .slice (some ⟨gb, 0, none⟩) (pre.length + 1) cap0
  cap : pre.length + 1 ≤ cap0 ∧ cap0 ≤ maxLen
  flat : flatG (pre ++ [q]) = flatG (gs t.2.2)
  qid : q.id = t.1
  len : pre.length ≤ k
  plen : ∀ i (h : i < (pre ++ [q]).length), (pre ++ [q])[i].places.length ≤ k
  sep : ∀ hi, Sep hi (fun b => own b ≠ none) (fun b => own4 b ≠ none) W0 W4
  bel : Below A w W4
  box : W4.heap[A + 1]? = some (.cells #[.map (some A)] 51)
  sp : W4.heap[tb]? = some (.cells #[.int .i64 t.1, .int .i64 t.2.1, .int .i64 t.2.2] 58)
  ntb : own4 tb = none
  pne : ∀ i (h : i < pre.length), 0 < pre[i].places.length
theorem Rc4.up {w W0 : World} {A k tb : Nat} {t : Int × Nat × Int} {own : Nat → Option (Int × Option Nat)} {M : Int → Value} {gs : Int → List OGr} {W4 X : World} {own4 : Nat → Option (Int × Option Nat)} {M4 : Int → Value} {gs4 : Int → List OGr} {pre : List OGr} {q : OGr} {gb cap0 : Nat} (h : Rc4 w W0 A k tb t own M gs W4 own4 M4 gs4 pre q gb cap0) (hA : A = w.heap.size) (hb : Below W4.heap.size W4 X) :
    Rc4 w W0 A k tb t own M gs X own4 M4 gs4 pre q gb cap0 :=
  ⟨h.rows.grown (grown_below hb) (fun r e => by cases e), h.map.kept (grown_below hb) (fun r e => by cases e), h.oth, h.here, h.val, h.cap, h.flat, h.qid, h.len, h.plen, fun hi => (h.sep hi).trans (Sep.below hb), h.bel.trans (hb.mono (by have := h.bel.size; omega)),
    (hb.block _ (Array.getElem?_eq_some_iff.1 h.box).1).trans h.box, (hb.block _ (Array.getElem?_eq_some_iff.1 h.sp).1).trans h.sp, h.ntb, h.pne⟩
theorem flat_place (pre : List OGr) (q : OGr) (j : Nat) (p : Option Addr) (c : Nat) : flatG (pre ++ [⟨q.id, q.places ++ [j], p, c⟩]) = flatG (pre ++ [q]) ++ [(q.id, j)] := by
  rw [flatG_snoc, flatG_snoc]
  simp
theorem Rc4.fin {w W0 : World} {A k tb : Nat} {t : Int × Nat × Int} {own : Nat → Option (Int × Option Nat)} {M : Int → Value} {gs : Int → List OGr} {X w5 : World} {own4 : Nat → Option (Int × Option Nat)} {M4 : Int → Value} {gs4 : Int → List OGr} {pre : List OGr} {q : OGr} {gb cap0 : Nat} {ts : List (Int × Nat × Int)} (h : Rc4 w W0 A k tb t own M gs X own4 M4 gs4 pre q gb cap0)
    (hR : RcI W0 (A + 4) A k ts own M gs) (hA : A = w.heap.size) (ht : ts[k]? = some t) (hk : k ≤ 1000000) (h64 : I64 t.2.2) {hb cap : Nat}
    (hown : w5.ownsRow (A + 4) 3 1 (.slice (some ⟨hb, 0, none⟩) (q.places.length + 1) cap) (q.places.length + 1) (plsC q.places ++ [.int .i64 t.2.1])) (hg : X.grownBy w5 (Value.slice q.gp q.places.length q.gc).ownBlock) (hat : (Value.slice q.gp q.places.length q.gc).ownBlock = some hb ∨ hb = X.heap.size) :
    (w5.cell? ⟨gb, pre.length * 2 + 1, none⟩ = some (.slice q.gp q.places.length q.gc) ∧ w5.frozen? ⟨gb, pre.length * 2 + 1, none⟩ = false) ∧
    (w5.setCell ⟨gb, pre.length * 2 + 1, none⟩ (.slice (some ⟨hb, 0, none⟩) (q.places.length + 1) cap)).cell? ⟨A + 1, 0, none⟩ = some (.map (some A)) ∧
    (w5.setCell ⟨gb, pre.length * 2 + 1, none⟩ (.slice (some ⟨hb, 0, none⟩) (q.places.length + 1) cap)).cell? ⟨tb, 2, none⟩ = some (.int .i64 t.2.2) ∧
    ∃ W7, (Instr.mapUpdate 51 (.map (some A)) (.int .i64 t.2.2) (.slice (some ⟨gb, 0, none⟩) (pre.length + 1) cap0)).run Try.prog (w5.setCell ⟨gb, pre.length * 2 + 1, none⟩ (.slice (some ⟨hb, 0, none⟩) (q.places.length + 1) cap)) = .ok () W7 ∧
      ∃ own7 M7 gs7, RcI W7 (A + 4) A (k + 1) ts own7 M7 gs7 ∧ (∀ hi, A < hi → Sep hi (fun b => own b ≠ none) (fun b => own7 b ≠ none) W0 W7) ∧ W7.heap[A + 1]? = some (.cells #[.map (some A)] 51) ∧ Below A w W7 := by
  have hlab : ∀ b, (Value.slice q.gp q.places.length q.gc).ownBlock = some b → own4 b = some (t.2.2, some pre.length) := fun b hbb => by
    have := h.rows.pl t.2.2 pre.length (by rw [h.here]; simp) b
    simp only [h.here, List.getElem_concat_length] at this
    exact this hbb
  have hrw := h.rows.prow t.2.2 pre.length (by rw [h.here]; simp)
  simp only [h.here, List.getElem_concat_length] at hrw
  have hG : Grew X w5 own4 (t.2.2, some pre.length) (.slice q.gp q.places.length q.gc) hb := ⟨hlab, hg, hat.imp id (fun e => by omega), own_cells hown rfl⟩
  obtain ⟨p1, p2, p3, p4, p5, p6, p7⟩ := h.rows.place h.here h.val hG hown
  have hlow : ∀ b, (Value.slice q.gp q.places.length q.gc).ownBlock = some b → A + 4 ≤ b := fun b hbb => own_base hrw b hbb
  have hw5 : ∀ b o, X.heap[b]? = some o → b < A + 4 → w5.heap[b]? = some o := fun b o ho hlt => grownBy_oth hg ho (fun e => by have := hlow b e; omega)
  have hmap5 : RcM w5 A k M := h.map.kept hg (fun r e e2 => by have := hlow r e; omega)
  have hmap6 : RcM (w5.setCell ⟨gb, pre.length * 2 + 1, none⟩ (.slice (some ⟨hb, 0, none⟩) (q.places.length + 1) cap)) A k M := hmap5.same (p6 A (by omega))
  obtain ⟨W7, hrun, hm7, hg7⟩ := hmap6.put h64 (by unfold maxLen; omega) (.slice (some ⟨gb, 0, none⟩) (pre.length + 1) cap0)
  have hbox6 : (w5.setCell ⟨gb, pre.length * 2 + 1, none⟩ (.slice (some ⟨hb, 0, none⟩) (q.places.length + 1) cap)).heap[A + 1]? = some (.cells #[.map (some A)] 51) := (p6 _ (by omega)).trans (hw5 _ _ h.box (by omega))
  have htb : tb ≠ gb := fun e => by
    have h1 := h.rows.rl t.2.2 gb (by rw [h.val]; rfl)
    rw [← e, h.ntb] at h1
    cases h1
  have hsp5 : w5.heap[tb]? = some (.cells #[.int .i64 t.1, .int .i64 t.2.1, .int .i64 t.2.2] 58) := hG.keep (by rw [h.ntb]; simp) h.sp
  obtain ⟨om, hom, homc⟩ := hmap6.obj
  have hnA : ∀ b, relab own4 (t.2.2, some pre.length) hb b ≠ none → b ≠ A := fun b hbb e => by
    obtain ⟨o, h1, h2⟩ := p1.cel b hbb
    rw [e, hom] at h1
    cases h1
    rw [homc] at h2
    cases h2
  have hb5 : Below A w w5 := h.bel.grown hg (by have := h.bel.size; omega) (fun r e => by have := hlow r e; omega)
  have hb6 : Below A w (w5.setCell ⟨gb, pre.length * 2 + 1, none⟩ (.slice (some ⟨hb, 0, none⟩) (q.places.length + 1) cap)) := hb5.setCell (p := ⟨gb, pre.length * 2 + 1, none⟩) (by show A ≤ gb; omega) _
  refine ⟨⟨p3, p4⟩, cell_of hbox6 rfl, cell_of ((p6 tb htb).trans hsp5) rfl, W7, hrun, _, M4, _, ⟨p1.grown hg7 (fun r e => ?_), hm7.ext (fun c => ?_), fun c => ?_, fun c => ?_, fun c i hi => ?_, fun c i hi => ?_⟩, fun hi hhi => ?_, grownBy_oth hg7 hbox6 (fun e => by injection e with e; omega), hb6.grown hg7 (by have := hb6.size; omega) (fun r e => by injection e with e; omega)⟩
  · injection e with e
    subst e
    exact Decidable.not_not.1 (fun hh => hnA _ hh rfl)
  · by_cases e : c = t.2.2
    · rw [e, upd_same, h.val]
    · rw [upd_other _ _ e]; exact (h.oth c e).1
  · have hsn := onCh_snoc (ts.take k) t c
    rw [show ts.take (k + 1) = ts.take k ++ [t] by rw [List.take_add_one, ht]; rfl, hsn]
    by_cases e : c = t.2.2
    · rw [e, upd_same, flat_place, h.flat, hR.flat, if_pos rfl, h.qid]
    · rw [upd_other _ _ e, (h.oth c e).2, hR.flat, if_neg (fun e2 => e e2.symm), List.append_nil]
  · by_cases e : c = t.2.2
    · rw [e, upd_same]; simp; exact h.len
    · rw [upd_other _ _ e, (h.oth c e).2]; have := hR.len c; omega
  · by_cases e : c = t.2.2
    · subst e
      have hu := upd_same gs4 t.2.2 (pre ++ [⟨q.id, q.places ++ [t.2.1], some ⟨hb, 0, none⟩, cap⟩])
      simp only [hu, List.length_append, List.length_singleton] at hi ⊢
      by_cases hlt : i < pre.length
      · simp only [List.getElem_append_left hlt]
        have := h.plen i (by simp; omega)
        simp only [List.getElem_append_left hlt] at this
        omega
      · have : i = pre.length := by omega
        subst this
        have := h.plen pre.length (by simp)
        simp only [List.getElem_concat_length] at this ⊢
        simp
        exact this
    · have hu := upd_other gs4 (pre ++ [⟨q.id, q.places ++ [t.2.1], some ⟨hb, 0, none⟩, cap⟩]) e
      have := hR.plen c
      rw [← (h.oth c e).2] at this
      simp only [hu] at hi ⊢
      exact Nat.le_succ_of_le (this i hi)
  · by_cases e : c = t.2.2
    · subst e
      have hu := upd_same gs4 t.2.2 (pre ++ [⟨q.id, q.places ++ [t.2.1], some ⟨hb, 0, none⟩, cap⟩])
      simp only [hu, List.length_append, List.length_singleton] at hi ⊢
      by_cases hlt : i < pre.length
      · simp only [List.getElem_append_left hlt]
        exact h.pne i hlt
      · have : i = pre.length := by omega
        subst this
        simp only [List.getElem_concat_length]
        simp
    · have hu := upd_other gs4 (pre ++ [⟨q.id, q.places ++ [t.2.1], some ⟨hb, 0, none⟩, cap⟩]) e
      have := hR.ne c
      rw [← (h.oth c e).2] at this
      simp only [hu] at hi ⊢
      exact this i hi
  · refine ((h.sep hi).trans (p2 hi)).trans ⟨hg7.size, fun b o h1 h2 _ => grownBy_oth hg7 h1 (fun e => ?_), fun b o h1 _ h3 => grownBy_oth hg7 h1 (fun e => by injection e with e; omega), fun b h1 => .inl h1⟩
    injection e with e
    subst e
    rw [hom] at h1
    cases h1
    rw [homc] at h2
    cases h2
end Go.Proofs.Yteinpijbdgcehaa
