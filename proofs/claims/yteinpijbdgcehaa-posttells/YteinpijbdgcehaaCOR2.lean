import Derived.Test.YteinpijbdgcehaaCOR1
namespace Go.Proofs.Yteinpijbdgcehaa
open Go.RowKit Go.Shelf
set_option linter.unusedVariables false
set_option linter.unusedSimpArgs false

theorem grsC_set (pre : List OGr) (q : OGr) (p : Option Addr) (pl : List Nat) (c : Nat) : (grsC (pre ++ [q])).set (pre.length * 2 + 1) (.slice p pl.length c) = grsC (pre ++ [⟨q.id, pl, p, c⟩]) := by
  rw [grsC_snoc, grsC_snoc, List.set_append_right _ _ (by rw [grsC_len]; omega), grsC_len, show pre.length * 2 + 1 - pre.length * 2 = 1 by omega]
  rfl
/-- a place more -/
theorem RcR.place {W w5 : World} {base : Nat} {own : Nat → Option (Int × Option Nat)} {M : Int → Value} {gs : Int → List OGr} (h : RcR W base own M gs) {ch : Int} {pre : List OGr} {q : OGr} (hgs : gs ch = pre ++ [q]) {gb cap0 : Nat} (hM : M ch = .slice (some ⟨gb, 0, none⟩) (pre.length + 1) cap0) {j hb cap : Nat}
    (hG : Grew W w5 own (ch, some pre.length) (.slice q.gp q.places.length q.gc) hb)
    (hown : w5.ownsRow base 3 1 (.slice (some ⟨hb, 0, none⟩) (q.places.length + 1) cap) (q.places.length + 1) (plsC q.places ++ [.int .i64 j])) :
    let W6 := w5.setCell ⟨gb, pre.length * 2 + 1, none⟩ (.slice (some ⟨hb, 0, none⟩) (q.places.length + 1) cap)
    RcR W6 base (relab own (ch, some pre.length) hb) M (upd gs ch (pre ++ [⟨q.id, q.places ++ [j], some ⟨hb, 0, none⟩, cap⟩])) ∧ (∀ hi, Sep hi (fun b => own b ≠ none) (fun b => relab own (ch, some pre.length) hb b ≠ none) W W6) ∧ w5.cell? ⟨gb, pre.length * 2 + 1, none⟩ = some (.slice q.gp q.places.length q.gc) ∧ w5.frozen? ⟨gb, pre.length * 2 + 1, none⟩ = false ∧ W6.heap.size = w5.heap.size ∧ (∀ b, b ≠ gb → W6.heap[b]? = w5.heap[b]?) ∧ base ≤ gb := by
  intro W6
  have hlen : (gs ch).length = pre.length + 1 := by rw [hgs]; simp
  have hrow := h.row ch
  rw [hgs, hM] at hrow
  simp only [List.length_append, List.length_singleton] at hrow
  have hgbl : own gb = some (ch, none) := h.rl ch gb (by rw [hM]; rfl)
  have hrow5 : w5.ownsRow base 61 2 (.slice (some ⟨gb, 0, none⟩) (pre.length + 1) cap0) (pre.length + 1) (grsC (pre ++ [q])) := own_same hrow (fun g' o hg' ho => hG.keep (by rw [ownB] at hg'; cases hg'; rw [hgbl]; simp) ho)
  have hcell : (grsC (pre ++ [q]))[pre.length * 2 + 1]? = some (.slice q.gp q.places.length q.gc) := by
    have := (grsC_at (pre ++ [q]) pre.length (by simp)).2
    simpa using this
  have hc := own_cell hrow5 hcell
  have hrow6 := own_set hrow5 (j := pre.length * 2 + 1) (by rw [grsC_len]; simp; omega) (.slice (some ⟨hb, 0, none⟩) (q.places.length + 1) cap)
  have hoth : ∀ b, b ≠ gb → W6.heap[b]? = w5.heap[b]? := fun b hbb => Below.heap_setCell _ _ _ _ hbb
  have hgo : ∃ o : Obj, W.heap[gb]? = some o ∧ o.isCells = true := h.cel gb (by rw [hgbl]; simp)
  have hgb5 : relab own (ch, some pre.length) hb gb = some (ch, none) := by
    obtain ⟨o, h1, _⟩ := hgo
    exact relab_other hgbl (by simp) (hG.ne (by rw [hgbl]; simp) h1)
  have hne : hb ≠ gb := fun e => by rw [e, relab_at] at hgb5; simp at hgb5
  have hkeep : ∀ b o, own b ≠ none → own b ≠ some (ch, some pre.length) → b ≠ gb → W.heap[b]? = some o → W6.heap[b]? = some o := fun b o h1 h2 h3 h4 => (hoth b h3).trans (hG.keep h2 h4)
  have hplb : ∀ c i (hi : i < (gs c).length) b, (Value.slice (gs c)[i].gp (gs c)[i].places.length (gs c)[i].gc).ownBlock = some b → (c, some i) ≠ (ch, some pre.length) → relab own (ch, some pre.length) hb b = some (c, some i) := fun c i hi b hbb hn => by
    obtain ⟨o, h1, _⟩ := own_cells (h.prow c i hi) hbb
    exact relab_other (h.pl c i hi b hbb) hn (hG.ne (by rw [h.pl c i hi b hbb]; simpa using hn) h1)
  have hprw : ∀ c i (hi : i < (gs c).length), (c, some i) ≠ (ch, some pre.length) → W6.ownsRow base 3 1 (.slice (gs c)[i].gp (gs c)[i].places.length (gs c)[i].gc) (gs c)[i].places.length (plsC (gs c)[i].places) := fun c i hi hn =>
    own_same (h.prow c i hi) (fun g' o hg' ho => hkeep g' o (by rw [h.pl c i hi g' hg']; simp) (by rw [h.pl c i hi g' hg']; simpa using hn) (fun e => by have := h.pl c i hi g' hg'; rw [e, hgbl] at this; simp at this) ho)
  have hown6 : W6.ownsRow base 3 1 (.slice (some ⟨hb, 0, none⟩) (q.places.length + 1) cap) (q.places.length + 1) (plsC q.places ++ [.int .i64 j]) := own_same hown (fun g' o hg' ho => by
    rw [ownB] at hg'; cases hg'
    exact (hoth _ hne).trans ho)
  refine ⟨⟨fun c => ?_, fun c b hbb => ?_, fun c i hi => ?_, fun c i hi b hbb => ?_, fun b hbb => ?_, fun b hbb => (relab_some hbb).elim (fun e => by rw [e]; exact own_base hown hb rfl) (fun h2 => h.low b h2.1)⟩, fun hi => ?_, hc.1, hc.2, World.size_setCell _ _ _, hoth, own_base hrow _ rfl⟩
  · by_cases e : c = ch
    · subst e
      rw [upd_same, hM]
      have := grsC_set pre q (some ⟨hb, 0, none⟩) (q.places ++ [j]) cap
      simp only [List.length_append, List.length_singleton] at this ⊢
      rw [← this]
      exact hrow6
    · rw [upd_other _ _ e]
      exact own_same (h.row c) (fun g' o hg' ho => hkeep g' o (by rw [h.rl c g' hg']; simp) (by rw [h.rl c g' hg']; simp) (fun e2 => by have := h.rl c g' hg'; rw [e2, hgbl] at this; simp at this; exact e this.symm) ho)
  · have h1 := h.rl c b hbb
    obtain ⟨o, h2, _⟩ := h.cel b (by rw [h1]; simp)
    exact relab_other h1 (by simp) (hG.ne (by rw [h1]; simp) h2)
  · by_cases e : c = ch
    · subst e
      have hu := upd_same gs c (pre ++ [⟨q.id, q.places ++ [j], some ⟨hb, 0, none⟩, cap⟩])
      simp only [hu, List.length_append, List.length_singleton] at hi ⊢
      by_cases hlt : i < pre.length
      · simp only [List.getElem_append_left hlt]
        have := hprw c i (by omega) (by simp; omega)
        simp only [hgs, List.getElem_append_left hlt] at this
        exact this
      · have : i = pre.length := by omega
        subst this
        simp only [List.getElem_concat_length]
        simpa [plsC] using hown6
    · have hu := upd_other gs (pre ++ [⟨q.id, q.places ++ [j], some ⟨hb, 0, none⟩, cap⟩]) e
      simp only [hu] at hi ⊢
      exact hprw c i hi (by simp [e])
  · by_cases e : c = ch
    · subst e
      have hu := upd_same gs c (pre ++ [⟨q.id, q.places ++ [j], some ⟨hb, 0, none⟩, cap⟩])
      simp only [hu, List.length_append, List.length_singleton] at hi hbb
      by_cases hlt : i < pre.length
      · simp only [List.getElem_append_left hlt] at hbb
        refine hplb c i (by omega) b ?_ (by simp; omega)
        simp only [hgs, List.getElem_append_left hlt]
        exact hbb
      · have : i = pre.length := by omega
        subst this
        simp only [List.getElem_concat_length] at hbb
        cases hbb
        exact relab_at _ _ _
    · have hu := upd_other gs (pre ++ [⟨q.id, q.places ++ [j], some ⟨hb, 0, none⟩, cap⟩]) e
      simp only [hu] at hi hbb
      exact hplb c i hi b hbb (by simp [e])
  · obtain ⟨o, h1, h2⟩ := hG.cel h.cel b hbb
    by_cases e : b = gb
    · subst e
      obtain ⟨o', h3, h4⟩ := own_cells hrow6 (g := b) rfl
      exact ⟨o', h3, h4⟩
    · exact ⟨o, (hoth b e).trans h1, h2⟩
  · refine (hG.sep h.cel (hi := hi)).trans ⟨Nat.le_of_eq (World.size_setCell _ _ _).symm, fun b o h1 _ h3 => (hoth b (fun e => h3 (by rw [e, hgb5]; simp))).trans h1, fun b o h1 h2 _ => (hoth b (fun e => ?_)).trans h1, fun b h1 => .inl h1⟩
    obtain ⟨o', h3, h4⟩ := own_cells hrow5 (g := gb) rfl
    rw [e, h3] at h1
    cases h1
    rw [h4] at h2
    cases h2
/-! ### the map -/
def Rw (v : Value) : Option (DataW Value × List MemPlace) := some (.held v, [])
def z0 : DataW Value := .held (.slice none 0 0)
def kI (ch : Int) : Lit := .int .i64 ch
theorem keyI {ch : Int} (h : I64 ch) : keyOf Try.prog 3 (.int .i64 ch) = some (kI ch) := Maps.keyOf_int_mk Try.underlying3 (WalkArith.wf_i64 (by unfold I64 at h; omega))
theorem kI_ne {a b : Int} (h : a ≠ b) : kI a ≠ kI b := fun e => h (by unfold kI at e; cases e; rfl)
structure RcM (W : World) (mb n : Nat) (M : Int → Value) : Prop where
  ex : ∃ D, W.ownsMap Try.prog 3 Rw mb n D ∧ ∀ ch, I64 ch → D.atKey (kI ch) z0 = .held (M ch)
theorem RcM.look {W : World} {mb n : Nat} {M : Int → Value} (h : RcM W mb n M) {ch : Int} (hc : I64 ch) : (Instr.lookup 51 (.map (some mb)) (.int .i64 ch) false).run Try.prog W = .ok (M ch) W := by
  obtain ⟨D, h1, h2⟩ := h.ex
  obtain ⟨v, ps, hr, hv⟩ := h1.lookup (Maps.int_keyed Try.underlying3) Try.underlying51 (Try.zeroValue66 _) (zd := z0) (zp := []) rfl (keyI hc)
  rw [h2 ch hc] at hv
  unfold Rw at hv
  injection hv with hv
  injection hv with hv
  injection hv with hv
  rw [hr, hv]
theorem RcM.put {W : World} {mb n : Nat} {M : Int → Value} (h : RcM W mb n M) {ch : Int} (hc : I64 ch) (hn : n < maxLen) (v : Value) : ∃ w', (Instr.mapUpdate 51 (.map (some mb)) (.int .i64 ch) v).run Try.prog W = .ok () w' ∧ RcM w' mb (n + 1) (upd M ch v) ∧ W.grownBy w' (some mb) := by
  obtain ⟨D, h1, h2⟩ := h.ex
  obtain ⟨w', hr, h3, h4⟩ := h1.update (Maps.int_keyed Try.underlying3) Try.underlying51 hn (val := v) (d := .held v) (ps := []) (keyI hc) rfl
  refine ⟨w', hr, ⟨_, h3, fun c hc2 => ?_⟩, h4⟩
  by_cases e : c = ch
  · subst e
    rw [upd_same, Maps.atKey_put_same h1.isMap (by simp [WideAt.IsKeyLit, kI])]
  · rw [upd_other _ _ e, Maps.atKey_put_other (kI_ne e), h2 c hc2]
theorem RcM.kept {W W' : World} {mb n : Nat} {M : Int → Value} {row : Option Nat} (h : RcM W mb n M) (hg : W.grownBy W' row) (hr : ∀ r, row = some r → r ≠ mb) : RcM W' mb n M := by
  obtain ⟨D, h1, h2⟩ := h.ex
  exact ⟨D, h1.kept hg (fun e => hr mb e.symm rfl), h2⟩
theorem RcM.same {W W' : World} {mb n : Nat} {M : Int → Value} (h : RcM W mb n M) (hg : W'.heap[mb]? = W.heap[mb]?) : RcM W' mb n M := by
  obtain ⟨D, ⟨es, clock, h0, h3⟩, h2⟩ := h.ex
  exact ⟨D, ⟨es, clock, hg.trans h0, h3⟩, h2⟩
theorem RcM.obj {W : World} {mb n : Nat} {M : Int → Value} (h : RcM W mb n M) : ∃ o : Obj, W.heap[mb]? = some o ∧ o.isCells = false := by
  obtain ⟨D, ⟨es, clock, h0, h3⟩, h2⟩ := h.ex
  exact ⟨_, h0, rfl⟩
theorem RcM.ext {W : World} {mb n : Nat} {M M' : Int → Value} (h : RcM W mb n M) (he : ∀ ch, M' ch = M ch) : RcM W mb n M' := by
  obtain ⟨D, h1, h2⟩ := h.ex
  exact ⟨D, h1, fun ch hc => by rw [he]; exact h2 ch hc⟩
/-! ### what they say -/
def flatG (l : List OGr) : List (Int × Nat) := l.flatMap fun g => g.places.map fun j => (g.id, j)
theorem flatG_snoc (l : List OGr) (g : OGr) : flatG (l ++ [g]) = flatG l ++ g.places.map fun j => (g.id, j) := by simp [flatG]
def onCh (ts : List (Int × Nat × Int)) (ch : Int) : List (Int × Nat) := (ts.filter fun t => decide (t.2.2 = ch)).map fun t => (t.1, t.2.1)
theorem onCh_snoc (ts : List (Int × Nat × Int)) (t : Int × Nat × Int) (ch : Int) : onCh (ts ++ [t]) ch = onCh ts ch ++ if t.2.2 = ch then [(t.1, t.2.1)] else [] := by
  unfold onCh
  rw [List.filter_append, List.map_append, List.filter_cons]
  by_cases h : t.2.2 = ch
  · simp [h]
  · simp [h]
/-- the state of receivers -/
structure RcI (W : World) (base mb k : Nat) (ts : List (Int × Nat × Int)) (own : Nat → Option (Int × Option Nat)) (M : Int → Value) (gs : Int → List OGr) : Prop where
  rows : RcR W base own M gs
  map : RcM W mb k M
  flat : ∀ ch, flatG (gs ch) = onCh (ts.take k) ch
  len : ∀ ch, (gs ch).length ≤ k
  plen : ∀ ch i (h : i < (gs ch).length), (gs ch)[i].places.length ≤ k
  ne : ∀ ch i (h : i < (gs ch).length), 0 < (gs ch)[i].places.length
theorem RcI.val {W : World} {base mb k : Nat} {ts : List (Int × Nat × Int)} {own : Nat → Option (Int × Option Nat)} {M : Int → Value} {gs : Int → List OGr} (h : RcI W base mb k ts own M gs) (ch : Int) : ∃ p c, M ch = .slice p (gs ch).length c ∧ (0 < (gs ch).length → ∃ g, p = some ⟨g, 0, none⟩) ∧ (gs ch).length ≤ c ∧ c ≤ maxLen := by
  have := (h.rows.row ch).2
  rcases this with ⟨h1, h2⟩ | ⟨g, cap, cur, h1, _, _, h5, h6, _⟩
  · exact ⟨none, 0, by rw [h1, h2], fun h => by omega, by omega, by simp [maxLen]⟩
  · exact ⟨_, cap, h1, fun _ => ⟨g, rfl⟩, h5, h6⟩
end Go.Proofs.Yteinpijbdgcehaa
