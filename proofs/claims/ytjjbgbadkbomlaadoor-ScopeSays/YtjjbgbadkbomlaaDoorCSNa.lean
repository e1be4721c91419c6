import Derived.Test.YtjjbgbadkbomlaaDoorCSM
import Derived.Orders
namespace Go.Proofs.YtjjbgbadkbomlaaDoor
open Go.RowKit Go.Maps
set_option linter.unusedVariables false
set_option linter.unusedSimpArgs false

/-! ### a region that draws its order, by what holds of what has come up -/
def unl (L : Array Bool) : Nat := L.toList.count false
theorem getD_true {L : Array Bool} {i : Nat} (h : L.getD i true = false) : ∃ h : i < L.size, L[i] = false := by
  rw [Array.getD_eq_getD_getElem?] at h
  by_cases hi : i < L.size
  · rw [Array.getElem?_eq_getElem hi] at h
    exact ⟨hi, h⟩
  · rw [Array.getElem?_eq_none (by omega)] at h
    cases h
theorem unl_set {L : Array Bool} {i : Nat} (h : L.getD i true = false) : unl (L.setIfInBounds i true) + 1 = unl L := by
  obtain ⟨hi, he⟩ := getD_true h
  unfold unl
  rw [Array.toList_setIfInBounds]
  have hl : i < L.toList.length := by simpa using hi
  have he' : L.toList[i] = false := by simpa using he
  have : 0 < L.toList.count false := List.count_pos_iff.2 (by rw [← he']; exact List.getElem_mem hl)
  rw [List.count_set hl, he']
  show L.toList.count false - (if false == false then 1 else 0) + (if true == false then 1 else 0) + 1 = _
  rw [if_pos (by rfl), if_neg (by decide)]
  omega
theorem wpAny_inv {P : Program} {ops : Array Oper} {Q : Exit → Act → World → Prop} (I : Array Bool → Act → World → Prop)
    (hstep : ∀ L a w i o, I L a w → L.getD i true = false → ops[i]? = some o → (∀ e ∈ o.after, Region.binds .any e = true → L.getD e.on false = true) → o.guard = none ∧ ∃ v w', ((execOp a.eval o).run P w = .ok (.value v) w' ∨ ((execOp a.eval o).run P w = .ok .skip w' ∧ v = undef)) ∧ I (L.setIfInBounds i true) (a.put o.dst v) w')
    (hfin : ∀ L a w, I L a w → Region.ready .any ops L = [] → Q .normal a w) : ∀ (fuel : Nat) (L : Array Bool) (a : Act) (w : World), unl L ≤ fuel → I L a w → wpAny P .any ops Q fuel L a w
  | 0, L, a, w, hf, h => by
    have hr : Region.ready .any ops L = [] := by
      rw [List.eq_nil_iff_forall_not_mem]
      intro i hi
      obtain ⟨hu, _⟩ := mem_ready.1 hi
      have := unl_set hu
      omega
    exact ⟨hr, hfin L a w h hr⟩
  | fuel + 1, L, a, w, hf, h => by
    refine ⟨fun hr => hfin L a w h hr, fun i hi => ?_⟩
    obtain ⟨hu, o, ho, hall⟩ := mem_ready.1 hi
    obtain ⟨hg, v, w', hrun, hI⟩ := hstep L a w i o h hu ho hall
    have hK := wpAny_inv I hstep hfin fuel (L.setIfInBounds i true) (a.put o.dst v) w' (by have := unl_set hu; omega) hI
    unfold wpOp
    rw [ho]
    simp only []
    rw [if_pos (by simp [Region.wanted, hg])]
    left
    unfold Oper.wp
    rcases hrun with hrun | ⟨hrun, rfl⟩
    · rw [hrun]; exact hK
    · rw [hrun]; exact hK
/-- if nothing may come up, all has -/
theorem all_listed {ops : Array Oper} {L : Array Bool} {n : Nat} (hn : ops.size = n) (hL : L.size = n) (hdown : ∀ (i : Nat) (o : Oper), ops[i]? = some o → ∀ e ∈ o.after, e.on < i) (hr : Region.ready .any ops L = []) : ∀ i, i < n → L.getD i false = true := by
  intro i
  induction i using Nat.strongRecOn with
  | ind i ih =>
    intro hi
    cases h : L.getD i false with
    | true => rfl
    | false =>
      have hio : i < ops.size := by omega
      have hmem : i ∈ Region.ready .any ops L := by
        refine mem_ready.2 ⟨?_, ops[i], Array.getElem?_eq_getElem hio, fun e he _ => ?_⟩
        · rw [Array.getD_eq_getD_getElem?, Array.getElem?_eq_getElem (by omega)] at h ⊢
          exact h
        · have := hdown i ops[i] (Array.getElem?_eq_getElem hio) e he
          exact ih e.on this (by omega)
      rw [hr] at hmem
      cases hmem
theorem L_same {L : Array Bool} {i : Nat} (h : i < L.size) : (L.setIfInBounds i true).getD i false = true := by
  rw [Array.getD_eq_getD_getElem?, Array.getElem?_setIfInBounds]
  simp [h]
theorem L_other {L : Array Bool} {i k : Nat} (h : k ≠ i) : (L.setIfInBounds i true).getD k false = L.getD k false := by
  rw [Array.getD_eq_getD_getElem?, Array.getD_eq_getD_getElem?, Array.getElem?_setIfInBounds, if_neg (fun e => h e.symm)]
def eV (a : Act) (j : Nat) : Value := a.tmps.getD j undef
theorem eV_same {a : Act} {d : Nat} {v : Value} (h : d < a.tmps.size) : eV (a.put (some d) v) d = v := by
  unfold eV Act.put
  simp only []
  rw [Array.getD_eq_getD_getElem?, Array.getElem?_setIfInBounds]
  simp [h]
theorem eV_other {a : Act} {d j : Nat} {v : Value} (h : j ≠ d) : eV (a.put (some d) v) j = eV a j := by
  unfold eV Act.put
  simp only []
  rw [Array.getD_eq_getD_getElem?, Array.getD_eq_getD_getElem?, Array.getElem?_setIfInBounds, if_neg (fun e => h e.symm)]
theorem put_size (a : Act) (d : Option Nat) (v : Value) : (a.put d v).tmps.size = a.tmps.size := by cases d <;> simp [Act.put]
theorem put_defers (a : Act) (d : Option Nat) (v : Value) : (a.put d v).defers = a.defers := by cases d <;> simp [Act.put]
end Go.Proofs.YtjjbgbadkbomlaaDoor
namespace Go.Proofs.YtjjbgbadkbomlaaDoor
open Go.RowKit Go.Maps
set_option linter.unusedVariables false
set_option linter.unusedSimpArgs false

noncomputable def nwOps : Array Oper := match Tryd.f18.body with | some (.seq _ (.seq (.region _ ops _) _)) => ops | _ => #[]
theorem nw_size : nwOps.size = 19 := by kernel_rfl
noncomputable def nwDown : Bool := (List.range 19).all fun i => match nwOps[i]? with | some o => o.after.all fun e => decide (e.on < i) | none => true
theorem nw_down (i : Nat) (o : Oper) (h : nwOps[i]? = some o) : ∀ e ∈ o.after, e.on < i := by
  have hd : nwDown = true := by kernel_rfl
  have hi : i < 19 := by rw [← nw_size]; exact (Array.getElem?_eq_some_iff.1 h).1
  unfold nwDown at hd
  rw [List.all_eq_true] at hd
  have := hd i (by simpa using hi)
  rw [h] at this
  intro e he
  have := Array.all_eq_true'.1 this e he
  simpa using this
def zerosR (N : Nat) : Array Value := madeCells #[.slice none 0 0] (N * 1)
theorem info25 : (Tryd.prog.info? 25).map (fun i => (i.zero, i.size, i.bytes)) = some (some (.slice none 0 0), 1, 24) := by kernel_rfl
theorem make_rows (w : World) (N : Nat) (hN : N ≤ 2147483647) : (Instr.makeSlice 26 (.int .i64 N) (.int .i64 N)).run Tryd.prog w = .ok (.slice (some ⟨w.heap.size, 0, none⟩) N N) (w.alloc (.cells (zerosR N) 25)) := by
  obtain ⟨i0, hi, hz0, hz1, hz2⟩ := info_parts info25
  have := run_make (P := Tryd.prog) w 26 25 i0 (.slice none 0 0) Tryd.underlying26 hi hz0 .i64 .i64 (N : Int) (N : Int) (by omega) (by omega) (by rw [hz2]; omega) (by omega)
  rw [hz1] at this
  simpa [zerosR, Value.cells] using this
def inN : ByteArray := ⟨#[105, 110, 112, 117, 116]⟩
def outN : ByteArray := ⟨#[111, 117, 116, 112, 117, 116]⟩
def nwSc (f1 f2 : Bool) (x : ByteArray) : Option Nat := if f2 = true ∧ x = outN then some 1 else if f1 = true ∧ x = inN then some 0 else none
def mnV (d : Int) : Array Value := #[.int .i64 d, .int .i64 0, .int .i64 0, .pointer none]
section
variable (w0 : World) (lv : Value) (n : Nat)
def CAt (w : World) (b : Nat) (cs : Array Value) (t : TypeId) : Prop := w0.heap.size ≤ b ∧ w.heap[b]? = some (.cells cs t (0, 0))
def F3 (v : Value) (w : World) : Prop := ∃ b, v = .slice (some ⟨b, 0, none⟩) n n ∧ CAt w0 w b (zeros n) 3
def F6 (v : Value) (w : World) : Prop := ∃ b, v = .slice (some ⟨b, 0, none⟩) n n ∧ CAt w0 w b (zerosR n) 25
def F7 (v : Value) (w : World) : Prop := ∃ x y, v = .agg #[x, y] ∧ F3 w0 n x w ∧ F6 w0 n y w
def F8 (v : Value) (w : World) (f1 f2 : Bool) : Prop := ∃ b D mB, v = .map (some b) ∧ w0.heap.size ≤ b ∧ w.ownsMap Tryd.prog 9 mnElem b (Maps.size D) D ∧ Maps.size D ≤ f1.toNat + f2.toNat ∧ ScIs (nwSc f1 f2) mB D ∧ (f1 = true → CAt w0 w (mB 0) (mnV (-2)) 63) ∧ (f2 = true → CAt w0 w (mB 1) (mnV (-3)) 63)
def FBx (d : Int) (v : Value) (w : World) : Prop := ∃ b, v = .pointer (some ⟨b, 0, none⟩) ∧ CAt w0 w b (mnV d) 63
def F16 (v : Value) (w : World) : Prop := ∃ x y z, v = .agg #[lv, x, y, .int .i64 0, .int .i64 0, z, .int .i64 0, .slice none 0 0, .slice none 0 0, .int .i64 (-1)] ∧ F3 w0 n x w ∧ F6 w0 n y w ∧ F8 w0 z w true true
def F17 (v : Value) (w : World) : Prop := ∃ b x y z, v = .pointer (some ⟨b, 0, none⟩) ∧ CAt w0 w b #[lv, x, y, .int .i64 0, .int .i64 0, z, .int .i64 0, .slice none 0 0, .slice none 0 0, .int .i64 (-1)] 56 ∧ F3 w0 n x w ∧ F6 w0 n y w ∧ F8 w0 z w true true
def nF (k : Nat) (v : Value) (w : World) (f1 f2 : Bool) : Prop :=
  match k with
  | 0 => v = lv
  | 1 => v = lv
  | 2 => v = .int .i64 n
  | 3 => F3 w0 n v w
  | 4 => v = lv
  | 5 => v = .int .i64 n
  | 6 => F6 w0 n v w
  | 7 => F7 w0 n v w
  | 8 => F8 w0 v w f1 f2
  | 9 => v = .agg (mnV (-2))
  | 10 => FBx w0 (-2) v w
  | 12 => v = .agg (mnV (-3))
  | 13 => FBx w0 (-3) v w
  | 15 => F8 w0 v w true true
  | 16 => F16 w0 lv n v w
  | 17 => F17 w0 lv n v w
  | 18 => F17 w0 lv n v w
  | _ => True
def dk (k : Nat) : Nat := [5, 6, 7, 8, 9, 10, 11, 12, 13, 14, 15, 38, 16, 17, 37, 18, 19, 20, 3].getD k 36
def dkOk : Bool := (List.range 19).all fun i => dk i != 0 && decide (dk i < 39) && (List.range 19).all fun k => k == i || dk k != dk i
theorem dk_ok (i : Nat) (hi : i < 19) : dk i ≠ 0 ∧ dk i < 39 ∧ ∀ k, k < 19 → k ≠ i → dk k ≠ dk i := by
  have hd : dkOk = true := by kernel_rfl
  unfold dkOk at hd
  rw [List.all_eq_true] at hd
  have := hd i (by simpa using hi)
  simp only [Bool.and_eq_true, bne_iff_ne, decide_eq_true_eq, List.all_eq_true, Bool.or_eq_true, beq_iff_eq] at this
  refine ⟨this.1.1, this.1.2, fun k hk hne => ?_⟩
  rcases this.2 k (by simpa using hk) with h | h
  · exact absurd h hne
  · exact h
variable {w0 lv n}
theorem CAt.hold {w w' : World} {b : Nat} {cs : Array Value} {t : TypeId} (h : CAt w0 w b cs t) (hh : ∀ (b : Nat) cs t, w.heap[b]? = some (.cells cs t (0, 0)) → w'.heap[b]? = some (.cells cs t (0, 0))) : CAt w0 w' b cs t := ⟨h.1, hh _ _ _ h.2⟩
theorem F3.hold {w w' : World} {v : Value} (h : F3 w0 n v w) (hh : ∀ (b : Nat) cs t, w.heap[b]? = some (.cells cs t (0, 0)) → w'.heap[b]? = some (.cells cs t (0, 0))) : F3 w0 n v w' := by obtain ⟨b, e, c⟩ := h; exact ⟨b, e, c.hold hh⟩
theorem F6.hold {w w' : World} {v : Value} (h : F6 w0 n v w) (hh : ∀ (b : Nat) cs t, w.heap[b]? = some (.cells cs t (0, 0)) → w'.heap[b]? = some (.cells cs t (0, 0))) : F6 w0 n v w' := by obtain ⟨b, e, c⟩ := h; exact ⟨b, e, c.hold hh⟩
theorem F7.hold {w w' : World} {v : Value} (h : F7 w0 n v w) (hh : ∀ (b : Nat) cs t, w.heap[b]? = some (.cells cs t (0, 0)) → w'.heap[b]? = some (.cells cs t (0, 0))) : F7 w0 n v w' := by obtain ⟨x, y, e, c, d⟩ := h; exact ⟨x, y, e, c.hold hh, d.hold hh⟩
theorem FBx.hold {w w' : World} {v : Value} {d : Int} (h : FBx w0 d v w) (hh : ∀ (b : Nat) cs t, w.heap[b]? = some (.cells cs t (0, 0)) → w'.heap[b]? = some (.cells cs t (0, 0))) : FBx w0 d v w' := by obtain ⟨b, e, c⟩ := h; exact ⟨b, e, c.hold hh⟩
theorem F8.hold {w w' : World} {v : Value} {f1 f2 : Bool} (h : F8 w0 v w f1 f2) (hh : ∀ (b : Nat) o, w.heap[b]? = some o → w'.heap[b]? = some o) : F8 w0 v w' f1 f2 := by
  obtain ⟨b, D, mB, e, h1, h2, h3, h4, h5, h6⟩ := h
  refine ⟨b, D, mB, e, h1, ?_, h3, h4, fun h => (h5 h).hold fun b cs t => hh b _, fun h => (h6 h).hold fun b cs t => hh b _⟩
  obtain ⟨es, clock, hb, r⟩ := h2
  exact ⟨es, clock, hh _ _ hb, r⟩
theorem F16.hold {w w' : World} {v : Value} (h : F16 w0 lv n v w) (hh : ∀ (b : Nat) o, w.heap[b]? = some o → w'.heap[b]? = some o) : F16 w0 lv n v w' := by
  obtain ⟨x, y, z, e, a, b, c⟩ := h
  exact ⟨x, y, z, e, a.hold fun b cs t => hh b _, b.hold fun b cs t => hh b _, c.hold hh⟩
theorem F17.hold {w w' : World} {v : Value} (h : F17 w0 lv n v w) (hh : ∀ (b : Nat) o, w.heap[b]? = some o → w'.heap[b]? = some o) : F17 w0 lv n v w' := by
  obtain ⟨d, x, y, z, e, k, a, b, c⟩ := h
  exact ⟨d, x, y, z, e, k.hold fun b cs t => hh b _, a.hold fun b cs t => hh b _, b.hold fun b cs t => hh b _, c.hold hh⟩
theorem nF_hold {k : Nat} {w w' : World} {v : Value} {f1 f2 : Bool} (h : nF w0 lv n k v w f1 f2) (hh : ∀ (b : Nat) o, w.heap[b]? = some o → w'.heap[b]? = some o) : nF w0 lv n k v w' f1 f2 := by
  have hc : ∀ (b : Nat) cs t, w.heap[b]? = some (.cells cs t (0, 0)) → w'.heap[b]? = some (.cells cs t (0, 0)) := fun b cs t => hh b _
  unfold nF at h ⊢
  split at h <;> first | exact h | exact F3.hold h hc | exact F6.hold h hc | exact F7.hold h hc | exact F8.hold h hh | exact FBx.hold h hc | exact F16.hold h hh | exact F17.hold h hh | (split <;> first | trivial | simp_all)
theorem nF_cells {k : Nat} {w w' : World} {v : Value} {f1 f2 g1 g2 : Bool} (h : nF w0 lv n k v w f1 f2) (hk : k ≠ 8 ∧ k ≠ 15 ∧ k ≠ 16 ∧ k ≠ 17 ∧ k ≠ 18) (hc : ∀ (b : Nat) cs t, w.heap[b]? = some (.cells cs t (0, 0)) → w'.heap[b]? = some (.cells cs t (0, 0))) : nF w0 lv n k v w' g1 g2 := by
  obtain ⟨k1, k2, k3, k4, k5⟩ := hk
  unfold nF at h ⊢
  split at h <;> first | exact h | exact F3.hold h hc | exact F6.hold h hc | exact F7.hold h hc | exact FBx.hold h hc | exact absurd rfl k1 | exact absurd rfl k2 | exact absurd rfl k3 | exact absurd rfl k4 | exact absurd rfl k5 | (split <;> first | trivial | simp_all)
variable (w0 lv n)
/-- what holds in the midst of the statement -/
structure NwI (L : Array Bool) (a : Act) (w : World) : Prop where
  Lsz : L.size = 19
  asz : a.tmps.size = 39
  df : a.defers = []
  bel : Below w0.heap.size w0 w
  x0 : eV a 0 = lv
  fk : ∀ k, k < 19 → L.getD k false = true → nF w0 lv n k (eV a (dk k)) w (L.getD 11 false) (L.getD 14 false)
  c11 : L.getD 11 false = true → L.getD 8 false = true
  c14 : L.getD 14 false = true → L.getD 8 false = true
  c15 : L.getD 15 false = true → L.getD 11 false = true ∧ L.getD 14 false = true
  c16 : L.getD 16 false = true → L.getD 15 false = true
  c17 : L.getD 17 false = true → L.getD 16 false = true
  c18 : L.getD 18 false = true → L.getD 17 false = true
variable {w0 lv n}
theorem NwI.put {L : Array Bool} {a : Act} {w w' : World} (h : NwI w0 lv n L a w) {i : Nat} {v : Value} (hi : i < 19) (hi1 : i ≠ 11) (hi2 : i ≠ 14) (hh : ∀ (b : Nat) o, w.heap[b]? = some o → w'.heap[b]? = some o) (hb : Below w0.heap.size w0 w') (hnew : nF w0 lv n i v w' (L.getD 11 false) (L.getD 14 false))
    (e15 : i = 15 → L.getD 11 false = true ∧ L.getD 14 false = true) (e16 : i = 16 → L.getD 15 false = true) (e17 : i = 17 → L.getD 16 false = true) (e18 : i = 18 → L.getD 17 false = true) : NwI w0 lv n (L.setIfInBounds i true) (a.put (some (dk i)) v) w' := by
  obtain ⟨d0, d1, d2⟩ := dk_ok i hi
  have hL : ∀ k, (L.setIfInBounds i true).getD k false = true → k = i ∨ L.getD k false = true := fun k hk => by
    by_cases e : k = i
    · exact .inl e
    · rw [L_other e] at hk; exact .inr hk
  have hup : ∀ k, L.getD k false = true → (L.setIfInBounds i true).getD k false = true := fun k hk => by
    by_cases e : k = i
    · rw [e]; exact L_same (by rw [h.Lsz]; exact hi)
    · rw [L_other e]; exact hk
  refine ⟨by simp [h.Lsz], by rw [put_size]; exact h.asz, by rw [put_defers]; exact h.df, hb, by rw [eV_other (Ne.symm d0)]; exact h.x0, fun k hk hl => ?_, fun hl => hup _ (h.c11 (by rw [L_other (Ne.symm hi1)] at hl; exact hl)), fun hl => hup _ (h.c14 (by rw [L_other (Ne.symm hi2)] at hl; exact hl)), fun hl => ?_, fun hl => ?_, fun hl => ?_, fun hl => ?_⟩
  · rw [L_other (Ne.symm hi1), L_other (Ne.symm hi2)]
    by_cases e : k = i
    · subst e
      rw [eV_same (by rw [h.asz]; exact d1)]
      exact hnew
    · rw [eV_other (d2 k hk e)]
      rw [L_other e] at hl
      exact nF_hold (h.fk k hk hl) hh
  · rcases hL _ hl with e | e
    · exact ⟨hup _ (e15 e.symm).1, hup _ (e15 e.symm).2⟩
    · exact ⟨hup _ (h.c15 e).1, hup _ (h.c15 e).2⟩
  · rcases hL _ hl with e | e
    · exact hup _ (e16 e.symm)
    · exact hup _ (h.c16 e)
  · rcases hL _ hl with e | e
    · exact hup _ (e17 e.symm)
    · exact hup _ (h.c17 e)
  · rcases hL _ hl with e | e
    · exact hup _ (e18 e.symm)
    · exact hup _ (h.c18 e)
end
end Go.Proofs.YtjjbgbadkbomlaaDoor
