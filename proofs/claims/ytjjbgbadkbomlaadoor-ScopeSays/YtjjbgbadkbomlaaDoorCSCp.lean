import Derived.Test.YtjjbgbadkbomlaaDoorCSTk
namespace Go.Proofs.YtjjbgbadkbomlaaDoor
open Go.RowKit Go.Maps
set_option linter.unusedVariables false
set_option linter.unusedSimpArgs false

section
variable {ρ : Operand → Value} {o : Oper} {P : Program} {w w' : World} {v : Value}
theorem ex_func {f : Fn} {fs cs : Array Operand} (h : o.op = .makeFunc f fs cs) (hr : (Instr.makeFunc f (fs.map ρ) (cs.map ρ)).run P w = .ok v w') : (execOp ρ o).run P w = .ok (.value v) w' := by unfold execOp; rw [h]; exact ex_v hr
theorem ex_slice {t : TypeId} {x : Operand} {lo hi mx : Option Operand} (h : o.op = .slice t x lo hi mx) (hr : (Instr.sliceAt t (ρ x) (lo.map ρ) (hi.map ρ) (mx.map ρ)).run P w = .ok v w') : (execOp ρ o).run P w = .ok (.value v) w' := by unfold execOp; rw [h]; exact ex_v hr
end
noncomputable def CpOps : Array Oper := match Tryd.f41.body with | some (.seq _ (.seq _ (.seq _ (.seq (.region _ ops _) _)))) => ops | _ => #[]
theorem Cp_size : CpOps.size = 11 := by kernel_rfl
noncomputable def CpDown : Bool := (List.range 11).all fun i => match CpOps[i]? with | some o => o.after.all fun e => decide (e.on < i) | none => true
theorem Cp_down (i : Nat) (o : Oper) (h : CpOps[i]? = some o) : ∀ e ∈ o.after, e.on < i := by
  have hd : CpDown = true := by kernel_rfl
  have hi : i < 11 := by rw [← Cp_size]; exact (Array.getElem?_eq_some_iff.1 h).1
  unfold CpDown at hd
  rw [List.all_eq_true] at hd
  have := hd i (by simpa using hi)
  rw [h] at this
  intro e he
  have := Array.all_eq_true'.1 this e he
  simpa using this
structure CpQ where
  wb : Nat
  ga : Option Addr
  n : Nat
  gc : Nat
  wc : Nat
  pc : Nat
  tc : Nat
  fn : Value
  ar : Value
structure CpS (q : CpQ) (w : World) : Prop where
  a1 : w.cell? ⟨q.wc, 0, none⟩ = some (.pointer (some ⟨q.wb, 0, none⟩))
  a2 : w.cell? ⟨q.wb, 8, none⟩ = some (.slice q.ga q.n q.gc)
  f2 : w.frozen? ⟨q.wb, 8, none⟩ = false
abbrev CpQ.sa (q : CpQ) : Addr := ⟨q.wb, 8, none⟩
abbrev CpQ.fv (q : CpQ) : Value := .func (.func 59) #[] #[.pointer (some ⟨q.wc, 0, none⟩), .pointer (some ⟨q.pc, 0, none⟩), .pointer (some ⟨q.tc, 0, none⟩)]
def CpV (q : CpQ) (w0 : World) (k : Nat) : Value :=
  match k with
  | 0 => .pointer (some ⟨q.wb, 0, none⟩)
  | 1 => .pointer (some ⟨q.wb, 0, none⟩)
  | 2 => .pointer (some ⟨q.wb, 0, none⟩)
  | 3 => .pointer (some ⟨q.wb, 8, none⟩)
  | 4 => .slice q.ga q.n q.gc
  | 5 => .func (.func 59) #[] #[.pointer (some ⟨q.wc, 0, none⟩), .pointer (some ⟨q.pc, 0, none⟩), .pointer (some ⟨q.tc, 0, none⟩)]
  | 6 => .slice (some ⟨w0.heap.size, 0, none⟩) 1 1
  | 8 => .pointer (some ⟨q.wb, 0, none⟩)
  | 9 => .pointer (some ⟨q.wb, 8, none⟩)
  | _ => undef
def Cpdk (k : Nat) : Nat := [15, 16, 17, 18, 19, 20, 21, 22, 23, 24, 46].getD k 47
def CpdkOk : Bool := (List.range 11).all fun i => Cpdk i != 2 && Cpdk i != 3 && Cpdk i != 4 && Cpdk i != 6 && Cpdk i != 7 && decide (Cpdk i < 47) && (List.range 11).all fun k => k == i || Cpdk k != Cpdk i
theorem Cpdk_ok (i : Nat) (hi : i < 11) : (Cpdk i ≠ 2 ∧ Cpdk i ≠ 3 ∧ Cpdk i ≠ 4 ∧ Cpdk i ≠ 6 ∧ Cpdk i ≠ 7) ∧ Cpdk i < 47 ∧ ∀ k, k < 11 → k ≠ i → Cpdk k ≠ Cpdk i := by
  have hd : CpdkOk = true := by kernel_rfl
  unfold CpdkOk at hd
  rw [List.all_eq_true] at hd
  have := hd i (by simpa using hi)
  simp only [Bool.and_eq_true, bne_iff_ne, decide_eq_true_eq, List.all_eq_true, Bool.or_eq_true, beq_iff_eq] at this
  refine ⟨by simp [this], this.1.2, fun k hk hne => ?_⟩
  rcases this.2 k (by simpa using hk) with h | h
  · exact absurd h hne
  · exact h
structure CpI (q : CpQ) (w0 w1 : World) (A : Nat → Nat → World → Prop) (L : Array Bool) (a : Act) (w : World) : Prop where
  Lsz : L.size = 11
  asz : a.tmps.size = 47
  df : a.defers = []
  x2 : eV a 2 = q.fn
  x3 : eV a 3 = .pointer (some ⟨q.wc, 0, none⟩)
  x4 : eV a 4 = .pointer (some ⟨q.pc, 0, none⟩)
  x6 : eV a 6 = q.ar
  x7 : eV a 7 = .pointer (some ⟨q.tc, 0, none⟩)
  fk : ∀ k, k < 11 → k ≠ 7 → k ≠ 10 → L.getD k false = true → eV a (Cpdk k) = CpV q w0 k
  wa : L.getD 6 false = false → w = w0
  wb : L.getD 6 false = true → L.getD 7 false = false → w = w1
  wc : L.getD 7 false = true → L.getD 10 false = false → ∃ g cap, eV a 22 = (.slice (some ⟨g, 0, none⟩) (q.n + 1) cap) ∧ A g cap w
  wd : L.getD 10 false = true → ∃ g cap W3, A g cap W3 ∧ w = W3.setCell q.sa (.slice (some ⟨g, 0, none⟩) (q.n + 1) cap)
  c19 : L.getD 7 false = true → L.getD 6 false = true
  c21 : L.getD 10 false = true → ∀ k, k < 10 → L.getD k false = true
  ch : L.getD 9 false = true → L.getD 8 false = true
section
variable {q : CpQ} {w0 w1 : World} {A : Nat → Nat → World → Prop} {L : Array Bool} {a : Act} {w : World}
theorem CpI.no21 (h : CpI q w0 w1 A L a w) {i : Nat} (hi : i < 10) (hu : L.getD i true = false) : L.getD 10 false = false := by
  cases e : L.getD 10 false with
  | false => rfl
  | true => have := h.c21 e i hi; rw [ff hu] at this; cases this
theorem CpI.cells (h : CpI q w0 w1 A L a w) (h0 : CpS q w0) (h1 : CpS q w1) (hA : ∀ g cap W3, A g cap W3 → CpS q W3) (h21 : L.getD 10 false = false) : CpS q w := by
  cases e : L.getD 6 false with
  | false => rw [h.wa e]; exact h0
  | true =>
    cases e2 : L.getD 7 false with
    | false => rw [h.wb e e2]; exact h1
    | true => obtain ⟨g, cap, _, hh⟩ := h.wc e2 h21; exact hA g cap w hh
theorem CpI.put (h : CpI q w0 w1 A L a w) {i : Nat} (hi : i < 10) (hi1 : i ≠ 6) (hi2 : i ≠ 7) (hu : L.getD i true = false) (hch : i = 9 → L.getD 8 false = true) : CpI q w0 w1 A (L.setIfInBounds i true) (a.put (some (Cpdk i)) (CpV q w0 i)) w := by
  obtain ⟨⟨m2, m3, m4, m6, m7⟩, d1, d2⟩ := Cpdk_ok i (by omega)
  have h21 := h.no21 hi hu
  have o21 : (L.setIfInBounds i true).getD 10 false = L.getD 10 false := L_other (by omega)
  have o18 : (L.setIfInBounds i true).getD 6 false = L.getD 6 false := L_other (Ne.symm hi1)
  have o19 : (L.setIfInBounds i true).getD 7 false = L.getD 7 false := L_other (Ne.symm hi2)
  have hn24 : Cpdk i ≠ 22 := fun e => d2 7 (by decide) (Ne.symm hi2) (by rw [e]; rfl)
  refine ⟨by simp [h.Lsz], by rw [put_size]; exact h.asz, by rw [put_defers]; exact h.df, (eV_other (Ne.symm m2)).trans h.x2, (eV_other (Ne.symm m3)).trans h.x3, (eV_other (Ne.symm m4)).trans h.x4, (eV_other (Ne.symm m6)).trans h.x6, (eV_other (Ne.symm m7)).trans h.x7, fun k hk h7 h10 hl => ?_, fun e => h.wa (by rw [← o18]; exact e), fun e e2 => h.wb (by rw [← o18]; exact e) (by rw [← o19]; exact e2), fun e e2 => ?_, fun e => ?_, fun e => by rw [o18]; exact h.c19 (by rw [← o19]; exact e), fun e => ?_, fun e => ?_⟩
  · by_cases e : k = i
    · subst e; exact eV_same (by rw [h.asz]; exact d1)
    · rw [L_other e] at hl
      exact (eV_other (d2 k hk e)).trans (h.fk k hk h7 h10 hl)
  · rw [eV_other (Ne.symm hn24)]
    exact h.wc (by rw [← o19]; exact e) (by rw [← o21]; exact e2)
  · rw [o21, h21] at e; cases e
  · rw [o21, h21] at e; cases e
  · have hup : ∀ k, L.getD k false = true → (L.setIfInBounds i true).getD k false = true := fun k hk => by
      by_cases e : k = i
      · rw [e]; exact L_same (by rw [h.Lsz]; omega)
      · rw [L_other e]; exact hk
    by_cases e9 : i = 9
    · exact hup _ (hch e9)
    · rw [L_other (Ne.symm e9)] at e; exact hup _ (h.ch e)
end
theorem Cpo0 : ∃ o, CpOps[0]? = some o ∧ o.op = .load 49 (.tmp 3) ∧ o.dst = some 15 ∧ o.guard = none := ⟨_, rfl, rfl, rfl, rfl⟩
theorem Cpo1 : ∃ o, CpOps[1]? = some o ∧ o.op = .load 49 (.tmp 3) ∧ o.dst = some 16 ∧ o.guard = none := ⟨_, rfl, rfl, rfl, rfl⟩
theorem Cpo2 : ∃ o, CpOps[2]? = some o ∧ o.op = .nilCheck (.tmp 16) ∧ o.dst = some 17 ∧ o.guard = none ∧ (o.after.any fun e => e.on == 1 && Region.binds .any e) = true := ⟨_, rfl, rfl, rfl, rfl, by kernel_rfl⟩
theorem Cpo3 : ∃ o, CpOps[3]? = some o ∧ o.op = .fieldAddr 56 (.tmp 17) 6 ∧ o.dst = some 18 ∧ o.guard = none ∧ (o.after.any fun e => e.on == 2 && Region.binds .any e) = true := ⟨_, rfl, rfl, rfl, rfl, by kernel_rfl⟩
theorem Cpo4 : ∃ o, CpOps[4]? = some o ∧ o.op = .load 54 (.tmp 18) ∧ o.dst = some 19 ∧ o.guard = none ∧ (o.after.any fun e => e.on == 3 && Region.binds .any e) = true := ⟨_, rfl, rfl, rfl, rfl, by kernel_rfl⟩
theorem Cpo5 : ∃ o, CpOps[5]? = some o ∧ o.op = .makeFunc (.func 59) #[] #[.tmp 3, .tmp 4, .tmp 7] ∧ o.dst = some 20 ∧ o.guard = none := ⟨_, rfl, rfl, rfl, rfl⟩
theorem Cpo6 : ∃ o, CpOps[6]? = some o ∧ o.op = .buildSlice 54 1 #[(0, .tmp 20)] ∧ o.dst = some 21 ∧ o.guard = none ∧ (o.after.any fun e => e.on == 5 && Region.binds .any e) = true := ⟨_, rfl, rfl, rfl, rfl, by kernel_rfl⟩
theorem Cpo7 : ∃ o, CpOps[7]? = some o ∧ o.op = .call { callee := .builtin .append, args := #[.tmp 19, .tmp 21], argTypes := #[54, 54] } ∧ o.dst = some 22 ∧ o.guard = none ∧ (o.after.any fun e => e.on == 4 && Region.binds .any e) = true ∧ (o.after.any fun e => e.on == 6 && Region.binds .any e) = true := ⟨_, rfl, rfl, rfl, rfl, by kernel_rfl, by kernel_rfl⟩
theorem Cpo8 : ∃ o, CpOps[8]? = some o ∧ o.op = .nilCheck (.tmp 15) ∧ o.dst = some 23 ∧ o.guard = none ∧ (o.after.any fun e => e.on == 0 && Region.binds .any e) = true := ⟨_, rfl, rfl, rfl, rfl, by kernel_rfl⟩
theorem Cpo9 : ∃ o, CpOps[9]? = some o ∧ o.op = .fieldAddr 56 (.tmp 23) 6 ∧ o.dst = some 24 ∧ o.guard = none ∧ (o.after.any fun e => e.on == 8 && Region.binds .any e) = true := ⟨_, rfl, rfl, rfl, rfl, by kernel_rfl⟩
theorem Cpo10 : ∃ o, CpOps[10]? = some o ∧ o.op = .store 54 (.tmp 24) (.tmp 22) ∧ o.dst = none ∧ o.guard = none ∧ (o.after.any fun e => e.on == 9 && Region.binds .any e) = true ∧ (o.after.any fun e => e.on == 7 && Region.binds .any e) = true ∧ (o.after.any fun e => e.on == 0 && Region.binds .any e) = true ∧ (o.after.any fun e => e.on == 1 && Region.binds .any e) = true ∧ (o.after.any fun e => e.on == 2 && Region.binds .any e) = true ∧ (o.after.any fun e => e.on == 3 && Region.binds .any e) = true ∧ (o.after.any fun e => e.on == 4 && Region.binds .any e) = true ∧ (o.after.any fun e => e.on == 5 && Region.binds .any e) = true ∧ (o.after.any fun e => e.on == 6 && Region.binds .any e) = true := ⟨_, rfl, rfl, rfl, rfl, by kernel_rfl, by kernel_rfl, by kernel_rfl, by kernel_rfl, by kernel_rfl, by kernel_rfl, by kernel_rfl, by kernel_rfl, by kernel_rfl⟩
theorem Cp_step0 {q : CpQ} {w0 w1 : World} {A : Nat → Nat → World → Prop} (h0 : CpS q w0) (h1 : CpS q w1) (hA : ∀ g cap W3, A g cap W3 → CpS q W3) (hw1 : w0.alloc (.cells #[q.fv] 73) = w1)
    (HA : ∀ ty, ∃ g cap W3, (Builtin.append_ #[54, 54] ty #[.slice q.ga q.n q.gc, .slice (some ⟨w0.heap.size, 0, none⟩) 1 1]).run Tryd.prog w1 = .ok (.slice (some ⟨g, 0, none⟩) (q.n + 1) cap) W3 ∧ A g cap W3)
    {L : Array Bool} {a : Act} {w : World} {o : Oper} (h : CpI q w0 w1 A L a w) (hu : L.getD 0 true = false) (ho : CpOps[0]? = some o) (hall : ∀ e ∈ o.after, Region.binds .any e = true → L.getD e.on false = true) :
    o.guard = none ∧ ∃ v w', ((execOp a.eval o).run Tryd.prog w = .ok (.value v) w' ∨ ((execOp a.eval o).run Tryd.prog w = .ok .skip w' ∧ v = undef)) ∧ CpI q w0 w1 A (L.setIfInBounds 0 true) (a.put o.dst v) w' := by
  obtain ⟨o', ho', hop, hdst, hg⟩ := Cpo0
  rw [ho] at ho'
  cases ho'
  refine ⟨hg, ?_⟩
  rw [hdst]
  have hS := h.cells h0 h1 hA (h.no21 (by decide) hu)
  have hrun : (execOp a.eval o).run Tryd.prog w = .ok (.value (CpV q w0 0)) w := ex_load hop (by rw [show a.eval (.tmp 3) = _ from h.x3]; have := hS.a1; unfold CpV; go_simp)
  exact ⟨CpV q w0 0, w, .inl hrun, h.put (i := 0) (by decide) (by decide) (by decide) hu (fun e => absurd e (by decide))⟩
theorem Cp_step1 {q : CpQ} {w0 w1 : World} {A : Nat → Nat → World → Prop} (h0 : CpS q w0) (h1 : CpS q w1) (hA : ∀ g cap W3, A g cap W3 → CpS q W3) (hw1 : w0.alloc (.cells #[q.fv] 73) = w1)
    (HA : ∀ ty, ∃ g cap W3, (Builtin.append_ #[54, 54] ty #[.slice q.ga q.n q.gc, .slice (some ⟨w0.heap.size, 0, none⟩) 1 1]).run Tryd.prog w1 = .ok (.slice (some ⟨g, 0, none⟩) (q.n + 1) cap) W3 ∧ A g cap W3)
    {L : Array Bool} {a : Act} {w : World} {o : Oper} (h : CpI q w0 w1 A L a w) (hu : L.getD 1 true = false) (ho : CpOps[1]? = some o) (hall : ∀ e ∈ o.after, Region.binds .any e = true → L.getD e.on false = true) :
    o.guard = none ∧ ∃ v w', ((execOp a.eval o).run Tryd.prog w = .ok (.value v) w' ∨ ((execOp a.eval o).run Tryd.prog w = .ok .skip w' ∧ v = undef)) ∧ CpI q w0 w1 A (L.setIfInBounds 1 true) (a.put o.dst v) w' := by
  obtain ⟨o', ho', hop, hdst, hg⟩ := Cpo1
  rw [ho] at ho'
  cases ho'
  refine ⟨hg, ?_⟩
  rw [hdst]
  have hS := h.cells h0 h1 hA (h.no21 (by decide) hu)
  have hrun : (execOp a.eval o).run Tryd.prog w = .ok (.value (CpV q w0 1)) w := ex_load hop (by rw [show a.eval (.tmp 3) = _ from h.x3]; have := hS.a1; unfold CpV; go_simp)
  exact ⟨CpV q w0 1, w, .inl hrun, h.put (i := 1) (by decide) (by decide) (by decide) hu (fun e => absurd e (by decide))⟩
theorem Cp_step2 {q : CpQ} {w0 w1 : World} {A : Nat → Nat → World → Prop} (h0 : CpS q w0) (h1 : CpS q w1) (hA : ∀ g cap W3, A g cap W3 → CpS q W3) (hw1 : w0.alloc (.cells #[q.fv] 73) = w1)
    (HA : ∀ ty, ∃ g cap W3, (Builtin.append_ #[54, 54] ty #[.slice q.ga q.n q.gc, .slice (some ⟨w0.heap.size, 0, none⟩) 1 1]).run Tryd.prog w1 = .ok (.slice (some ⟨g, 0, none⟩) (q.n + 1) cap) W3 ∧ A g cap W3)
    {L : Array Bool} {a : Act} {w : World} {o : Oper} (h : CpI q w0 w1 A L a w) (hu : L.getD 2 true = false) (ho : CpOps[2]? = some o) (hall : ∀ e ∈ o.after, Region.binds .any e = true → L.getD e.on false = true) :
    o.guard = none ∧ ∃ v w', ((execOp a.eval o).run Tryd.prog w = .ok (.value v) w' ∨ ((execOp a.eval o).run Tryd.prog w = .ok .skip w' ∧ v = undef)) ∧ CpI q w0 w1 A (L.setIfInBounds 2 true) (a.put o.dst v) w' := by
  obtain ⟨o', ho', hop, hdst, hg, d1⟩ := Cpo2
  rw [ho] at ho'
  cases ho'
  have l1 := dep_of d1 hall
  refine ⟨hg, ?_⟩
  rw [hdst]
  have q16 : a.eval (.tmp 16) = CpV q w0 1 := h.fk 1 (by decide) (by decide) (by decide) l1
  have hrun : (execOp a.eval o).run Tryd.prog w = .ok (.value (CpV q w0 2)) w := ex_nil hop q16
  exact ⟨CpV q w0 2, w, .inl hrun, h.put (i := 2) (by decide) (by decide) (by decide) hu (fun e => absurd e (by decide))⟩
theorem Cp_step3 {q : CpQ} {w0 w1 : World} {A : Nat → Nat → World → Prop} (h0 : CpS q w0) (h1 : CpS q w1) (hA : ∀ g cap W3, A g cap W3 → CpS q W3) (hw1 : w0.alloc (.cells #[q.fv] 73) = w1)
    (HA : ∀ ty, ∃ g cap W3, (Builtin.append_ #[54, 54] ty #[.slice q.ga q.n q.gc, .slice (some ⟨w0.heap.size, 0, none⟩) 1 1]).run Tryd.prog w1 = .ok (.slice (some ⟨g, 0, none⟩) (q.n + 1) cap) W3 ∧ A g cap W3)
    {L : Array Bool} {a : Act} {w : World} {o : Oper} (h : CpI q w0 w1 A L a w) (hu : L.getD 3 true = false) (ho : CpOps[3]? = some o) (hall : ∀ e ∈ o.after, Region.binds .any e = true → L.getD e.on false = true) :
    o.guard = none ∧ ∃ v w', ((execOp a.eval o).run Tryd.prog w = .ok (.value v) w' ∨ ((execOp a.eval o).run Tryd.prog w = .ok .skip w' ∧ v = undef)) ∧ CpI q w0 w1 A (L.setIfInBounds 3 true) (a.put o.dst v) w' := by
  obtain ⟨o', ho', hop, hdst, hg, d2⟩ := Cpo3
  rw [ho] at ho'
  cases ho'
  have l2 := dep_of d2 hall
  refine ⟨hg, ?_⟩
  rw [hdst]
  have q17 : a.eval (.tmp 17) = CpV q w0 2 := h.fk 2 (by decide) (by decide) (by decide) l2
  have hrun : (execOp a.eval o).run Tryd.prog w = .ok (.value (CpV q w0 3)) w := ex_fieldAddr hop (by rw [q17]; unfold CpV; go_simp)
  exact ⟨CpV q w0 3, w, .inl hrun, h.put (i := 3) (by decide) (by decide) (by decide) hu (fun e => absurd e (by decide))⟩
theorem Cp_step4 {q : CpQ} {w0 w1 : World} {A : Nat → Nat → World → Prop} (h0 : CpS q w0) (h1 : CpS q w1) (hA : ∀ g cap W3, A g cap W3 → CpS q W3) (hw1 : w0.alloc (.cells #[q.fv] 73) = w1)
    (HA : ∀ ty, ∃ g cap W3, (Builtin.append_ #[54, 54] ty #[.slice q.ga q.n q.gc, .slice (some ⟨w0.heap.size, 0, none⟩) 1 1]).run Tryd.prog w1 = .ok (.slice (some ⟨g, 0, none⟩) (q.n + 1) cap) W3 ∧ A g cap W3)
    {L : Array Bool} {a : Act} {w : World} {o : Oper} (h : CpI q w0 w1 A L a w) (hu : L.getD 4 true = false) (ho : CpOps[4]? = some o) (hall : ∀ e ∈ o.after, Region.binds .any e = true → L.getD e.on false = true) :
    o.guard = none ∧ ∃ v w', ((execOp a.eval o).run Tryd.prog w = .ok (.value v) w' ∨ ((execOp a.eval o).run Tryd.prog w = .ok .skip w' ∧ v = undef)) ∧ CpI q w0 w1 A (L.setIfInBounds 4 true) (a.put o.dst v) w' := by
  obtain ⟨o', ho', hop, hdst, hg, d3⟩ := Cpo4
  rw [ho] at ho'
  cases ho'
  have l3 := dep_of d3 hall
  refine ⟨hg, ?_⟩
  rw [hdst]
  have q18 : a.eval (.tmp 18) = CpV q w0 3 := h.fk 3 (by decide) (by decide) (by decide) l3
  have hS := h.cells h0 h1 hA (h.no21 (by decide) hu)
  have hrun : (execOp a.eval o).run Tryd.prog w = .ok (.value (CpV q w0 4)) w := ex_load hop (by rw [q18]; have := hS.a2; unfold CpV; go_simp)
  exact ⟨CpV q w0 4, w, .inl hrun, h.put (i := 4) (by decide) (by decide) (by decide) hu (fun e => absurd e (by decide))⟩
theorem Cp_step5 {q : CpQ} {w0 w1 : World} {A : Nat → Nat → World → Prop} (h0 : CpS q w0) (h1 : CpS q w1) (hA : ∀ g cap W3, A g cap W3 → CpS q W3) (hw1 : w0.alloc (.cells #[q.fv] 73) = w1)
    (HA : ∀ ty, ∃ g cap W3, (Builtin.append_ #[54, 54] ty #[.slice q.ga q.n q.gc, .slice (some ⟨w0.heap.size, 0, none⟩) 1 1]).run Tryd.prog w1 = .ok (.slice (some ⟨g, 0, none⟩) (q.n + 1) cap) W3 ∧ A g cap W3)
    {L : Array Bool} {a : Act} {w : World} {o : Oper} (h : CpI q w0 w1 A L a w) (hu : L.getD 5 true = false) (ho : CpOps[5]? = some o) (hall : ∀ e ∈ o.after, Region.binds .any e = true → L.getD e.on false = true) :
    o.guard = none ∧ ∃ v w', ((execOp a.eval o).run Tryd.prog w = .ok (.value v) w' ∨ ((execOp a.eval o).run Tryd.prog w = .ok .skip w' ∧ v = undef)) ∧ CpI q w0 w1 A (L.setIfInBounds 5 true) (a.put o.dst v) w' := by
  obtain ⟨o', ho', hop, hdst, hg⟩ := Cpo5
  rw [ho] at ho'
  cases ho'
  refine ⟨hg, ?_⟩
  rw [hdst]
  have hrun : (execOp a.eval o).run Tryd.prog w = .ok (.value (CpV q w0 5)) w := ex_func hop (by simp only [List.map_toArray, List.map_cons, List.map_nil, show a.eval (.tmp 3) = _ from h.x3, show a.eval (.tmp 4) = _ from h.x4, show a.eval (.tmp 7) = _ from h.x7]; rfl)
  exact ⟨CpV q w0 5, w, .inl hrun, h.put (i := 5) (by decide) (by decide) (by decide) hu (fun e => absurd e (by decide))⟩
theorem Cp_step6 {q : CpQ} {w0 w1 : World} {A : Nat → Nat → World → Prop} (h0 : CpS q w0) (h1 : CpS q w1) (hA : ∀ g cap W3, A g cap W3 → CpS q W3) (hw1 : w0.alloc (.cells #[q.fv] 73) = w1)
    (HA : ∀ ty, ∃ g cap W3, (Builtin.append_ #[54, 54] ty #[.slice q.ga q.n q.gc, .slice (some ⟨w0.heap.size, 0, none⟩) 1 1]).run Tryd.prog w1 = .ok (.slice (some ⟨g, 0, none⟩) (q.n + 1) cap) W3 ∧ A g cap W3)
    {L : Array Bool} {a : Act} {w : World} {o : Oper} (h : CpI q w0 w1 A L a w) (hu : L.getD 6 true = false) (ho : CpOps[6]? = some o) (hall : ∀ e ∈ o.after, Region.binds .any e = true → L.getD e.on false = true) :
    o.guard = none ∧ ∃ v w', ((execOp a.eval o).run Tryd.prog w = .ok (.value v) w' ∨ ((execOp a.eval o).run Tryd.prog w = .ok .skip w' ∧ v = undef)) ∧ CpI q w0 w1 A (L.setIfInBounds 6 true) (a.put o.dst v) w' := by
  obtain ⟨o', ho', hop, hdst, hg, d5⟩ := Cpo6
  rw [ho] at ho'
  cases ho'
  have l5 := dep_of d5 hall
  refine ⟨hg, ?_⟩
  rw [hdst]
  have q20 : a.eval (.tmp 20) = CpV q w0 5 := h.fk 5 (by decide) (by decide) (by decide) l5
  have h21 := h.no21 (i := 6) (by decide) hu
  have h19 : L.getD 7 false = false := by
    cases e : L.getD 7 false with
    | false => rfl
    | true => have := h.c19 e; rw [ff hu] at this; cases this
  have hw := h.wa (ff hu)
  subst hw
  obtain ⟨e0, e1, e2⟩ := Cpdk_ok 6 (by decide)
  have hrun : (execOp a.eval o).run Tryd.prog w = .ok (.value (CpV q w 6)) w1 := ex_buildSlice hop (by simp only [List.map_toArray, List.map_cons, List.map_nil, q20]; rw [← hw1]; unfold CpV; go_simp)
  refine ⟨CpV q w 6, w1, .inl hrun, ⟨by simp [h.Lsz], by rw [put_size]; exact h.asz, by rw [put_defers]; exact h.df, (eV_other (by decide)).trans h.x2, (eV_other (by decide)).trans h.x3, (eV_other (by decide)).trans h.x4, (eV_other (by decide)).trans h.x6, (eV_other (by decide)).trans h.x7, fun k hk h7 h10 hl => ?_, fun e => ?_, fun _ _ => rfl, fun e _ => ?_, fun e => ?_, fun e => ?_, fun e => ?_, fun e => (L_other (by decide)).trans (h.ch ((L_other (by decide)).symm.trans e))⟩⟩
  · by_cases e : k = 6
    · subst e; exact eV_same (by rw [h.asz]; decide)
    · rw [L_other e] at hl
      exact (eV_other (e2 k hk e)).trans (h.fk k hk h7 h10 hl)
  · rw [L_same (by rw [h.Lsz]; decide)] at e; cases e
  · rw [L_other (by decide), h19] at e; cases e
  · rw [L_other (by decide), h21] at e; cases e
  · rw [L_other (by decide), h19] at e; cases e
  · rw [L_other (by decide), h21] at e; cases e
theorem Cp_step7 {q : CpQ} {w0 w1 : World} {A : Nat → Nat → World → Prop} (h0 : CpS q w0) (h1 : CpS q w1) (hA : ∀ g cap W3, A g cap W3 → CpS q W3) (hw1 : w0.alloc (.cells #[q.fv] 73) = w1)
    (HA : ∀ ty, ∃ g cap W3, (Builtin.append_ #[54, 54] ty #[.slice q.ga q.n q.gc, .slice (some ⟨w0.heap.size, 0, none⟩) 1 1]).run Tryd.prog w1 = .ok (.slice (some ⟨g, 0, none⟩) (q.n + 1) cap) W3 ∧ A g cap W3)
    {L : Array Bool} {a : Act} {w : World} {o : Oper} (h : CpI q w0 w1 A L a w) (hu : L.getD 7 true = false) (ho : CpOps[7]? = some o) (hall : ∀ e ∈ o.after, Region.binds .any e = true → L.getD e.on false = true) :
    o.guard = none ∧ ∃ v w', ((execOp a.eval o).run Tryd.prog w = .ok (.value v) w' ∨ ((execOp a.eval o).run Tryd.prog w = .ok .skip w' ∧ v = undef)) ∧ CpI q w0 w1 A (L.setIfInBounds 7 true) (a.put o.dst v) w' := by
  obtain ⟨o', ho', hop, hdst, hg, d4, d6⟩ := Cpo7
  rw [ho] at ho'
  cases ho'
  have l4 := dep_of d4 hall
  have l6 := dep_of d6 hall
  refine ⟨hg, ?_⟩
  rw [hdst]
  have q19 : a.eval (.tmp 19) = CpV q w0 4 := h.fk 4 (by decide) (by decide) (by decide) l4
  have q21 : a.eval (.tmp 21) = CpV q w0 6 := h.fk 6 (by decide) (by decide) (by decide) l6
  have h21 := h.no21 (i := 7) (by decide) hu
  have hw := h.wb l6 (ff hu)
  subst hw
  obtain ⟨e0, e1, e2⟩ := Cpdk_ok 7 (by decide)
  obtain ⟨g, cap, W3, hr, ha⟩ := HA o.type
  have hrun : (execOp a.eval o).run Tryd.prog w = .ok (.value (.slice (some ⟨g, 0, none⟩) (q.n + 1) cap)) W3 := by
    unfold execOp
    unfold CpV at q19 q21
    simp only [hop, resolve, invoke, builtin, Sem.run_bind, Sem.run_pure, Result.andThen_ok, List.map_toArray, List.map_cons, List.map_nil, q19, q21, hr]
  refine ⟨_, W3, .inl hrun, ⟨by simp [h.Lsz], by rw [put_size]; exact h.asz, by rw [put_defers]; exact h.df, (eV_other (by decide)).trans h.x2, (eV_other (by decide)).trans h.x3, (eV_other (by decide)).trans h.x4, (eV_other (by decide)).trans h.x6, (eV_other (by decide)).trans h.x7, fun k hk h7 h10 hl => ?_, fun e => ?_, fun _ e => ?_, fun e _ => ⟨g, cap, eV_same (by rw [h.asz]; decide), ha⟩, fun e => ?_, fun e => ?_, fun e => ?_, fun e => (L_other (by decide)).trans (h.ch ((L_other (by decide)).symm.trans e))⟩⟩
  · rw [L_other h7] at hl
    exact (eV_other (e2 k hk h7)).trans (h.fk k hk h7 h10 hl)
  · rw [L_other (by decide), l6] at e; cases e
  · rw [L_same (by rw [h.Lsz]; decide)] at e; cases e
  · rw [L_other (by decide), h21] at e; cases e
  · rw [L_other (by decide)]; exact l6
  · rw [L_other (by decide), h21] at e; cases e
theorem Cp_step8 {q : CpQ} {w0 w1 : World} {A : Nat → Nat → World → Prop} (h0 : CpS q w0) (h1 : CpS q w1) (hA : ∀ g cap W3, A g cap W3 → CpS q W3) (hw1 : w0.alloc (.cells #[q.fv] 73) = w1)
    (HA : ∀ ty, ∃ g cap W3, (Builtin.append_ #[54, 54] ty #[.slice q.ga q.n q.gc, .slice (some ⟨w0.heap.size, 0, none⟩) 1 1]).run Tryd.prog w1 = .ok (.slice (some ⟨g, 0, none⟩) (q.n + 1) cap) W3 ∧ A g cap W3)
    {L : Array Bool} {a : Act} {w : World} {o : Oper} (h : CpI q w0 w1 A L a w) (hu : L.getD 8 true = false) (ho : CpOps[8]? = some o) (hall : ∀ e ∈ o.after, Region.binds .any e = true → L.getD e.on false = true) :
    o.guard = none ∧ ∃ v w', ((execOp a.eval o).run Tryd.prog w = .ok (.value v) w' ∨ ((execOp a.eval o).run Tryd.prog w = .ok .skip w' ∧ v = undef)) ∧ CpI q w0 w1 A (L.setIfInBounds 8 true) (a.put o.dst v) w' := by
  obtain ⟨o', ho', hop, hdst, hg, d0⟩ := Cpo8
  rw [ho] at ho'
  cases ho'
  have l0 := dep_of d0 hall
  refine ⟨hg, ?_⟩
  rw [hdst]
  have q15 : a.eval (.tmp 15) = CpV q w0 0 := h.fk 0 (by decide) (by decide) (by decide) l0
  have hrun : (execOp a.eval o).run Tryd.prog w = .ok (.value (CpV q w0 8)) w := ex_nil hop q15
  exact ⟨CpV q w0 8, w, .inl hrun, h.put (i := 8) (by decide) (by decide) (by decide) hu (fun e => absurd e (by decide))⟩
theorem Cp_step9 {q : CpQ} {w0 w1 : World} {A : Nat → Nat → World → Prop} (h0 : CpS q w0) (h1 : CpS q w1) (hA : ∀ g cap W3, A g cap W3 → CpS q W3) (hw1 : w0.alloc (.cells #[q.fv] 73) = w1)
    (HA : ∀ ty, ∃ g cap W3, (Builtin.append_ #[54, 54] ty #[.slice q.ga q.n q.gc, .slice (some ⟨w0.heap.size, 0, none⟩) 1 1]).run Tryd.prog w1 = .ok (.slice (some ⟨g, 0, none⟩) (q.n + 1) cap) W3 ∧ A g cap W3)
    {L : Array Bool} {a : Act} {w : World} {o : Oper} (h : CpI q w0 w1 A L a w) (hu : L.getD 9 true = false) (ho : CpOps[9]? = some o) (hall : ∀ e ∈ o.after, Region.binds .any e = true → L.getD e.on false = true) :
    o.guard = none ∧ ∃ v w', ((execOp a.eval o).run Tryd.prog w = .ok (.value v) w' ∨ ((execOp a.eval o).run Tryd.prog w = .ok .skip w' ∧ v = undef)) ∧ CpI q w0 w1 A (L.setIfInBounds 9 true) (a.put o.dst v) w' := by
  obtain ⟨o', ho', hop, hdst, hg, d8⟩ := Cpo9
  rw [ho] at ho'
  cases ho'
  have l8 := dep_of d8 hall
  refine ⟨hg, ?_⟩
  rw [hdst]
  have q23 : a.eval (.tmp 23) = CpV q w0 8 := h.fk 8 (by decide) (by decide) (by decide) l8
  have hrun : (execOp a.eval o).run Tryd.prog w = .ok (.value (CpV q w0 9)) w := ex_fieldAddr hop (by rw [q23]; unfold CpV; go_simp)
  exact ⟨CpV q w0 9, w, .inl hrun, h.put (i := 9) (by decide) (by decide) (by decide) hu (fun _ => l8)⟩
theorem Cp_step10 {q : CpQ} {w0 w1 : World} {A : Nat → Nat → World → Prop} (h0 : CpS q w0) (h1 : CpS q w1) (hA : ∀ g cap W3, A g cap W3 → CpS q W3) (hw1 : w0.alloc (.cells #[q.fv] 73) = w1)
    (HA : ∀ ty, ∃ g cap W3, (Builtin.append_ #[54, 54] ty #[.slice q.ga q.n q.gc, .slice (some ⟨w0.heap.size, 0, none⟩) 1 1]).run Tryd.prog w1 = .ok (.slice (some ⟨g, 0, none⟩) (q.n + 1) cap) W3 ∧ A g cap W3)
    {L : Array Bool} {a : Act} {w : World} {o : Oper} (h : CpI q w0 w1 A L a w) (hu : L.getD 10 true = false) (ho : CpOps[10]? = some o) (hall : ∀ e ∈ o.after, Region.binds .any e = true → L.getD e.on false = true) :
    o.guard = none ∧ ∃ v w', ((execOp a.eval o).run Tryd.prog w = .ok (.value v) w' ∨ ((execOp a.eval o).run Tryd.prog w = .ok .skip w' ∧ v = undef)) ∧ CpI q w0 w1 A (L.setIfInBounds 10 true) (a.put o.dst v) w' := by
  obtain ⟨o', ho', hop, hdst, hg, d9, d7, d0, d1, d2, d3, d4, d5, d6⟩ := Cpo10
  rw [ho] at ho'
  cases ho'
  have l9 := dep_of d9 hall
  have l7 := dep_of d7 hall
  have l0 := dep_of d0 hall
  have l1 := dep_of d1 hall
  have l2 := dep_of d2 hall
  have l3 := dep_of d3 hall
  have l4 := dep_of d4 hall
  have l5 := dep_of d5 hall
  have l6 := dep_of d6 hall
  refine ⟨hg, ?_⟩
  rw [hdst]
  have l8 := h.ch l9
  have q24 : a.eval (.tmp 24) = CpV q w0 9 := h.fk 9 (by decide) (by decide) (by decide) l9
  have h21 := ff hu
  obtain ⟨g, cap, qw, ha⟩ := h.wc l7 h21
  have hS := hA g cap w ha
  have qv : a.eval (.tmp 22) = _ := qw
  have hrun : (execOp a.eval o).run Tryd.prog w = .ok .skip (w.setCell q.sa (.slice (some ⟨g, 0, none⟩) (q.n + 1) cap)) := ex_store hop (by rw [q24, qv]; have := hS.a2; have := hS.f2; unfold CpV; unfold CpQ.sa; go_simp)
  refine ⟨undef, _, .inr ⟨hrun, rfl⟩, ⟨by simp [h.Lsz], h.asz, h.df, h.x2, h.x3, h.x4, h.x6, h.x7, fun k hk h7 h10 hl => ?_, fun e => ?_, fun _ e => ?_, fun _ e => ?_, fun _ => ⟨g, cap, w, ha, rfl⟩, fun e => ?_, fun _ k hk => ?_, fun e => (L_other (by decide)).trans (h.ch ((L_other (by decide)).symm.trans e))⟩⟩
  · rw [L_other h10] at hl; exact h.fk k hk h7 h10 hl
  · rw [L_other (by decide), l6] at e; cases e
  · rw [L_other (by decide), l7] at e; cases e
  · rw [L_same (by rw [h.Lsz]; decide)] at e; cases e
  · rw [L_other (by decide)]; exact l6
  · rw [L_other (by omega)]
    rcases (show k = 0 ∨ k = 1 ∨ k = 2 ∨ k = 3 ∨ k = 4 ∨ k = 5 ∨ k = 6 ∨ k = 7 ∨ k = 8 ∨ k = 9 by omega) with rfl | rfl | rfl | rfl | rfl | rfl | rfl | rfl | rfl | rfl
    · exact l0
    · exact l1
    · exact l2
    · exact l3
    · exact l4
    · exact l5
    · exact l6
    · exact l7
    · exact l8
    · exact l9
theorem Cp_step {q : CpQ} {w0 w1 : World} {A : Nat → Nat → World → Prop} (h0 : CpS q w0) (h1 : CpS q w1) (hA : ∀ g cap W3, A g cap W3 → CpS q W3) (hw1 : w0.alloc (.cells #[q.fv] 73) = w1)
    (HA : ∀ ty, ∃ g cap W3, (Builtin.append_ #[54, 54] ty #[.slice q.ga q.n q.gc, .slice (some ⟨w0.heap.size, 0, none⟩) 1 1]).run Tryd.prog w1 = .ok (.slice (some ⟨g, 0, none⟩) (q.n + 1) cap) W3 ∧ A g cap W3)
    (L : Array Bool) (a : Act) (w : World) (i : Nat) (o : Oper) (h : CpI q w0 w1 A L a w) (hu : L.getD i true = false) (ho : CpOps[i]? = some o) (hall : ∀ e ∈ o.after, Region.binds .any e = true → L.getD e.on false = true) :
    o.guard = none ∧ ∃ v w', ((execOp a.eval o).run Tryd.prog w = .ok (.value v) w' ∨ ((execOp a.eval o).run Tryd.prog w = .ok .skip w' ∧ v = undef)) ∧ CpI q w0 w1 A (L.setIfInBounds i true) (a.put o.dst v) w' := by
  have hi : i < 11 := by rw [← Cp_size]; exact (Array.getElem?_eq_some_iff.1 ho).1
  rcases (show i = 0 ∨ i = 1 ∨ i = 2 ∨ i = 3 ∨ i = 4 ∨ i = 5 ∨ i = 6 ∨ i = 7 ∨ i = 8 ∨ i = 9 ∨ i = 10 by omega) with rfl | rfl | rfl | rfl | rfl | rfl | rfl | rfl | rfl | rfl | rfl
  · exact Cp_step0 h0 h1 hA hw1 HA h hu ho hall
  · exact Cp_step1 h0 h1 hA hw1 HA h hu ho hall
  · exact Cp_step2 h0 h1 hA hw1 HA h hu ho hall
  · exact Cp_step3 h0 h1 hA hw1 HA h hu ho hall
  · exact Cp_step4 h0 h1 hA hw1 HA h hu ho hall
  · exact Cp_step5 h0 h1 hA hw1 HA h hu ho hall
  · exact Cp_step6 h0 h1 hA hw1 HA h hu ho hall
  · exact Cp_step7 h0 h1 hA hw1 HA h hu ho hall
  · exact Cp_step8 h0 h1 hA hw1 HA h hu ho hall
  · exact Cp_step9 h0 h1 hA hw1 HA h hu ho hall
  · exact Cp_step10 h0 h1 hA hw1 HA h hu ho hall
theorem Cp_region {Q : Exit → Act → World → Prop} {q : CpQ} {w w1 : World} {A : Nat → Nat → World → Prop} (h0 : CpS q (w.drewN 1)) (h1 : CpS q w1) (hA : ∀ g cap W3, A g cap W3 → CpS q W3) (hw1 : (w.drewN 1).alloc (.cells #[q.fv] 73) = w1)
    (HA : ∀ ty, ∃ g cap W3, (Builtin.append_ #[54, 54] ty #[.slice q.ga q.n q.gc, .slice (some ⟨w.heap.size, 0, none⟩) 1 1]).run Tryd.prog w1 = .ok (.slice (some ⟨g, 0, none⟩) (q.n + 1) cap) W3 ∧ A g cap W3)
    (a : Act) (hsz : a.tmps.size = 47) (hdf : a.defers = []) (x2 : eV a 2 = q.fn) (x3 : eV a 3 = .pointer (some ⟨q.wc, 0, none⟩)) (x4 : eV a 4 = .pointer (some ⟨q.pc, 0, none⟩)) (x6 : eV a 6 = q.ar) (x7 : eV a 7 = .pointer (some ⟨q.tc, 0, none⟩))
    (hQ : ∀ a' g cap W3, a'.tmps.size = 47 → a'.defers = [] → eV a' 2 = q.fn → eV a' 3 = .pointer (some ⟨q.wc, 0, none⟩) → eV a' 4 = .pointer (some ⟨q.pc, 0, none⟩) → eV a' 6 = q.ar → eV a' 7 = .pointer (some ⟨q.tc, 0, none⟩) → A g cap W3 → Q .normal a' (W3.setCell q.sa (.slice (some ⟨g, 0, none⟩) (q.n + 1) cap))) (id : Nat) : (Code.region id CpOps true).wp Tryd.prog Q a w := by
  refine wp_region_any (by kernel_rfl) (wpAny_inv (CpI q (w.drewN 1) w1 A) (Cp_step h0 h1 hA hw1 HA) (fun L a' w' hI hr => ?_) _ _ _ _ ?_ ?_)
  · have := all_listed Cp_size hI.Lsz Cp_down hr 10 (by decide)
    obtain ⟨g, cap, W3, ha, rfl⟩ := hI.wd this
    exact hQ a' g cap W3 hI.asz hI.df hI.x2 hI.x3 hI.x4 hI.x6 hI.x7 ha
  · rw [Cp_size]; decide
  · have hf : ∀ k, (Array.replicate CpOps.size false).getD k false = false := fun k => by
      rw [Array.getD_eq_getD_getElem?, Array.getElem?_replicate]
      split <;> rfl
    refine ⟨by simp [Cp_size], hsz, hdf, x2, x3, x4, x6, x7, fun k _ _ _ hk => ?_, fun _ => rfl, fun hk => ?_, fun hk => ?_, fun hk => ?_, fun hk => ?_, fun hk => ?_, fun hk => ?_⟩ <;> (rw [hf] at hk; cases hk)
noncomputable def PpOps : Array Oper := match Tryd.f41.body with | some (.seq _ (.seq _ (.seq _ (.seq _ (.seq _ (.seq (.region _ ops _) _)))))) => ops | _ => #[]
theorem Pp_size : PpOps.size = 10 := by kernel_rfl
noncomputable def PpDown : Bool := (List.range 10).all fun i => match PpOps[i]? with | some o => o.after.all fun e => decide (e.on < i) | none => true
theorem Pp_down (i : Nat) (o : Oper) (h : PpOps[i]? = some o) : ∀ e ∈ o.after, e.on < i := by
  have hd : PpDown = true := by kernel_rfl
  have hi : i < 10 := by rw [← Pp_size]; exact (Array.getElem?_eq_some_iff.1 h).1
  unfold PpDown at hd
  rw [List.all_eq_true] at hd
  have := hd i (by simpa using hi)
  rw [h] at this
  intro e he
  have := Array.all_eq_true'.1 this e he
  simpa using this
structure PpQ where
  wb : Nat
  g : Nat
  n : Nat
  gc : Nat
  wc : Nat
  tc : Nat
structure PpS (q : PpQ) (w : World) : Prop where
  a1 : w.cell? ⟨q.wc, 0, none⟩ = some (.pointer (some ⟨q.wb, 0, none⟩))
  a2 : w.cell? ⟨q.wb, 8, none⟩ = some (.slice (some ⟨q.g, 0, none⟩) (q.n + 1) q.gc)
  f2 : w.frozen? ⟨q.wb, 8, none⟩ = false
abbrev PpQ.sa (q : PpQ) : Addr := ⟨q.wb, 8, none⟩
def PpV (q : PpQ) (w0 : World) (k : Nat) : Value :=
  match k with
  | 0 => .pointer (some ⟨q.wb, 0, none⟩)
  | 1 => .pointer (some ⟨q.wb, 0, none⟩)
  | 2 => .pointer (some ⟨q.wb, 0, none⟩)
  | 3 => .pointer (some ⟨q.wb, 8, none⟩)
  | 4 => .slice (some ⟨q.g, 0, none⟩) (q.n + 1) q.gc
  | 5 => .int .i64 q.n
  | 6 => .slice (some ⟨q.g, 0, none⟩) q.n q.gc
  | 7 => .pointer (some ⟨q.wb, 0, none⟩)
  | 8 => .pointer (some ⟨q.wb, 8, none⟩)
  | _ => undef
def Ppdk (k : Nat) : Nat := [27, 28, 29, 30, 31, 32, 33, 34, 35, 46].getD k 47
def PpdkOk : Bool := (List.range 10).all fun i => Ppdk i != 3 && Ppdk i != 6 && Ppdk i != 7 && decide (Ppdk i < 47) && (List.range 10).all fun k => k == i || Ppdk k != Ppdk i
theorem Ppdk_ok (i : Nat) (hi : i < 10) : (Ppdk i ≠ 3 ∧ Ppdk i ≠ 6 ∧ Ppdk i ≠ 7) ∧ Ppdk i < 47 ∧ ∀ k, k < 10 → k ≠ i → Ppdk k ≠ Ppdk i := by
  have hd : PpdkOk = true := by kernel_rfl
  unfold PpdkOk at hd
  rw [List.all_eq_true] at hd
  have := hd i (by simpa using hi)
  simp only [Bool.and_eq_true, bne_iff_ne, decide_eq_true_eq, List.all_eq_true, Bool.or_eq_true, beq_iff_eq] at this
  refine ⟨by simp [this], this.1.2, fun k hk hne => ?_⟩
  rcases this.2 k (by simpa using hk) with h | h
  · exact absurd h hne
  · exact h
structure PpI (q : PpQ) (w0 : World) (L : Array Bool) (a : Act) (w : World) : Prop where
  Lsz : L.size = 10
  asz : a.tmps.size = 47
  df : a.defers = []
  x3 : eV a 3 = .pointer (some ⟨q.wc, 0, none⟩)
  x6 : eV a 6 = .int .i64 q.n
  x7 : eV a 7 = .pointer (some ⟨q.tc, 0, none⟩)
  fk : ∀ k, k < 10 → k ≠ 9 → L.getD k false = true → eV a (Ppdk k) = PpV q w0 k
  wa : L.getD 9 false = false → w = w0
  wd : L.getD 9 false = true → w = w0.setCell q.sa (.slice (some ⟨q.g, 0, none⟩) q.n q.gc)
  c21 : L.getD 9 false = true → ∀ k, k < 9 → L.getD k false = true
  ch : L.getD 8 false = true → L.getD 7 false = true
section
variable {q : PpQ} {w0 : World} {L : Array Bool} {a : Act} {w : World}
theorem PpI.no21 (h : PpI q w0 L a w) {i : Nat} (hi : i < 9) (hu : L.getD i true = false) : L.getD 9 false = false := by
  cases e : L.getD 9 false with
  | false => rfl
  | true => have := h.c21 e i hi; rw [ff hu] at this; cases this
theorem PpI.cells (h : PpI q w0 L a w) (h0 : PpS q w0) (h21 : L.getD 9 false = false) : PpS q w := by rw [h.wa h21]; exact h0
theorem PpI.put (h : PpI q w0 L a w) {i : Nat} (hi : i < 9) (hu : L.getD i true = false) (hch : i = 8 → L.getD 7 false = true) : PpI q w0 (L.setIfInBounds i true) (a.put (some (Ppdk i)) (PpV q w0 i)) w := by
  obtain ⟨⟨m3, m6, m7⟩, d1, d2⟩ := Ppdk_ok i (by omega)
  have h21 := h.no21 hi hu
  have o21 : (L.setIfInBounds i true).getD 9 false = L.getD 9 false := L_other (by omega)
  refine ⟨by simp [h.Lsz], by rw [put_size]; exact h.asz, by rw [put_defers]; exact h.df, (eV_other (Ne.symm m3)).trans h.x3, (eV_other (Ne.symm m6)).trans h.x6, (eV_other (Ne.symm m7)).trans h.x7, fun k hk h9 hl => ?_, fun e => h.wa (by rw [← o21]; exact e), fun e => ?_, fun e => ?_, fun e => ?_⟩
  · by_cases e : k = i
    · subst e; exact eV_same (by rw [h.asz]; exact d1)
    · rw [L_other e] at hl
      exact (eV_other (d2 k hk e)).trans (h.fk k hk h9 hl)
  · rw [o21, h21] at e; cases e
  · rw [o21, h21] at e; cases e
  · have hup : ∀ k, L.getD k false = true → (L.setIfInBounds i true).getD k false = true := fun k hk => by
      by_cases e : k = i
      · rw [e]; exact L_same (by rw [h.Lsz]; omega)
      · rw [L_other e]; exact hk
    by_cases e9 : i = 8
    · exact hup _ (hch e9)
    · rw [L_other (Ne.symm e9)] at e; exact hup _ (h.ch e)
end
theorem Ppo0 : ∃ o, PpOps[0]? = some o ∧ o.op = .load 49 (.tmp 3) ∧ o.dst = some 27 ∧ o.guard = none := ⟨_, rfl, rfl, rfl, rfl⟩
theorem Ppo1 : ∃ o, PpOps[1]? = some o ∧ o.op = .load 49 (.tmp 3) ∧ o.dst = some 28 ∧ o.guard = none := ⟨_, rfl, rfl, rfl, rfl⟩
theorem Ppo2 : ∃ o, PpOps[2]? = some o ∧ o.op = .nilCheck (.tmp 28) ∧ o.dst = some 29 ∧ o.guard = none ∧ (o.after.any fun e => e.on == 1 && Region.binds .any e) = true := ⟨_, rfl, rfl, rfl, rfl, by kernel_rfl⟩
theorem Ppo3 : ∃ o, PpOps[3]? = some o ∧ o.op = .fieldAddr 56 (.tmp 29) 6 ∧ o.dst = some 30 ∧ o.guard = none ∧ (o.after.any fun e => e.on == 2 && Region.binds .any e) = true := ⟨_, rfl, rfl, rfl, rfl, by kernel_rfl⟩
theorem Ppo4 : ∃ o, PpOps[4]? = some o ∧ o.op = .load 54 (.tmp 30) ∧ o.dst = some 31 ∧ o.guard = none ∧ (o.after.any fun e => e.on == 3 && Region.binds .any e) = true := ⟨_, rfl, rfl, rfl, rfl, by kernel_rfl⟩
theorem Ppo5 : ∃ o, PpOps[5]? = some o ∧ o.op = .move (.tmp 6) ∧ o.dst = some 32 ∧ o.guard = none := ⟨_, rfl, rfl, rfl, rfl⟩
theorem Ppo6 : ∃ o, PpOps[6]? = some o ∧ o.op = .slice 54 (.tmp 31) none (some (.tmp 32)) none ∧ o.dst = some 33 ∧ o.guard = none ∧ (o.after.any fun e => e.on == 4 && Region.binds .any e) = true ∧ (o.after.any fun e => e.on == 5 && Region.binds .any e) = true := ⟨_, rfl, rfl, rfl, rfl, by kernel_rfl, by kernel_rfl⟩
theorem Ppo7 : ∃ o, PpOps[7]? = some o ∧ o.op = .nilCheck (.tmp 27) ∧ o.dst = some 34 ∧ o.guard = none ∧ (o.after.any fun e => e.on == 0 && Region.binds .any e) = true := ⟨_, rfl, rfl, rfl, rfl, by kernel_rfl⟩
theorem Ppo8 : ∃ o, PpOps[8]? = some o ∧ o.op = .fieldAddr 56 (.tmp 34) 6 ∧ o.dst = some 35 ∧ o.guard = none ∧ (o.after.any fun e => e.on == 7 && Region.binds .any e) = true := ⟨_, rfl, rfl, rfl, rfl, by kernel_rfl⟩
theorem Ppo9 : ∃ o, PpOps[9]? = some o ∧ o.op = .store 54 (.tmp 35) (.tmp 33) ∧ o.dst = none ∧ o.guard = none ∧ (o.after.any fun e => e.on == 8 && Region.binds .any e) = true ∧ (o.after.any fun e => e.on == 6 && Region.binds .any e) = true ∧ (o.after.any fun e => e.on == 0 && Region.binds .any e) = true ∧ (o.after.any fun e => e.on == 1 && Region.binds .any e) = true ∧ (o.after.any fun e => e.on == 2 && Region.binds .any e) = true ∧ (o.after.any fun e => e.on == 3 && Region.binds .any e) = true ∧ (o.after.any fun e => e.on == 4 && Region.binds .any e) = true ∧ (o.after.any fun e => e.on == 5 && Region.binds .any e) = true := ⟨_, rfl, rfl, rfl, rfl, by kernel_rfl, by kernel_rfl, by kernel_rfl, by kernel_rfl, by kernel_rfl, by kernel_rfl, by kernel_rfl, by kernel_rfl⟩
theorem Pp_step0 {q : PpQ} {w0 : World} (hn1 : q.n + 1 ≤ q.gc) (hn2 : q.gc ≤ 9223372036854775807) (h0 : PpS q w0)
    {L : Array Bool} {a : Act} {w : World} {o : Oper} (h : PpI q w0 L a w) (hu : L.getD 0 true = false) (ho : PpOps[0]? = some o) (hall : ∀ e ∈ o.after, Region.binds .any e = true → L.getD e.on false = true) :
    o.guard = none ∧ ∃ v w', ((execOp a.eval o).run Tryd.prog w = .ok (.value v) w' ∨ ((execOp a.eval o).run Tryd.prog w = .ok .skip w' ∧ v = undef)) ∧ PpI q w0 (L.setIfInBounds 0 true) (a.put o.dst v) w' := by
  obtain ⟨o', ho', hop, hdst, hg⟩ := Ppo0
  rw [ho] at ho'
  cases ho'
  refine ⟨hg, ?_⟩
  rw [hdst]
  have hS := h.cells h0 (h.no21 (by decide) hu)
  have hrun : (execOp a.eval o).run Tryd.prog w = .ok (.value (PpV q w0 0)) w := ex_load hop (by rw [show a.eval (.tmp 3) = _ from h.x3]; have := hS.a1; unfold PpV; go_simp)
  exact ⟨PpV q w0 0, w, .inl hrun, h.put (i := 0) (by decide) hu (fun e => absurd e (by decide))⟩
theorem Pp_step1 {q : PpQ} {w0 : World} (hn1 : q.n + 1 ≤ q.gc) (hn2 : q.gc ≤ 9223372036854775807) (h0 : PpS q w0)
    {L : Array Bool} {a : Act} {w : World} {o : Oper} (h : PpI q w0 L a w) (hu : L.getD 1 true = false) (ho : PpOps[1]? = some o) (hall : ∀ e ∈ o.after, Region.binds .any e = true → L.getD e.on false = true) :
    o.guard = none ∧ ∃ v w', ((execOp a.eval o).run Tryd.prog w = .ok (.value v) w' ∨ ((execOp a.eval o).run Tryd.prog w = .ok .skip w' ∧ v = undef)) ∧ PpI q w0 (L.setIfInBounds 1 true) (a.put o.dst v) w' := by
  obtain ⟨o', ho', hop, hdst, hg⟩ := Ppo1
  rw [ho] at ho'
  cases ho'
  refine ⟨hg, ?_⟩
  rw [hdst]
  have hS := h.cells h0 (h.no21 (by decide) hu)
  have hrun : (execOp a.eval o).run Tryd.prog w = .ok (.value (PpV q w0 1)) w := ex_load hop (by rw [show a.eval (.tmp 3) = _ from h.x3]; have := hS.a1; unfold PpV; go_simp)
  exact ⟨PpV q w0 1, w, .inl hrun, h.put (i := 1) (by decide) hu (fun e => absurd e (by decide))⟩
theorem Pp_step2 {q : PpQ} {w0 : World} (hn1 : q.n + 1 ≤ q.gc) (hn2 : q.gc ≤ 9223372036854775807) (h0 : PpS q w0)
    {L : Array Bool} {a : Act} {w : World} {o : Oper} (h : PpI q w0 L a w) (hu : L.getD 2 true = false) (ho : PpOps[2]? = some o) (hall : ∀ e ∈ o.after, Region.binds .any e = true → L.getD e.on false = true) :
    o.guard = none ∧ ∃ v w', ((execOp a.eval o).run Tryd.prog w = .ok (.value v) w' ∨ ((execOp a.eval o).run Tryd.prog w = .ok .skip w' ∧ v = undef)) ∧ PpI q w0 (L.setIfInBounds 2 true) (a.put o.dst v) w' := by
  obtain ⟨o', ho', hop, hdst, hg, d1⟩ := Ppo2
  rw [ho] at ho'
  cases ho'
  have l1 := dep_of d1 hall
  refine ⟨hg, ?_⟩
  rw [hdst]
  have q28 : a.eval (.tmp 28) = PpV q w0 1 := h.fk 1 (by decide) (by decide) l1
  have hrun : (execOp a.eval o).run Tryd.prog w = .ok (.value (PpV q w0 2)) w := ex_nil hop q28
  exact ⟨PpV q w0 2, w, .inl hrun, h.put (i := 2) (by decide) hu (fun e => absurd e (by decide))⟩
theorem Pp_step3 {q : PpQ} {w0 : World} (hn1 : q.n + 1 ≤ q.gc) (hn2 : q.gc ≤ 9223372036854775807) (h0 : PpS q w0)
    {L : Array Bool} {a : Act} {w : World} {o : Oper} (h : PpI q w0 L a w) (hu : L.getD 3 true = false) (ho : PpOps[3]? = some o) (hall : ∀ e ∈ o.after, Region.binds .any e = true → L.getD e.on false = true) :
    o.guard = none ∧ ∃ v w', ((execOp a.eval o).run Tryd.prog w = .ok (.value v) w' ∨ ((execOp a.eval o).run Tryd.prog w = .ok .skip w' ∧ v = undef)) ∧ PpI q w0 (L.setIfInBounds 3 true) (a.put o.dst v) w' := by
  obtain ⟨o', ho', hop, hdst, hg, d2⟩ := Ppo3
  rw [ho] at ho'
  cases ho'
  have l2 := dep_of d2 hall
  refine ⟨hg, ?_⟩
  rw [hdst]
  have q29 : a.eval (.tmp 29) = PpV q w0 2 := h.fk 2 (by decide) (by decide) l2
  have hrun : (execOp a.eval o).run Tryd.prog w = .ok (.value (PpV q w0 3)) w := ex_fieldAddr hop (by rw [q29]; unfold PpV; go_simp)
  exact ⟨PpV q w0 3, w, .inl hrun, h.put (i := 3) (by decide) hu (fun e => absurd e (by decide))⟩
theorem Pp_step4 {q : PpQ} {w0 : World} (hn1 : q.n + 1 ≤ q.gc) (hn2 : q.gc ≤ 9223372036854775807) (h0 : PpS q w0)
    {L : Array Bool} {a : Act} {w : World} {o : Oper} (h : PpI q w0 L a w) (hu : L.getD 4 true = false) (ho : PpOps[4]? = some o) (hall : ∀ e ∈ o.after, Region.binds .any e = true → L.getD e.on false = true) :
    o.guard = none ∧ ∃ v w', ((execOp a.eval o).run Tryd.prog w = .ok (.value v) w' ∨ ((execOp a.eval o).run Tryd.prog w = .ok .skip w' ∧ v = undef)) ∧ PpI q w0 (L.setIfInBounds 4 true) (a.put o.dst v) w' := by
  obtain ⟨o', ho', hop, hdst, hg, d3⟩ := Ppo4
  rw [ho] at ho'
  cases ho'
  have l3 := dep_of d3 hall
  refine ⟨hg, ?_⟩
  rw [hdst]
  have q30 : a.eval (.tmp 30) = PpV q w0 3 := h.fk 3 (by decide) (by decide) l3
  have hS := h.cells h0 (h.no21 (by decide) hu)
  have hrun : (execOp a.eval o).run Tryd.prog w = .ok (.value (PpV q w0 4)) w := ex_load hop (by rw [q30]; have := hS.a2; unfold PpV; go_simp)
  exact ⟨PpV q w0 4, w, .inl hrun, h.put (i := 4) (by decide) hu (fun e => absurd e (by decide))⟩
theorem Pp_step5 {q : PpQ} {w0 : World} (hn1 : q.n + 1 ≤ q.gc) (hn2 : q.gc ≤ 9223372036854775807) (h0 : PpS q w0)
    {L : Array Bool} {a : Act} {w : World} {o : Oper} (h : PpI q w0 L a w) (hu : L.getD 5 true = false) (ho : PpOps[5]? = some o) (hall : ∀ e ∈ o.after, Region.binds .any e = true → L.getD e.on false = true) :
    o.guard = none ∧ ∃ v w', ((execOp a.eval o).run Tryd.prog w = .ok (.value v) w' ∨ ((execOp a.eval o).run Tryd.prog w = .ok .skip w' ∧ v = undef)) ∧ PpI q w0 (L.setIfInBounds 5 true) (a.put o.dst v) w' := by
  obtain ⟨o', ho', hop, hdst, hg⟩ := Ppo5
  rw [ho] at ho'
  cases ho'
  refine ⟨hg, ?_⟩
  rw [hdst]
  have hrun : (execOp a.eval o).run Tryd.prog w = .ok (.value (PpV q w0 5)) w := by rw [ex_move hop]; exact congrArg (fun v => Result.ok (Next.value v) w) h.x6
  exact ⟨PpV q w0 5, w, .inl hrun, h.put (i := 5) (by decide) hu (fun e => absurd e (by decide))⟩
theorem Pp_step6 {q : PpQ} {w0 : World} (hn1 : q.n + 1 ≤ q.gc) (hn2 : q.gc ≤ 9223372036854775807) (h0 : PpS q w0)
    {L : Array Bool} {a : Act} {w : World} {o : Oper} (h : PpI q w0 L a w) (hu : L.getD 6 true = false) (ho : PpOps[6]? = some o) (hall : ∀ e ∈ o.after, Region.binds .any e = true → L.getD e.on false = true) :
    o.guard = none ∧ ∃ v w', ((execOp a.eval o).run Tryd.prog w = .ok (.value v) w' ∨ ((execOp a.eval o).run Tryd.prog w = .ok .skip w' ∧ v = undef)) ∧ PpI q w0 (L.setIfInBounds 6 true) (a.put o.dst v) w' := by
  obtain ⟨o', ho', hop, hdst, hg, d4, d5⟩ := Ppo6
  rw [ho] at ho'
  cases ho'
  have l4 := dep_of d4 hall
  have l5 := dep_of d5 hall
  refine ⟨hg, ?_⟩
  rw [hdst]
  have q31 : a.eval (.tmp 31) = PpV q w0 4 := h.fk 4 (by decide) (by decide) l4
  have q32 : a.eval (.tmp 32) = PpV q w0 5 := h.fk 5 (by decide) (by decide) l5
  have hrun : (execOp a.eval o).run Tryd.prog w = .ok (.value (PpV q w0 6)) w := ex_slice hop (by simp only [Option.map_none, Option.map_some, q31, q32]; unfold PpV; go_simp; intro hx; omega)
  exact ⟨PpV q w0 6, w, .inl hrun, h.put (i := 6) (by decide) hu (fun e => absurd e (by decide))⟩
theorem Pp_step7 {q : PpQ} {w0 : World} (hn1 : q.n + 1 ≤ q.gc) (hn2 : q.gc ≤ 9223372036854775807) (h0 : PpS q w0)
    {L : Array Bool} {a : Act} {w : World} {o : Oper} (h : PpI q w0 L a w) (hu : L.getD 7 true = false) (ho : PpOps[7]? = some o) (hall : ∀ e ∈ o.after, Region.binds .any e = true → L.getD e.on false = true) :
    o.guard = none ∧ ∃ v w', ((execOp a.eval o).run Tryd.prog w = .ok (.value v) w' ∨ ((execOp a.eval o).run Tryd.prog w = .ok .skip w' ∧ v = undef)) ∧ PpI q w0 (L.setIfInBounds 7 true) (a.put o.dst v) w' := by
  obtain ⟨o', ho', hop, hdst, hg, d0⟩ := Ppo7
  rw [ho] at ho'
  cases ho'
  have l0 := dep_of d0 hall
  refine ⟨hg, ?_⟩
  rw [hdst]
  have q27 : a.eval (.tmp 27) = PpV q w0 0 := h.fk 0 (by decide) (by decide) l0
  have hrun : (execOp a.eval o).run Tryd.prog w = .ok (.value (PpV q w0 7)) w := ex_nil hop q27
  exact ⟨PpV q w0 7, w, .inl hrun, h.put (i := 7) (by decide) hu (fun e => absurd e (by decide))⟩
theorem Pp_step8 {q : PpQ} {w0 : World} (hn1 : q.n + 1 ≤ q.gc) (hn2 : q.gc ≤ 9223372036854775807) (h0 : PpS q w0)
    {L : Array Bool} {a : Act} {w : World} {o : Oper} (h : PpI q w0 L a w) (hu : L.getD 8 true = false) (ho : PpOps[8]? = some o) (hall : ∀ e ∈ o.after, Region.binds .any e = true → L.getD e.on false = true) :
    o.guard = none ∧ ∃ v w', ((execOp a.eval o).run Tryd.prog w = .ok (.value v) w' ∨ ((execOp a.eval o).run Tryd.prog w = .ok .skip w' ∧ v = undef)) ∧ PpI q w0 (L.setIfInBounds 8 true) (a.put o.dst v) w' := by
  obtain ⟨o', ho', hop, hdst, hg, d7⟩ := Ppo8
  rw [ho] at ho'
  cases ho'
  have l7 := dep_of d7 hall
  refine ⟨hg, ?_⟩
  rw [hdst]
  have q34 : a.eval (.tmp 34) = PpV q w0 7 := h.fk 7 (by decide) (by decide) l7
  have hrun : (execOp a.eval o).run Tryd.prog w = .ok (.value (PpV q w0 8)) w := ex_fieldAddr hop (by rw [q34]; unfold PpV; go_simp)
  exact ⟨PpV q w0 8, w, .inl hrun, h.put (i := 8) (by decide) hu (fun _ => l7)⟩
theorem Pp_step9 {q : PpQ} {w0 : World} (hn1 : q.n + 1 ≤ q.gc) (hn2 : q.gc ≤ 9223372036854775807) (h0 : PpS q w0)
    {L : Array Bool} {a : Act} {w : World} {o : Oper} (h : PpI q w0 L a w) (hu : L.getD 9 true = false) (ho : PpOps[9]? = some o) (hall : ∀ e ∈ o.after, Region.binds .any e = true → L.getD e.on false = true) :
    o.guard = none ∧ ∃ v w', ((execOp a.eval o).run Tryd.prog w = .ok (.value v) w' ∨ ((execOp a.eval o).run Tryd.prog w = .ok .skip w' ∧ v = undef)) ∧ PpI q w0 (L.setIfInBounds 9 true) (a.put o.dst v) w' := by
  obtain ⟨o', ho', hop, hdst, hg, d8, d6, d0, d1, d2, d3, d4, d5⟩ := Ppo9
  rw [ho] at ho'
  cases ho'
  have l8 := dep_of d8 hall
  have l6 := dep_of d6 hall
  have l0 := dep_of d0 hall
  have l1 := dep_of d1 hall
  have l2 := dep_of d2 hall
  have l3 := dep_of d3 hall
  have l4 := dep_of d4 hall
  have l5 := dep_of d5 hall
  refine ⟨hg, ?_⟩
  rw [hdst]
  have l7 := h.ch l8
  have q35 : a.eval (.tmp 35) = PpV q w0 8 := h.fk 8 (by decide) (by decide) l8
  have q33 : a.eval (.tmp 33) = PpV q w0 6 := h.fk 6 (by decide) (by decide) l6
  have h21 := ff hu
  have hw := h.wa h21
  subst hw
  have hS := h0
  have hrun : (execOp a.eval o).run Tryd.prog w = .ok .skip (w.setCell q.sa (.slice (some ⟨q.g, 0, none⟩) q.n q.gc)) := ex_store hop (by rw [q35, q33]; have := hS.a2; have := hS.f2; unfold PpV; unfold PpQ.sa; go_simp)
  refine ⟨undef, _, .inr ⟨hrun, rfl⟩, ⟨by simp [h.Lsz], h.asz, h.df, h.x3, h.x6, h.x7, fun k hk h9 hl => ?_, fun e => ?_, fun _ => rfl, fun _ k hk => ?_, fun e => (L_other (by decide)).trans (h.ch ((L_other (by decide)).symm.trans e))⟩⟩
  · rw [L_other h9] at hl; exact h.fk k hk h9 hl
  · rw [L_same (by rw [h.Lsz]; decide)] at e; cases e
  · rw [L_other (by omega)]
    rcases (show k = 0 ∨ k = 1 ∨ k = 2 ∨ k = 3 ∨ k = 4 ∨ k = 5 ∨ k = 6 ∨ k = 7 ∨ k = 8 by omega) with rfl | rfl | rfl | rfl | rfl | rfl | rfl | rfl | rfl
    · exact l0
    · exact l1
    · exact l2
    · exact l3
    · exact l4
    · exact l5
    · exact l6
    · exact l7
    · exact l8
theorem Pp_step {q : PpQ} {w0 : World} (hn1 : q.n + 1 ≤ q.gc) (hn2 : q.gc ≤ 9223372036854775807) (h0 : PpS q w0)
    (L : Array Bool) (a : Act) (w : World) (i : Nat) (o : Oper) (h : PpI q w0 L a w) (hu : L.getD i true = false) (ho : PpOps[i]? = some o) (hall : ∀ e ∈ o.after, Region.binds .any e = true → L.getD e.on false = true) :
    o.guard = none ∧ ∃ v w', ((execOp a.eval o).run Tryd.prog w = .ok (.value v) w' ∨ ((execOp a.eval o).run Tryd.prog w = .ok .skip w' ∧ v = undef)) ∧ PpI q w0 (L.setIfInBounds i true) (a.put o.dst v) w' := by
  have hi : i < 10 := by rw [← Pp_size]; exact (Array.getElem?_eq_some_iff.1 ho).1
  rcases (show i = 0 ∨ i = 1 ∨ i = 2 ∨ i = 3 ∨ i = 4 ∨ i = 5 ∨ i = 6 ∨ i = 7 ∨ i = 8 ∨ i = 9 by omega) with rfl | rfl | rfl | rfl | rfl | rfl | rfl | rfl | rfl | rfl
  · exact Pp_step0 hn1 hn2 h0 h hu ho hall
  · exact Pp_step1 hn1 hn2 h0 h hu ho hall
  · exact Pp_step2 hn1 hn2 h0 h hu ho hall
  · exact Pp_step3 hn1 hn2 h0 h hu ho hall
  · exact Pp_step4 hn1 hn2 h0 h hu ho hall
  · exact Pp_step5 hn1 hn2 h0 h hu ho hall
  · exact Pp_step6 hn1 hn2 h0 h hu ho hall
  · exact Pp_step7 hn1 hn2 h0 h hu ho hall
  · exact Pp_step8 hn1 hn2 h0 h hu ho hall
  · exact Pp_step9 hn1 hn2 h0 h hu ho hall
theorem Pp_region {Q : Exit → Act → World → Prop} {q : PpQ} {w : World} (hn1 : q.n + 1 ≤ q.gc) (hn2 : q.gc ≤ 9223372036854775807) (h0 : PpS q (w.drewN 1))
    (a : Act) (hsz : a.tmps.size = 47) (hdf : a.defers = []) (x3 : eV a 3 = .pointer (some ⟨q.wc, 0, none⟩)) (x6 : eV a 6 = .int .i64 q.n) (x7 : eV a 7 = .pointer (some ⟨q.tc, 0, none⟩))
    (hQ : ∀ a', a'.tmps.size = 47 → a'.defers = [] → eV a' 3 = .pointer (some ⟨q.wc, 0, none⟩) → eV a' 6 = .int .i64 q.n → eV a' 7 = .pointer (some ⟨q.tc, 0, none⟩) → Q .normal a' ((w.drewN 1).setCell q.sa (.slice (some ⟨q.g, 0, none⟩) q.n q.gc))) (id : Nat) : (Code.region id PpOps true).wp Tryd.prog Q a w := by
  refine wp_region_any (by kernel_rfl) (wpAny_inv (PpI q (w.drewN 1)) (Pp_step hn1 hn2 h0) (fun L a' w' hI hr => ?_) _ _ _ _ ?_ ?_)
  · have := all_listed Pp_size hI.Lsz Pp_down hr 9 (by decide)
    rw [hI.wd this]
    exact hQ a' hI.asz hI.df hI.x3 hI.x6 hI.x7
  · rw [Pp_size]; decide
  · have hf : ∀ k, (Array.replicate PpOps.size false).getD k false = false := fun k => by
      rw [Array.getD_eq_getD_getElem?, Array.getElem?_replicate]
      split <;> rfl
    refine ⟨by simp [Pp_size], hsz, hdf, x3, x6, x7, fun k _ _ hk => ?_, fun _ => rfl, fun hk => ?_, fun hk => ?_, fun hk => ?_⟩ <;> (rw [hf] at hk; cases hk)
end Go.Proofs.YtjjbgbadkbomlaaDoor
