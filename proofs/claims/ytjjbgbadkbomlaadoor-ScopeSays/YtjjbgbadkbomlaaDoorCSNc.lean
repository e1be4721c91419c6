import Derived.Test.YtjjbgbadkbomlaaDoorCSNa
import Derived.Test.YtjjbgbadkbomlaaDoorCSU
namespace Go.Proofs.YtjjbgbadkbomlaaDoor
open Go.RowKit Go.Maps
set_option linter.unusedVariables false
set_option linter.unusedSimpArgs false

section
variable {ρ : Operand → Value} {o : Oper} {P : Program} {w w' : World} {v : Value}
theorem ex_move {x : Operand} (h : o.op = .move x) : (execOp ρ o).run P w = .ok (.value (ρ x)) w := by unfold execOp; rw [h]; rfl
theorem ex_assign {x : Operand} (h : o.op = .assign x) : (execOp ρ o).run P w = .ok (.value (ρ x)) w := by unfold execOp; rw [h]; rfl
theorem ex_v {s : Sem Value} (h : s.run P w = .ok v w') : (do pure (Next.value (← s)) : Sem Next).run P w = .ok (.value v) w' := by simp [h, Result.andThen]
theorem ex_u {s : Sem Unit} (h : s.run P w = .ok () w') : (do s; pure Next.skip : Sem Next).run P w = .ok .skip w' := by simp [h, Result.andThen]
theorem ex_makeSlice {t : TypeId} {x y : Operand} (h : o.op = .makeSlice t x y) (hr : (Instr.makeSlice t (ρ x) (ρ y)).run P w = .ok v w') : (execOp ρ o).run P w = .ok (.value v) w' := by unfold execOp; rw [h]; exact ex_v hr
theorem ex_makeMap {t : TypeId} (h : o.op = .makeMap t none) : (execOp ρ o).run P w = .ok (.value (.map (some w.heap.size))) (w.alloc (.map #[] 0)) := by unfold execOp; rw [h]; exact ex_v (run_makeMap t w)
theorem ex_build {t : TypeId} {ps : Array (Nat × Operand)} (h : o.op = .build t ps) (hr : (Instr.build t (ps.map fun (i, x) => (i, ρ x))).run P w = .ok v w') : (execOp ρ o).run P w = .ok (.value v) w' := by unfold execOp; rw [h]; exact ex_v hr
theorem ex_box {t : TypeId} {x : Operand} (h : o.op = .box t x) (hr : (Instr.box t (ρ x)).run P w = .ok v w') : (execOp ρ o).run P w = .ok (.value v) w' := by unfold execOp; rw [h]; exact ex_v hr
theorem ex_insert {t : TypeId} {m k x : Operand} (h : o.op = .insert t m k x) (hr : (Instr.mapUpdate t (ρ m) (ρ k) (ρ x)).run P w = .ok () w') : (execOp ρ o).run P w = .ok .skip w' := by unfold execOp; rw [h]; exact ex_u hr
end
theorem ex_len {ρ : Operand → Value} {o : Oper} {w : World} {x : Operand} {la : Option Addr} {n lc : Nat} (h : o.op = .call { callee := .builtin .len, args := #[x], argTypes := #[22] }) (hx : ρ x = .slice la n lc) : (execOp ρ o).run Tryd.prog w = .ok (.value (.int .i64 n)) w := by
  simp [execOp, h, resolve, invoke, builtin, hx, Builtin.len_, run_underlying Tryd.underlying22, goInt, Result.andThen]
theorem dep_of {o : Oper} {L : Array Bool} {j : Nat} (h : (o.after.any fun e => e.on == j && Region.binds .any e) = true) (hall : ∀ e ∈ o.after, Region.binds .any e = true → L.getD e.on false = true) : L.getD j false = true := by
  obtain ⟨e, he, hb⟩ := Array.any_eq_true'.1 h
  simp only [Bool.and_eq_true, beq_iff_eq] at hb
  rw [← hb.1]
  exact hall e he hb.2
theorem hold_alloc (w : World) (o : Obj) : ∀ (b : Nat) x, w.heap[b]? = some x → (w.alloc o).heap[b]? = some x := fun b x h => by
  rw [((Below.refl w.heap.size w).alloc (Nat.le_refl _) o).block b (Array.getElem?_eq_some_iff.1 h).1]
  exact h
section
variable {w0 : World} {lv : Value} {n : Nat} {L : Array Bool} {a : Act} {w : World}
theorem NwI.no11 (h : NwI w0 lv n L a w) (h11 : L.getD 11 false = false ∨ L.getD 14 false = false) : L.getD 15 false ≠ true ∧ L.getD 16 false ≠ true ∧ L.getD 17 false ≠ true ∧ L.getD 18 false ≠ true := by
  have q15 : L.getD 15 false ≠ true := fun e => by
    have := h.c15 e
    rcases h11 with h11 | h11
    · rw [h11] at this; cases this.1
    · rw [h11] at this; cases this.2
  have q16 : L.getD 16 false ≠ true := fun e => q15 (h.c16 e)
  have q17 : L.getD 17 false ≠ true := fun e => q16 (h.c17 e)
  exact ⟨q15, q16, q17, fun e => q17 (h.c18 e)⟩
theorem NwI.ins {w' : World} (h : NwI w0 lv n L a w) {i : Nat} (hi : i = 11 ∨ i = 14) (hu : L.getD i false = false) (hl8 : L.getD 8 false = true) (hc : ∀ (b : Nat) cs t, w.heap[b]? = some (.cells cs t (0, 0)) → w'.heap[b]? = some (.cells cs t (0, 0))) (hb : Below w0.heap.size w0 w')
    (h8 : F8 w0 (eV a 13) w' ((L.setIfInBounds i true).getD 11 false) ((L.setIfInBounds i true).getD 14 false)) : NwI w0 lv n (L.setIfInBounds i true) (a.put none undef) w' := by
  obtain ⟨q15, q16, q17, q18⟩ := h.no11 (by rcases hi with rfl | rfl; exact .inl hu; exact .inr hu)
  have hup : ∀ k, L.getD k false = true → (L.setIfInBounds i true).getD k false = true := fun k hk => by
    by_cases e : k = i
    · rw [e]; exact L_same (by rw [h.Lsz]; rcases hi with rfl | rfl <;> decide)
    · rw [L_other e]; exact hk
  have hne : ∀ k, k ≠ 11 → k ≠ 14 → (L.setIfInBounds i true).getD k false = L.getD k false := fun k h1 h2 => L_other (by rcases hi with rfl | rfl <;> assumption)
  refine ⟨by simp [h.Lsz], h.asz, h.df, hb, h.x0, fun k hk hl => ?_, fun _ => hup _ hl8, fun _ => hup _ hl8, fun hl => ?_, fun hl => ?_, fun hl => ?_, fun hl => ?_⟩
  · show nF w0 lv n k (eV a (dk k)) w' _ _
    by_cases e8 : k = 8
    · subst e8; exact h8
    by_cases e11 : k = 11
    · subst e11; trivial
    by_cases e14 : k = 14
    · subst e14; trivial
    rw [hne k e11 e14] at hl
    exact nF_cells (h.fk k hk hl) ⟨e8, fun e => q15 (e ▸ hl), fun e => q16 (e ▸ hl), fun e => q17 (e ▸ hl), fun e => q18 (e ▸ hl)⟩ hc
  · rw [hne 15 (by decide) (by decide)] at hl; exact absurd hl q15
  · rw [hne 16 (by decide) (by decide)] at hl; exact absurd hl q16
  · rw [hne 17 (by decide) (by decide)] at hl; exact absurd hl q17
  · rw [hne 18 (by decide) (by decide)] at hl; exact absurd hl q18
theorem turn_cells {w w' : World} {b : Nat} (ht : w.mapTurned w' b) {es : Array MapEntry} {cl : Nat} (hm : w.heap[b]? = some (.map es cl)) : ∀ (x : Nat) cs t, w.heap[x]? = some (.cells cs t (0, 0)) → w'.heap[x]? = some (.cells cs t (0, 0)) := fun x cs t h => by
  rw [ht.grown.block x (Array.getElem?_eq_some_iff.1 h).1 (by simp; intro e; rw [e, hm] at h; cases h)]
  exact h
theorem F8.put {v x : Value} {f1 f2 g1 g2 : Bool} (h : F8 w0 v w f1 f2) (nm : ByteArray) (m : Nat) (d : Int) (hx : FBx w0 d x w) (hnm : nm.size ≤ maxLen) (hg : g1.toNat + g2.toNat = f1.toNat + f2.toNat + 1) (hsc : ∀ y, nwSc g1 g2 y = if y = nm then some m else nwSc f1 f2 y) (hno : ∀ y k, nwSc f1 f2 y = some k → k ≠ m)
    (hg1 : g1 = true → (m = 0 ∧ d = -2) ∨ (m ≠ 0 ∧ f1 = true)) (hg2 : g2 = true → (m = 1 ∧ d = -3) ∨ (m ≠ 1 ∧ f2 = true)) (hb : Below w0.heap.size w0 w) :
    ∃ w', (Instr.mapUpdate 52 v (.string nm) x).run Tryd.prog w = .ok () w' ∧ F8 w0 v w' g1 g2 ∧ (∀ (b : Nat) cs t, w.heap[b]? = some (.cells cs t (0, 0)) → w'.heap[b]? = some (.cells cs t (0, 0))) ∧ Below w0.heap.size w0 w' := by
  obtain ⟨b, D, mB, rfl, hb0, h2, h3, h4, h5, h6⟩ := h
  obtain ⟨b1, rfl, hc1⟩ := hx
  have hle : f1.toNat + f2.toNat ≤ 2 := by cases f1 <;> cases f2 <;> decide
  obtain ⟨w', hrun, hown, hturn⟩ := h2.store keyedS Tryd.underlying52 (by unfold maxLen; omega) (key := .string nm) (val := .pointer (some ⟨b1, 0, none⟩)) (WideMaps.keyOf_string_mk Tryd.underlying9 hnm) (mnElem_ptr b1)
  obtain ⟨es, cl, hm, _⟩ := id h2
  have hh := turn_cells hturn hm
  refine ⟨w', hrun, ⟨b, _, upd mB m b1, rfl, hb0, owns_size hown, ?_, ?_, fun e => ?_, fun e => ?_⟩, hh, ?_⟩
  · have := hown.size_le
    have : Maps.size (D.put (keyL nm) (.lit (.int .i64 b1))) ≤ Maps.size D + 1 := this
    rw [hg]
    exact Nat.le_trans this (by omega)
  · have q : ScIs (nwSc f1 f2) (upd mB m b1) D := h4.more fun y k e => upd_other (hno y k e)
    have := q.put (sc' := nwSc g1 g2) nm m hsc
    rw [upd_same] at this
    exact this
  · rcases hg1 e with ⟨rfl, rfl⟩ | ⟨h0, hf⟩
    · rw [upd_same]; exact hc1.hold hh
    · rw [upd_other (Ne.symm h0)]; exact (h5 hf).hold hh
  · rcases hg2 e with ⟨rfl, rfl⟩ | ⟨h0, hf⟩
    · rw [upd_same]; exact hc1.hold hh
    · rw [upd_other (Ne.symm h0)]; exact (h6 hf).hold hh
  · exact hb.grown hturn.grown hb.size (fun j hj => by simp at hj; omega)
end
theorem nwk0 : ∃ o, nwOps[0]? = some o ∧ o.op = .move (.tmp 0) ∧ o.dst = some 5 ∧ o.guard = none := ⟨_, rfl, rfl, rfl, rfl⟩
theorem nwk1 : ∃ o, nwOps[1]? = some o ∧ o.op = .move (.tmp 0) ∧ o.dst = some 6 ∧ o.guard = none := ⟨_, rfl, rfl, rfl, rfl⟩
theorem nwk2 : ∃ o, nwOps[2]? = some o ∧ o.op = .call { callee := .builtin .len, args := #[.tmp 6], argTypes := #[22] } ∧ o.dst = some 7 ∧ o.guard = none ∧ (o.after.any fun e => e.on == 1 && Region.binds .any e) = true := ⟨_, rfl, rfl, rfl, rfl, by kernel_rfl⟩
theorem nwk3 : ∃ o, nwOps[3]? = some o ∧ o.op = .makeSlice 25 (.tmp 7) (.tmp 7) ∧ o.dst = some 8 ∧ o.guard = none ∧ (o.after.any fun e => e.on == 2 && Region.binds .any e) = true := ⟨_, rfl, rfl, rfl, rfl, by kernel_rfl⟩
theorem nwk4 : ∃ o, nwOps[4]? = some o ∧ o.op = .move (.tmp 0) ∧ o.dst = some 9 ∧ o.guard = none := ⟨_, rfl, rfl, rfl, rfl⟩
theorem nwk5 : ∃ o, nwOps[5]? = some o ∧ o.op = .call { callee := .builtin .len, args := #[.tmp 9], argTypes := #[22] } ∧ o.dst = some 10 ∧ o.guard = none ∧ (o.after.any fun e => e.on == 4 && Region.binds .any e) = true := ⟨_, rfl, rfl, rfl, rfl, by kernel_rfl⟩
theorem nwk6 : ∃ o, nwOps[6]? = some o ∧ o.op = .makeSlice 26 (.tmp 10) (.tmp 10) ∧ o.dst = some 11 ∧ o.guard = none ∧ (o.after.any fun e => e.on == 5 && Region.binds .any e) = true := ⟨_, rfl, rfl, rfl, rfl, by kernel_rfl⟩
theorem nwk7 : ∃ o, nwOps[7]? = some o ∧ o.op = .build 28 #[(0, .tmp 8), (1, .tmp 11)] ∧ o.dst = some 12 ∧ o.guard = none ∧ (o.after.any fun e => e.on == 3 && Region.binds .any e) = true ∧ (o.after.any fun e => e.on == 6 && Region.binds .any e) = true := ⟨_, rfl, rfl, rfl, rfl, by kernel_rfl, by kernel_rfl⟩
theorem nwk8 : ∃ o, nwOps[8]? = some o ∧ o.op = .makeMap 52 none ∧ o.dst = some 13 ∧ o.guard = none := ⟨_, rfl, rfl, rfl, rfl⟩
theorem nwk9 : ∃ o, nwOps[9]? = some o ∧ o.op = .build 63 #[(0, .const (.int .i64 (-2)))] ∧ o.dst = some 14 ∧ o.guard = none := ⟨_, rfl, rfl, rfl, rfl⟩
theorem nwk10 : ∃ o, nwOps[10]? = some o ∧ o.op = .box 63 (.tmp 14) ∧ o.dst = some 15 ∧ o.guard = none ∧ (o.after.any fun e => e.on == 9 && Region.binds .any e) = true := ⟨_, rfl, rfl, rfl, rfl, by kernel_rfl⟩
theorem nwk11 : ∃ o, nwOps[11]? = some o ∧ o.op = .insert 52 (.tmp 13) (.const (.string inN)) (.tmp 15) ∧ o.dst = none ∧ o.guard = none ∧ (o.after.any fun e => e.on == 8 && Region.binds .any e) = true ∧ (o.after.any fun e => e.on == 10 && Region.binds .any e) = true := ⟨_, rfl, rfl, rfl, rfl, by kernel_rfl, by kernel_rfl⟩
theorem nwk12 : ∃ o, nwOps[12]? = some o ∧ o.op = .build 63 #[(0, .const (.int .i64 (-3)))] ∧ o.dst = some 16 ∧ o.guard = none := ⟨_, rfl, rfl, rfl, rfl⟩
theorem nwk13 : ∃ o, nwOps[13]? = some o ∧ o.op = .box 63 (.tmp 16) ∧ o.dst = some 17 ∧ o.guard = none ∧ (o.after.any fun e => e.on == 12 && Region.binds .any e) = true := ⟨_, rfl, rfl, rfl, rfl, by kernel_rfl⟩
theorem nwk14 : ∃ o, nwOps[14]? = some o ∧ o.op = .insert 52 (.tmp 13) (.const (.string outN)) (.tmp 17) ∧ o.dst = none ∧ o.guard = none ∧ (o.after.any fun e => e.on == 8 && Region.binds .any e) = true ∧ (o.after.any fun e => e.on == 13 && Region.binds .any e) = true := ⟨_, rfl, rfl, rfl, rfl, by kernel_rfl, by kernel_rfl⟩
theorem nwk15 : ∃ o, nwOps[15]? = some o ∧ o.op = .move (.tmp 13) ∧ o.dst = some 18 ∧ o.guard = none ∧ (o.after.any fun e => e.on == 8 && Region.binds .any e) = true ∧ (o.after.any fun e => e.on == 11 && Region.binds .any e) = true ∧ (o.after.any fun e => e.on == 14 && Region.binds .any e) = true := ⟨_, rfl, rfl, rfl, rfl, by kernel_rfl, by kernel_rfl, by kernel_rfl⟩
theorem nwk16 : ∃ o, nwOps[16]? = some o ∧ o.op = .build 56 #[(0, .tmp 5), (1, .tmp 12), (3, .tmp 18), (7, .const (.int .i64 (-1)))] ∧ o.dst = some 19 ∧ o.guard = none ∧ (o.after.any fun e => e.on == 0 && Region.binds .any e) = true ∧ (o.after.any fun e => e.on == 7 && Region.binds .any e) = true ∧ (o.after.any fun e => e.on == 15 && Region.binds .any e) = true := ⟨_, rfl, rfl, rfl, rfl, by kernel_rfl, by kernel_rfl, by kernel_rfl⟩
theorem nwk17 : ∃ o, nwOps[17]? = some o ∧ o.op = .box 56 (.tmp 19) ∧ o.dst = some 20 ∧ o.guard = none ∧ (o.after.any fun e => e.on == 16 && Region.binds .any e) = true := ⟨_, rfl, rfl, rfl, rfl, by kernel_rfl⟩
theorem nwk18 : ∃ o, nwOps[18]? = some o ∧ o.op = .assign (.tmp 20) ∧ o.dst = some 3 ∧ o.guard = none ∧ (o.after.any fun e => e.on == 17 && Region.binds .any e) = true := ⟨_, rfl, rfl, rfl, rfl, by kernel_rfl⟩
theorem build_mn (d : Int) (w : World) : (Instr.build 63 #[(0, .int .i64 d)]).run Tryd.prog w = .ok (.agg (mnV d)) w := by kernel_rfl
theorem build_nm (xa ya : Option Addr) (xn xc yn yc : Nat) (w : World) : (Instr.build 28 #[(0, .slice xa xn xc), (1, .slice ya yn yc)]).run Tryd.prog w = .ok (.agg #[.slice xa xn xc, .slice ya yn yc]) w := by kernel_rfl
theorem build_wk (la xa ya : Option Addr) (n lc xn xc yn yc b : Nat) (w : World) : (Instr.build 56 #[(0, .slice la n lc), (1, .agg #[.slice xa xn xc, .slice ya yn yc]), (3, .map (some b)), (7, .int .i64 (-1))]).run Tryd.prog w = .ok (.agg #[.slice la n lc, .slice xa xn xc, .slice ya yn yc, .int .i64 0, .int .i64 0, .map (some b), .int .i64 0, .slice none 0 0, .slice none 0 0, .int .i64 (-1)]) w := by kernel_rfl
theorem box_mn (d : Int) (w : World) : (Instr.box 63 (.agg (mnV d))).run Tryd.prog w = .ok (.pointer (some ⟨w.heap.size, 0, none⟩)) (w.alloc (.cells (mnV d) 63)) := by kernel_rfl
theorem box_wk (la xa ya : Option Addr) (n lc xn xc yn yc b : Nat) (w : World) : (Instr.box 56 (.agg #[.slice la n lc, .slice xa xn xc, .slice ya yn yc, .int .i64 0, .int .i64 0, .map (some b), .int .i64 0, .slice none 0 0, .slice none 0 0, .int .i64 (-1)])).run Tryd.prog w =
    .ok (.pointer (some ⟨w.heap.size, 0, none⟩)) (w.alloc (.cells #[.slice la n lc, .slice xa xn xc, .slice ya yn yc, .int .i64 0, .int .i64 0, .map (some b), .int .i64 0, .slice none 0 0, .slice none 0 0, .int .i64 (-1)] 56)) := by kernel_rfl
end Go.Proofs.YtjjbgbadkbomlaaDoor
namespace Go.Proofs.YtjjbgbadkbomlaaDoor
open Go.RowKit Go.Maps
set_option linter.unusedVariables false
set_option linter.unusedSimpArgs false

theorem ff {L : Array Bool} {i : Nat} (h : L.getD i true = false) : L.getD i false = false := by
  obtain ⟨hi, he⟩ := getD_true h
  rw [Array.getD_eq_getD_getElem?, Array.getElem?_eq_getElem hi]
  exact he
theorem inout : inN ≠ outN := by decide
theorem nwSc_in (f2 : Bool) (y : ByteArray) : nwSc true f2 y = if y = inN then some 0 else nwSc false f2 y := by
  unfold nwSc
  by_cases h1 : y = outN
  · have : y ≠ inN := fun e => inout (e.symm.trans h1)
    simp [h1, inout.symm]
  · by_cases h2 : y = inN
    · simp [h2, inout]
    · simp [h1, h2]
theorem nwSc_out (f1 : Bool) (y : ByteArray) : nwSc f1 true y = if y = outN then some 1 else nwSc f1 false y := by
  unfold nwSc
  by_cases h1 : y = outN
  · simp [h1]
  · simp [h1]
theorem nwSc_no0 (f2 : Bool) (y : ByteArray) (k : Nat) (h : nwSc false f2 y = some k) : k ≠ 0 := by
  unfold nwSc at h
  split at h
  · cases h; decide
  · simp at h
theorem nwSc_no1 (f1 : Bool) (y : ByteArray) (k : Nat) (h : nwSc f1 false y = some k) : k ≠ 1 := by
  unfold nwSc at h
  simp at h
  omega
theorem nw_step0 {w0 : World} {la : Option Addr} {n lc : Nat} (hn : n ≤ 2147483647) {L : Array Bool} {a : Act} {w : World} {o : Oper} (h : NwI w0 (.slice la n lc) n L a w) (hu : L.getD 0 true = false) (ho : nwOps[0]? = some o) (hall : ∀ e ∈ o.after, Region.binds .any e = true → L.getD e.on false = true) :
    o.guard = none ∧ ∃ v w', ((execOp a.eval o).run Tryd.prog w = .ok (.value v) w' ∨ ((execOp a.eval o).run Tryd.prog w = .ok .skip w' ∧ v = undef)) ∧ NwI w0 (.slice la n lc) n (L.setIfInBounds 0 true) (a.put o.dst v) w' := by
  obtain ⟨o', ho', hop, hdst, hg⟩ := nwk0
  rw [ho] at ho'
  cases ho'
  refine ⟨hg, ?_⟩
  rw [hdst]
  exact ⟨a.eval (.tmp 0), w, .inl (ex_move hop), h.put (i := 0) (by decide) (by decide) (by decide) (fun b o q => q) h.bel h.x0 (fun e => absurd e (by decide)) (fun e => absurd e (by decide)) (fun e => absurd e (by decide)) (fun e => absurd e (by decide))⟩
theorem nw_step1 {w0 : World} {la : Option Addr} {n lc : Nat} (hn : n ≤ 2147483647) {L : Array Bool} {a : Act} {w : World} {o : Oper} (h : NwI w0 (.slice la n lc) n L a w) (hu : L.getD 1 true = false) (ho : nwOps[1]? = some o) (hall : ∀ e ∈ o.after, Region.binds .any e = true → L.getD e.on false = true) :
    o.guard = none ∧ ∃ v w', ((execOp a.eval o).run Tryd.prog w = .ok (.value v) w' ∨ ((execOp a.eval o).run Tryd.prog w = .ok .skip w' ∧ v = undef)) ∧ NwI w0 (.slice la n lc) n (L.setIfInBounds 1 true) (a.put o.dst v) w' := by
  obtain ⟨o', ho', hop, hdst, hg⟩ := nwk1
  rw [ho] at ho'
  cases ho'
  refine ⟨hg, ?_⟩
  rw [hdst]
  exact ⟨a.eval (.tmp 0), w, .inl (ex_move hop), h.put (i := 1) (by decide) (by decide) (by decide) (fun b o q => q) h.bel h.x0 (fun e => absurd e (by decide)) (fun e => absurd e (by decide)) (fun e => absurd e (by decide)) (fun e => absurd e (by decide))⟩
theorem nw_step4 {w0 : World} {la : Option Addr} {n lc : Nat} (hn : n ≤ 2147483647) {L : Array Bool} {a : Act} {w : World} {o : Oper} (h : NwI w0 (.slice la n lc) n L a w) (hu : L.getD 4 true = false) (ho : nwOps[4]? = some o) (hall : ∀ e ∈ o.after, Region.binds .any e = true → L.getD e.on false = true) :
    o.guard = none ∧ ∃ v w', ((execOp a.eval o).run Tryd.prog w = .ok (.value v) w' ∨ ((execOp a.eval o).run Tryd.prog w = .ok .skip w' ∧ v = undef)) ∧ NwI w0 (.slice la n lc) n (L.setIfInBounds 4 true) (a.put o.dst v) w' := by
  obtain ⟨o', ho', hop, hdst, hg⟩ := nwk4
  rw [ho] at ho'
  cases ho'
  refine ⟨hg, ?_⟩
  rw [hdst]
  exact ⟨a.eval (.tmp 0), w, .inl (ex_move hop), h.put (i := 4) (by decide) (by decide) (by decide) (fun b o q => q) h.bel h.x0 (fun e => absurd e (by decide)) (fun e => absurd e (by decide)) (fun e => absurd e (by decide)) (fun e => absurd e (by decide))⟩
theorem nw_step2 {w0 : World} {la : Option Addr} {n lc : Nat} (hn : n ≤ 2147483647) {L : Array Bool} {a : Act} {w : World} {o : Oper} (h : NwI w0 (.slice la n lc) n L a w) (hu : L.getD 2 true = false) (ho : nwOps[2]? = some o) (hall : ∀ e ∈ o.after, Region.binds .any e = true → L.getD e.on false = true) :
    o.guard = none ∧ ∃ v w', ((execOp a.eval o).run Tryd.prog w = .ok (.value v) w' ∨ ((execOp a.eval o).run Tryd.prog w = .ok .skip w' ∧ v = undef)) ∧ NwI w0 (.slice la n lc) n (L.setIfInBounds 2 true) (a.put o.dst v) w' := by
  obtain ⟨o', ho', hop, hdst, hg, d1⟩ := nwk2
  rw [ho] at ho'
  cases ho'
  have l1 := dep_of d1 hall
  refine ⟨hg, ?_⟩
  rw [hdst]
  have q : eV a 6 = .slice la n lc := h.fk 1 (by decide) l1
  exact ⟨.int .i64 n, w, .inl (ex_len hop q), h.put (i := 2) (by decide) (by decide) (by decide) (fun b o q => q) h.bel rfl (fun e => absurd e (by decide)) (fun e => absurd e (by decide)) (fun e => absurd e (by decide)) (fun e => absurd e (by decide))⟩
theorem nw_step5 {w0 : World} {la : Option Addr} {n lc : Nat} (hn : n ≤ 2147483647) {L : Array Bool} {a : Act} {w : World} {o : Oper} (h : NwI w0 (.slice la n lc) n L a w) (hu : L.getD 5 true = false) (ho : nwOps[5]? = some o) (hall : ∀ e ∈ o.after, Region.binds .any e = true → L.getD e.on false = true) :
    o.guard = none ∧ ∃ v w', ((execOp a.eval o).run Tryd.prog w = .ok (.value v) w' ∨ ((execOp a.eval o).run Tryd.prog w = .ok .skip w' ∧ v = undef)) ∧ NwI w0 (.slice la n lc) n (L.setIfInBounds 5 true) (a.put o.dst v) w' := by
  obtain ⟨o', ho', hop, hdst, hg, d4⟩ := nwk5
  rw [ho] at ho'
  cases ho'
  have l4 := dep_of d4 hall
  refine ⟨hg, ?_⟩
  rw [hdst]
  have q : eV a 9 = .slice la n lc := h.fk 4 (by decide) l4
  exact ⟨.int .i64 n, w, .inl (ex_len hop q), h.put (i := 5) (by decide) (by decide) (by decide) (fun b o q => q) h.bel rfl (fun e => absurd e (by decide)) (fun e => absurd e (by decide)) (fun e => absurd e (by decide)) (fun e => absurd e (by decide))⟩
theorem nw_step3 {w0 : World} {la : Option Addr} {n lc : Nat} (hn : n ≤ 2147483647) {L : Array Bool} {a : Act} {w : World} {o : Oper} (h : NwI w0 (.slice la n lc) n L a w) (hu : L.getD 3 true = false) (ho : nwOps[3]? = some o) (hall : ∀ e ∈ o.after, Region.binds .any e = true → L.getD e.on false = true) :
    o.guard = none ∧ ∃ v w', ((execOp a.eval o).run Tryd.prog w = .ok (.value v) w' ∨ ((execOp a.eval o).run Tryd.prog w = .ok .skip w' ∧ v = undef)) ∧ NwI w0 (.slice la n lc) n (L.setIfInBounds 3 true) (a.put o.dst v) w' := by
  obtain ⟨o', ho', hop, hdst, hg, d2⟩ := nwk3
  rw [ho] at ho'
  cases ho'
  have l2 := dep_of d2 hall
  refine ⟨hg, ?_⟩
  rw [hdst]
  have q : a.eval (.tmp 7) = .int .i64 n := h.fk 2 (by decide) l2
  exact ⟨_, _, .inl (ex_makeSlice hop (by rw [q]; exact make_ints w n hn)), h.put (i := 3) (by decide) (by decide) (by decide) (hold_alloc w _) (h.bel.alloc h.bel.size _) ⟨w.heap.size, rfl, h.bel.size, heap_alloc_new w _⟩ (fun e => absurd e (by decide)) (fun e => absurd e (by decide)) (fun e => absurd e (by decide)) (fun e => absurd e (by decide))⟩
theorem nw_step6 {w0 : World} {la : Option Addr} {n lc : Nat} (hn : n ≤ 2147483647) {L : Array Bool} {a : Act} {w : World} {o : Oper} (h : NwI w0 (.slice la n lc) n L a w) (hu : L.getD 6 true = false) (ho : nwOps[6]? = some o) (hall : ∀ e ∈ o.after, Region.binds .any e = true → L.getD e.on false = true) :
    o.guard = none ∧ ∃ v w', ((execOp a.eval o).run Tryd.prog w = .ok (.value v) w' ∨ ((execOp a.eval o).run Tryd.prog w = .ok .skip w' ∧ v = undef)) ∧ NwI w0 (.slice la n lc) n (L.setIfInBounds 6 true) (a.put o.dst v) w' := by
  obtain ⟨o', ho', hop, hdst, hg, d5⟩ := nwk6
  rw [ho] at ho'
  cases ho'
  have l5 := dep_of d5 hall
  refine ⟨hg, ?_⟩
  rw [hdst]
  have q : a.eval (.tmp 10) = .int .i64 n := h.fk 5 (by decide) l5
  exact ⟨_, _, .inl (ex_makeSlice hop (by rw [q]; exact make_rows w n hn)), h.put (i := 6) (by decide) (by decide) (by decide) (hold_alloc w _) (h.bel.alloc h.bel.size _) ⟨w.heap.size, rfl, h.bel.size, heap_alloc_new w _⟩ (fun e => absurd e (by decide)) (fun e => absurd e (by decide)) (fun e => absurd e (by decide)) (fun e => absurd e (by decide))⟩
theorem nw_step7 {w0 : World} {la : Option Addr} {n lc : Nat} (hn : n ≤ 2147483647) {L : Array Bool} {a : Act} {w : World} {o : Oper} (h : NwI w0 (.slice la n lc) n L a w) (hu : L.getD 7 true = false) (ho : nwOps[7]? = some o) (hall : ∀ e ∈ o.after, Region.binds .any e = true → L.getD e.on false = true) :
    o.guard = none ∧ ∃ v w', ((execOp a.eval o).run Tryd.prog w = .ok (.value v) w' ∨ ((execOp a.eval o).run Tryd.prog w = .ok .skip w' ∧ v = undef)) ∧ NwI w0 (.slice la n lc) n (L.setIfInBounds 7 true) (a.put o.dst v) w' := by
  obtain ⟨o', ho', hop, hdst, hg, d3, d6⟩ := nwk7
  rw [ho] at ho'
  cases ho'
  have l3 := dep_of d3 hall
  have l6 := dep_of d6 hall
  refine ⟨hg, ?_⟩
  rw [hdst]
  obtain ⟨b3, q3, c3⟩ : F3 w0 n (eV a 8) w := h.fk 3 (by decide) l3
  obtain ⟨b6, q6, c6⟩ : F6 w0 n (eV a 11) w := h.fk 6 (by decide) l6
  have e3 : a.eval (.tmp 8) = .slice (some ⟨b3, 0, none⟩) n n := q3
  have e6 : a.eval (.tmp 11) = .slice (some ⟨b6, 0, none⟩) n n := q6
  exact ⟨_, w, .inl (ex_build hop (by simp only [List.map_toArray, List.map_cons, List.map_nil, e3, e6]; exact build_nm _ _ _ _ _ _ w)), h.put (i := 7) (by decide) (by decide) (by decide) (fun b o q => q) h.bel ⟨_, _, rfl, ⟨b3, rfl, c3⟩, ⟨b6, rfl, c6⟩⟩ (fun e => absurd e (by decide)) (fun e => absurd e (by decide)) (fun e => absurd e (by decide)) (fun e => absurd e (by decide))⟩
theorem nw_step8 {w0 : World} {la : Option Addr} {n lc : Nat} (hn : n ≤ 2147483647) {L : Array Bool} {a : Act} {w : World} {o : Oper} (h : NwI w0 (.slice la n lc) n L a w) (hu : L.getD 8 true = false) (ho : nwOps[8]? = some o) (hall : ∀ e ∈ o.after, Region.binds .any e = true → L.getD e.on false = true) :
    o.guard = none ∧ ∃ v w', ((execOp a.eval o).run Tryd.prog w = .ok (.value v) w' ∨ ((execOp a.eval o).run Tryd.prog w = .ok .skip w' ∧ v = undef)) ∧ NwI w0 (.slice la n lc) n (L.setIfInBounds 8 true) (a.put o.dst v) w' := by
  obtain ⟨o', ho', hop, hdst, hg⟩ := nwk8
  rw [ho] at ho'
  cases ho'
  refine ⟨hg, ?_⟩
  rw [hdst]
  have l11 : L.getD 11 false = false := by
    cases e : L.getD 11 false with
    | false => rfl
    | true => have := h.c11 e; rw [ff hu] at this; cases this
  have l14 : L.getD 14 false = false := by
    cases e : L.getD 14 false with
    | false => rfl
    | true => have := h.c14 e; rw [ff hu] at this; cases this
  refine ⟨_, _, .inl (ex_makeMap hop), h.put (i := 8) (by decide) (by decide) (by decide) (hold_alloc w _) (h.bel.alloc h.bel.size _) ?_ (fun e => absurd e (by decide)) (fun e => absurd e (by decide)) (fun e => absurd e (by decide)) (fun e => absurd e (by decide))⟩
  rw [l11, l14]
  exact ⟨w.heap.size, .map [], fun _ => 0, rfl, h.bel.size, World.ownsMap_made w _ _ _, by decide, ⟨Maps.isMap_empty, fun nm => by simp [nwSc]; rfl, fun nm => by simp [nwSc]; rfl⟩, fun e => (by cases e), fun e => (by cases e)⟩
theorem nw_step9 {w0 : World} {la : Option Addr} {n lc : Nat} (hn : n ≤ 2147483647) {L : Array Bool} {a : Act} {w : World} {o : Oper} (h : NwI w0 (.slice la n lc) n L a w) (hu : L.getD 9 true = false) (ho : nwOps[9]? = some o) (hall : ∀ e ∈ o.after, Region.binds .any e = true → L.getD e.on false = true) :
    o.guard = none ∧ ∃ v w', ((execOp a.eval o).run Tryd.prog w = .ok (.value v) w' ∨ ((execOp a.eval o).run Tryd.prog w = .ok .skip w' ∧ v = undef)) ∧ NwI w0 (.slice la n lc) n (L.setIfInBounds 9 true) (a.put o.dst v) w' := by
  obtain ⟨o', ho', hop, hdst, hg⟩ := nwk9
  rw [ho] at ho'
  cases ho'
  refine ⟨hg, ?_⟩
  rw [hdst]
  exact ⟨_, w, .inl (ex_build hop (by simp only [List.map_toArray, List.map_cons, List.map_nil, Act.eval]; exact build_mn (-2) w)), h.put (i := 9) (by decide) (by decide) (by decide) (fun b o q => q) h.bel rfl (fun e => absurd e (by decide)) (fun e => absurd e (by decide)) (fun e => absurd e (by decide)) (fun e => absurd e (by decide))⟩
theorem nw_step12 {w0 : World} {la : Option Addr} {n lc : Nat} (hn : n ≤ 2147483647) {L : Array Bool} {a : Act} {w : World} {o : Oper} (h : NwI w0 (.slice la n lc) n L a w) (hu : L.getD 12 true = false) (ho : nwOps[12]? = some o) (hall : ∀ e ∈ o.after, Region.binds .any e = true → L.getD e.on false = true) :
    o.guard = none ∧ ∃ v w', ((execOp a.eval o).run Tryd.prog w = .ok (.value v) w' ∨ ((execOp a.eval o).run Tryd.prog w = .ok .skip w' ∧ v = undef)) ∧ NwI w0 (.slice la n lc) n (L.setIfInBounds 12 true) (a.put o.dst v) w' := by
  obtain ⟨o', ho', hop, hdst, hg⟩ := nwk12
  rw [ho] at ho'
  cases ho'
  refine ⟨hg, ?_⟩
  rw [hdst]
  exact ⟨_, w, .inl (ex_build hop (by simp only [List.map_toArray, List.map_cons, List.map_nil, Act.eval]; exact build_mn (-3) w)), h.put (i := 12) (by decide) (by decide) (by decide) (fun b o q => q) h.bel rfl (fun e => absurd e (by decide)) (fun e => absurd e (by decide)) (fun e => absurd e (by decide)) (fun e => absurd e (by decide))⟩
theorem nw_step10 {w0 : World} {la : Option Addr} {n lc : Nat} (hn : n ≤ 2147483647) {L : Array Bool} {a : Act} {w : World} {o : Oper} (h : NwI w0 (.slice la n lc) n L a w) (hu : L.getD 10 true = false) (ho : nwOps[10]? = some o) (hall : ∀ e ∈ o.after, Region.binds .any e = true → L.getD e.on false = true) :
    o.guard = none ∧ ∃ v w', ((execOp a.eval o).run Tryd.prog w = .ok (.value v) w' ∨ ((execOp a.eval o).run Tryd.prog w = .ok .skip w' ∧ v = undef)) ∧ NwI w0 (.slice la n lc) n (L.setIfInBounds 10 true) (a.put o.dst v) w' := by
  obtain ⟨o', ho', hop, hdst, hg, d9⟩ := nwk10
  rw [ho] at ho'
  cases ho'
  have l9 := dep_of d9 hall
  refine ⟨hg, ?_⟩
  rw [hdst]
  have q : a.eval (.tmp 14) = .agg (mnV (-2)) := h.fk 9 (by decide) l9
  exact ⟨_, _, .inl (ex_box hop (by rw [q]; exact box_mn (-2) w)), h.put (i := 10) (by decide) (by decide) (by decide) (hold_alloc w _) (h.bel.alloc h.bel.size _) ⟨w.heap.size, rfl, h.bel.size, heap_alloc_new w _⟩ (fun e => absurd e (by decide)) (fun e => absurd e (by decide)) (fun e => absurd e (by decide)) (fun e => absurd e (by decide))⟩
theorem nw_step13 {w0 : World} {la : Option Addr} {n lc : Nat} (hn : n ≤ 2147483647) {L : Array Bool} {a : Act} {w : World} {o : Oper} (h : NwI w0 (.slice la n lc) n L a w) (hu : L.getD 13 true = false) (ho : nwOps[13]? = some o) (hall : ∀ e ∈ o.after, Region.binds .any e = true → L.getD e.on false = true) :
    o.guard = none ∧ ∃ v w', ((execOp a.eval o).run Tryd.prog w = .ok (.value v) w' ∨ ((execOp a.eval o).run Tryd.prog w = .ok .skip w' ∧ v = undef)) ∧ NwI w0 (.slice la n lc) n (L.setIfInBounds 13 true) (a.put o.dst v) w' := by
  obtain ⟨o', ho', hop, hdst, hg, d12⟩ := nwk13
  rw [ho] at ho'
  cases ho'
  have l12 := dep_of d12 hall
  refine ⟨hg, ?_⟩
  rw [hdst]
  have q : a.eval (.tmp 16) = .agg (mnV (-3)) := h.fk 12 (by decide) l12
  exact ⟨_, _, .inl (ex_box hop (by rw [q]; exact box_mn (-3) w)), h.put (i := 13) (by decide) (by decide) (by decide) (hold_alloc w _) (h.bel.alloc h.bel.size _) ⟨w.heap.size, rfl, h.bel.size, heap_alloc_new w _⟩ (fun e => absurd e (by decide)) (fun e => absurd e (by decide)) (fun e => absurd e (by decide)) (fun e => absurd e (by decide))⟩
theorem nw_step11 {w0 : World} {la : Option Addr} {n lc : Nat} (hn : n ≤ 2147483647) {L : Array Bool} {a : Act} {w : World} {o : Oper} (h : NwI w0 (.slice la n lc) n L a w) (hu : L.getD 11 true = false) (ho : nwOps[11]? = some o) (hall : ∀ e ∈ o.after, Region.binds .any e = true → L.getD e.on false = true) :
    o.guard = none ∧ ∃ v w', ((execOp a.eval o).run Tryd.prog w = .ok (.value v) w' ∨ ((execOp a.eval o).run Tryd.prog w = .ok .skip w' ∧ v = undef)) ∧ NwI w0 (.slice la n lc) n (L.setIfInBounds 11 true) (a.put o.dst v) w' := by
  obtain ⟨o', ho', hop, hdst, hg, d8, d10⟩ := nwk11
  rw [ho] at ho'
  cases ho'
  have l8 := dep_of d8 hall
  have l10 := dep_of d10 hall
  refine ⟨hg, ?_⟩
  rw [hdst]
  have f11 := ff hu
  have q8 : F8 w0 (eV a 13) w (L.getD 11 false) (L.getD 14 false) := h.fk 8 (by decide) l8
  have q10 : FBx w0 (-2) (eV a 15) w := h.fk 10 (by decide) l10
  rw [f11] at q8
  obtain ⟨w', hrun, g8, gc, gb⟩ := q8.put (g1 := true) (g2 := L.getD 14 false) inN 0 (-2) q10 (by unfold maxLen; decide) (by cases L.getD 14 false <;> decide) (nwSc_in _) (nwSc_no0 _) (fun _ => .inl ⟨rfl, rfl⟩) (fun e => .inr ⟨by decide, e⟩) h.bel
  refine ⟨undef, w', .inr ⟨ex_insert hop hrun, rfl⟩, h.ins (.inl rfl) f11 l8 gc gb ?_⟩
  rw [L_same (by rw [h.Lsz]; decide), L_other (by decide)]
  exact g8
theorem nw_step14 {w0 : World} {la : Option Addr} {n lc : Nat} (hn : n ≤ 2147483647) {L : Array Bool} {a : Act} {w : World} {o : Oper} (h : NwI w0 (.slice la n lc) n L a w) (hu : L.getD 14 true = false) (ho : nwOps[14]? = some o) (hall : ∀ e ∈ o.after, Region.binds .any e = true → L.getD e.on false = true) :
    o.guard = none ∧ ∃ v w', ((execOp a.eval o).run Tryd.prog w = .ok (.value v) w' ∨ ((execOp a.eval o).run Tryd.prog w = .ok .skip w' ∧ v = undef)) ∧ NwI w0 (.slice la n lc) n (L.setIfInBounds 14 true) (a.put o.dst v) w' := by
  obtain ⟨o', ho', hop, hdst, hg, d8, d13⟩ := nwk14
  rw [ho] at ho'
  cases ho'
  have l8 := dep_of d8 hall
  have l13 := dep_of d13 hall
  refine ⟨hg, ?_⟩
  rw [hdst]
  have f14 := ff hu
  have q8 : F8 w0 (eV a 13) w (L.getD 11 false) (L.getD 14 false) := h.fk 8 (by decide) l8
  have q13 : FBx w0 (-3) (eV a 17) w := h.fk 13 (by decide) l13
  rw [f14] at q8
  obtain ⟨w', hrun, g8, gc, gb⟩ := q8.put (g1 := L.getD 11 false) (g2 := true) outN 1 (-3) q13 (by unfold maxLen; decide) (by cases L.getD 11 false <;> decide) (nwSc_out _) (nwSc_no1 _) (fun e => .inr ⟨by decide, e⟩) (fun _ => .inl ⟨rfl, rfl⟩) h.bel
  refine ⟨undef, w', .inr ⟨ex_insert hop hrun, rfl⟩, h.ins (.inr rfl) f14 l8 gc gb ?_⟩
  rw [L_same (by rw [h.Lsz]; decide), L_other (by decide)]
  exact g8
theorem nw_step15 {w0 : World} {la : Option Addr} {n lc : Nat} (hn : n ≤ 2147483647) {L : Array Bool} {a : Act} {w : World} {o : Oper} (h : NwI w0 (.slice la n lc) n L a w) (hu : L.getD 15 true = false) (ho : nwOps[15]? = some o) (hall : ∀ e ∈ o.after, Region.binds .any e = true → L.getD e.on false = true) :
    o.guard = none ∧ ∃ v w', ((execOp a.eval o).run Tryd.prog w = .ok (.value v) w' ∨ ((execOp a.eval o).run Tryd.prog w = .ok .skip w' ∧ v = undef)) ∧ NwI w0 (.slice la n lc) n (L.setIfInBounds 15 true) (a.put o.dst v) w' := by
  obtain ⟨o', ho', hop, hdst, hg, d8, d11, d14⟩ := nwk15
  rw [ho] at ho'
  cases ho'
  have l8 := dep_of d8 hall
  have l11 := dep_of d11 hall
  have l14 := dep_of d14 hall
  refine ⟨hg, ?_⟩
  rw [hdst]
  have q8 : F8 w0 (eV a 13) w (L.getD 11 false) (L.getD 14 false) := h.fk 8 (by decide) l8
  rw [l11, l14] at q8
  exact ⟨a.eval (.tmp 13), w, .inl (ex_move hop), h.put (i := 15) (by decide) (by decide) (by decide) (fun b o q => q) h.bel q8 (fun _ => ⟨l11, l14⟩) (fun e => absurd e (by decide)) (fun e => absurd e (by decide)) (fun e => absurd e (by decide))⟩
theorem nw_step16 {w0 : World} {la : Option Addr} {n lc : Nat} (hn : n ≤ 2147483647) {L : Array Bool} {a : Act} {w : World} {o : Oper} (h : NwI w0 (.slice la n lc) n L a w) (hu : L.getD 16 true = false) (ho : nwOps[16]? = some o) (hall : ∀ e ∈ o.after, Region.binds .any e = true → L.getD e.on false = true) :
    o.guard = none ∧ ∃ v w', ((execOp a.eval o).run Tryd.prog w = .ok (.value v) w' ∨ ((execOp a.eval o).run Tryd.prog w = .ok .skip w' ∧ v = undef)) ∧ NwI w0 (.slice la n lc) n (L.setIfInBounds 16 true) (a.put o.dst v) w' := by
  obtain ⟨o', ho', hop, hdst, hg, d0, d7, d15⟩ := nwk16
  rw [ho] at ho'
  cases ho'
  have l0 := dep_of d0 hall
  have l7 := dep_of d7 hall
  have l15 := dep_of d15 hall
  refine ⟨hg, ?_⟩
  rw [hdst]
  have q0 : a.eval (.tmp 5) = .slice la n lc := h.fk 0 (by decide) l0
  obtain ⟨x, y, q7, ⟨b3, rfl, c3⟩, ⟨b6, rfl, c6⟩⟩ : F7 w0 n (eV a 12) w := h.fk 7 (by decide) l7
  have q15 : F8 w0 (eV a 18) w true true := h.fk 15 (by decide) l15
  obtain ⟨b, D, mB, e15, r⟩ := id q15
  have e7 : a.eval (.tmp 12) = .agg #[.slice (some ⟨b3, 0, none⟩) n n, .slice (some ⟨b6, 0, none⟩) n n] := q7
  have e18 : a.eval (.tmp 18) = .map (some b) := e15
  rw [e15] at q15
  have ec : a.eval (.const (.int .i64 (-1))) = .int .i64 (-1) := rfl
  exact ⟨_, w, .inl (ex_build hop (by simp only [List.map_toArray, List.map_cons, List.map_nil, q0, e7, e18, ec]; exact build_wk _ _ _ _ _ _ _ _ _ _ w)), h.put (i := 16) (by decide) (by decide) (by decide) (fun b o q => q) h.bel ⟨_, _, _, rfl, ⟨b3, rfl, c3⟩, ⟨b6, rfl, c6⟩, q15⟩ (fun e => absurd e (by decide)) (fun _ => l15) (fun e => absurd e (by decide)) (fun e => absurd e (by decide))⟩
theorem nw_step17 {w0 : World} {la : Option Addr} {n lc : Nat} (hn : n ≤ 2147483647) {L : Array Bool} {a : Act} {w : World} {o : Oper} (h : NwI w0 (.slice la n lc) n L a w) (hu : L.getD 17 true = false) (ho : nwOps[17]? = some o) (hall : ∀ e ∈ o.after, Region.binds .any e = true → L.getD e.on false = true) :
    o.guard = none ∧ ∃ v w', ((execOp a.eval o).run Tryd.prog w = .ok (.value v) w' ∨ ((execOp a.eval o).run Tryd.prog w = .ok .skip w' ∧ v = undef)) ∧ NwI w0 (.slice la n lc) n (L.setIfInBounds 17 true) (a.put o.dst v) w' := by
  obtain ⟨o', ho', hop, hdst, hg, d16⟩ := nwk17
  rw [ho] at ho'
  cases ho'
  have l16 := dep_of d16 hall
  refine ⟨hg, ?_⟩
  rw [hdst]
  obtain ⟨x, y, z, q16, ⟨b3, rfl, c3⟩, ⟨b6, rfl, c6⟩, q8⟩ : F16 w0 (.slice la n lc) n (eV a 19) w := h.fk 16 (by decide) l16
  obtain ⟨b, D, mB, rfl, r⟩ := id q8
  have e16 : a.eval (.tmp 19) = _ := q16
  have hh := hold_alloc w (.cells #[.slice la n lc, .slice (some ⟨b3, 0, none⟩) n n, .slice (some ⟨b6, 0, none⟩) n n, .int .i64 0, .int .i64 0, .map (some b), .int .i64 0, .slice none 0 0, .slice none 0 0, .int .i64 (-1)] 56)
  exact ⟨_, _, .inl (ex_box hop (by rw [e16]; exact box_wk _ _ _ _ _ _ _ _ _ _ w)), h.put (i := 17) (by decide) (by decide) (by decide) (hold_alloc w _) (h.bel.alloc h.bel.size _) ⟨w.heap.size, _, _, _, rfl, ⟨h.bel.size, heap_alloc_new w _⟩, F3.hold ⟨b3, rfl, c3⟩ (fun b cs t => hh b _), F6.hold ⟨b6, rfl, c6⟩ (fun b cs t => hh b _), F8.hold q8 hh⟩ (fun e => absurd e (by decide)) (fun e => absurd e (by decide)) (fun _ => l16) (fun e => absurd e (by decide))⟩
theorem nw_step18 {w0 : World} {la : Option Addr} {n lc : Nat} (hn : n ≤ 2147483647) {L : Array Bool} {a : Act} {w : World} {o : Oper} (h : NwI w0 (.slice la n lc) n L a w) (hu : L.getD 18 true = false) (ho : nwOps[18]? = some o) (hall : ∀ e ∈ o.after, Region.binds .any e = true → L.getD e.on false = true) :
    o.guard = none ∧ ∃ v w', ((execOp a.eval o).run Tryd.prog w = .ok (.value v) w' ∨ ((execOp a.eval o).run Tryd.prog w = .ok .skip w' ∧ v = undef)) ∧ NwI w0 (.slice la n lc) n (L.setIfInBounds 18 true) (a.put o.dst v) w' := by
  obtain ⟨o', ho', hop, hdst, hg, d17⟩ := nwk18
  rw [ho] at ho'
  cases ho'
  have l17 := dep_of d17 hall
  refine ⟨hg, ?_⟩
  rw [hdst]
  have q17 : F17 w0 (.slice la n lc) n (eV a 20) w := h.fk 17 (by decide) l17
  exact ⟨a.eval (.tmp 20), w, .inl (ex_assign hop), h.put (i := 18) (by decide) (by decide) (by decide) (fun b o q => q) h.bel q17 (fun e => absurd e (by decide)) (fun e => absurd e (by decide)) (fun e => absurd e (by decide)) (fun _ => l17)⟩
theorem nw_step {w0 : World} {la : Option Addr} {n lc : Nat} (hn : n ≤ 2147483647) (L : Array Bool) (a : Act) (w : World) (i : Nat) (o : Oper) (h : NwI w0 (.slice la n lc) n L a w) (hu : L.getD i true = false) (ho : nwOps[i]? = some o) (hall : ∀ e ∈ o.after, Region.binds .any e = true → L.getD e.on false = true) :
    o.guard = none ∧ ∃ v w', ((execOp a.eval o).run Tryd.prog w = .ok (.value v) w' ∨ ((execOp a.eval o).run Tryd.prog w = .ok .skip w' ∧ v = undef)) ∧ NwI w0 (.slice la n lc) n (L.setIfInBounds i true) (a.put o.dst v) w' := by
  have hi : i < 19 := by rw [← nw_size]; exact (Array.getElem?_eq_some_iff.1 ho).1
  rcases (show i = 0 ∨ i = 1 ∨ i = 2 ∨ i = 3 ∨ i = 4 ∨ i = 5 ∨ i = 6 ∨ i = 7 ∨ i = 8 ∨ i = 9 ∨ i = 10 ∨ i = 11 ∨ i = 12 ∨ i = 13 ∨ i = 14 ∨ i = 15 ∨ i = 16 ∨ i = 17 ∨ i = 18 by omega) with rfl | rfl | rfl | rfl | rfl | rfl | rfl | rfl | rfl | rfl | rfl | rfl | rfl | rfl | rfl | rfl | rfl | rfl | rfl
  · exact nw_step0 hn h hu ho hall
  · exact nw_step1 hn h hu ho hall
  · exact nw_step2 hn h hu ho hall
  · exact nw_step3 hn h hu ho hall
  · exact nw_step4 hn h hu ho hall
  · exact nw_step5 hn h hu ho hall
  · exact nw_step6 hn h hu ho hall
  · exact nw_step7 hn h hu ho hall
  · exact nw_step8 hn h hu ho hall
  · exact nw_step9 hn h hu ho hall
  · exact nw_step10 hn h hu ho hall
  · exact nw_step11 hn h hu ho hall
  · exact nw_step12 hn h hu ho hall
  · exact nw_step13 hn h hu ho hall
  · exact nw_step14 hn h hu ho hall
  · exact nw_step15 hn h hu ho hall
  · exact nw_step16 hn h hu ho hall
  · exact nw_step17 hn h hu ho hall
  · exact nw_step18 hn h hu ho hall
theorem nw_region {Q : Exit → Act → World → Prop} {la : Option Addr} {n lc : Nat} (hn : n ≤ 2147483647) (a : Act) (w : World) (hsz : a.tmps.size = 39) (hdf : a.defers = []) (h0 : eV a 0 = .slice la n lc)
    (hQ : ∀ a' w', a'.tmps.size = 39 → a'.defers = [] → Below w.heap.size w w' → F17 w (.slice la n lc) n (eV a' 3) w' → Q .normal a' w') : (Code.region 1 nwOps true).wp Tryd.prog Q a w := by
  refine wp_region_any (by kernel_rfl) (wpAny_inv (NwI w (.slice la n lc) n) (nw_step hn) (fun L a' w' hI hr => ?_) _ _ _ _ ?_ ?_)
  · have := all_listed nw_size hI.Lsz nw_down hr 18 (by decide)
    exact hQ a' w' hI.asz hI.df hI.bel (hI.fk 18 (by decide) this)
  · rw [nw_size]; decide
  · have hf : ∀ k, (Array.replicate nwOps.size false).getD k false = false := fun k => by
      rw [Array.getD_eq_getD_getElem?, Array.getElem?_replicate]
      split <;> rfl
    refine ⟨by simp [nw_size], hsz, hdf, ⟨rfl, rfl, rfl, Nat.le_refl _, fun _ _ => rfl⟩, h0, fun k _ hk => ?_, fun hk => ?_, fun hk => ?_, fun hk => ?_, fun hk => ?_, fun hk => ?_, fun hk => ?_⟩ <;> (rw [hf] at hk; cases hk)
end Go.Proofs.YtjjbgbadkbomlaaDoor
