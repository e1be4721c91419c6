import Derived.Test.YtjabdhmkibahlaaCEH
namespace Go.Proofs.Ytjabdhmkibahlaa
open Go.RowKit Go.MapKept Go.ChangeMaps Go.WideShapes
set_option linter.unusedVariables false
set_option linter.unusedSimpArgs false

noncomputable def ouOps : Array Oper := match Try.f65.body with | some (.seq _ (.seq (.region _ ops _) _)) => ops | _ => #[]
theorem ou_size : ouOps.size = 10 := by kernel_rfl
noncomputable def ouDown : Bool := (List.range 10).all fun i => match ouOps[i]? with | some o => o.after.all fun e => decide (e.on < i) | none => true
theorem ou_down (i : Nat) (o : Oper) (h : ouOps[i]? = some o) : ∀ e ∈ o.after, e.on < i := by
  have hd : ouDown = true := by kernel_rfl
  have hi : i < 10 := by rw [← ou_size]; exact (Array.getElem?_eq_some_iff.1 h).1
  unfold ouDown at hd
  rw [List.all_eq_true] at hd
  have := hd i (by simpa using hi)
  rw [h] at this
  intro e he
  have := Array.all_eq_true'.1 this e he
  simpa using this
def bnd (o : Oper) (k : Nat) : Bool := o.after.any fun e => e.on == k && Region.binds .any e
theorem bnd_of {o : Oper} {L : Array Bool} (hall : ∀ e ∈ o.after, Region.binds .any e = true → L.getD e.on false = true) {k : Nat} (h : bnd o k = true) : L.getD k false = true := by
  unfold bnd at h
  rw [Array.any_eq_true'] at h
  obtain ⟨e, he, h⟩ := h
  rw [Bool.and_eq_true] at h
  have : e.on = k := by simpa using h.1
  rw [← this]
  exact hall e he h.2
theorem op_of {i : Nat} {o : Oper} {x : Option Nat × Op × Option (Nat × Bool)} (ho : ouOps[i]? = some o) (h : (ouOps[i]?).map (fun o => (o.dst, o.op, o.guard)) = some x) : o.dst = x.1 ∧ o.op = x.2.1 ∧ o.guard = x.2.2 := by
  rw [ho] at h
  cases h
  exact ⟨rfl, rfl, rfl⟩
theorem op_bnd {i k : Nat} {o : Oper} (ho : ouOps[i]? = some o) (h : (ouOps[i]?).map (fun o => bnd o k) = some true) : bnd o k = true := by
  rw [ho] at h
  exact Option.some.inj h
theorem op0 : (ouOps[0]?).map (fun o => (o.dst, o.op, o.guard)) = some (some 12, .load 100 (.tmp 2), none) := by kernel_rfl
theorem op1 : (ouOps[1]?).map (fun o => (o.dst, o.op, o.guard)) = some (some 13, .move (.tmp 1), none) := by kernel_rfl
theorem op2 : (ouOps[2]?).map (fun o => (o.dst, o.op, o.guard)) = some (some 14, .call { callee := .value (.func 75), args := #[.tmp 13], argTypes := #[22] }, none) := by kernel_rfl
theorem op3 : (ouOps[3]?).map (fun o => (o.dst, o.op, o.guard)) = some (some 15, .call { callee := .value (.func 67), args := #[.tmp 12, .tmp 14], argTypes := #[100, 45] }, none) := by kernel_rfl
theorem op4 : (ouOps[4]?).map (fun o => (o.dst, o.op, o.guard)) = some (some 16, .move (.tmp 1), none) := by kernel_rfl
theorem op5 : (ouOps[5]?).map (fun o => (o.dst, o.op, o.guard)) = some (some 17, .call { callee := .value (.func 76), args := #[.tmp 16], argTypes := #[22] }, none) := by kernel_rfl
theorem op6 : (ouOps[6]?).map (fun o => (o.dst, o.op, o.guard)) = some (some 5, .alloc 104, none) := by kernel_rfl
theorem op7 : (ouOps[7]?).map (fun o => (o.dst, o.op, o.guard)) = some (some 6, .alloc 115, none) := by kernel_rfl
theorem op8 : (ouOps[8]?).map (fun o => (o.dst, o.op, o.guard)) = some (none, .store 104 (.tmp 5) (.tmp 15), none) := by kernel_rfl
theorem op9 : (ouOps[9]?).map (fun o => (o.dst, o.op, o.guard)) = some (none, .store 115 (.tmp 6) (.tmp 17), none) := by kernel_rfl
/-- what stands about in the region -/
structure OuC (W : World) (wm am ym b0 : Nat) (sl : Value) (aw : List Int) (H : Int → Option Int) (B : Hd → List Int) : Prop where
  cel : ∀ X, Below W.heap.size W X → X.cell? ⟨b0, 0, none⟩ = some (.map (some wm)) ∧ X.cell? ⟨b0, 1, none⟩ = some (.map (some am)) ∧ X.cell? ⟨b0, 2, none⟩ = some (.map (some ym))
  awk : ∀ X, Below W.heap.size W X → Calls Try.prog 75 #[sl] X fun e w' => ∃ q d, e = .returned (.slice q aw.length d) ∧ IntsR w' q d aw ∧ Below X.heap.size X w'
  hol : ∀ X, Below W.heap.size W X → ∀ q d, IntsR X q d aw → Calls Try.prog 67 #[.agg #[.map (some wm), .map (some am), .map (some ym)], .slice q aw.length d] X fun e w' => ∃ mb n, e = .returned (.map (some mb)) ∧ HoM w' mb n H ∧ Below X.heap.size X w'
  han : ∀ X, Below W.heap.size W X → Calls Try.prog 76 #[sl] X fun e w' => ∃ mb, e = .returned (.map (some mb)) ∧ HaQ w' mb B ∧ Below X.heap.size X w'
def OuI (W : World) (wm am ym b0 : Nat) (sl : Value) (aw : List Int) (H : Int → Option Int) (B : Hd → List Int) (L : Array Bool) (a : Act) (X : World) : Prop :=
  L.size = 10 ∧ ∃ v5 v6 v12 v13 v14 v15 v16 v17, a = ouFr wm am ym b0 sl v5 v6 v12 v13 v14 v15 v16 v17 ∧ OuG W wm am ym sl aw H B (fun k => L.getD k false) v5 v6 v12 v13 v14 v15 v16 v17 X
theorem fl_of {L : Array Bool} {i : Nat} (h : i < L.size) : (fun k => (L.setIfInBounds i true).getD k false) = fl (fun k => L.getD k false) i := by
  funext k
  unfold fl
  by_cases e : k = i
  · subst e; rw [if_pos rfl]; exact L_same h
  · rw [if_neg e]; exact L_other e
theorem off_of {L : Array Bool} {i : Nat} (h : i < L.size) (h2 : L.getD i true = false) : L.getD i false = false := by
  rw [Array.getD_eq_getD_getElem?, Array.getElem?_eq_getElem h] at h2 ⊢
  exact h2
section
variable {W : World} {wm am ym b0 : Nat} {sl : Value} {aw : List Int} {H : Int → Option Int} {B : Hd → List Int} {Q : Exit → Act → World → Prop}
set_option maxRecDepth 100000 in
set_option maxHeartbeats 1000000 in
theorem ou_step (hC : OuC W wm am ym b0 sl aw H B) : ∀ L a w i o, OuI W wm am ym b0 sl aw H B L a w → L.getD i true = false → ouOps[i]? = some o → (∀ e ∈ o.after, Region.binds .any e = true → L.getD e.on false = true) → o.guard = none ∧ o.wp Try.prog a w (OuI W wm am ym b0 sl aw H B (L.setIfInBounds i true)) Q := by
  intro L a X i o hI hi ho hall
  obtain ⟨hsz, v5, v6, v12, v13, v14, v15, v16, v17, rfl, hG⟩ := hI
  have hi10 : i < 10 := by rw [← ou_size]; exact (Array.getElem?_eq_some_iff.1 ho).1
  have hfl := fl_of (L := L) (i := i) (by omega)
  have hoff := off_of (by omega) hi
  have hs2 : (L.setIfInBounds i true).size = 10 := by simpa using hsz
  match i, hi10 with
  | 0, _ =>
    obtain ⟨h1, h2, h3⟩ := op_of ho op0
    simp only at h1 h2 h3
    obtain ⟨c0, c1, c2⟩ := hC.cel X hG.bel
    refine ⟨h3, ?_⟩
    have hr : (execOp (ouFr wm am ym b0 sl v5 v6 v12 v13 v14 v15 v16 v17).eval o).run Try.prog X = .ok (.value (.agg #[.map (some wm), .map (some am), .map (some ym)])) X := by
      simp only [execOp, h2]
      show (do let x ← Instr.loadAt 100 (.pointer (some ⟨b0, 0, none⟩)); pure (Next.value x) : Sem Next).run Try.prog X = _
      go_simp
    unfold Oper.wp
    rw [hr, Oper.upon_value, h1]
    exact ⟨hs2, _, _, _, _, _, _, _, _, rfl, by rw [hfl]; exact hG.s0⟩
  | 1, _ =>
    obtain ⟨h1, h2, h3⟩ := op_of ho op1
    simp only at h1 h2 h3
    refine ⟨h3, ?_⟩
    have hr : (execOp (ouFr wm am ym b0 sl v5 v6 v12 v13 v14 v15 v16 v17).eval o).run Try.prog X = .ok (.value sl) X := by
      simp only [execOp, h2]
      rfl
    unfold Oper.wp
    rw [hr, Oper.upon_value, h1]
    exact ⟨hs2, _, _, _, _, _, _, _, _, rfl, by rw [hfl]; exact hG.s1⟩
  | 2, _ =>
    obtain ⟨h1, h2, h3⟩ := op_of ho op2
    simp only at h1 h2 h3
    have f1 := hG.g1 (bnd_of hall (op_bnd ho (by kernel_rfl)))
    refine ⟨h3, ?_⟩
    have hr : (execOp (ouFr wm am ym b0 sl v5 v6 v12 v13 v14 v15 v16 v17).eval o).run Try.prog X = .ok (.enter 75 #[sl]) X := by
      simp only [execOp, h2]
      simp only [ouFr]
      go_simp
    unfold Oper.wp
    rw [hr, Oper.upon_enter, h1]
    refine Calls.mono (hC.awk X hG.bel) ?_
    rintro e w' ⟨q, d, rfl, hq, hb⟩
    exact ⟨hs2, _, _, _, _, _, _, _, _, rfl, by rw [hfl]; exact hG.s2 hb hq⟩
  | 3, _ =>
    obtain ⟨h1, h2, h3⟩ := op_of ho op3
    simp only at h1 h2 h3
    have f0 := hG.g0 (bnd_of hall (op_bnd ho (by kernel_rfl)))
    obtain ⟨q, d, f2, hq⟩ := hG.g2 (bnd_of hall (op_bnd ho (by kernel_rfl))) hoff
    refine ⟨h3, ?_⟩
    have hr : (execOp (ouFr wm am ym b0 sl v5 v6 v12 v13 v14 v15 v16 v17).eval o).run Try.prog X = .ok (.enter 67 #[.agg #[.map (some wm), .map (some am), .map (some ym)], .slice q aw.length d]) X := by
      simp only [execOp, h2]
      rw [f0, f2]
      simp only [ouFr]
      go_simp
    unfold Oper.wp
    rw [hr, Oper.upon_enter, h1]
    refine Calls.mono (hC.hol X hG.bel q d hq) ?_
    rintro e w' ⟨hm, n, rfl, hh, hb⟩
    exact ⟨hs2, _, _, _, _, _, _, _, _, rfl, by rw [hfl]; exact hG.s3 hoff hb hh⟩
  | 4, _ =>
    obtain ⟨h1, h2, h3⟩ := op_of ho op4
    simp only at h1 h2 h3
    refine ⟨h3, ?_⟩
    have hr : (execOp (ouFr wm am ym b0 sl v5 v6 v12 v13 v14 v15 v16 v17).eval o).run Try.prog X = .ok (.value sl) X := by
      simp only [execOp, h2]
      rfl
    unfold Oper.wp
    rw [hr, Oper.upon_value, h1]
    exact ⟨hs2, _, _, _, _, _, _, _, _, rfl, by rw [hfl]; exact hG.s4⟩
  | 5, _ =>
    obtain ⟨h1, h2, h3⟩ := op_of ho op5
    simp only at h1 h2 h3
    have f1 := hG.g4 (bnd_of hall (op_bnd ho (by kernel_rfl)))
    refine ⟨h3, ?_⟩
    have hr : (execOp (ouFr wm am ym b0 sl v5 v6 v12 v13 v14 v15 v16 v17).eval o).run Try.prog X = .ok (.enter 76 #[sl]) X := by
      simp only [execOp, h2]
      simp only [ouFr]
      go_simp
    unfold Oper.wp
    rw [hr, Oper.upon_enter, h1]
    refine Calls.mono (hC.han X hG.bel) ?_
    rintro e w' ⟨mb, rfl, hh, hb⟩
    exact ⟨hs2, _, _, _, _, _, _, _, _, rfl, by rw [hfl]; exact hG.s5 hoff hb hh⟩
  | 6, _ =>
    obtain ⟨h1, h2, h3⟩ := op_of ho op6
    simp only at h1 h2 h3
    refine ⟨h3, ?_⟩
    have hr : (execOp (ouFr wm am ym b0 sl v5 v6 v12 v13 v14 v15 v16 v17).eval o).run Try.prog X = .ok (.value (.pointer (some ⟨X.heap.size, 0, none⟩))) (X.alloc (.cells #[.map none] 104)) := by
      simp only [execOp, h2]
      go_simp
    unfold Oper.wp
    rw [hr, Oper.upon_value, h1]
    exact ⟨hs2, _, _, _, _, _, _, _, _, rfl, by rw [hfl]; exact hG.s6 hoff⟩
  | 7, _ =>
    obtain ⟨h1, h2, h3⟩ := op_of ho op7
    simp only at h1 h2 h3
    refine ⟨h3, ?_⟩
    have hr : (execOp (ouFr wm am ym b0 sl v5 v6 v12 v13 v14 v15 v16 v17).eval o).run Try.prog X = .ok (.value (.pointer (some ⟨X.heap.size, 0, none⟩))) (X.alloc (.cells #[.map none] 115)) := by
      simp only [execOp, h2]
      go_simp
    unfold Oper.wp
    rw [hr, Oper.upon_value, h1]
    exact ⟨hs2, _, _, _, _, _, _, _, _, rfl, by rw [hfl]; exact hG.s7 hoff⟩
  | 8, _ =>
    obtain ⟨h1, h2, h3⟩ := op_of ho op8
    simp only at h1 h2 h3
    have k3 : (fun k => L.getD k false) 3 = true := bnd_of hall (op_bnd ho (by kernel_rfl))
    have k6 : (fun k => L.getD k false) 6 = true := bnd_of hall (op_bnd ho (by kernel_rfl))
    obtain ⟨b, y, e5, hk, hG2⟩ := hG.s8 k3 k6
    obtain ⟨hm, n, e15, _⟩ := hG.g3 k3
    have c0 : X.cell? ⟨b, 0, none⟩ = some y := cell_of hk rfl
    have c1 : X.frozen? ⟨b, 0, none⟩ = false := by simp [World.frozen?, hk]
    refine ⟨h3, ?_⟩
    have hr : (execOp (ouFr wm am ym b0 sl v5 v6 v12 v13 v14 v15 v16 v17).eval o).run Try.prog X = .ok .skip (X.setCell ⟨b, 0, none⟩ v15) := by
      simp only [execOp, h2]
      rw [e5, e15]
      simp only [ouFr]
      go_simp
    unfold Oper.wp
    rw [hr, Oper.upon_skip, h1]
    exact ⟨hs2, _, _, _, _, _, _, _, _, rfl, by rw [hfl]; exact hG2⟩
  | 9, _ =>
    obtain ⟨h1, h2, h3⟩ := op_of ho op9
    simp only at h1 h2 h3
    have k5 : (fun k => L.getD k false) 5 = true := bnd_of hall (op_bnd ho (by kernel_rfl))
    have k7 : (fun k => L.getD k false) 7 = true := bnd_of hall (op_bnd ho (by kernel_rfl))
    have k3 : (fun k => L.getD k false) 3 = true := bnd_of hall (op_bnd ho (by kernel_rfl))
    obtain ⟨b, y, e5, hk, hG2⟩ := hG.s9 k5 k7 k3
    obtain ⟨hm, e15, _⟩ := hG.g5 k5
    have c0 : X.cell? ⟨b, 0, none⟩ = some y := cell_of hk rfl
    have c1 : X.frozen? ⟨b, 0, none⟩ = false := by simp [World.frozen?, hk]
    refine ⟨h3, ?_⟩
    have hr : (execOp (ouFr wm am ym b0 sl v5 v6 v12 v13 v14 v15 v16 v17).eval o).run Try.prog X = .ok .skip (X.setCell ⟨b, 0, none⟩ v17) := by
      simp only [execOp, h2]
      rw [e5, e15]
      simp only [ouFr]
      go_simp
    unfold Oper.wp
    rw [hr, Oper.upon_skip, h1]
    exact ⟨hs2, _, _, _, _, _, _, _, _, rfl, by rw [hfl]; exact hG2⟩
theorem ou_region {id : Nat} {ops : Array Oper} (hops : ops = ouOps) (hC : OuC W wm am ym b0 sl aw H B)
    (hQ : ∀ b5 b6 hm n hb v14 X, Below W.heap.size W X → X.heap[b5]? = some (.cells #[.map (some hm)] 104 (0, 0)) → X.heap[b6]? = some (.cells #[.map (some hb)] 115 (0, 0)) → HoM X hm n H → HaR X hb B → W.heap.size ≤ b5 → W.heap.size ≤ b6 → Q .normal (ouFr wm am ym b0 sl (.pointer (some ⟨b5, 0, none⟩)) (.pointer (some ⟨b6, 0, none⟩)) (.agg #[.map (some wm), .map (some am), .map (some ym)]) sl v14 (.map (some hm)) sl (.map (some hb))) X) :
    (Code.region id ops true).wp Try.prog Q (ouFr wm am ym b0 sl undef undef undef undef undef undef undef undef) W := by
  subst hops
  refine wp_region_any (by kernel_rfl) ?_
  refine wpAny_inv2 (OuI W wm am ym b0 sl aw H B) (ou_step hC) (fun L a X hI hr => ?_) _ _ _ _ ?_ ?_
  · obtain ⟨hsz, v5, v6, v12, v13, v14, v15, v16, v17, rfl, hG⟩ := hI
    have hall := all_listed ou_size hsz ou_down hr
    have e12 := hG.g0 (hall 0 (by decide))
    have e13 := hG.g1 (hall 1 (by decide))
    have e16 := hG.g4 (hall 4 (by decide))
    obtain ⟨hm, n, e15, h15⟩ := hG.g3 (hall 3 (by decide))
    obtain ⟨hb, e17, h17⟩ := hG.g5 (hall 5 (by decide))
    obtain ⟨b5, y5, e5, l5, k5, f5⟩ := hG.g6 (hall 6 (by decide))
    obtain ⟨b6, y6, e6, l6, k6, f6⟩ := hG.g7 (hall 7 (by decide))
    rw [f5 (hall 8 (by decide)), e15] at k5
    rw [f6 (hall 9 (by decide)), e17] at k6
    rw [e12, e13, e16, e15, e17, e5, e6]
    exact hQ b5 b6 hm n hb v14 X hG.bel k5 k6 h15 h17.read l5 l6
  · unfold unl
    rw [ou_size]
    decide
  · refine ⟨by rw [Array.size_replicate]; exact ou_size, undef, undef, undef, undef, undef, undef, undef, undef, rfl, ?_⟩
    have hf : ∀ k, (Array.replicate ouOps.size false).getD k false = false := fun k => by
      rw [Array.getD_eq_getD_getElem?, Array.getElem?_replicate]
      split <;> rfl
    exact ⟨(Below.refl _ _).drew, fun h => absurd h (by rw [hf]; decide), fun h => absurd h (by rw [hf]; decide), fun h => absurd h (by rw [hf]; decide), fun h => absurd h (by rw [hf]; decide), fun h => absurd h (by rw [hf]; decide), fun h => absurd h (by rw [hf]; decide), fun h => absurd h (by rw [hf]; decide), fun h => absurd h (by rw [hf]; decide), fun h => absurd h (by rw [hf]; decide), fun h => absurd h (by rw [hf]; decide)⟩
end
end Go.Proofs.Ytjabdhmkibahlaa
