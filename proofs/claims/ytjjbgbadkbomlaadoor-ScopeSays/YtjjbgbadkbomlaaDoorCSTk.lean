import Derived.Test.YtjjbgbadkbomlaaDoorCSW5
import Derived.Test.YtjjbgbadkbomlaaDoorCSU3
import Derived.Test.YtjjbgbadkbomlaaDoorCSNc
namespace Go.Proofs.YtjjbgbadkbomlaaDoor
open Go.RowKit Go.Maps
set_option linter.unusedVariables false
set_option linter.unusedSimpArgs false

theorem info3s : (Tryd.prog.info? 3).map (fun i => (i.zero, i.size, i.bytes)) = some (some (.int .i64 0), 1, 8) := by kernel_rfl
theorem info61 : (Tryd.prog.info? 61).map (fun i => (i.zero, i.size, i.bytes)) = some (some (.pointer none), 1, 8) := by kernel_rfl
theorem SRel.c_free {B : Nat} {lv : Value} {N : Nat} {W : World} {s : SSt} {G : WG} (h : SRel B lv N W s G) {p : Nat} (hp : p < N) : W.cell? ⟨G.fb, p, none⟩ = some (G.fv p) ∧ W.frozen? ⟨G.fb, p, none⟩ = false := by
  refine ⟨?_, by simp [World.frozen?, h.hfree]⟩
  rw [cell_of_row W _ p _ _ _ h.hfree]
  simp [hp]
def free1 (s : SSt) (k m : Nat) : SSt := { s with free := s.free.set (gatS s k).1 (s.free.getD (gatS s k).1 [] ++ [(mnS s m).decl]) }
/-- the first append -/
theorem take_one {B nb no nc : Nat} {l : List Nd} {W0 W : World} {s : SSt} {G0 G : WG} (h : ST B nb no nc l W0 G0 W s G) (k m : Nat) (hk : k < s.gat.length) (hm : m < s.ms.length) (hp : (gatS s k).1 < l.length) (hfl : s.free.length = l.length) (q : Nat) :
    ((W.drewN q).alloc (.cells #[.int .i64 (mnS s m).decl] 3)).ownsRow B 3 1 (G.fv (gatS s k).1) (s.free.getD (gatS s k).1 []).length (intsC (s.free.getD (gatS s k).1 [])) ∧
    (∀ g cap W3, ((W.drewN q).alloc (.cells #[.int .i64 (mnS s m).decl] 3)).grownBy W3 (G.fv (gatS s k).1).ownBlock → W3.ownsRow B 3 1 (.slice (some ⟨g, 0, none⟩) ((s.free.getD (gatS s k).1 []).length + 1) cap) ((s.free.getD (gatS s k).1 []).length + 1) (intsC (s.free.getD (gatS s k).1 []) ++ [.int .i64 (mnS s m).decl]) →
      ((G.fv (gatS s k).1).ownBlock = some g ∨ g = W.heap.size + 1) → g < W3.heap.size →
      (W3.cell? ⟨G.wc k, 0, none⟩ = some (.pointer (some ⟨G.wb, 0, none⟩)) ∧ W3.cell? ⟨G.pc k, 0, none⟩ = some (.int .i64 (gatS s k).1) ∧ W3.cell? ⟨G.wb, 2, none⟩ = some (.slice (some ⟨G.fb, 0, none⟩) l.length l.length) ∧ W3.cell? ⟨G.mB m, 0, none⟩ = some (.int .i64 (mnS s m).decl)) ∧
      W3.cell? ⟨G.fb, (gatS s k).1, none⟩ = some (G.fv (gatS s k).1) ∧ W3.frozen? ⟨G.fb, (gatS s k).1, none⟩ = false ∧
      ST B nb no nc l W0 G0 (W3.setCell ⟨G.fb, (gatS s k).1, none⟩ (.slice (some ⟨g, 0, none⟩) ((s.free.getD (gatS s k).1 []).length + 1) cap)) (free1 s k m) (rowG G (gatS s k).1 g (.slice (some ⟨g, 0, none⟩) ((s.free.getD (gatS s k).1 []).length + 1) cap))) := by
  have hb : Below W.heap.size W ((W.drewN q).alloc (.cells #[.int .i64 (mnS s m).decl] 3)) := (below_dr W q).alloc (Nat.le_refl _) _
  have hr := h.rel.below hb
  refine ⟨hr.hrow _ hp, fun g cap W3 hg ho hat hlt => ?_⟩
  have hS3 : Same ((W.drewN q).alloc (.cells #[.int .i64 (mnS s m).decl] 3)) W3 G (fun t => t ≠ .row (gatS s k).1) := fun b hb hp' => hg.block b (hr.lo b hb).2 fun e => hp' (hr.lrow _ b hp e.symm)
  have hw3 := hr.k_w hS3 (by simp)
  have hf3 := hr.k_free hS3 (by simp)
  refine ⟨⟨?_, ?_, ?_, ?_⟩, ?_, ?_, ?_⟩
  · rw [cell_of_row W3 _ 0 _ _ _ (hr.k_wc hS3 hk (by simp))]; rfl
  · rw [cell_of_row W3 _ 0 _ _ _ (hr.k_pc hS3 hk (by simp))]; rfl
  · rw [cell_of_row W3 _ 2 _ _ _ hw3]; rfl
  · rw [cell_of_row W3 _ 0 _ _ _ (hr.k_mn hS3 hm (by simp))]; rfl
  · rw [cell_of_row W3 _ _ _ _ _ hf3]; simp [hp]
  · simp [World.frozen?, hf3]
  · obtain ⟨h1, h2⟩ := h.rel.growRow (gatS s k).1 hp hfl (mnS s m).decl rfl hb ho hg (by simpa using hat) hlt
    exact h.step h1 h2
/-- the second append -/
theorem take_two {B nb no nc : Nat} {l : List Nd} {W0 W : World} {s : SSt} {G0 G : WG} (h : ST B nb no nc l W0 G0 W s G) (k m : Nat) (hk : k < s.gat.length) :
    W.cell? ⟨G.tc k, 0, none⟩ = some (G.tv k) ∧ (W.alloc (.cells #[ptrV (G.mB m)] 61)).ownsRow B 61 1 (G.tv k) (gatS s k).2.length ((gatS s k).2.map fun m => ptrV (G.mB m)) ∧
    (∀ g cap W3, (W.alloc (.cells #[ptrV (G.mB m)] 61)).grownBy W3 (G.tv k).ownBlock → W3.ownsRow B 61 1 (.slice (some ⟨g, 0, none⟩) ((gatS s k).2.length + 1) cap) ((gatS s k).2.length + 1) (((gatS s k).2.map fun m => ptrV (G.mB m)) ++ [ptrV (G.mB m)]) →
      ((G.tv k).ownBlock = some g ∨ g = W.heap.size + 1) → g < W3.heap.size →
      W3.cell? ⟨G.tc k, 0, none⟩ = some (G.tv k) ∧ W3.frozen? ⟨G.tc k, 0, none⟩ = false ∧
      ST B nb no nc l W0 G0 (W3.setCell ⟨G.tc k, 0, none⟩ (.slice (some ⟨g, 0, none⟩) ((gatS s k).2.length + 1) cap)) { s with gat := s.gat.set k ((gatS s k).1, (gatS s k).2 ++ [m]) } (tkG G k g (.slice (some ⟨g, 0, none⟩) ((gatS s k).2.length + 1) cap))) := by
  have hb : Below W.heap.size W (W.alloc (.cells #[ptrV (G.mB m)] 61)) := (Below.refl _ _).alloc (Nat.le_refl _) _
  have hr := h.rel.below hb
  refine ⟨?_, hr.htk _ hk, fun g cap W3 hg ho hat hlt => ?_⟩
  · rw [cell_of_row W _ 0 _ _ _ (h.rel.htc k hk)]; rfl
  have hS3 : Same (W.alloc (.cells #[ptrV (G.mB m)] 61)) W3 G (fun t => t ≠ .tk k) := fun b hb hp' => hg.block b (hr.lo b hb).2 fun e => hp' (hr.ltv _ b hk e.symm)
  have hf3 := hr.k_tc hS3 hk (by simp)
  refine ⟨?_, ?_, ?_⟩
  · rw [cell_of_row W3 _ _ _ _ _ hf3]; rfl
  · simp [World.frozen?, hf3]
  · obtain ⟨h1, h2⟩ := h.rel.growTk k m hk rfl hb ho hg (by simpa using hat) hlt
    exact h.step h1 h2
theorem int_newsS (w : World) (q : Nat) (x : Int) : ∀ j u, ([.int .i64 x] : List Value)[j]? = some u → ((w.drewN q).alloc (.cells #[.int .i64 x] 3)).cell? ((⟨w.heap.size, 0, none⟩ : Addr).add j) = some u := World.news_of_block (heap_alloc_new (w.drewN q) _)
theorem int_oneS (x : Int) : ∀ u ∈ ([.int .i64 x] : List Value), u.oneCell' = true := by intro u hu; simp at hu; subst hu; rfl
theorem ptr_newsS (w : World) (a : Addr) : ∀ j u, ([.pointer (some a)] : List Value)[j]? = some u → (w.alloc (.cells #[.pointer (some a)] 61)).cell? ((⟨w.heap.size, 0, none⟩ : Addr).add j) = some u := World.news_of_block (heap_alloc_new w _)
theorem ptr_oneS (a : Addr) : ∀ u ∈ ([.pointer (some a)] : List Value), u.oneCell' = true := by intro u hu; simp at hu; subst hu; rfl
noncomputable def tkOps : Array Oper := match Tryd.f59.body with | some (.seq (.region _ ops _) _) => ops | _ => #[]
theorem tk_size : tkOps.size = 22 := by kernel_rfl
noncomputable def tkDown : Bool := (List.range 22).all fun i => match tkOps[i]? with | some o => o.after.all fun e => decide (e.on < i) | none => true
theorem tk_down (i : Nat) (o : Oper) (h : tkOps[i]? = some o) : ∀ e ∈ o.after, e.on < i := by
  have hd : tkDown = true := by kernel_rfl
  have hi : i < 22 := by rw [← tk_size]; exact (Array.getElem?_eq_some_iff.1 h).1
  unfold tkDown at hd
  rw [List.all_eq_true] at hd
  have := hd i (by simpa using hi)
  rw [h] at this
  intro e he
  have := Array.all_eq_true'.1 this e he
  simpa using this
/-- what the statement works upon -/
structure TkQ where
  wb : Nat
  fb : Nat
  N : Nat
  p : Nat
  fa : Option Addr
  n : Nat
  fc : Nat
  mb : Nat
  wc : Nat
  pc : Nat
  tc : Nat
  dc : Int
structure TkS (q : TkQ) (w : World) : Prop where
  a1 : w.cell? ⟨q.wc, 0, none⟩ = some (.pointer (some ⟨q.wb, 0, none⟩))
  a2 : w.cell? ⟨q.pc, 0, none⟩ = some (.int .i64 q.p)
  a3 : w.cell? ⟨q.wb, 2, none⟩ = some (.slice (some ⟨q.fb, 0, none⟩) q.N q.N)
  a4 : w.cell? ⟨q.mb, 0, none⟩ = some (.int .i64 q.dc)
  a5 : w.cell? ⟨q.fb, q.p, none⟩ = some (.slice q.fa q.n q.fc)
  f5 : w.frozen? ⟨q.fb, q.p, none⟩ = false
def tV (q : TkQ) (w0 : World) (k : Nat) : Value :=
  match k with
  | 0 => .pointer (some ⟨q.wb, 0, none⟩)
  | 1 => .pointer (some ⟨q.wb, 0, none⟩)
  | 2 => .pointer (some ⟨q.wb, 1, none⟩)
  | 3 => .pointer (some ⟨q.wb, 2, none⟩)
  | 4 => .slice (some ⟨q.fb, 0, none⟩) q.N q.N
  | 5 => .int .i64 q.p
  | 6 => .pointer (some ⟨q.wb, 0, none⟩)
  | 7 => .pointer (some ⟨q.wb, 0, none⟩)
  | 8 => .pointer (some ⟨q.wb, 1, none⟩)
  | 9 => .pointer (some ⟨q.wb, 2, none⟩)
  | 10 => .slice (some ⟨q.fb, 0, none⟩) q.N q.N
  | 11 => .int .i64 q.p
  | 12 => .pointer (some ⟨q.fb, q.p, none⟩)
  | 13 => .slice q.fa q.n q.fc
  | 14 => .pointer (some ⟨q.mb, 0, none⟩)
  | 15 => .pointer (some ⟨q.mb, 0, none⟩)
  | 16 => .pointer (some ⟨q.mb, 0, none⟩)
  | 17 => .int .i64 q.dc
  | 18 => .slice (some ⟨w0.heap.size, 0, none⟩) 1 1
  | 20 => .pointer (some ⟨q.fb, q.p, none⟩)
  | _ => undef
def tdk (k : Nat) : Nat := [5, 6, 7, 8, 9, 10, 11, 12, 13, 14, 15, 16, 17, 18, 19, 20, 21, 22, 23, 24, 25, 28].getD k 29
def tdkOk : Bool := (List.range 22).all fun i => decide (3 < tdk i) && decide (tdk i < 30) && (List.range 22).all fun k => k == i || tdk k != tdk i
theorem tdk_ok (i : Nat) (hi : i < 22) : 3 < tdk i ∧ tdk i < 30 ∧ ∀ k, k < 22 → k ≠ i → tdk k ≠ tdk i := by
  have hd : tdkOk = true := by kernel_rfl
  unfold tdkOk at hd
  rw [List.all_eq_true] at hd
  have := hd i (by simpa using hi)
  simp only [Bool.and_eq_true, bne_iff_ne, decide_eq_true_eq, List.all_eq_true, Bool.or_eq_true, beq_iff_eq] at this
  refine ⟨this.1.1, this.1.2, fun k hk hne => ?_⟩
  rcases this.2 k (by simpa using hk) with h | h
  · exact absurd h hne
  · exact h
/-- in the midst of it; A: what the append leaves -/
structure TkI (q : TkQ) (w0 w1 : World) (A : Nat → Nat → World → Prop) (L : Array Bool) (a : Act) (w : World) : Prop where
  Lsz : L.size = 22
  asz : a.tmps.size = 30
  df : a.defers = []
  x0 : eV a 0 = .pointer (some ⟨q.mb, 0, none⟩)
  x1 : eV a 1 = .pointer (some ⟨q.wc, 0, none⟩)
  x2 : eV a 2 = .pointer (some ⟨q.pc, 0, none⟩)
  x3 : eV a 3 = .pointer (some ⟨q.tc, 0, none⟩)
  fk : ∀ k, k < 22 → k ≠ 19 → k ≠ 21 → L.getD k false = true → eV a (tdk k) = tV q w0 k
  wa : L.getD 18 false = false → w = w0
  wb : L.getD 18 false = true → L.getD 19 false = false → w = w1
  wc : L.getD 19 false = true → L.getD 21 false = false → ∃ g cap, eV a 24 = .slice (some ⟨g, 0, none⟩) (q.n + 1) cap ∧ A g cap w
  wd : L.getD 21 false = true → ∃ g cap W3, A g cap W3 ∧ w = W3.setCell ⟨q.fb, q.p, none⟩ (.slice (some ⟨g, 0, none⟩) (q.n + 1) cap)
  c19 : L.getD 19 false = true → L.getD 18 false = true
  c21 : L.getD 21 false = true → ∀ k, k < 21 → L.getD k false = true
section
variable {q : TkQ} {w0 w1 : World} {A : Nat → Nat → World → Prop} {L : Array Bool} {a : Act} {w : World}
theorem TkI.no21 (h : TkI q w0 w1 A L a w) {i : Nat} (hi : i < 21) (hu : L.getD i true = false) : L.getD 21 false = false := by
  cases e : L.getD 21 false with
  | false => rfl
  | true => have := h.c21 e i hi; rw [ff hu] at this; cases this
theorem TkI.cells (h : TkI q w0 w1 A L a w) (h0 : TkS q w0) (h1 : TkS q w1) (hA : ∀ g cap W3, A g cap W3 → TkS q W3) (h21 : L.getD 21 false = false) : TkS q w := by
  cases e : L.getD 18 false with
  | false => rw [h.wa e]; exact h0
  | true =>
    cases e2 : L.getD 19 false with
    | false => rw [h.wb e e2]; exact h1
    | true => obtain ⟨g, cap, _, hh⟩ := h.wc e2 h21; exact hA g cap w hh
/-- an operation that leaves the world -/
theorem TkI.put (h : TkI q w0 w1 A L a w) {i : Nat} (hi : i < 21) (hi1 : i ≠ 18) (hi2 : i ≠ 19) (hu : L.getD i true = false) : TkI q w0 w1 A (L.setIfInBounds i true) (a.put (some (tdk i)) (tV q w0 i)) w := by
  obtain ⟨d0, d1, d2⟩ := tdk_ok i (by omega)
  have h21 := h.no21 hi hu
  have hup : ∀ k, L.getD k false = true → (L.setIfInBounds i true).getD k false = true := fun k hk => by
    by_cases e : k = i
    · rw [e]; exact L_same (by rw [h.Lsz]; omega)
    · rw [L_other e]; exact hk
  have o18 : (L.setIfInBounds i true).getD 18 false = L.getD 18 false := L_other (Ne.symm hi1)
  have o19 : (L.setIfInBounds i true).getD 19 false = L.getD 19 false := L_other (Ne.symm hi2)
  have o21 : (L.setIfInBounds i true).getD 21 false = L.getD 21 false := L_other (by omega)
  have hn24 : tdk i ≠ 24 := fun e => d2 19 (by decide) (Ne.symm hi2) (by rw [e]; rfl)
  refine ⟨by simp [h.Lsz], by rw [put_size]; exact h.asz, by rw [put_defers]; exact h.df, by rw [eV_other (by omega)]; exact h.x0, by rw [eV_other (by omega)]; exact h.x1, by rw [eV_other (by omega)]; exact h.x2, by rw [eV_other (by omega)]; exact h.x3, fun k hk h1 h2 hl => ?_, fun e => h.wa (by rw [← o18]; exact e), fun e e2 => h.wb (by rw [← o18]; exact e) (by rw [← o19]; exact e2), fun e e2 => ?_, fun e => ?_, fun e => by rw [o18]; exact h.c19 (by rw [← o19]; exact e), fun e => ?_⟩
  · by_cases e : k = i
    · subst e; exact eV_same (by rw [h.asz]; exact d1)
    · rw [eV_other (d2 k hk e)]
      rw [L_other e] at hl
      exact h.fk k hk h1 h2 hl
  · rw [eV_other (Ne.symm hn24)]
    exact h.wc (by rw [← o19]; exact e) (by rw [← o21]; exact e2)
  · rw [o21, h21] at e; cases e
  · rw [o21, h21] at e; cases e
end
section
variable {ρ : Operand → Value} {o : Oper} {P : Program} {w w' : World} {v : Value}
theorem ex_load {t : TypeId} {x : Operand} (h : o.op = .load t x) (hr : (Instr.loadAt t (ρ x)).run P w = .ok v w') : (execOp ρ o).run P w = .ok (.value v) w' := by unfold execOp; rw [h]; exact ex_v hr
theorem ex_fieldAddr {t : TypeId} {x : Operand} {f : Nat} (h : o.op = .fieldAddr t x f) (hr : (Instr.fieldAt t (ρ x) f).run P w = .ok v w') : (execOp ρ o).run P w = .ok (.value v) w' := by unfold execOp; rw [h]; exact ex_v hr
theorem ex_indexAddr {t : TypeId} {x y : Operand} (h : o.op = .indexAddr t x y) (hr : (Instr.indexAt t (ρ x) (ρ y)).run P w = .ok v w') : (execOp ρ o).run P w = .ok (.value v) w' := by unfold execOp; rw [h]; exact ex_v hr
theorem ex_buildSlice {t : TypeId} {n : Nat} {ps : Array (Nat × Operand)} (h : o.op = .buildSlice t n ps) (hr : (Instr.buildSlice t n (ps.map fun (i, x) => (i, ρ x))).run P w = .ok v w') : (execOp ρ o).run P w = .ok (.value v) w' := by unfold execOp; rw [h]; exact ex_v hr
theorem ex_store {t : TypeId} {x y : Operand} (h : o.op = .store t x y) (hr : (Instr.storeAt t (ρ x) (ρ y)).run P w = .ok () w') : (execOp ρ o).run P w = .ok .skip w' := by unfold execOp; rw [h]; exact ex_u hr
theorem ex_nil {x : Operand} {b : Nat} (h : o.op = .nilCheck x) (hx : ρ x = .pointer (some ⟨b, 0, none⟩)) : (execOp ρ o).run P w = .ok (.value (.pointer (some ⟨b, 0, none⟩))) w := by unfold execOp; rw [h]; simp only [hx]; rfl
end
theorem tko0 : ∃ o, tkOps[0]? = some o ∧ o.op = .load 49 (.tmp 1) ∧ o.dst = some 5 ∧ o.guard = none := ⟨_, rfl, rfl, rfl, rfl⟩
theorem tko1 : ∃ o, tkOps[1]? = some o ∧ o.op = .nilCheck (.tmp 5) ∧ o.dst = some 6 ∧ o.guard = none ∧ (o.after.any fun e => e.on == 0 && Region.binds .any e) = true := ⟨_, rfl, rfl, rfl, rfl, by kernel_rfl⟩
theorem tko2 : ∃ o, tkOps[2]? = some o ∧ o.op = .fieldAddr 56 (.tmp 6) 1 ∧ o.dst = some 7 ∧ o.guard = none ∧ (o.after.any fun e => e.on == 1 && Region.binds .any e) = true := ⟨_, rfl, rfl, rfl, rfl, by kernel_rfl⟩
theorem tko3 : ∃ o, tkOps[3]? = some o ∧ o.op = .fieldAddr 28 (.tmp 7) 1 ∧ o.dst = some 8 ∧ o.guard = none ∧ (o.after.any fun e => e.on == 2 && Region.binds .any e) = true := ⟨_, rfl, rfl, rfl, rfl, by kernel_rfl⟩
theorem tko4 : ∃ o, tkOps[4]? = some o ∧ o.op = .load 26 (.tmp 8) ∧ o.dst = some 9 ∧ o.guard = none ∧ (o.after.any fun e => e.on == 3 && Region.binds .any e) = true := ⟨_, rfl, rfl, rfl, rfl, by kernel_rfl⟩
theorem tko5 : ∃ o, tkOps[5]? = some o ∧ o.op = .load 3 (.tmp 2) ∧ o.dst = some 10 ∧ o.guard = none := ⟨_, rfl, rfl, rfl, rfl⟩
theorem tko6 : ∃ o, tkOps[6]? = some o ∧ o.op = .load 49 (.tmp 1) ∧ o.dst = some 11 ∧ o.guard = none := ⟨_, rfl, rfl, rfl, rfl⟩
theorem tko7 : ∃ o, tkOps[7]? = some o ∧ o.op = .nilCheck (.tmp 11) ∧ o.dst = some 12 ∧ o.guard = none ∧ (o.after.any fun e => e.on == 6 && Region.binds .any e) = true := ⟨_, rfl, rfl, rfl, rfl, by kernel_rfl⟩
theorem tko8 : ∃ o, tkOps[8]? = some o ∧ o.op = .fieldAddr 56 (.tmp 12) 1 ∧ o.dst = some 13 ∧ o.guard = none ∧ (o.after.any fun e => e.on == 7 && Region.binds .any e) = true := ⟨_, rfl, rfl, rfl, rfl, by kernel_rfl⟩
theorem tko9 : ∃ o, tkOps[9]? = some o ∧ o.op = .fieldAddr 28 (.tmp 13) 1 ∧ o.dst = some 14 ∧ o.guard = none ∧ (o.after.any fun e => e.on == 8 && Region.binds .any e) = true := ⟨_, rfl, rfl, rfl, rfl, by kernel_rfl⟩
theorem tko10 : ∃ o, tkOps[10]? = some o ∧ o.op = .load 26 (.tmp 14) ∧ o.dst = some 15 ∧ o.guard = none ∧ (o.after.any fun e => e.on == 9 && Region.binds .any e) = true := ⟨_, rfl, rfl, rfl, rfl, by kernel_rfl⟩
theorem tko11 : ∃ o, tkOps[11]? = some o ∧ o.op = .load 3 (.tmp 2) ∧ o.dst = some 16 ∧ o.guard = none := ⟨_, rfl, rfl, rfl, rfl⟩
theorem tko12 : ∃ o, tkOps[12]? = some o ∧ o.op = .indexAddr 26 (.tmp 15) (.tmp 16) ∧ o.dst = some 17 ∧ o.guard = none ∧ (o.after.any fun e => e.on == 10 && Region.binds .any e) = true ∧ (o.after.any fun e => e.on == 11 && Region.binds .any e) = true := ⟨_, rfl, rfl, rfl, rfl, by kernel_rfl, by kernel_rfl⟩
theorem tko13 : ∃ o, tkOps[13]? = some o ∧ o.op = .load 25 (.tmp 17) ∧ o.dst = some 18 ∧ o.guard = none ∧ (o.after.any fun e => e.on == 12 && Region.binds .any e) = true := ⟨_, rfl, rfl, rfl, rfl, by kernel_rfl⟩
theorem tko14 : ∃ o, tkOps[14]? = some o ∧ o.op = .move (.tmp 0) ∧ o.dst = some 19 ∧ o.guard = none := ⟨_, rfl, rfl, rfl, rfl⟩
theorem tko15 : ∃ o, tkOps[15]? = some o ∧ o.op = .nilCheck (.tmp 19) ∧ o.dst = some 20 ∧ o.guard = none ∧ (o.after.any fun e => e.on == 14 && Region.binds .any e) = true := ⟨_, rfl, rfl, rfl, rfl, by kernel_rfl⟩
theorem tko16 : ∃ o, tkOps[16]? = some o ∧ o.op = .fieldAddr 63 (.tmp 20) 0 ∧ o.dst = some 21 ∧ o.guard = none ∧ (o.after.any fun e => e.on == 15 && Region.binds .any e) = true := ⟨_, rfl, rfl, rfl, rfl, by kernel_rfl⟩
theorem tko17 : ∃ o, tkOps[17]? = some o ∧ o.op = .load 3 (.tmp 21) ∧ o.dst = some 22 ∧ o.guard = none ∧ (o.after.any fun e => e.on == 16 && Region.binds .any e) = true := ⟨_, rfl, rfl, rfl, rfl, by kernel_rfl⟩
theorem tko18 : ∃ o, tkOps[18]? = some o ∧ o.op = .buildSlice 25 1 #[(0, .tmp 22)] ∧ o.dst = some 23 ∧ o.guard = none ∧ (o.after.any fun e => e.on == 17 && Region.binds .any e) = true := ⟨_, rfl, rfl, rfl, rfl, by kernel_rfl⟩
theorem tko19 : ∃ o, tkOps[19]? = some o ∧ o.op = .call { callee := .builtin .append, args := #[.tmp 18, .tmp 23], argTypes := #[25, 25] } ∧ o.dst = some 24 ∧ o.guard = none ∧ (o.after.any fun e => e.on == 13 && Region.binds .any e) = true ∧ (o.after.any fun e => e.on == 18 && Region.binds .any e) = true := ⟨_, rfl, rfl, rfl, rfl, by kernel_rfl, by kernel_rfl⟩
theorem tko20 : ∃ o, tkOps[20]? = some o ∧ o.op = .indexAddr 26 (.tmp 9) (.tmp 10) ∧ o.dst = some 25 ∧ o.guard = none ∧ (o.after.any fun e => e.on == 4 && Region.binds .any e) = true ∧ (o.after.any fun e => e.on == 5 && Region.binds .any e) = true := ⟨_, rfl, rfl, rfl, rfl, by kernel_rfl, by kernel_rfl⟩
theorem tko21 : ∃ o, tkOps[21]? = some o ∧ o.op = .store 25 (.tmp 25) (.tmp 24) ∧ o.dst = none ∧ o.guard = none ∧ (o.after.any fun e => e.on == 20 && Region.binds .any e) = true ∧ (o.after.any fun e => e.on == 19 && Region.binds .any e) = true ∧ (o.after.any fun e => e.on == 0 && Region.binds .any e) = true ∧ (o.after.any fun e => e.on == 1 && Region.binds .any e) = true ∧ (o.after.any fun e => e.on == 2 && Region.binds .any e) = true ∧ (o.after.any fun e => e.on == 3 && Region.binds .any e) = true ∧ (o.after.any fun e => e.on == 4 && Region.binds .any e) = true ∧ (o.after.any fun e => e.on == 5 && Region.binds .any e) = true ∧ (o.after.any fun e => e.on == 6 && Region.binds .any e) = true ∧ (o.after.any fun e => e.on == 7 && Region.binds .any e) = true ∧ (o.after.any fun e => e.on == 8 && Region.binds .any e) = true ∧ (o.after.any fun e => e.on == 9 && Region.binds .any e) = true ∧ (o.after.any fun e => e.on == 10 && Region.binds .any e) = true ∧ (o.after.any fun e => e.on == 11 && Region.binds .any e) = true ∧ (o.after.any fun e => e.on == 12 && Region.binds .any e) = true ∧ (o.after.any fun e => e.on == 13 && Region.binds .any e) = true ∧ (o.after.any fun e => e.on == 14 && Region.binds .any e) = true ∧ (o.after.any fun e => e.on == 15 && Region.binds .any e) = true ∧ (o.after.any fun e => e.on == 16 && Region.binds .any e) = true ∧ (o.after.any fun e => e.on == 17 && Region.binds .any e) = true ∧ (o.after.any fun e => e.on == 18 && Region.binds .any e) = true := ⟨_, rfl, rfl, rfl, rfl, by kernel_rfl, by kernel_rfl, by kernel_rfl, by kernel_rfl, by kernel_rfl, by kernel_rfl, by kernel_rfl, by kernel_rfl, by kernel_rfl, by kernel_rfl, by kernel_rfl, by kernel_rfl, by kernel_rfl, by kernel_rfl, by kernel_rfl, by kernel_rfl, by kernel_rfl, by kernel_rfl, by kernel_rfl, by kernel_rfl, by kernel_rfl⟩
theorem tk_step0 {q : TkQ} {w0 w1 : World} {A : Nat → Nat → World → Prop} (hN : q.N ≤ 2147483647) (hp : q.p < q.N) (h0 : TkS q w0) (h1 : TkS q w1) (hA : ∀ g cap W3, A g cap W3 → TkS q W3) (hw1 : w0.alloc (.cells #[.int .i64 q.dc] 3) = w1)
    (HA : ∀ ty, ∃ g cap W3, (Builtin.append_ #[25, 25] ty #[.slice q.fa q.n q.fc, .slice (some ⟨w0.heap.size, 0, none⟩) 1 1]).run Tryd.prog w1 = .ok (.slice (some ⟨g, 0, none⟩) (q.n + 1) cap) W3 ∧ A g cap W3)
    {L : Array Bool} {a : Act} {w : World} {o : Oper} (h : TkI q w0 w1 A L a w) (hu : L.getD 0 true = false) (ho : tkOps[0]? = some o) (hall : ∀ e ∈ o.after, Region.binds .any e = true → L.getD e.on false = true) :
    o.guard = none ∧ ∃ v w', ((execOp a.eval o).run Tryd.prog w = .ok (.value v) w' ∨ ((execOp a.eval o).run Tryd.prog w = .ok .skip w' ∧ v = undef)) ∧ TkI q w0 w1 A (L.setIfInBounds 0 true) (a.put o.dst v) w' := by
  obtain ⟨o', ho', hop, hdst, hg⟩ := tko0
  rw [ho] at ho'
  cases ho'
  refine ⟨hg, ?_⟩
  rw [hdst]
  have hS := h.cells h0 h1 hA (h.no21 (by decide) hu)
  have hrun : (execOp a.eval o).run Tryd.prog w = .ok (.value (tV q w0 0)) w := ex_load hop (by rw [show a.eval (.tmp 1) = _ from h.x1]; have := hS.a1; unfold tV; go_simp)
  exact ⟨tV q w0 0, w, .inl hrun, h.put (i := 0) (by decide) (by decide) (by decide) hu⟩
theorem tk_step6 {q : TkQ} {w0 w1 : World} {A : Nat → Nat → World → Prop} (hN : q.N ≤ 2147483647) (hp : q.p < q.N) (h0 : TkS q w0) (h1 : TkS q w1) (hA : ∀ g cap W3, A g cap W3 → TkS q W3) (hw1 : w0.alloc (.cells #[.int .i64 q.dc] 3) = w1)
    (HA : ∀ ty, ∃ g cap W3, (Builtin.append_ #[25, 25] ty #[.slice q.fa q.n q.fc, .slice (some ⟨w0.heap.size, 0, none⟩) 1 1]).run Tryd.prog w1 = .ok (.slice (some ⟨g, 0, none⟩) (q.n + 1) cap) W3 ∧ A g cap W3)
    {L : Array Bool} {a : Act} {w : World} {o : Oper} (h : TkI q w0 w1 A L a w) (hu : L.getD 6 true = false) (ho : tkOps[6]? = some o) (hall : ∀ e ∈ o.after, Region.binds .any e = true → L.getD e.on false = true) :
    o.guard = none ∧ ∃ v w', ((execOp a.eval o).run Tryd.prog w = .ok (.value v) w' ∨ ((execOp a.eval o).run Tryd.prog w = .ok .skip w' ∧ v = undef)) ∧ TkI q w0 w1 A (L.setIfInBounds 6 true) (a.put o.dst v) w' := by
  obtain ⟨o', ho', hop, hdst, hg⟩ := tko6
  rw [ho] at ho'
  cases ho'
  refine ⟨hg, ?_⟩
  rw [hdst]
  have hS := h.cells h0 h1 hA (h.no21 (by decide) hu)
  have hrun : (execOp a.eval o).run Tryd.prog w = .ok (.value (tV q w0 6)) w := ex_load hop (by rw [show a.eval (.tmp 1) = _ from h.x1]; have := hS.a1; unfold tV; go_simp)
  exact ⟨tV q w0 6, w, .inl hrun, h.put (i := 6) (by decide) (by decide) (by decide) hu⟩
theorem tk_step5 {q : TkQ} {w0 w1 : World} {A : Nat → Nat → World → Prop} (hN : q.N ≤ 2147483647) (hp : q.p < q.N) (h0 : TkS q w0) (h1 : TkS q w1) (hA : ∀ g cap W3, A g cap W3 → TkS q W3) (hw1 : w0.alloc (.cells #[.int .i64 q.dc] 3) = w1)
    (HA : ∀ ty, ∃ g cap W3, (Builtin.append_ #[25, 25] ty #[.slice q.fa q.n q.fc, .slice (some ⟨w0.heap.size, 0, none⟩) 1 1]).run Tryd.prog w1 = .ok (.slice (some ⟨g, 0, none⟩) (q.n + 1) cap) W3 ∧ A g cap W3)
    {L : Array Bool} {a : Act} {w : World} {o : Oper} (h : TkI q w0 w1 A L a w) (hu : L.getD 5 true = false) (ho : tkOps[5]? = some o) (hall : ∀ e ∈ o.after, Region.binds .any e = true → L.getD e.on false = true) :
    o.guard = none ∧ ∃ v w', ((execOp a.eval o).run Tryd.prog w = .ok (.value v) w' ∨ ((execOp a.eval o).run Tryd.prog w = .ok .skip w' ∧ v = undef)) ∧ TkI q w0 w1 A (L.setIfInBounds 5 true) (a.put o.dst v) w' := by
  obtain ⟨o', ho', hop, hdst, hg⟩ := tko5
  rw [ho] at ho'
  cases ho'
  refine ⟨hg, ?_⟩
  rw [hdst]
  have hS := h.cells h0 h1 hA (h.no21 (by decide) hu)
  have hrun : (execOp a.eval o).run Tryd.prog w = .ok (.value (tV q w0 5)) w := ex_load hop (by rw [show a.eval (.tmp 2) = _ from h.x2]; have := hS.a2; unfold tV; go_simp)
  exact ⟨tV q w0 5, w, .inl hrun, h.put (i := 5) (by decide) (by decide) (by decide) hu⟩
theorem tk_step11 {q : TkQ} {w0 w1 : World} {A : Nat → Nat → World → Prop} (hN : q.N ≤ 2147483647) (hp : q.p < q.N) (h0 : TkS q w0) (h1 : TkS q w1) (hA : ∀ g cap W3, A g cap W3 → TkS q W3) (hw1 : w0.alloc (.cells #[.int .i64 q.dc] 3) = w1)
    (HA : ∀ ty, ∃ g cap W3, (Builtin.append_ #[25, 25] ty #[.slice q.fa q.n q.fc, .slice (some ⟨w0.heap.size, 0, none⟩) 1 1]).run Tryd.prog w1 = .ok (.slice (some ⟨g, 0, none⟩) (q.n + 1) cap) W3 ∧ A g cap W3)
    {L : Array Bool} {a : Act} {w : World} {o : Oper} (h : TkI q w0 w1 A L a w) (hu : L.getD 11 true = false) (ho : tkOps[11]? = some o) (hall : ∀ e ∈ o.after, Region.binds .any e = true → L.getD e.on false = true) :
    o.guard = none ∧ ∃ v w', ((execOp a.eval o).run Tryd.prog w = .ok (.value v) w' ∨ ((execOp a.eval o).run Tryd.prog w = .ok .skip w' ∧ v = undef)) ∧ TkI q w0 w1 A (L.setIfInBounds 11 true) (a.put o.dst v) w' := by
  obtain ⟨o', ho', hop, hdst, hg⟩ := tko11
  rw [ho] at ho'
  cases ho'
  refine ⟨hg, ?_⟩
  rw [hdst]
  have hS := h.cells h0 h1 hA (h.no21 (by decide) hu)
  have hrun : (execOp a.eval o).run Tryd.prog w = .ok (.value (tV q w0 11)) w := ex_load hop (by rw [show a.eval (.tmp 2) = _ from h.x2]; have := hS.a2; unfold tV; go_simp)
  exact ⟨tV q w0 11, w, .inl hrun, h.put (i := 11) (by decide) (by decide) (by decide) hu⟩
theorem tk_step1 {q : TkQ} {w0 w1 : World} {A : Nat → Nat → World → Prop} (hN : q.N ≤ 2147483647) (hp : q.p < q.N) (h0 : TkS q w0) (h1 : TkS q w1) (hA : ∀ g cap W3, A g cap W3 → TkS q W3) (hw1 : w0.alloc (.cells #[.int .i64 q.dc] 3) = w1)
    (HA : ∀ ty, ∃ g cap W3, (Builtin.append_ #[25, 25] ty #[.slice q.fa q.n q.fc, .slice (some ⟨w0.heap.size, 0, none⟩) 1 1]).run Tryd.prog w1 = .ok (.slice (some ⟨g, 0, none⟩) (q.n + 1) cap) W3 ∧ A g cap W3)
    {L : Array Bool} {a : Act} {w : World} {o : Oper} (h : TkI q w0 w1 A L a w) (hu : L.getD 1 true = false) (ho : tkOps[1]? = some o) (hall : ∀ e ∈ o.after, Region.binds .any e = true → L.getD e.on false = true) :
    o.guard = none ∧ ∃ v w', ((execOp a.eval o).run Tryd.prog w = .ok (.value v) w' ∨ ((execOp a.eval o).run Tryd.prog w = .ok .skip w' ∧ v = undef)) ∧ TkI q w0 w1 A (L.setIfInBounds 1 true) (a.put o.dst v) w' := by
  obtain ⟨o', ho', hop, hdst, hg, d0⟩ := tko1
  rw [ho] at ho'
  cases ho'
  have l0 := dep_of d0 hall
  refine ⟨hg, ?_⟩
  rw [hdst]
  have q5 : a.eval (.tmp 5) = tV q w0 0 := h.fk 0 (by decide) (by decide) (by decide) l0
  have hrun : (execOp a.eval o).run Tryd.prog w = .ok (.value (tV q w0 1)) w := ex_nil hop q5
  exact ⟨tV q w0 1, w, .inl hrun, h.put (i := 1) (by decide) (by decide) (by decide) hu⟩
theorem tk_step7 {q : TkQ} {w0 w1 : World} {A : Nat → Nat → World → Prop} (hN : q.N ≤ 2147483647) (hp : q.p < q.N) (h0 : TkS q w0) (h1 : TkS q w1) (hA : ∀ g cap W3, A g cap W3 → TkS q W3) (hw1 : w0.alloc (.cells #[.int .i64 q.dc] 3) = w1)
    (HA : ∀ ty, ∃ g cap W3, (Builtin.append_ #[25, 25] ty #[.slice q.fa q.n q.fc, .slice (some ⟨w0.heap.size, 0, none⟩) 1 1]).run Tryd.prog w1 = .ok (.slice (some ⟨g, 0, none⟩) (q.n + 1) cap) W3 ∧ A g cap W3)
    {L : Array Bool} {a : Act} {w : World} {o : Oper} (h : TkI q w0 w1 A L a w) (hu : L.getD 7 true = false) (ho : tkOps[7]? = some o) (hall : ∀ e ∈ o.after, Region.binds .any e = true → L.getD e.on false = true) :
    o.guard = none ∧ ∃ v w', ((execOp a.eval o).run Tryd.prog w = .ok (.value v) w' ∨ ((execOp a.eval o).run Tryd.prog w = .ok .skip w' ∧ v = undef)) ∧ TkI q w0 w1 A (L.setIfInBounds 7 true) (a.put o.dst v) w' := by
  obtain ⟨o', ho', hop, hdst, hg, d6⟩ := tko7
  rw [ho] at ho'
  cases ho'
  have l6 := dep_of d6 hall
  refine ⟨hg, ?_⟩
  rw [hdst]
  have q11 : a.eval (.tmp 11) = tV q w0 6 := h.fk 6 (by decide) (by decide) (by decide) l6
  have hrun : (execOp a.eval o).run Tryd.prog w = .ok (.value (tV q w0 7)) w := ex_nil hop q11
  exact ⟨tV q w0 7, w, .inl hrun, h.put (i := 7) (by decide) (by decide) (by decide) hu⟩
theorem tk_step15 {q : TkQ} {w0 w1 : World} {A : Nat → Nat → World → Prop} (hN : q.N ≤ 2147483647) (hp : q.p < q.N) (h0 : TkS q w0) (h1 : TkS q w1) (hA : ∀ g cap W3, A g cap W3 → TkS q W3) (hw1 : w0.alloc (.cells #[.int .i64 q.dc] 3) = w1)
    (HA : ∀ ty, ∃ g cap W3, (Builtin.append_ #[25, 25] ty #[.slice q.fa q.n q.fc, .slice (some ⟨w0.heap.size, 0, none⟩) 1 1]).run Tryd.prog w1 = .ok (.slice (some ⟨g, 0, none⟩) (q.n + 1) cap) W3 ∧ A g cap W3)
    {L : Array Bool} {a : Act} {w : World} {o : Oper} (h : TkI q w0 w1 A L a w) (hu : L.getD 15 true = false) (ho : tkOps[15]? = some o) (hall : ∀ e ∈ o.after, Region.binds .any e = true → L.getD e.on false = true) :
    o.guard = none ∧ ∃ v w', ((execOp a.eval o).run Tryd.prog w = .ok (.value v) w' ∨ ((execOp a.eval o).run Tryd.prog w = .ok .skip w' ∧ v = undef)) ∧ TkI q w0 w1 A (L.setIfInBounds 15 true) (a.put o.dst v) w' := by
  obtain ⟨o', ho', hop, hdst, hg, d14⟩ := tko15
  rw [ho] at ho'
  cases ho'
  have l14 := dep_of d14 hall
  refine ⟨hg, ?_⟩
  rw [hdst]
  have q19 : a.eval (.tmp 19) = tV q w0 14 := h.fk 14 (by decide) (by decide) (by decide) l14
  have hrun : (execOp a.eval o).run Tryd.prog w = .ok (.value (tV q w0 15)) w := ex_nil hop q19
  exact ⟨tV q w0 15, w, .inl hrun, h.put (i := 15) (by decide) (by decide) (by decide) hu⟩
theorem tk_step2 {q : TkQ} {w0 w1 : World} {A : Nat → Nat → World → Prop} (hN : q.N ≤ 2147483647) (hp : q.p < q.N) (h0 : TkS q w0) (h1 : TkS q w1) (hA : ∀ g cap W3, A g cap W3 → TkS q W3) (hw1 : w0.alloc (.cells #[.int .i64 q.dc] 3) = w1)
    (HA : ∀ ty, ∃ g cap W3, (Builtin.append_ #[25, 25] ty #[.slice q.fa q.n q.fc, .slice (some ⟨w0.heap.size, 0, none⟩) 1 1]).run Tryd.prog w1 = .ok (.slice (some ⟨g, 0, none⟩) (q.n + 1) cap) W3 ∧ A g cap W3)
    {L : Array Bool} {a : Act} {w : World} {o : Oper} (h : TkI q w0 w1 A L a w) (hu : L.getD 2 true = false) (ho : tkOps[2]? = some o) (hall : ∀ e ∈ o.after, Region.binds .any e = true → L.getD e.on false = true) :
    o.guard = none ∧ ∃ v w', ((execOp a.eval o).run Tryd.prog w = .ok (.value v) w' ∨ ((execOp a.eval o).run Tryd.prog w = .ok .skip w' ∧ v = undef)) ∧ TkI q w0 w1 A (L.setIfInBounds 2 true) (a.put o.dst v) w' := by
  obtain ⟨o', ho', hop, hdst, hg, d1⟩ := tko2
  rw [ho] at ho'
  cases ho'
  have l1 := dep_of d1 hall
  refine ⟨hg, ?_⟩
  rw [hdst]
  have q6 : a.eval (.tmp 6) = tV q w0 1 := h.fk 1 (by decide) (by decide) (by decide) l1
  have hrun : (execOp a.eval o).run Tryd.prog w = .ok (.value (tV q w0 2)) w := ex_fieldAddr hop (by rw [q6]; unfold tV; go_simp)
  exact ⟨tV q w0 2, w, .inl hrun, h.put (i := 2) (by decide) (by decide) (by decide) hu⟩
theorem tk_step3 {q : TkQ} {w0 w1 : World} {A : Nat → Nat → World → Prop} (hN : q.N ≤ 2147483647) (hp : q.p < q.N) (h0 : TkS q w0) (h1 : TkS q w1) (hA : ∀ g cap W3, A g cap W3 → TkS q W3) (hw1 : w0.alloc (.cells #[.int .i64 q.dc] 3) = w1)
    (HA : ∀ ty, ∃ g cap W3, (Builtin.append_ #[25, 25] ty #[.slice q.fa q.n q.fc, .slice (some ⟨w0.heap.size, 0, none⟩) 1 1]).run Tryd.prog w1 = .ok (.slice (some ⟨g, 0, none⟩) (q.n + 1) cap) W3 ∧ A g cap W3)
    {L : Array Bool} {a : Act} {w : World} {o : Oper} (h : TkI q w0 w1 A L a w) (hu : L.getD 3 true = false) (ho : tkOps[3]? = some o) (hall : ∀ e ∈ o.after, Region.binds .any e = true → L.getD e.on false = true) :
    o.guard = none ∧ ∃ v w', ((execOp a.eval o).run Tryd.prog w = .ok (.value v) w' ∨ ((execOp a.eval o).run Tryd.prog w = .ok .skip w' ∧ v = undef)) ∧ TkI q w0 w1 A (L.setIfInBounds 3 true) (a.put o.dst v) w' := by
  obtain ⟨o', ho', hop, hdst, hg, d2⟩ := tko3
  rw [ho] at ho'
  cases ho'
  have l2 := dep_of d2 hall
  refine ⟨hg, ?_⟩
  rw [hdst]
  have q7 : a.eval (.tmp 7) = tV q w0 2 := h.fk 2 (by decide) (by decide) (by decide) l2
  have hrun : (execOp a.eval o).run Tryd.prog w = .ok (.value (tV q w0 3)) w := ex_fieldAddr hop (by rw [q7]; unfold tV; go_simp)
  exact ⟨tV q w0 3, w, .inl hrun, h.put (i := 3) (by decide) (by decide) (by decide) hu⟩
theorem tk_step8 {q : TkQ} {w0 w1 : World} {A : Nat → Nat → World → Prop} (hN : q.N ≤ 2147483647) (hp : q.p < q.N) (h0 : TkS q w0) (h1 : TkS q w1) (hA : ∀ g cap W3, A g cap W3 → TkS q W3) (hw1 : w0.alloc (.cells #[.int .i64 q.dc] 3) = w1)
    (HA : ∀ ty, ∃ g cap W3, (Builtin.append_ #[25, 25] ty #[.slice q.fa q.n q.fc, .slice (some ⟨w0.heap.size, 0, none⟩) 1 1]).run Tryd.prog w1 = .ok (.slice (some ⟨g, 0, none⟩) (q.n + 1) cap) W3 ∧ A g cap W3)
    {L : Array Bool} {a : Act} {w : World} {o : Oper} (h : TkI q w0 w1 A L a w) (hu : L.getD 8 true = false) (ho : tkOps[8]? = some o) (hall : ∀ e ∈ o.after, Region.binds .any e = true → L.getD e.on false = true) :
    o.guard = none ∧ ∃ v w', ((execOp a.eval o).run Tryd.prog w = .ok (.value v) w' ∨ ((execOp a.eval o).run Tryd.prog w = .ok .skip w' ∧ v = undef)) ∧ TkI q w0 w1 A (L.setIfInBounds 8 true) (a.put o.dst v) w' := by
  obtain ⟨o', ho', hop, hdst, hg, d7⟩ := tko8
  rw [ho] at ho'
  cases ho'
  have l7 := dep_of d7 hall
  refine ⟨hg, ?_⟩
  rw [hdst]
  have q12 : a.eval (.tmp 12) = tV q w0 7 := h.fk 7 (by decide) (by decide) (by decide) l7
  have hrun : (execOp a.eval o).run Tryd.prog w = .ok (.value (tV q w0 8)) w := ex_fieldAddr hop (by rw [q12]; unfold tV; go_simp)
  exact ⟨tV q w0 8, w, .inl hrun, h.put (i := 8) (by decide) (by decide) (by decide) hu⟩
theorem tk_step9 {q : TkQ} {w0 w1 : World} {A : Nat → Nat → World → Prop} (hN : q.N ≤ 2147483647) (hp : q.p < q.N) (h0 : TkS q w0) (h1 : TkS q w1) (hA : ∀ g cap W3, A g cap W3 → TkS q W3) (hw1 : w0.alloc (.cells #[.int .i64 q.dc] 3) = w1)
    (HA : ∀ ty, ∃ g cap W3, (Builtin.append_ #[25, 25] ty #[.slice q.fa q.n q.fc, .slice (some ⟨w0.heap.size, 0, none⟩) 1 1]).run Tryd.prog w1 = .ok (.slice (some ⟨g, 0, none⟩) (q.n + 1) cap) W3 ∧ A g cap W3)
    {L : Array Bool} {a : Act} {w : World} {o : Oper} (h : TkI q w0 w1 A L a w) (hu : L.getD 9 true = false) (ho : tkOps[9]? = some o) (hall : ∀ e ∈ o.after, Region.binds .any e = true → L.getD e.on false = true) :
    o.guard = none ∧ ∃ v w', ((execOp a.eval o).run Tryd.prog w = .ok (.value v) w' ∨ ((execOp a.eval o).run Tryd.prog w = .ok .skip w' ∧ v = undef)) ∧ TkI q w0 w1 A (L.setIfInBounds 9 true) (a.put o.dst v) w' := by
  obtain ⟨o', ho', hop, hdst, hg, d8⟩ := tko9
  rw [ho] at ho'
  cases ho'
  have l8 := dep_of d8 hall
  refine ⟨hg, ?_⟩
  rw [hdst]
  have q13 : a.eval (.tmp 13) = tV q w0 8 := h.fk 8 (by decide) (by decide) (by decide) l8
  have hrun : (execOp a.eval o).run Tryd.prog w = .ok (.value (tV q w0 9)) w := ex_fieldAddr hop (by rw [q13]; unfold tV; go_simp)
  exact ⟨tV q w0 9, w, .inl hrun, h.put (i := 9) (by decide) (by decide) (by decide) hu⟩
theorem tk_step16 {q : TkQ} {w0 w1 : World} {A : Nat → Nat → World → Prop} (hN : q.N ≤ 2147483647) (hp : q.p < q.N) (h0 : TkS q w0) (h1 : TkS q w1) (hA : ∀ g cap W3, A g cap W3 → TkS q W3) (hw1 : w0.alloc (.cells #[.int .i64 q.dc] 3) = w1)
    (HA : ∀ ty, ∃ g cap W3, (Builtin.append_ #[25, 25] ty #[.slice q.fa q.n q.fc, .slice (some ⟨w0.heap.size, 0, none⟩) 1 1]).run Tryd.prog w1 = .ok (.slice (some ⟨g, 0, none⟩) (q.n + 1) cap) W3 ∧ A g cap W3)
    {L : Array Bool} {a : Act} {w : World} {o : Oper} (h : TkI q w0 w1 A L a w) (hu : L.getD 16 true = false) (ho : tkOps[16]? = some o) (hall : ∀ e ∈ o.after, Region.binds .any e = true → L.getD e.on false = true) :
    o.guard = none ∧ ∃ v w', ((execOp a.eval o).run Tryd.prog w = .ok (.value v) w' ∨ ((execOp a.eval o).run Tryd.prog w = .ok .skip w' ∧ v = undef)) ∧ TkI q w0 w1 A (L.setIfInBounds 16 true) (a.put o.dst v) w' := by
  obtain ⟨o', ho', hop, hdst, hg, d15⟩ := tko16
  rw [ho] at ho'
  cases ho'
  have l15 := dep_of d15 hall
  refine ⟨hg, ?_⟩
  rw [hdst]
  have q20 : a.eval (.tmp 20) = tV q w0 15 := h.fk 15 (by decide) (by decide) (by decide) l15
  have hrun : (execOp a.eval o).run Tryd.prog w = .ok (.value (tV q w0 16)) w := ex_fieldAddr hop (by rw [q20]; unfold tV; go_simp)
  exact ⟨tV q w0 16, w, .inl hrun, h.put (i := 16) (by decide) (by decide) (by decide) hu⟩
theorem tk_step4 {q : TkQ} {w0 w1 : World} {A : Nat → Nat → World → Prop} (hN : q.N ≤ 2147483647) (hp : q.p < q.N) (h0 : TkS q w0) (h1 : TkS q w1) (hA : ∀ g cap W3, A g cap W3 → TkS q W3) (hw1 : w0.alloc (.cells #[.int .i64 q.dc] 3) = w1)
    (HA : ∀ ty, ∃ g cap W3, (Builtin.append_ #[25, 25] ty #[.slice q.fa q.n q.fc, .slice (some ⟨w0.heap.size, 0, none⟩) 1 1]).run Tryd.prog w1 = .ok (.slice (some ⟨g, 0, none⟩) (q.n + 1) cap) W3 ∧ A g cap W3)
    {L : Array Bool} {a : Act} {w : World} {o : Oper} (h : TkI q w0 w1 A L a w) (hu : L.getD 4 true = false) (ho : tkOps[4]? = some o) (hall : ∀ e ∈ o.after, Region.binds .any e = true → L.getD e.on false = true) :
    o.guard = none ∧ ∃ v w', ((execOp a.eval o).run Tryd.prog w = .ok (.value v) w' ∨ ((execOp a.eval o).run Tryd.prog w = .ok .skip w' ∧ v = undef)) ∧ TkI q w0 w1 A (L.setIfInBounds 4 true) (a.put o.dst v) w' := by
  obtain ⟨o', ho', hop, hdst, hg, d3⟩ := tko4
  rw [ho] at ho'
  cases ho'
  have l3 := dep_of d3 hall
  refine ⟨hg, ?_⟩
  rw [hdst]
  have hS := h.cells h0 h1 hA (h.no21 (by decide) hu)
  have q8 : a.eval (.tmp 8) = tV q w0 3 := h.fk 3 (by decide) (by decide) (by decide) l3
  have hrun : (execOp a.eval o).run Tryd.prog w = .ok (.value (tV q w0 4)) w := ex_load hop (by rw [q8]; have := hS.a3; unfold tV; go_simp)
  exact ⟨tV q w0 4, w, .inl hrun, h.put (i := 4) (by decide) (by decide) (by decide) hu⟩
theorem tk_step10 {q : TkQ} {w0 w1 : World} {A : Nat → Nat → World → Prop} (hN : q.N ≤ 2147483647) (hp : q.p < q.N) (h0 : TkS q w0) (h1 : TkS q w1) (hA : ∀ g cap W3, A g cap W3 → TkS q W3) (hw1 : w0.alloc (.cells #[.int .i64 q.dc] 3) = w1)
    (HA : ∀ ty, ∃ g cap W3, (Builtin.append_ #[25, 25] ty #[.slice q.fa q.n q.fc, .slice (some ⟨w0.heap.size, 0, none⟩) 1 1]).run Tryd.prog w1 = .ok (.slice (some ⟨g, 0, none⟩) (q.n + 1) cap) W3 ∧ A g cap W3)
    {L : Array Bool} {a : Act} {w : World} {o : Oper} (h : TkI q w0 w1 A L a w) (hu : L.getD 10 true = false) (ho : tkOps[10]? = some o) (hall : ∀ e ∈ o.after, Region.binds .any e = true → L.getD e.on false = true) :
    o.guard = none ∧ ∃ v w', ((execOp a.eval o).run Tryd.prog w = .ok (.value v) w' ∨ ((execOp a.eval o).run Tryd.prog w = .ok .skip w' ∧ v = undef)) ∧ TkI q w0 w1 A (L.setIfInBounds 10 true) (a.put o.dst v) w' := by
  obtain ⟨o', ho', hop, hdst, hg, d9⟩ := tko10
  rw [ho] at ho'
  cases ho'
  have l9 := dep_of d9 hall
  refine ⟨hg, ?_⟩
  rw [hdst]
  have hS := h.cells h0 h1 hA (h.no21 (by decide) hu)
  have q14 : a.eval (.tmp 14) = tV q w0 9 := h.fk 9 (by decide) (by decide) (by decide) l9
  have hrun : (execOp a.eval o).run Tryd.prog w = .ok (.value (tV q w0 10)) w := ex_load hop (by rw [q14]; have := hS.a3; unfold tV; go_simp)
  exact ⟨tV q w0 10, w, .inl hrun, h.put (i := 10) (by decide) (by decide) (by decide) hu⟩
theorem tk_step13 {q : TkQ} {w0 w1 : World} {A : Nat → Nat → World → Prop} (hN : q.N ≤ 2147483647) (hp : q.p < q.N) (h0 : TkS q w0) (h1 : TkS q w1) (hA : ∀ g cap W3, A g cap W3 → TkS q W3) (hw1 : w0.alloc (.cells #[.int .i64 q.dc] 3) = w1)
    (HA : ∀ ty, ∃ g cap W3, (Builtin.append_ #[25, 25] ty #[.slice q.fa q.n q.fc, .slice (some ⟨w0.heap.size, 0, none⟩) 1 1]).run Tryd.prog w1 = .ok (.slice (some ⟨g, 0, none⟩) (q.n + 1) cap) W3 ∧ A g cap W3)
    {L : Array Bool} {a : Act} {w : World} {o : Oper} (h : TkI q w0 w1 A L a w) (hu : L.getD 13 true = false) (ho : tkOps[13]? = some o) (hall : ∀ e ∈ o.after, Region.binds .any e = true → L.getD e.on false = true) :
    o.guard = none ∧ ∃ v w', ((execOp a.eval o).run Tryd.prog w = .ok (.value v) w' ∨ ((execOp a.eval o).run Tryd.prog w = .ok .skip w' ∧ v = undef)) ∧ TkI q w0 w1 A (L.setIfInBounds 13 true) (a.put o.dst v) w' := by
  obtain ⟨o', ho', hop, hdst, hg, d12⟩ := tko13
  rw [ho] at ho'
  cases ho'
  have l12 := dep_of d12 hall
  refine ⟨hg, ?_⟩
  rw [hdst]
  have hS := h.cells h0 h1 hA (h.no21 (by decide) hu)
  have q17 : a.eval (.tmp 17) = tV q w0 12 := h.fk 12 (by decide) (by decide) (by decide) l12
  have hrun : (execOp a.eval o).run Tryd.prog w = .ok (.value (tV q w0 13)) w := ex_load hop (by rw [q17]; have := hS.a5; unfold tV; go_simp)
  exact ⟨tV q w0 13, w, .inl hrun, h.put (i := 13) (by decide) (by decide) (by decide) hu⟩
theorem tk_step17 {q : TkQ} {w0 w1 : World} {A : Nat → Nat → World → Prop} (hN : q.N ≤ 2147483647) (hp : q.p < q.N) (h0 : TkS q w0) (h1 : TkS q w1) (hA : ∀ g cap W3, A g cap W3 → TkS q W3) (hw1 : w0.alloc (.cells #[.int .i64 q.dc] 3) = w1)
    (HA : ∀ ty, ∃ g cap W3, (Builtin.append_ #[25, 25] ty #[.slice q.fa q.n q.fc, .slice (some ⟨w0.heap.size, 0, none⟩) 1 1]).run Tryd.prog w1 = .ok (.slice (some ⟨g, 0, none⟩) (q.n + 1) cap) W3 ∧ A g cap W3)
    {L : Array Bool} {a : Act} {w : World} {o : Oper} (h : TkI q w0 w1 A L a w) (hu : L.getD 17 true = false) (ho : tkOps[17]? = some o) (hall : ∀ e ∈ o.after, Region.binds .any e = true → L.getD e.on false = true) :
    o.guard = none ∧ ∃ v w', ((execOp a.eval o).run Tryd.prog w = .ok (.value v) w' ∨ ((execOp a.eval o).run Tryd.prog w = .ok .skip w' ∧ v = undef)) ∧ TkI q w0 w1 A (L.setIfInBounds 17 true) (a.put o.dst v) w' := by
  obtain ⟨o', ho', hop, hdst, hg, d16⟩ := tko17
  rw [ho] at ho'
  cases ho'
  have l16 := dep_of d16 hall
  refine ⟨hg, ?_⟩
  rw [hdst]
  have hS := h.cells h0 h1 hA (h.no21 (by decide) hu)
  have q21 : a.eval (.tmp 21) = tV q w0 16 := h.fk 16 (by decide) (by decide) (by decide) l16
  have hrun : (execOp a.eval o).run Tryd.prog w = .ok (.value (tV q w0 17)) w := ex_load hop (by rw [q21]; have := hS.a4; unfold tV; go_simp)
  exact ⟨tV q w0 17, w, .inl hrun, h.put (i := 17) (by decide) (by decide) (by decide) hu⟩
theorem tk_step12 {q : TkQ} {w0 w1 : World} {A : Nat → Nat → World → Prop} (hN : q.N ≤ 2147483647) (hp : q.p < q.N) (h0 : TkS q w0) (h1 : TkS q w1) (hA : ∀ g cap W3, A g cap W3 → TkS q W3) (hw1 : w0.alloc (.cells #[.int .i64 q.dc] 3) = w1)
    (HA : ∀ ty, ∃ g cap W3, (Builtin.append_ #[25, 25] ty #[.slice q.fa q.n q.fc, .slice (some ⟨w0.heap.size, 0, none⟩) 1 1]).run Tryd.prog w1 = .ok (.slice (some ⟨g, 0, none⟩) (q.n + 1) cap) W3 ∧ A g cap W3)
    {L : Array Bool} {a : Act} {w : World} {o : Oper} (h : TkI q w0 w1 A L a w) (hu : L.getD 12 true = false) (ho : tkOps[12]? = some o) (hall : ∀ e ∈ o.after, Region.binds .any e = true → L.getD e.on false = true) :
    o.guard = none ∧ ∃ v w', ((execOp a.eval o).run Tryd.prog w = .ok (.value v) w' ∨ ((execOp a.eval o).run Tryd.prog w = .ok .skip w' ∧ v = undef)) ∧ TkI q w0 w1 A (L.setIfInBounds 12 true) (a.put o.dst v) w' := by
  obtain ⟨o', ho', hop, hdst, hg, d10, d11⟩ := tko12
  rw [ho] at ho'
  cases ho'
  have l10 := dep_of d10 hall
  have l11 := dep_of d11 hall
  refine ⟨hg, ?_⟩
  rw [hdst]
  have q15 : a.eval (.tmp 15) = tV q w0 10 := h.fk 10 (by decide) (by decide) (by decide) l10
  have q16 : a.eval (.tmp 16) = tV q w0 11 := h.fk 11 (by decide) (by decide) (by decide) l11
  have hrun : (execOp a.eval o).run Tryd.prog w = .ok (.value (tV q w0 12)) w := ex_indexAddr hop (by rw [q15, q16]; unfold tV; go_simp)
  exact ⟨tV q w0 12, w, .inl hrun, h.put (i := 12) (by decide) (by decide) (by decide) hu⟩
theorem tk_step20 {q : TkQ} {w0 w1 : World} {A : Nat → Nat → World → Prop} (hN : q.N ≤ 2147483647) (hp : q.p < q.N) (h0 : TkS q w0) (h1 : TkS q w1) (hA : ∀ g cap W3, A g cap W3 → TkS q W3) (hw1 : w0.alloc (.cells #[.int .i64 q.dc] 3) = w1)
    (HA : ∀ ty, ∃ g cap W3, (Builtin.append_ #[25, 25] ty #[.slice q.fa q.n q.fc, .slice (some ⟨w0.heap.size, 0, none⟩) 1 1]).run Tryd.prog w1 = .ok (.slice (some ⟨g, 0, none⟩) (q.n + 1) cap) W3 ∧ A g cap W3)
    {L : Array Bool} {a : Act} {w : World} {o : Oper} (h : TkI q w0 w1 A L a w) (hu : L.getD 20 true = false) (ho : tkOps[20]? = some o) (hall : ∀ e ∈ o.after, Region.binds .any e = true → L.getD e.on false = true) :
    o.guard = none ∧ ∃ v w', ((execOp a.eval o).run Tryd.prog w = .ok (.value v) w' ∨ ((execOp a.eval o).run Tryd.prog w = .ok .skip w' ∧ v = undef)) ∧ TkI q w0 w1 A (L.setIfInBounds 20 true) (a.put o.dst v) w' := by
  obtain ⟨o', ho', hop, hdst, hg, d4, d5⟩ := tko20
  rw [ho] at ho'
  cases ho'
  have l4 := dep_of d4 hall
  have l5 := dep_of d5 hall
  refine ⟨hg, ?_⟩
  rw [hdst]
  have q9 : a.eval (.tmp 9) = tV q w0 4 := h.fk 4 (by decide) (by decide) (by decide) l4
  have q10 : a.eval (.tmp 10) = tV q w0 5 := h.fk 5 (by decide) (by decide) (by decide) l5
  have hrun : (execOp a.eval o).run Tryd.prog w = .ok (.value (tV q w0 20)) w := ex_indexAddr hop (by rw [q9, q10]; unfold tV; go_simp)
  exact ⟨tV q w0 20, w, .inl hrun, h.put (i := 20) (by decide) (by decide) (by decide) hu⟩
theorem tk_step14 {q : TkQ} {w0 w1 : World} {A : Nat → Nat → World → Prop} (hN : q.N ≤ 2147483647) (hp : q.p < q.N) (h0 : TkS q w0) (h1 : TkS q w1) (hA : ∀ g cap W3, A g cap W3 → TkS q W3) (hw1 : w0.alloc (.cells #[.int .i64 q.dc] 3) = w1)
    (HA : ∀ ty, ∃ g cap W3, (Builtin.append_ #[25, 25] ty #[.slice q.fa q.n q.fc, .slice (some ⟨w0.heap.size, 0, none⟩) 1 1]).run Tryd.prog w1 = .ok (.slice (some ⟨g, 0, none⟩) (q.n + 1) cap) W3 ∧ A g cap W3)
    {L : Array Bool} {a : Act} {w : World} {o : Oper} (h : TkI q w0 w1 A L a w) (hu : L.getD 14 true = false) (ho : tkOps[14]? = some o) (hall : ∀ e ∈ o.after, Region.binds .any e = true → L.getD e.on false = true) :
    o.guard = none ∧ ∃ v w', ((execOp a.eval o).run Tryd.prog w = .ok (.value v) w' ∨ ((execOp a.eval o).run Tryd.prog w = .ok .skip w' ∧ v = undef)) ∧ TkI q w0 w1 A (L.setIfInBounds 14 true) (a.put o.dst v) w' := by
  obtain ⟨o', ho', hop, hdst, hg⟩ := tko14
  rw [ho] at ho'
  cases ho'
  refine ⟨hg, ?_⟩
  rw [hdst]
  have hrun : (execOp a.eval o).run Tryd.prog w = .ok (.value (tV q w0 14)) w := by rw [ex_move hop]; exact congrArg (fun v => Result.ok (Next.value v) w) h.x0
  exact ⟨tV q w0 14, w, .inl hrun, h.put (i := 14) (by decide) (by decide) (by decide) hu⟩
theorem tk_step18 {q : TkQ} {w0 w1 : World} {A : Nat → Nat → World → Prop} (hN : q.N ≤ 2147483647) (hp : q.p < q.N) (h0 : TkS q w0) (h1 : TkS q w1) (hA : ∀ g cap W3, A g cap W3 → TkS q W3) (hw1 : w0.alloc (.cells #[.int .i64 q.dc] 3) = w1)
    (HA : ∀ ty, ∃ g cap W3, (Builtin.append_ #[25, 25] ty #[.slice q.fa q.n q.fc, .slice (some ⟨w0.heap.size, 0, none⟩) 1 1]).run Tryd.prog w1 = .ok (.slice (some ⟨g, 0, none⟩) (q.n + 1) cap) W3 ∧ A g cap W3)
    {L : Array Bool} {a : Act} {w : World} {o : Oper} (h : TkI q w0 w1 A L a w) (hu : L.getD 18 true = false) (ho : tkOps[18]? = some o) (hall : ∀ e ∈ o.after, Region.binds .any e = true → L.getD e.on false = true) :
    o.guard = none ∧ ∃ v w', ((execOp a.eval o).run Tryd.prog w = .ok (.value v) w' ∨ ((execOp a.eval o).run Tryd.prog w = .ok .skip w' ∧ v = undef)) ∧ TkI q w0 w1 A (L.setIfInBounds 18 true) (a.put o.dst v) w' := by
  obtain ⟨o', ho', hop, hdst, hg, d17⟩ := tko18
  rw [ho] at ho'
  cases ho'
  have l17 := dep_of d17 hall
  refine ⟨hg, ?_⟩
  rw [hdst]
  have q22 : a.eval (.tmp 22) = tV q w0 17 := h.fk 17 (by decide) (by decide) (by decide) l17
  have hup : ∀ k, L.getD k false = true → (L.setIfInBounds 18 true).getD k false = true := fun k hk => by
    by_cases e : k = 18
    · rw [e]; exact L_same (by rw [h.Lsz]; decide)
    · rw [L_other e]; exact hk
  have h21 := h.no21 (i := 18) (by decide) hu
  have h19 : L.getD 19 false = false := by
    cases e : L.getD 19 false with
    | false => rfl
    | true => have := h.c19 e; rw [ff hu] at this; cases this
  have hw := h.wa (ff hu)
  subst hw
  obtain ⟨e0, e1, e2⟩ := tdk_ok 18 (by decide)
  have hrun : (execOp a.eval o).run Tryd.prog w = .ok (.value (tV q w 18)) w1 := ex_buildSlice hop (by simp only [List.map_toArray, List.map_cons, List.map_nil, q22]; rw [← hw1]; unfold tV; go_simp)
  refine ⟨tV q w 18, w1, .inl hrun, ⟨by simp [h.Lsz], by rw [put_size]; exact h.asz, by rw [put_defers]; exact h.df, (eV_other (by decide)).trans h.x0, (eV_other (by decide)).trans h.x1, (eV_other (by decide)).trans h.x2, (eV_other (by decide)).trans h.x3, fun k hk n1 n2 hl => ?_, fun e => ?_, fun _ _ => rfl, fun e _ => ?_, fun e => ?_, fun e => ?_, fun e => ?_⟩⟩
  · by_cases e : k = 18
    · subst e; exact eV_same (by rw [h.asz]; decide)
    · rw [L_other e] at hl
      exact (eV_other (e2 k hk e)).trans (h.fk k hk n1 n2 hl)
  · rw [L_same (by rw [h.Lsz]; decide)] at e; cases e
  · rw [L_other (by decide), h19] at e; cases e
  · rw [L_other (by decide), h21] at e; cases e
  · rw [L_other (by decide), h19] at e; cases e
  · rw [L_other (by decide), h21] at e; cases e
theorem tk_step19 {q : TkQ} {w0 w1 : World} {A : Nat → Nat → World → Prop} (hN : q.N ≤ 2147483647) (hp : q.p < q.N) (h0 : TkS q w0) (h1 : TkS q w1) (hA : ∀ g cap W3, A g cap W3 → TkS q W3) (hw1 : w0.alloc (.cells #[.int .i64 q.dc] 3) = w1)
    (HA : ∀ ty, ∃ g cap W3, (Builtin.append_ #[25, 25] ty #[.slice q.fa q.n q.fc, .slice (some ⟨w0.heap.size, 0, none⟩) 1 1]).run Tryd.prog w1 = .ok (.slice (some ⟨g, 0, none⟩) (q.n + 1) cap) W3 ∧ A g cap W3)
    {L : Array Bool} {a : Act} {w : World} {o : Oper} (h : TkI q w0 w1 A L a w) (hu : L.getD 19 true = false) (ho : tkOps[19]? = some o) (hall : ∀ e ∈ o.after, Region.binds .any e = true → L.getD e.on false = true) :
    o.guard = none ∧ ∃ v w', ((execOp a.eval o).run Tryd.prog w = .ok (.value v) w' ∨ ((execOp a.eval o).run Tryd.prog w = .ok .skip w' ∧ v = undef)) ∧ TkI q w0 w1 A (L.setIfInBounds 19 true) (a.put o.dst v) w' := by
  obtain ⟨o', ho', hop, hdst, hg, d13, d18⟩ := tko19
  rw [ho] at ho'
  cases ho'
  have l13 := dep_of d13 hall
  have l18 := dep_of d18 hall
  refine ⟨hg, ?_⟩
  rw [hdst]
  have q18 : a.eval (.tmp 18) = tV q w0 13 := h.fk 13 (by decide) (by decide) (by decide) l13
  have q23 : a.eval (.tmp 23) = tV q w0 18 := h.fk 18 (by decide) (by decide) (by decide) l18
  have h21 := h.no21 (i := 19) (by decide) hu
  have hw := h.wb l18 (ff hu)
  subst hw
  obtain ⟨e0, e1, e2⟩ := tdk_ok 19 (by decide)
  obtain ⟨g, cap, W3, hr, ha⟩ := HA o.type
  have hrun : (execOp a.eval o).run Tryd.prog w = .ok (.value (.slice (some ⟨g, 0, none⟩) (q.n + 1) cap)) W3 := by
    unfold execOp
    unfold tV at q18 q23
    simp only [hop, resolve, invoke, builtin, Sem.run_bind, Sem.run_pure, Result.andThen_ok, List.map_toArray, List.map_cons, List.map_nil, q18, q23, hr]
  refine ⟨_, W3, .inl hrun, ⟨by simp [h.Lsz], by rw [put_size]; exact h.asz, by rw [put_defers]; exact h.df, (eV_other (by decide)).trans h.x0, (eV_other (by decide)).trans h.x1, (eV_other (by decide)).trans h.x2, (eV_other (by decide)).trans h.x3, fun k hk n1 n2 hl => ?_, fun e => ?_, fun _ e => ?_, fun e _ => ⟨g, cap, eV_same (by rw [h.asz]; decide), ha⟩, fun e => ?_, fun e => ?_, fun e => ?_⟩⟩
  · rw [L_other n1] at hl
    exact (eV_other (e2 k hk n1)).trans (h.fk k hk n1 n2 hl)
  · rw [L_other (by decide), l18] at e; cases e
  · rw [L_same (by rw [h.Lsz]; decide)] at e; cases e
  · rw [L_other (by decide), h21] at e; cases e
  · rw [L_other (by decide)]; exact l18
  · rw [L_other (by decide), h21] at e; cases e
theorem tk_step21 {q : TkQ} {w0 w1 : World} {A : Nat → Nat → World → Prop} (hN : q.N ≤ 2147483647) (hp : q.p < q.N) (h0 : TkS q w0) (h1 : TkS q w1) (hA : ∀ g cap W3, A g cap W3 → TkS q W3) (hw1 : w0.alloc (.cells #[.int .i64 q.dc] 3) = w1)
    (HA : ∀ ty, ∃ g cap W3, (Builtin.append_ #[25, 25] ty #[.slice q.fa q.n q.fc, .slice (some ⟨w0.heap.size, 0, none⟩) 1 1]).run Tryd.prog w1 = .ok (.slice (some ⟨g, 0, none⟩) (q.n + 1) cap) W3 ∧ A g cap W3)
    {L : Array Bool} {a : Act} {w : World} {o : Oper} (h : TkI q w0 w1 A L a w) (hu : L.getD 21 true = false) (ho : tkOps[21]? = some o) (hall : ∀ e ∈ o.after, Region.binds .any e = true → L.getD e.on false = true) :
    o.guard = none ∧ ∃ v w', ((execOp a.eval o).run Tryd.prog w = .ok (.value v) w' ∨ ((execOp a.eval o).run Tryd.prog w = .ok .skip w' ∧ v = undef)) ∧ TkI q w0 w1 A (L.setIfInBounds 21 true) (a.put o.dst v) w' := by
  obtain ⟨o', ho', hop, hdst, hg, d20, d19, d0, d1, d2, d3, d4, d5, d6, d7, d8, d9, d10, d11, d12, d13, d14, d15, d16, d17, d18⟩ := tko21
  rw [ho] at ho'
  cases ho'
  have l20 := dep_of d20 hall
  have l19 := dep_of d19 hall
  have l0 := dep_of d0 hall
  have l1 := dep_of d1 hall
  have l2 := dep_of d2 hall
  have l3 := dep_of d3 hall
  have l4 := dep_of d4 hall
  have l5 := dep_of d5 hall
  have l6 := dep_of d6 hall
  have l7 := dep_of d7 hall
  have l8 := dep_of d8 hall
  have l9 := dep_of d9 hall
  have l10 := dep_of d10 hall
  have l11 := dep_of d11 hall
  have l12 := dep_of d12 hall
  have l13 := dep_of d13 hall
  have l14 := dep_of d14 hall
  have l15 := dep_of d15 hall
  have l16 := dep_of d16 hall
  have l17 := dep_of d17 hall
  have l18 := dep_of d18 hall
  refine ⟨hg, ?_⟩
  rw [hdst]
  have q25 : a.eval (.tmp 25) = tV q w0 20 := h.fk 20 (by decide) (by decide) (by decide) l20
  have h21 := ff hu
  obtain ⟨g, cap, q24, ha⟩ := h.wc l19 h21
  have hS := hA g cap w ha
  have q24 : a.eval (.tmp 24) = _ := q24
  have hrun : (execOp a.eval o).run Tryd.prog w = .ok .skip (w.setCell ⟨q.fb, q.p, none⟩ (.slice (some ⟨g, 0, none⟩) (q.n + 1) cap)) := ex_store hop (by rw [q25, q24]; have := hS.a5; have := hS.f5; unfold tV; go_simp)
  refine ⟨undef, _, .inr ⟨hrun, rfl⟩, ⟨by simp [h.Lsz], h.asz, h.df, h.x0, h.x1, h.x2, h.x3, fun k hk n1 n2 hl => ?_, fun e => ?_, fun _ e => ?_, fun _ e => ?_, fun _ => ⟨g, cap, w, ha, rfl⟩, fun e => ?_, fun _ k hk => ?_⟩⟩
  · rw [L_other n2] at hl; exact h.fk k hk n1 n2 hl
  · rw [L_other (by decide), l18] at e; cases e
  · rw [L_other (by decide), l19] at e; cases e
  · rw [L_same (by rw [h.Lsz]; decide)] at e; cases e
  · rw [L_other (by decide)]; exact l18
  · rw [L_other (by omega)]
    rcases (show k = 0 ∨ k = 1 ∨ k = 2 ∨ k = 3 ∨ k = 4 ∨ k = 5 ∨ k = 6 ∨ k = 7 ∨ k = 8 ∨ k = 9 ∨ k = 10 ∨ k = 11 ∨ k = 12 ∨ k = 13 ∨ k = 14 ∨ k = 15 ∨ k = 16 ∨ k = 17 ∨ k = 18 ∨ k = 19 ∨ k = 20 by omega) with rfl | rfl | rfl | rfl | rfl | rfl | rfl | rfl | rfl | rfl | rfl | rfl | rfl | rfl | rfl | rfl | rfl | rfl | rfl | rfl | rfl
    · exact l0
    · exact l1
    · exact l2
    · exact l3
    · exact l4
    · exact l5
    · exact l6
    · exact l7
    · exact l8
    · exact l9
    · exact l10
    · exact l11
    · exact l12
    · exact l13
    · exact l14
    · exact l15
    · exact l16
    · exact l17
    · exact l18
    · exact l19
    · exact l20
theorem tk_step {q : TkQ} {w0 w1 : World} {A : Nat → Nat → World → Prop} (hN : q.N ≤ 2147483647) (hp : q.p < q.N) (h0 : TkS q w0) (h1 : TkS q w1) (hA : ∀ g cap W3, A g cap W3 → TkS q W3) (hw1 : w0.alloc (.cells #[.int .i64 q.dc] 3) = w1)
    (HA : ∀ ty, ∃ g cap W3, (Builtin.append_ #[25, 25] ty #[.slice q.fa q.n q.fc, .slice (some ⟨w0.heap.size, 0, none⟩) 1 1]).run Tryd.prog w1 = .ok (.slice (some ⟨g, 0, none⟩) (q.n + 1) cap) W3 ∧ A g cap W3)
    (L : Array Bool) (a : Act) (w : World) (i : Nat) (o : Oper) (h : TkI q w0 w1 A L a w) (hu : L.getD i true = false) (ho : tkOps[i]? = some o) (hall : ∀ e ∈ o.after, Region.binds .any e = true → L.getD e.on false = true) :
    o.guard = none ∧ ∃ v w', ((execOp a.eval o).run Tryd.prog w = .ok (.value v) w' ∨ ((execOp a.eval o).run Tryd.prog w = .ok .skip w' ∧ v = undef)) ∧ TkI q w0 w1 A (L.setIfInBounds i true) (a.put o.dst v) w' := by
  have hi : i < 22 := by rw [← tk_size]; exact (Array.getElem?_eq_some_iff.1 ho).1
  rcases (show i = 0 ∨ i = 1 ∨ i = 2 ∨ i = 3 ∨ i = 4 ∨ i = 5 ∨ i = 6 ∨ i = 7 ∨ i = 8 ∨ i = 9 ∨ i = 10 ∨ i = 11 ∨ i = 12 ∨ i = 13 ∨ i = 14 ∨ i = 15 ∨ i = 16 ∨ i = 17 ∨ i = 18 ∨ i = 19 ∨ i = 20 ∨ i = 21 by omega) with rfl | rfl | rfl | rfl | rfl | rfl | rfl | rfl | rfl | rfl | rfl | rfl | rfl | rfl | rfl | rfl | rfl | rfl | rfl | rfl | rfl | rfl
  · exact tk_step0 hN hp h0 h1 hA hw1 HA h hu ho hall
  · exact tk_step1 hN hp h0 h1 hA hw1 HA h hu ho hall
  · exact tk_step2 hN hp h0 h1 hA hw1 HA h hu ho hall
  · exact tk_step3 hN hp h0 h1 hA hw1 HA h hu ho hall
  · exact tk_step4 hN hp h0 h1 hA hw1 HA h hu ho hall
  · exact tk_step5 hN hp h0 h1 hA hw1 HA h hu ho hall
  · exact tk_step6 hN hp h0 h1 hA hw1 HA h hu ho hall
  · exact tk_step7 hN hp h0 h1 hA hw1 HA h hu ho hall
  · exact tk_step8 hN hp h0 h1 hA hw1 HA h hu ho hall
  · exact tk_step9 hN hp h0 h1 hA hw1 HA h hu ho hall
  · exact tk_step10 hN hp h0 h1 hA hw1 HA h hu ho hall
  · exact tk_step11 hN hp h0 h1 hA hw1 HA h hu ho hall
  · exact tk_step12 hN hp h0 h1 hA hw1 HA h hu ho hall
  · exact tk_step13 hN hp h0 h1 hA hw1 HA h hu ho hall
  · exact tk_step14 hN hp h0 h1 hA hw1 HA h hu ho hall
  · exact tk_step15 hN hp h0 h1 hA hw1 HA h hu ho hall
  · exact tk_step16 hN hp h0 h1 hA hw1 HA h hu ho hall
  · exact tk_step17 hN hp h0 h1 hA hw1 HA h hu ho hall
  · exact tk_step18 hN hp h0 h1 hA hw1 HA h hu ho hall
  · exact tk_step19 hN hp h0 h1 hA hw1 HA h hu ho hall
  · exact tk_step20 hN hp h0 h1 hA hw1 HA h hu ho hall
  · exact tk_step21 hN hp h0 h1 hA hw1 HA h hu ho hall
end Go.Proofs.YtjjbgbadkbomlaaDoor
namespace Go.Proofs.YtjjbgbadkbomlaaDoor
open Go.RowKit Go.Maps
set_option linter.unusedVariables false
set_option linter.unusedSimpArgs false

theorem act30 (a : Act) (h : a.tmps.size = 30) (hd : a.defers = []) : ∃ x0 x1 x2 x3 x4 x5 x6 x7 x8 x9 x10 x11 x12 x13 x14 x15 x16 x17 x18 x19 x20 x21 x22 x23 x24 x25 x26 x27 x28 x29 : Value, a = { tmps := #[x0, x1, x2, x3, x4, x5, x6, x7, x8, x9, x10, x11, x12, x13, x14, x15, x16, x17, x18, x19, x20, x21, x22, x23, x24, x25, x26, x27, x28, x29], defers := [] } := by
  obtain ⟨⟨l⟩, d⟩ := a
  simp only [] at hd
  subst hd
  replace h : l.length = 29 + 1 := by simpa using h
  obtain ⟨x0, l, rfl⟩ := List.exists_cons_of_length_eq_add_one h
  replace h : l.length = 28 + 1 := by simpa using h
  obtain ⟨x1, l, rfl⟩ := List.exists_cons_of_length_eq_add_one h
  replace h : l.length = 27 + 1 := by simpa using h
  obtain ⟨x2, l, rfl⟩ := List.exists_cons_of_length_eq_add_one h
  replace h : l.length = 26 + 1 := by simpa using h
  obtain ⟨x3, l, rfl⟩ := List.exists_cons_of_length_eq_add_one h
  replace h : l.length = 25 + 1 := by simpa using h
  obtain ⟨x4, l, rfl⟩ := List.exists_cons_of_length_eq_add_one h
  replace h : l.length = 24 + 1 := by simpa using h
  obtain ⟨x5, l, rfl⟩ := List.exists_cons_of_length_eq_add_one h
  replace h : l.length = 23 + 1 := by simpa using h
  obtain ⟨x6, l, rfl⟩ := List.exists_cons_of_length_eq_add_one h
  replace h : l.length = 22 + 1 := by simpa using h
  obtain ⟨x7, l, rfl⟩ := List.exists_cons_of_length_eq_add_one h
  replace h : l.length = 21 + 1 := by simpa using h
  obtain ⟨x8, l, rfl⟩ := List.exists_cons_of_length_eq_add_one h
  replace h : l.length = 20 + 1 := by simpa using h
  obtain ⟨x9, l, rfl⟩ := List.exists_cons_of_length_eq_add_one h
  replace h : l.length = 19 + 1 := by simpa using h
  obtain ⟨x10, l, rfl⟩ := List.exists_cons_of_length_eq_add_one h
  replace h : l.length = 18 + 1 := by simpa using h
  obtain ⟨x11, l, rfl⟩ := List.exists_cons_of_length_eq_add_one h
  replace h : l.length = 17 + 1 := by simpa using h
  obtain ⟨x12, l, rfl⟩ := List.exists_cons_of_length_eq_add_one h
  replace h : l.length = 16 + 1 := by simpa using h
  obtain ⟨x13, l, rfl⟩ := List.exists_cons_of_length_eq_add_one h
  replace h : l.length = 15 + 1 := by simpa using h
  obtain ⟨x14, l, rfl⟩ := List.exists_cons_of_length_eq_add_one h
  replace h : l.length = 14 + 1 := by simpa using h
  obtain ⟨x15, l, rfl⟩ := List.exists_cons_of_length_eq_add_one h
  replace h : l.length = 13 + 1 := by simpa using h
  obtain ⟨x16, l, rfl⟩ := List.exists_cons_of_length_eq_add_one h
  replace h : l.length = 12 + 1 := by simpa using h
  obtain ⟨x17, l, rfl⟩ := List.exists_cons_of_length_eq_add_one h
  replace h : l.length = 11 + 1 := by simpa using h
  obtain ⟨x18, l, rfl⟩ := List.exists_cons_of_length_eq_add_one h
  replace h : l.length = 10 + 1 := by simpa using h
  obtain ⟨x19, l, rfl⟩ := List.exists_cons_of_length_eq_add_one h
  replace h : l.length = 9 + 1 := by simpa using h
  obtain ⟨x20, l, rfl⟩ := List.exists_cons_of_length_eq_add_one h
  replace h : l.length = 8 + 1 := by simpa using h
  obtain ⟨x21, l, rfl⟩ := List.exists_cons_of_length_eq_add_one h
  replace h : l.length = 7 + 1 := by simpa using h
  obtain ⟨x22, l, rfl⟩ := List.exists_cons_of_length_eq_add_one h
  replace h : l.length = 6 + 1 := by simpa using h
  obtain ⟨x23, l, rfl⟩ := List.exists_cons_of_length_eq_add_one h
  replace h : l.length = 5 + 1 := by simpa using h
  obtain ⟨x24, l, rfl⟩ := List.exists_cons_of_length_eq_add_one h
  replace h : l.length = 4 + 1 := by simpa using h
  obtain ⟨x25, l, rfl⟩ := List.exists_cons_of_length_eq_add_one h
  replace h : l.length = 3 + 1 := by simpa using h
  obtain ⟨x26, l, rfl⟩ := List.exists_cons_of_length_eq_add_one h
  replace h : l.length = 2 + 1 := by simpa using h
  obtain ⟨x27, l, rfl⟩ := List.exists_cons_of_length_eq_add_one h
  replace h : l.length = 1 + 1 := by simpa using h
  obtain ⟨x28, l, rfl⟩ := List.exists_cons_of_length_eq_add_one h
  replace h : l.length = 0 + 1 := by simpa using h
  obtain ⟨x29, l, rfl⟩ := List.exists_cons_of_length_eq_add_one h
  replace h : l.length = 0 := by simpa using h
  obtain rfl := List.eq_nil_of_length_eq_zero h
  exact ⟨x0, x1, x2, x3, x4, x5, x6, x7, x8, x9, x10, x11, x12, x13, x14, x15, x16, x17, x18, x19, x20, x21, x22, x23, x24, x25, x26, x27, x28, x29, rfl⟩
theorem tk_region {Q : Exit → Act → World → Prop} {q : TkQ} {w w1 : World} {A : Nat → Nat → World → Prop} (hN : q.N ≤ 2147483647) (hp : q.p < q.N) (h0 : TkS q (w.drewN 1)) (h1 : TkS q w1) (hA : ∀ g cap W3, A g cap W3 → TkS q W3) (hw1 : (w.drewN 1).alloc (.cells #[.int .i64 q.dc] 3) = w1)
    (HA : ∀ ty, ∃ g cap W3, (Builtin.append_ #[25, 25] ty #[.slice q.fa q.n q.fc, .slice (some ⟨w.heap.size, 0, none⟩) 1 1]).run Tryd.prog w1 = .ok (.slice (some ⟨g, 0, none⟩) (q.n + 1) cap) W3 ∧ A g cap W3)
    (a : Act) (hsz : a.tmps.size = 30) (hdf : a.defers = []) (x0 : eV a 0 = .pointer (some ⟨q.mb, 0, none⟩)) (x1 : eV a 1 = .pointer (some ⟨q.wc, 0, none⟩)) (x2 : eV a 2 = .pointer (some ⟨q.pc, 0, none⟩)) (x3 : eV a 3 = .pointer (some ⟨q.tc, 0, none⟩))
    (hQ : ∀ a' g cap W3, a'.tmps.size = 30 → a'.defers = [] → eV a' 0 = .pointer (some ⟨q.mb, 0, none⟩) → eV a' 3 = .pointer (some ⟨q.tc, 0, none⟩) → A g cap W3 → Q .normal a' (W3.setCell ⟨q.fb, q.p, none⟩ (.slice (some ⟨g, 0, none⟩) (q.n + 1) cap))) : (Code.region 0 tkOps true).wp Tryd.prog Q a w := by
  refine wp_region_any (by kernel_rfl) (wpAny_inv (TkI q (w.drewN 1) w1 A) (tk_step hN hp h0 h1 hA hw1 HA) (fun L a' w' hI hr => ?_) _ _ _ _ ?_ ?_)
  · have := all_listed tk_size hI.Lsz tk_down hr 21 (by decide)
    obtain ⟨g, cap, W3, ha, rfl⟩ := hI.wd this
    exact hQ a' g cap W3 hI.asz hI.df hI.x0 hI.x3 ha
  · rw [tk_size]; decide
  · have hf : ∀ k, (Array.replicate tkOps.size false).getD k false = false := fun k => by
      rw [Array.getD_eq_getD_getElem?, Array.getElem?_replicate]
      split <;> rfl
    refine ⟨by simp [tk_size], hsz, hdf, x0, x1, x2, x3, fun k _ _ _ hk => ?_, fun _ => rfl, fun hk => ?_, fun hk => ?_, fun hk => ?_, fun hk => ?_, fun hk => ?_⟩ <;> (rw [hf] at hk; cases hk)
set_option maxHeartbeats 2000000 in
set_option maxRecDepth 100000 in
theorem take_go {B nb no nc : Nat} {l : List Nd} {W0 W : World} {s : SSt} {G0 G : WG} (m k : Nat) (h : ST B nb no nc l W0 G0 W s G) (hl31 : l.length ≤ 2147483647) (hk : k < s.gat.length) (hm : m < s.ms.length) (hp : (gatS s k).1 < l.length) (ht : (gatS s k).2.length < 4294967296) (hf : (s.free.getD (gatS s k).1 []).length < 4294967296) (hfl : s.free.length = l.length) :
    Calls Tryd.prog 59 #[.pointer (some ⟨G.mB m, 0, none⟩), .pointer (some ⟨G.wc k, 0, none⟩), .pointer (some ⟨G.pc k, 0, none⟩), .pointer (some ⟨G.tc k, 0, none⟩)] W fun e W' => e = .returned (.tuple #[]) ∧ ∃ G', ST B nb no nc l W0 G0 W' (takeP m s k) G' ∧ G'.wb = G.wb ∧ G'.mB = G.mB ∧ G'.gv = G.gv ∧ G'.wc = G.wc ∧ G'.pc = G.pc ∧ G'.tc = G.tc := by
  obtain ⟨fa, fc, hfv⟩ := row_form (h.rel.hrow _ hp)
  obtain ⟨i0, hi0, hz0, hz1, hz2⟩ := info_parts info3s
  obtain ⟨j0, hj0, jz0, jz1, jz2⟩ := info_parts info61
  have hB := h.rel.Bs
  have mkS : ∀ W', SRel B (.slice (some ⟨nb, no, none⟩) l.length nc) l.length W' s G → TkS ⟨G.wb, G.fb, l.length, (gatS s k).1, fa, (s.free.getD (gatS s k).1 []).length, fc, G.mB m, G.wc k, G.pc k, G.tc k, (mnS s m).decl⟩ W' := fun W' hr =>
    ⟨by rw [cell_of_row W' _ 0 _ _ _ (hr.hwc k hk)]; rfl, by rw [cell_of_row W' _ 0 _ _ _ (hr.hpc k hk)]; rfl, hr.cw 2, (hr.c_mn hm 0).1, by rw [(hr.c_free hp).1, hfv], (hr.c_free hp).2⟩
  have hw1 : Below W.heap.size W ((W.drewN 1).alloc (.cells #[.int .i64 (mnS s m).decl] 3)) := (below_dr W 1).alloc (Nat.le_refl _) _
  obtain ⟨o1, o2⟩ := take_one h k m hk hm hp hfl 1
  have HAA : ∀ ty, ∃ g cap W3, (Builtin.append_ #[25, 25] ty #[.slice fa (s.free.getD (gatS s k).1 []).length fc, .slice (some ⟨W.heap.size, 0, none⟩) 1 1]).run Tryd.prog ((W.drewN 1).alloc (.cells #[.int .i64 (mnS s m).decl] 3)) = .ok (.slice (some ⟨g, 0, none⟩) ((s.free.getD (gatS s k).1 []).length + 1) cap) W3 ∧
      (TkS ⟨G.wb, G.fb, l.length, (gatS s k).1, fa, (s.free.getD (gatS s k).1 []).length, fc, G.mB m, G.wc k, G.pc k, G.tc k, (mnS s m).decl⟩ W3 ∧ ST B nb no nc l W0 G0 (W3.setCell ⟨G.fb, (gatS s k).1, none⟩ (.slice (some ⟨g, 0, none⟩) ((s.free.getD (gatS s k).1 []).length + 1) cap)) (free1 s k m) (rowG G (gatS s k).1 g (.slice (some ⟨g, 0, none⟩) ((s.free.getD (gatS s k).1 []).length + 1) cap))) := fun ty => by
    obtain ⟨g, cap, W3, r1, r2, r3, r4, r5⟩ := run_append_lies (P := Tryd.prog) ((W.drewN 1).alloc (.cells #[.int .i64 (mnS s m).decl] 3)) 25 ty B 3 i0 (.int .i64 0) 1 8 Tryd.underlying25 hi0 hz0 hz1 hz2 rfl (by decide) (G.fv (gatS s k).1) _ _ o1 ⟨W.heap.size, 0, none⟩ 1 1 [.int .i64 (mnS s m).decl] rfl (int_newsS W 1 _) (int_oneS _) (by decide) (by unfold maxLen; omega) (by omega) (by simp; omega) (W.heap.size + 1) (by simp)
    rw [hfv] at r1
    obtain ⟨⟨c1, c2, c3, c4⟩, c5, c6, hst⟩ := o2 g cap W3 r3 r2 r4 r5
    rw [hfv] at c5
    exact ⟨g, cap, W3, r1, ⟨c1, c2, c3, c4, c5, c6⟩, hst⟩
  have HTW := Bx.mk fun (W4 : World) (g : Nat) (v : Value) (h4 : ST B nb no nc l W0 G0 W4 (free1 s k m) (rowG G (gatS s k).1 g v)) => take_two h4 k m hk
  have H0 := mkS _ (h.drew 1).rel
  have H1 := mkS _ (h.rel.below hw1)
  clear h mkS o1 o2
  go_enter Tryd.func59, Tryd.ntmps59
  go_wp2
  refine tk_region (q := ⟨G.wb, G.fb, l.length, (gatS s k).1, fa, (s.free.getD (gatS s k).1 []).length, fc, G.mB m, G.wc k, G.pc k, G.tc k, (mnS s m).decl⟩) hl31 hp H0 H1 (fun g cap W3 ha => ha.1) rfl HAA _ rfl rfl rfl rfl rfl rfl ?_
  intro a g cap W3 hsz hdf e0 e3 ha
  obtain ⟨x0, x1, x2, x3, x4, x5, x6, x7, x8, x9, x10, x11, x12, x13, x14, x15, x16, x17, x18, x19, x20, x21, x22, x23, x24, x25, x26, x27, x28, x29, rfl⟩ := act30 a hsz hdf
  replace e0 : x0 = .pointer (some ⟨G.mB m, 0, none⟩) := e0
  replace e3 : x3 = .pointer (some ⟨G.tc k, 0, none⟩) := e3
  subst e0
  subst e3
  obtain ⟨W4, hW4⟩ : ∃ W4, W3.setCell ⟨G.fb, (gatS s k).1, none⟩ (.slice (some ⟨g, 0, none⟩) ((s.free.getD (gatS s k).1 []).length + 1) cap) = W4 := ⟨_, rfl⟩
  have h4 := ha.2
  rw [hW4] at h4
  obtain ⟨t1, t2, t3⟩ := HTW.out W4 g _ h4
  have hB4 := h4.rel.Bs
  replace t1 : W4.cell? ⟨G.tc k, 0, none⟩ = some (G.tv k) := t1
  have HOW := Bx.mk t2
  have HPU := Bx.mk t3
  clear HTW HAA H0 H1 ha h4 t2 t3 hsz hdf hfv
  show Exit.then _ _ Exit.normal _ (W3.setCell ⟨G.fb, (gatS s k).1, none⟩ (.slice (some ⟨g, 0, none⟩) ((s.free.getD (gatS s k).1 []).length + 1) cap))
  rw [hW4]
  go_wp2_with (first
    | (at_builtin; refine wpList_append_lies _ rfl (.tmp 26) (.tmp 28) 82 rfl B 61 j0 (.pointer none) 1 8 Tryd.underlying82 hj0 jz0 jz1 jz2 rfl (by decide) (G.tv k) (gatS s k).2.length ((gatS s k).2.map fun m => ptrV (G.mB m)) rfl HOW.out ⟨W4.heap.size, 0, none⟩ 1 1 [.pointer (some ⟨G.mB m, 0, none⟩)] rfl rfl (ptr_newsS _ _) (ptr_oneS _) (by decide) (by unfold maxLen; omega) (by omega) (by simp; omega) (W4.heap.size + 1) (by simp) ?_; intro g2 cap2 W5 hown hgrow hat hlt; obtain ⟨y1, y2, HST⟩ : W5.cell? ⟨G.tc k, 0, none⟩ = some (G.tv k) ∧ W5.frozen? ⟨G.tc k, 0, none⟩ = false ∧ _ := HPU.out g2 cap2 W5 hgrow hown hat hlt; replace HST := Bx.mk HST; clear hown hgrow hat))
  go_end0
  exact ⟨rfl, _, HST.out, rfl, rfl, rfl, rfl, rfl, rfl⟩
/-- the gatherers keep their contract -/
theorem tk_all {B nb no nc : Nat} {l : List Nd} (hl31 : l.length ≤ 2147483647) (n : Nat) : TkOk B nb no nc l n := fun W0 G0 m W s G k h _ hk hm hp ht hf hfl => take_go m k h hl31 hk hm hp ht hf hfl
end Go.Proofs.YtjjbgbadkbomlaaDoor
