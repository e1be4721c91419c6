import Derived.Test.YtijdcplffmdijaaDoorCDP
namespace Go.Proofs.YtijdcplffmdijaaDoor
set_option linter.unusedVariables false
set_option linter.unusedSimpArgs false

def rd (t : List UInt8) (u : CUn) (n : Nat) : CUn × Nat × Int := readGo (pieces 10 t).1 (pieces 10 t).2 u n
theorem rd_line {l r : List UInt8} {u : CUn} {n : Nat} (h : (10 : UInt8) ∉ l) : rd (l ++ 10 :: r) u n = match addL u l with
    | none => (⟨[], []⟩, n, 80)
    | some u' => rd r u' (n + 1) := by
  unfold rd
  rw [pieces_app h]
  rfl
theorem rd_some {l r : List UInt8} {u u' : CUn} {n : Nat} (h : (10 : UInt8) ∉ l) (hu : addL u l = some u') : rd (l ++ 10 :: r) u n = rd r u' (n + 1) := by rw [rd_line h, hu]
theorem rd_none {l r : List UInt8} {u : CUn} {n : Nat} (h : (10 : UInt8) ∉ l) (hu : addL u l = none) : rd (l ++ 10 :: r) u n = (⟨[], []⟩, n, 80) := by rw [rd_line h, hu]
theorem rd_nil (u : CUn) (n : Nat) : rd [] u n = (u, 0, 0) := by
  unfold rd pieces readGo
  rw [if_pos rfl]
theorem rd_open {l : List UInt8} {u : CUn} {n : Nat} (h : (10 : UInt8) ∉ l) (h0 : l ≠ []) : rd l u n = (⟨[], []⟩, n, 80) := by
  unfold rd
  rw [pieces_none h]
  unfold readGo
  rw [if_neg h0]
theorem readU_rd (t : List UInt8) : readU t = rd t ⟨[], []⟩ 1 := rfl

theorem shape_cases (P : List UInt8 × Int × Int × Int → Nat → Prop) (h : ∀ k, k < 28 → P (shapesT.getD k noShape) k) (op : Int) : P (shapeI op) op.toNat ∨ shapeI op = noShape := by
  unfold shapeI
  by_cases h0 : op < 0 ∨ 28 ≤ op
  · right; rw [if_pos h0]
  · left; rw [if_neg h0]; exact h _ (by omega)
theorem name_no32 (op : Int) : (32 : UInt8) ∉ nameI op := by
  rcases shape_cases (fun s _ => (32 : UInt8) ∉ s.1) (by decide) op with h | h
  · exact h
  · unfold nameI; rw [h]; decide
theorem name_no10 (op : Int) : (10 : UInt8) ∉ nameI op := by
  rcases shape_cases (fun s _ => (10 : UInt8) ∉ s.1) (by decide) op with h | h
  · exact h
  · unfold nameI; rw [h]; decide
theorem name_ne (op : Int) : nameI op ≠ typeW := by
  rcases shape_cases (fun s _ => s.1 ≠ typeW) (by decide) op with h | h
  · exact h
  · unfold nameI; rw [h]; decide
theorem name_op {op : Int} (h0 : nameI op ≠ []) : ((opI (nameI op) : Nat) : Int) = op := by
  have hr : ¬ (op < 0 ∨ 28 ≤ op) := fun h => h0 (by unfold nameI shapeI; rw [if_pos h]; rfl)
  rcases shape_cases (fun s k => s.1 ≠ [] → opI s.1 = k) (by decide) op with h | h
  · have := h h0
    unfold nameI
    rw [this]
    omega
  · exact absurd (by unfold nameI; rw [h]; rfl) h0
theorem name_prog {op : Int} (h : nameI op = progW) : hasAI op = true ∧ hasBI op = true ∧ hasLI op = false := by
  rcases shape_cases (fun s k => s.1 = progW → s.2.1 = 3) (by decide) op with h1 | h1
  · have := h1 h
    unfold hasAI hasBI hasLI
    rw [this]
    decide
  · unfold nameI at h; rw [h1] at h; exact absurd h (by decide)
theorem hasB_A {op : Int} (h : hasBI op = true) : hasAI op = true := by
  rcases shape_cases (fun s k => (s.2.1 / 2 % 2 == 1) = true → (s.2.1 % 2 == 1) = true) (by decide) op with h1 | h1
  · exact h1 h
  · unfold hasBI at h; rw [h1] at h; exact absurd h (by decide)
theorem fit_parts {i : CIn} (h : fitI i = true) : nameI i.op ≠ [] ∧ (hasAI i.op = false → i.a = 0) ∧ (hasBI i.op = false → i.b = 0) ∧ (hasLI i.op = false → i.list = []) := by
  unfold fitI at h
  simp only [Bool.and_eq_true, Bool.or_eq_true, bne_iff_ne, ne_eq, beq_iff_eq] at h
  obtain ⟨h1, h2, h3, h4⟩ := h
  refine ⟨h1, fun h => ?_, fun h => ?_, fun h => ?_⟩
  · rcases h2 with h2 | h2
    · exact h2
    · rw [h] at h2; cases h2
  · rcases h3 with h2 | h2
    · exact h2
    · rw [h] at h2; cases h2
  · rcases h4 with h2 | h2
    · exact List.eq_nil_of_length_eq_zero h2
    · rw [h] at h2; cases h2
theorem fit_mk {i : CIn} (h1 : nameI i.op ≠ []) (h2 : hasAI i.op = false → i.a = 0) (h3 : hasBI i.op = false → i.b = 0) (h4 : hasLI i.op = false → i.list = []) : fitI i = true := by
  unfold fitI
  simp only [Bool.and_eq_true, Bool.or_eq_true, bne_iff_ne, ne_eq, beq_iff_eq]
  refine ⟨h1, ?_, ?_, ?_⟩
  · cases h : hasAI i.op
    · exact Or.inl (h2 h)
    · exact Or.inr rfl
  · cases h : hasBI i.op
    · exact Or.inl (h3 h)
    · exact Or.inr rfl
  · cases h : hasLI i.op
    · left; rw [h4 h]; rfl
    · exact Or.inr rfl
theorem nums_len (i : CIn) : (numsI i).length = firstI i.op + i.list.length := by
  unfold numsI firstI
  cases hasAI i.op <;> cases hasBI i.op <;> simp <;> omega
theorem insOf_nums {i : CIn} (h : fitI i = true) : insOf (opI (nameI i.op)) (numsI i) = some i := by
  obtain ⟨h1, h2, h3, h4⟩ := fit_parts h
  have e := name_op h1
  obtain ⟨op, a, b, list⟩ := i
  unfold insOf
  simp only [] at *
  rw [e]
  have hl := nums_len ⟨op, a, b, list⟩
  simp only [] at hl
  rw [if_neg]
  · congr 1
    unfold numsI firstI
    cases hA : hasAI op <;> cases hB : hasBI op
    · simp only [hA, hB, h2 hA, h3 hB]; simp
    · have := hasB_A hB; rw [hA] at this; cases this
    · simp only [hA, hB, h3 hB]; simp
    · simp only [hA, hB]; simp
  · rintro (h | h | h)
    · exact h1 h
    · omega
    · have := h4 h.2
      subst this
      rw [List.length_nil] at hl
      omega
theorem nums_wf {i : CIn} (h : i.Wf) : ∀ k ∈ numsI i, I64 k := by
  intro k hk
  unfold numsI at hk
  rw [List.mem_append, List.mem_append] at hk
  rcases hk with (hk | hk) | hk
  · split at hk
    · rw [List.mem_singleton] at hk; subst hk; exact h.a
    · cases hk
  · split at hk
    · rw [List.mem_singleton] at hk; subst hk; exact h.b
    · cases hk
  · exact h.list k hk
theorem add_ins {u : CUn} {i : CIn} (hf : fitI i = true) (hw : i.Wf) (hu : u.progs ≠ []) : addL u (nameI i.op ++ numsT (numsI i)) = some (addIns u i) := by
  unfold addL
  rw [pieces_nums (name_no32 _), numsOf_itoa (nums_wf hw)]
  simp only []
  rw [if_neg (name_ne _), if_neg, insOf_nums hf]
  · simp only []
    rw [if_neg (fun h => hu (List.eq_nil_of_length_eq_zero h))]
  · rintro ⟨h1, h2⟩
    obtain ⟨a1, a2, a3⟩ := name_prog h1
    have := (fit_parts hf).2.2.2 a3
    have hl := nums_len i
    unfold firstI at hl
    rw [a1, a2, this] at hl
    simp at hl
    omega
theorem bit_64 (b : Bool) : I64 (bitI b) := by cases b <;> (unfold I64 bitI; decide)
theorem bit_is (b : Bool) : isBitI (bitI b) = true := by cases b <;> rfl
theorem bit_eq (b : Bool) : (bitI b == 1) = b := by cases b <;> rfl
theorem add_type {u : CUn} {t : CTy} (hw : t.Wf) (hu : u.progs = []) : addL u (typeW ++ numsT (t.kind :: bitI t.res :: t.kids)) = some { u with types := u.types ++ [t] } := by
  unfold addL
  rw [pieces_nums (by decide), numsOf_itoa (fun k hk => by
    rcases List.mem_cons.1 hk with rfl | hk
    · exact hw.kind
    · rcases List.mem_cons.1 hk with rfl | hk
      · exact bit_64 _
      · exact hw.kids k hk)]
  simp only []
  rw [if_pos trivial, if_neg (by
    rintro (h | h | h)
    · rw [hu] at h; simp at h
    · simp only [List.length_cons] at h; omega
    · rw [List.getD_cons_succ, List.getD_cons_zero, bit_is] at h; cases h)]
  simp only [List.getD_cons_succ, List.getD_cons_zero, List.drop_succ_cons, List.drop_zero, bit_eq]
theorem add_prog {u : CUn} {p : CPg} (hw : p.Wf) : addL u (progW ++ numsT [p.params, p.slots, p.caps, bitI p.res]) = some { u with progs := u.progs ++ [{ p with code := [] }] } := by
  unfold addL
  rw [pieces_nums (by decide), numsOf_itoa (fun k hk => by
    simp only [List.mem_cons, List.not_mem_nil, or_false] at hk
    rcases hk with rfl | rfl | rfl | rfl
    · exact hw.params
    · exact hw.slots
    · exact hw.caps
    · exact bit_64 _)]
  simp only []
  rw [if_neg (by decide), if_pos ⟨trivial, rfl⟩, if_neg (by
    intro h
    simp only [List.getD_cons_succ, List.getD_cons_zero, bit_is] at h
    cases h)]
  simp only [List.getD_cons_succ, List.getD_cons_zero, bit_eq]
theorem addIns_last (ps : List CPg) (ts : List CTy) (p : CPg) (i : CIn) : addIns ⟨ps ++ [p], ts⟩ i = ⟨ps ++ [{ p with code := p.code ++ [i] }], ts⟩ := by
  unfold addIns
  simp
/-- what is printed is read -/
theorem rd_types : ∀ (l ts : List CTy) (r : List UInt8) (n : Nat), (∀ t ∈ l, t.Wf) → rd (l.flatMap typeT ++ r) ⟨[], ts⟩ n = rd r ⟨[], ts ++ l⟩ (n + l.length)
  | [], ts, r, n, _ => by simp
  | t :: l, ts, r, n, h => by
    have e : (t :: l).flatMap typeT ++ r = (typeW ++ numsT (t.kind :: bitI t.res :: t.kids)) ++ 10 :: (l.flatMap typeT ++ r) := by simp [typeT]
    rw [e, rd_some (by
      rw [List.mem_append, not_or]
      exact ⟨by decide, nums_no10 _⟩) (add_type (h t List.mem_cons_self) rfl), rd_types l (ts ++ [t]) r (n + 1) (fun x hx => h x (List.mem_cons_of_mem _ hx))]
    rw [List.append_assoc, List.singleton_append, List.length_cons, show n + 1 + l.length = n + (l.length + 1) by omega]
theorem rd_code : ∀ (l : List CIn) (ps : List CPg) (p : CPg) (ts : List CTy) (r : List UInt8) (n : Nat), (∀ i ∈ l, i.Wf) → l.all fitI = true → rd (l.flatMap insT ++ r) ⟨ps ++ [p], ts⟩ n = rd r ⟨ps ++ [{ p with code := p.code ++ l }], ts⟩ (n + l.length)
  | [], ps, p, ts, r, n, _, _ => by simp
  | i :: l, ps, p, ts, r, n, h, hf => by
    rw [List.all_cons, Bool.and_eq_true] at hf
    have e : (i :: l).flatMap insT ++ r = (nameI i.op ++ numsT (numsI i)) ++ 10 :: (l.flatMap insT ++ r) := by simp [insT]
    rw [e, rd_some (by
      rw [List.mem_append, not_or]
      exact ⟨name_no10 _, nums_no10 _⟩) (add_ins hf.1 (h i List.mem_cons_self) (by simp)), addIns_last, rd_code l ps _ ts r (n + 1) (fun x hx => h x (List.mem_cons_of_mem _ hx)) hf.2]
    simp only []
    rw [List.append_assoc, List.singleton_append, List.length_cons, show n + 1 + l.length = n + (l.length + 1) by omega]
theorem rd_progs : ∀ (l ps : List CPg) (ts : List CTy) (n : Nat), (∀ p ∈ l, p.Wf) → l.all fitP = true → rd (l.flatMap progT) ⟨ps, ts⟩ n = (⟨ps ++ l, ts⟩, 0, 0)
  | [], ps, ts, n, _, _ => by
    rw [List.flatMap_nil, rd_nil, List.append_nil]
  | p :: l, ps, ts, n, h, hf => by
    rw [List.all_cons, Bool.and_eq_true] at hf
    have hp := h p List.mem_cons_self
    have e : (p :: l).flatMap progT = (progW ++ numsT [p.params, p.slots, p.caps, bitI p.res]) ++ 10 :: (p.code.flatMap insT ++ l.flatMap progT) := by simp [progT, headT]
    rw [e, rd_some (by
      rw [List.mem_append, not_or]
      exact ⟨by decide, nums_no10 _⟩) (add_prog hp)]
    simp only []
    rw [rd_code p.code ps _ ts _ _ hp.code hf.1]
    simp only [List.nil_append]
    rw [rd_progs l _ ts _ (fun x hx => h x (List.mem_cons_of_mem _ hx)) hf.2]
    simp
theorem read_print {u : CUn} (hw : u.Wf) (hf : fitU u = true) : readU (unitT u) = (u, 0, 0) := by
  rw [readU_rd]
  unfold unitT
  rw [rd_types _ _ _ _ hw.types, rd_progs _ _ _ _ hw.progs hf]
  simp
/-- what is read is printed -/
theorem line_back {l : List UInt8} {ns : List Int} (h : (pieces 32 l).2 = ns.map Lib.itoa) : (pieces 32 l).1 ++ numsT ns = l := by
  have := pieces_join 32 l
  rw [h] at this
  rw [← this]
  congr 1
  · rw [this]
  · unfold numsT
    rw [List.flatMap_map]
theorem opI_name {w : List UInt8} (h : nameI (opI w : Nat) ≠ []) : nameI (opI w : Nat) = w := by
  have key : ∀ (T : List (List UInt8 × Int × Int × Int)) (n : Nat), (∀ k, k < T.length → shapesT.getD (n + k) noShape = T.getD k noShape) → opFrom T n w = 0 ∨ (shapesT.getD (opFrom T n w) noShape).1 = w := by
    intro T
    induction T with
    | nil => intro n _; left; rfl
    | cons x r ih =>
      intro n hT
      unfold opFrom
      split
      · rename_i hx
        right
        have := hT 0 (by simp)
        rw [Nat.add_zero] at this
        rw [this]
        simpa using hx
      · exact ih (n + 1) (fun k hk => by
          have := hT (k + 1) (by simpa using hk)
          rw [show n + 1 + k = n + (k + 1) by omega, this, List.getD_cons_succ])
  have hlt := opI_lt w
  have hs : nameI (opI w : Nat) = (shapesT.getD (opI w) noShape).1 := by
    unfold nameI shapeI
    rw [if_neg (by omega)]
    rfl
  rcases key shapesT 0 (fun k _ => by rw [Nat.zero_add]) with h0 | h0
  · exfalso
    apply h
    rw [hs, show opI w = 0 from h0]
    rfl
  · rw [hs]; exact h0
theorem insOf_some {w : List UInt8} {l : List Int} {i : CIn} (hl : ∀ k ∈ l, I64 k) (h : insOf (opI w) l = some i) : nameI i.op = w ∧ numsI i = l ∧ fitI i = true ∧ i.Wf := by
  unfold insOf at h
  split at h
  · cases h
  · rename_i hc
    rw [not_or, not_or] at hc
    obtain ⟨h1, h2, h3⟩ := hc
    injection h with h
    unfold firstI at h h2 h3
    have hn := opI_name h1
    have hlt := opI_lt w
    have hg : ∀ k, I64 (l.getD k 0) := fun k => by
      rw [List.getD_eq_getElem?_getD]
      rcases Nat.lt_or_ge k l.length with hk | hk
      · rw [List.getElem?_eq_getElem hk]; exact hl _ (List.getElem_mem hk)
      · rw [List.getElem?_eq_none hk]; unfold I64; decide
    have h00 : I64 0 := by unfold I64; decide
    have hop : I64 ((opI w : Nat) : Int) := by unfold I64; omega
    subst h
    cases hA : hasAI (opI w : Nat) <;> cases hB : hasBI (opI w : Nat)
    · rw [hA, hB] at h2 h3
      simp only [hA, hB, Bool.false_eq_true, if_false] at h2 h3 ⊢
      refine ⟨hn, ?_, fit_mk h1 (fun _ => rfl) (fun _ => rfl) (fun hL => ?_), ⟨hop, h00, h00, fun k hk => hl k (by simpa using hk)⟩⟩
      · unfold numsI; simp [hA, hB]
      · simp only [not_and] at h3
        rcases Nat.eq_zero_or_pos l.length with hz | hz
        · simp [List.eq_nil_of_length_eq_zero hz]
        · exact absurd hL (h3 (by omega))
    · have := hasB_A hB; rw [hA] at this; cases this
    · simp only [hA, hB, Bool.false_eq_true, if_false, if_true] at h2 h3 ⊢
      match l, h2 with
      | x :: r, _ =>
        refine ⟨hn, ?_, fit_mk h1 (fun e => by rw [hA] at e; cases e) (fun _ => rfl) (fun hL => ?_), ⟨hop, hg 0, h00, fun k hk => hl k (by simp at hk; exact List.mem_cons_of_mem _ hk)⟩⟩
        · unfold numsI; simp [hA, hB]
        · simp only [not_and] at h3
          rcases Nat.eq_zero_or_pos r.length with hz | hz
          · simp [List.eq_nil_of_length_eq_zero hz]
          · exact absurd hL (h3 (by simp; omega))
    · simp only [hA, hB, if_true] at h2 h3 ⊢
      match l, h2 with
      | x :: y :: r, _ =>
        refine ⟨hn, ?_, fit_mk h1 (fun e => by rw [hA] at e; cases e) (fun e => by rw [hB] at e; cases e) (fun hL => ?_), ⟨hop, hg 0, hg 1, fun k hk => hl k (by simp at hk; exact List.mem_cons_of_mem _ (List.mem_cons_of_mem _ hk))⟩⟩
        · unfold numsI; simp [hA, hB]
        · simp only [not_and] at h3
          rcases Nat.eq_zero_or_pos r.length with hz | hz
          · simp [List.eq_nil_of_length_eq_zero hz]
          · exact absurd hL (h3 (by simp; omega))
      | [x], h2 => simp at h2
      | [], h2 => simp at h2
theorem bit_of {n : Int} (h : ¬ isBitI n = false) : bitI (n == 1) = n := by
  unfold isBitI at h
  simp only [Bool.or_eq_false_iff, not_and, Bool.not_eq_false, beq_iff_eq, beq_eq_false_iff_ne, ne_eq] at h
  by_cases h1 : n = 1
  · subst h1; rfl
  · by_cases h0 : n = 0
    · subst h0; rfl
    · exact absurd h1 (h h0)
theorem add_back {u v : CUn} {l : List UInt8} (hu : fitU u = true) (hw : u.Wf) (h : addL u l = some v) : unitT v = unitT u ++ (l ++ [10]) ∧ fitU v = true ∧ v.Wf := by
  unfold addL at h
  split at h
  · cases h
  · rename_i ns hns
    obtain ⟨hm, hwf⟩ := numsOf_some hns
    have hb := line_back hm.symm
    simp only [] at h
    have hg : ∀ k, I64 (ns.getD k 0) := fun k => by
      rw [List.getD_eq_getElem?_getD]
      rcases Nat.lt_or_ge k ns.length with hk | hk
      · rw [List.getElem?_eq_getElem hk]; exact hwf _ (List.getElem_mem hk)
      · rw [List.getElem?_eq_none hk]; unfold I64; decide
    split at h
    · rename_i hword
      split at h
      · cases h
      · rename_i hc
        rw [not_or, not_or] at hc
        obtain ⟨h1, h2, h3⟩ := hc
        have hp : u.progs = [] := List.eq_nil_of_length_eq_zero (by omega)
        injection h with h
        subst h
        refine ⟨?_, hu, ⟨hw.progs, fun t ht => ?_⟩⟩
        · unfold unitT
          simp only [hp, List.flatMap_append, List.flatMap_nil, List.append_nil, List.flatMap_cons]
          congr 1
          match ns, h2 with
          | x :: y :: r, _ =>
            unfold typeT
            simp only [List.getD_cons_zero, List.getD_cons_succ, List.drop_succ_cons, List.drop_zero] at h3 ⊢
            rw [bit_of h3, ← hword, hb]
          | [x], h2 => simp at h2
          | [], h2 => simp at h2
        · rw [List.mem_append, List.mem_singleton] at ht
          rcases ht with ht | rfl
          · exact hw.types t ht
          · exact ⟨hg 0, fun k hk => hwf k (List.mem_of_mem_drop hk)⟩
    · split at h
      · rename_i hword
        split at h
        · cases h
        · rename_i h3
          injection h with h
          subst h
          refine ⟨?_, ?_, ⟨fun p hp => ?_, hw.types⟩⟩
          · unfold unitT
            simp only [List.flatMap_append, List.flatMap_cons, List.flatMap_nil, List.append_nil, List.append_assoc]
            congr 2
            match ns, hword.2 with
            | [a, b, c, d], _ =>
              unfold progT headT
              simp only [List.getD_cons_zero, List.getD_cons_succ, List.flatMap_nil, List.append_nil] at h3 ⊢
              rw [bit_of h3, ← hword.1, hb]
          · unfold fitU at hu ⊢
            simp only [List.all_append, hu, Bool.true_and, List.all_cons, List.all_nil, Bool.and_true]
            rfl
          · rw [List.mem_append, List.mem_singleton] at hp
            rcases hp with hp | rfl
            · exact hw.progs p hp
            · exact ⟨hg 0, hg 1, hg 2, fun k hk => by cases hk⟩
      · split at h
        · cases h
        · rename_i i hi
          split at h
          · cases h
          · rename_i hp
            injection h with h
            obtain ⟨j1, j2, j3, j4⟩ := insOf_some hwf hi
            obtain ⟨ps, ts⟩ := u
            rcases List.eq_nil_or_concat ps with rfl | ⟨q, p, rfl⟩
            · simp at hp
            · rw [List.concat_eq_append] at *
              rw [addIns_last] at h
              subst h
              unfold fitU at hu
              simp only [List.all_append, List.all_cons, List.all_nil, Bool.and_true, Bool.and_eq_true] at hu
              refine ⟨?_, ?_, ⟨fun x hx => ?_, hw.types⟩⟩
              · unfold unitT
                simp only [List.flatMap_append, List.flatMap_cons, List.flatMap_nil, List.append_nil, List.append_assoc]
                congr 2
                unfold progT headT
                simp only [List.flatMap_append, List.flatMap_cons, List.flatMap_nil, List.append_nil, List.append_assoc]
                congr 4
                unfold insT
                rw [j1, j2, hb]
              · unfold fitU
                simp only [List.all_append, List.all_cons, List.all_nil, Bool.and_true, Bool.and_eq_true]
                refine ⟨hu.1, ?_⟩
                have := hu.2
                unfold fitP at this ⊢
                simp only [List.all_append, List.all_cons, List.all_nil, Bool.and_true, Bool.and_eq_true]
                exact ⟨this, j3⟩
              · rw [List.mem_append, List.mem_singleton] at hx
                rcases hx with hx | rfl
                · exact hw.progs x (by simp [hx])
                · have hp := hw.progs p (by simp)
                  refine ⟨hp.params, hp.slots, hp.caps, fun k hk => ?_⟩
                  simp only [] at hk
                  rw [List.mem_append, List.mem_singleton] at hk
                  rcases hk with hk | rfl
                  · exact hp.code k hk
                  · exact j4
theorem read_back : ∀ (r : List (List UInt8)) (l : List UInt8) (u : CUn) (n : Nat), fitU u = true → u.Wf → 0 < n →
    ((readGo l r u n).2.2 = 0 ∧ (readGo l r u n).2.1 = 0 ∧ unitT (readGo l r u n).1 = unitT u ++ (l ++ r.flatMap (10 :: ·)) ∧ fitU (readGo l r u n).1 = true ∧ (readGo l r u n).1.Wf) ∨
    ((readGo l r u n).2.2 = 80 ∧ 0 < (readGo l r u n).2.1 ∧ (readGo l r u n).1 = ⟨[], []⟩)
  | [], l, u, n, hu, hw, hn => by
    unfold readGo
    by_cases hl : l = []
    · rw [if_pos hl, hl]
      exact Or.inl ⟨rfl, rfl, by simp, hu, hw⟩
    · rw [if_neg hl]
      exact Or.inr ⟨rfl, hn, rfl⟩
  | m :: r, l, u, n, hu, hw, hn => by
    unfold readGo
    cases h : addL u l with
    | none => exact Or.inr ⟨rfl, hn, rfl⟩
    | some v =>
      obtain ⟨h1, h2, h3⟩ := add_back hu hw h
      simp only []
      rcases read_back r m v (n + 1) h2 h3 (by omega) with ⟨g1, g2, g3, g4⟩ | g
      · refine Or.inl ⟨g1, g2, ?_, g4⟩
        rw [g3, h1]
        simp
      · exact Or.inr g
theorem print_read (t : List UInt8) : ((readU t).2.2 = 0 ∧ (readU t).2.1 = 0 ∧ unitT (readU t).1 = t ∧ fitU (readU t).1 = true ∧ (readU t).1.Wf) ∨ ((readU t).2.2 = 80 ∧ 0 < (readU t).2.1 ∧ (readU t).1 = ⟨[], []⟩) := by
  rcases read_back (pieces 10 t).2 (pieces 10 t).1 ⟨[], []⟩ 1 rfl (CUn.Wf.mk (fun p hp => by cases hp) (fun p hp => by cases hp)) (by omega) with ⟨g1, g2, g3, g4⟩ | g
  · refine Or.inl ⟨g1, g2, ?_, g4⟩
    unfold readU
    rw [g3, pieces_join]
    rfl
  · exact Or.inr g
end Go.Proofs.YtijdcplffmdijaaDoor
