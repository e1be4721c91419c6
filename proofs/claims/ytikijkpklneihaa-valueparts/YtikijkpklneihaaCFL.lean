import Derived.Deep.RegionLaw
import Derived.Orders
namespace Go.Proofs.Ytikijkpklneihaa
set_option linter.unusedVariables false
set_option linter.unusedSimpArgs false

/-! ### a drawn region whose operations yield the same whatever the order: one frame for all of it -/
section
variable {P : Program} {ops : Array Oper} {Q : Exit → Act → World → Prop} {S : World → Prop}
def unlF (L : Array Bool) : Nat := L.toList.count false
theorem unlF_set {L : Array Bool} {i : Nat} (h : L.getD i true = false) : unlF (L.setIfInBounds i true) + 1 = unlF L := by
  have hi : i < L.size := by
    rcases Nat.lt_or_ge i L.size with h' | h'
    · exact h'
    · rw [Array.getD_eq_getD_getElem?, Array.getElem?_eq_none h'] at h; cases h
  have he : L.toList[i]? = some false := by
    rw [Array.getD_eq_getD_getElem?, Array.getElem?_eq_getElem hi] at h
    rw [Array.getElem?_toList, Array.getElem?_eq_getElem hi]
    simpa using h
  unfold unlF
  rw [Array.toList_setIfInBounds]
  have key : ∀ (l : List Bool) (i : Nat), l[i]? = some false → (l.set i true).count false + 1 = l.count false := by
    intro l
    induction l with
    | nil => intro i h; simp at h
    | cons b r ih =>
      intro i h
      cases i with
      | zero =>
        simp at h; subst h
        simp
      | succ k =>
        simp at h
        have := ih k h
        rw [List.set_cons_succ, List.count_cons, List.count_cons]
        omega
  exact key _ _ he
def flowEnd : List Oper → List Value → Act → Act
  | o :: os, v :: vs, a => flowEnd os vs (a.put o.dst v)
  | _, _, a => a
theorem put_size (a : Act) (d : Option Tmp) (v : Value) : (a.put d v).tmps.size = a.tmps.size := by cases d <;> simp [Act.put]
theorem put_def (a : Act) (d : Option Tmp) (v : Value) : (a.put d v).defers = a.defers := by cases d <;> rfl
theorem put_ne (a : Act) (d : Option Tmp) (v : Value) {t : Tmp} (h : d ≠ some t) : (a.put d v).tmps[t]? = a.tmps[t]? := by
  cases d with
  | none => rfl
  | some d =>
    have : d ≠ t := fun e => h (by rw [e])
    simp [Act.put, Array.getElem?_setIfInBounds_ne this]
theorem put_eq (a : Act) (v : Value) (t : Tmp) : (a.put (some t) v).tmps[t]? = if t < a.tmps.size then some v else none := by
  simp [Act.put, Array.getElem?_setIfInBounds]
theorem flow_size : ∀ (os : List Oper) (vs : List Value) (a : Act), (flowEnd os vs a).tmps.size = a.tmps.size ∧ (flowEnd os vs a).defers = a.defers
  | [], _, a => ⟨rfl, rfl⟩
  | _ :: _, [], a => ⟨rfl, rfl⟩
  | o :: os, v :: vs, a => by
    obtain ⟨h1, h2⟩ := flow_size os vs (a.put o.dst v)
    exact ⟨h1.trans (put_size _ _ _), h2.trans (put_def _ _ _)⟩
theorem flow_ne {t : Tmp} : ∀ (os : List Oper) (vs : List Value) (a : Act), (∀ o ∈ os, o.dst ≠ some t) → (flowEnd os vs a).tmps[t]? = a.tmps[t]?
  | [], _, a, _ => rfl
  | _ :: _, [], a, _ => rfl
  | o :: os, v :: vs, a, h => by
    show (flowEnd os vs (a.put o.dst v)).tmps[t]? = _
    rw [flow_ne os vs _ (fun x hx => h x (List.mem_cons_of_mem _ hx)), put_ne _ _ _ (h o List.mem_cons_self)]
theorem flow_at {t : Tmp} : ∀ (os : List Oper) (vs : List Value) (a : Act), vs.length = os.length → os.Pairwise (fun x y => ∀ d, x.dst = some d → y.dst ≠ some d) → ∀ (i : Nat) (o : Oper) (v : Value), os[i]? = some o → vs[i]? = some v → o.dst = some t → (flowEnd os vs a).tmps[t]? = if t < a.tmps.size then some v else none
  | [], _, a, _, _ => fun i o v h => by simp at h
  | _ :: _, [], a, h, _ => by simp at h
  | o :: os, v :: vs, a, hl, hp => by
    intro i x y hx hy hd
    rw [List.pairwise_cons] at hp
    cases i with
    | zero =>
      simp at hx hy
      subst hx; subst hy
      show (flowEnd os vs (a.put o.dst v)).tmps[t]? = _
      rw [flow_ne os vs _ (fun z hz => hp.1 z hz t hd), hd, put_eq]
    | succ k =>
      simp at hx hy
      show (flowEnd os vs (a.put o.dst v)).tmps[t]? = _
      rw [flow_at os vs (a.put o.dst v) (by simpa using hl) hp.2 k x y hx hy hd, put_size]
/-- what an operation does in the frame of the end -/
def FlowStep (P : Program) (ops : Array Oper) (S : World → Prop) (F : Act) (o : Oper) (v : Value) : Prop :=
  (Region.wanted o (yielded ops F.tmps) = true ∧ ∀ w, S w → (execOp F.eval o).run P w = .ok (.value v) w) ∨
  (Region.wanted o (yielded ops F.tmps) = false ∧ v = undef) ∨
  (Region.wanted o (yielded ops F.tmps) = true ∧ ∀ w, S w → ∃ f args, (execOp F.eval o).run P w = .ok (.enter f args) w ∧ Calls P f args w fun e w' => e = .returned v ∧ S w')
def FlowAll (P : Program) (ops : Array Oper) (S : World → Prop) (F : Act) : List Oper → List Value → Prop
  | o :: os, v :: vs => FlowStep P ops S F o v ∧ FlowAll P ops S F os vs
  | [], [] => True
  | _, _ => False
theorem FlowAll.len {F : Act} : ∀ {os : List Oper} {vs : List Value}, FlowAll P ops S F os vs → vs.length = os.length
  | [], [], _ => rfl
  | [], _ :: _, h => h.elim
  | _ :: _, [], h => h.elim
  | _ :: os, _ :: vs, h => by simp [FlowAll.len h.2]
theorem FlowAll.at_ {F : Act} : ∀ {os : List Oper} {vs : List Value}, FlowAll P ops S F os vs → ∀ (i : Nat) (o : Oper), os[i]? = some o → ∃ v, vs[i]? = some v ∧ FlowStep P ops S F o v
  | [], [], _ => fun i o h => by simp at h
  | [], _ :: _, h => h.elim
  | _ :: _, [], h => h.elim
  | _ :: os, v :: vs, h => by
    intro i o hi
    cases i with
    | zero => simp at hi; subst hi; exact ⟨v, rfl, h.1⟩
    | succ k => simp at hi; simpa using FlowAll.at_ h.2 k o hi
/-- the shape: who looks at another one's temporary waits for it; each has its own temporary -/
def flowOk (ops : Array Oper) : Bool :=
  Region.noSelect ops &&
  (List.range ops.size).all fun i => match ops[i]? with
    | none => true
    | some o => (o.after.all fun e => !(Region.binds .any e) || decide (e.on < i)) && (List.range ops.size).all fun j => match ops[j]? with
      | none => true
      | some oj => match oj.dst with
        | none => true
        | some d => (!(o.looksAt ops).contains d || o.after.any fun e => e.on == j && Region.binds .any e) && (i == j || o.dst != some d)
theorem flow_spec (h : flowOk ops = true) {i : Nat} {o : Oper} (hi : ops[i]? = some o) :
    (∀ e ∈ o.after, Region.binds .any e = true → e.on < i) ∧ ∀ (j : Nat) (oj : Oper) (d : Tmp), ops[j]? = some oj → oj.dst = some d →
      (d ∈ o.looksAt ops → ∃ e ∈ o.after, e.on = j ∧ Region.binds .any e = true) ∧ (i ≠ j → o.dst ≠ some d) := by
  unfold flowOk at h
  rw [Bool.and_eq_true] at h
  have h2 := List.all_eq_true.1 h.2 i (by simpa using (Array.getElem?_eq_some_iff.1 hi).1)
  simp only [hi] at h2
  rw [Bool.and_eq_true] at h2
  refine ⟨fun e he hb => by have := Array.all_eq_true'.1 h2.1 e he; simpa [hb] using this, fun j oj d hj hd => ?_⟩
  have h3 := List.all_eq_true.1 h2.2 j (by simpa using (Array.getElem?_eq_some_iff.1 hj).1)
  simp only [hj, hd] at h3
  rw [Bool.and_eq_true] at h3
  refine ⟨fun hm => ?_, fun hne => ?_⟩
  · rcases Bool.or_eq_true _ _ ▸ h3.1 with h4 | h4
    · simp [hm] at h4
    · rw [Array.any_eq_true'] at h4
      obtain ⟨e, he, h5⟩ := h4
      rw [Bool.and_eq_true] at h5
      exact ⟨e, he, by simpa using h5.1, h5.2⟩
  · rcases Bool.or_eq_true _ _ ▸ h3.2 with h4 | h4
    · exact absurd (by simpa using h4) hne
    · simpa using h4
theorem all_on {L : Array Bool} (hL : L.size = ops.size) (hdown : ∀ (i : Nat) (o : Oper), ops[i]? = some o → ∀ e ∈ o.after, Region.binds .any e = true → e.on < i) (hr : Region.ready .any ops L = []) : ∀ i, i < ops.size → L.getD i false = true := by
  intro i
  induction i using Nat.strongRecOn with
  | ind i ih =>
    intro hi
    cases h : L.getD i false with
    | true => rfl
    | false =>
      have hmem : i ∈ Region.ready .any ops L := by
        refine mem_ready.2 ⟨?_, ops[i], Array.getElem?_eq_getElem hi, fun e he hbd => ?_⟩
        · rw [Array.getD_eq_getD_getElem?, Array.getElem?_eq_getElem (by omega)] at h ⊢
          exact h
        · have := hdown i ops[i] (Array.getElem?_eq_getElem hi) e he hbd
          exact ih e.on this (by omega)
      rw [hr] at hmem
      cases hmem
/-- a frame that agrees with that of the end but for what has not come up yet -/
structure Agr (ops : Array Oper) (F : Act) (L : Array Bool) (a : Act) : Prop where
  def_ : a.defers = F.defers
  size : a.tmps.size = F.tmps.size
  get : ∀ t, (∀ (j : Nat) (o : Oper), ops[j]? = some o → o.dst = some t → L.getD j false = true) → a.tmps[t]? = F.tmps[t]?
theorem Agr.eval {F : Act} {L : Array Bool} {a : Act} (h : Agr ops F L a) (hok : flowOk ops = true) {i : Nat} {o : Oper} (hi : ops[i]? = some o) (hall : ∀ e ∈ o.after, Region.binds .any e = true → L.getD e.on false = true) :
    ∀ t ∈ o.looksAt ops, a.tmps[t]? = F.tmps[t]? := by
  intro t ht
  refine h.get t (fun j oj hj hd => ?_)
  obtain ⟨e, he, h1, h2⟩ := ((flow_spec hok hi).2 j oj t hj hd).1 ht
  rw [← h1]
  exact hall e he h2
theorem eval_same {F a : Act} {o : Oper} (hs : ∀ cs b, o.op ≠ .select cs b) (h : ∀ t ∈ o.looksAt ops, a.tmps[t]? = F.tmps[t]?) : execOp a.eval o = execOp F.eval o := by
  refine execOp_congr o hs (fun x hx => ?_)
  cases x with
  | tmp t =>
    have : t ∈ o.looksAt ops := List.mem_append_left _ (List.mem_filterMap.2 ⟨.tmp t, by simpa using hx, rfl⟩)
    simp only [Act.eval, Array.getD_eq_getD_getElem?, h t this]
  | _ => rfl
theorem want_same {F a : Act} {o : Oper} (h : ∀ t ∈ o.looksAt ops, a.tmps[t]? = F.tmps[t]?) : Region.wanted o (yielded ops a.tmps) = Region.wanted o (yielded ops F.tmps) := by
  unfold Region.wanted
  cases hg : o.guard with
  | none => rfl
  | some gw =>
    obtain ⟨g, want⟩ := gw
    have : yielded ops a.tmps g = yielded ops F.tmps g := by
      unfold yielded
      cases ht : (ops[g]?).bind (·.dst) with
      | none => rfl
      | some t => simp only [Option.bind_some, h t (by simp [Oper.looksAt, hg, ht])]
    simp only [this]
theorem Agr.put {F : Act} {L : Array Bool} {a : Act} (h : Agr ops F L a) (hok : flowOk ops = true) {i : Nat} {o : Oper} (hi : ops[i]? = some o) (hL : L.size = ops.size) {v : Value} (hv : ∀ t, o.dst = some t → F.tmps[t]? = if t < F.tmps.size then some v else none) :
    Agr ops F (L.setIfInBounds i true) (a.put o.dst v) := by
  refine ⟨(put_def _ _ _).trans h.def_, (put_size _ _ _).trans h.size, fun t ht => ?_⟩
  by_cases hd : o.dst = some t
  · rw [hv t hd, hd, put_eq, h.size]
  · rw [put_ne _ _ _ hd]
    refine h.get t (fun j oj hj hdj => ?_)
    have := ht j oj hj hdj
    by_cases hji : i = j
    · subst hji
      rw [hi] at hj
      cases hj
      exact absurd hdj hd
    · rw [getD_set_ne false hji] at this
      exact this
theorem flow_any {F : Act} (hok : flowOk ops = true)
    (hstep : ∀ (i : Nat) (o : Oper), ops[i]? = some o → ∃ v, FlowStep P ops S F o v ∧ ∀ t, o.dst = some t → F.tmps[t]? = if t < F.tmps.size then some v else none)
    (hend : ∀ w, S w → Q .normal F w) : ∀ (fuel : Nat) (L : Array Bool) (a : Act) (w : World), unlF L ≤ fuel → L.size = ops.size → Agr ops F L a → S w → wpAny P .any ops Q fuel L a w := by
  have hfin : ∀ (L : Array Bool) (a : Act) (w : World), L.size = ops.size → Agr ops F L a → S w → Region.ready .any ops L = [] → Q .normal a w := by
    intro L a w hL hA hS hr
    have hon := all_on hL (fun i o hi => (flow_spec hok hi).1) hr
    have : a = F := by
      have h1 : a.tmps = F.tmps := Array.ext_getElem? (fun t => hA.get t (fun j o hj _ => hon j (Array.getElem?_eq_some_iff.1 hj).1))
      cases a; cases F
      simp only at h1
      have h2 := hA.def_
      simp only at h2
      rw [h1, h2]
    rw [this]
    exact hend w hS
  have hns : Region.noSelect ops = true := by
    unfold flowOk at hok
    rw [Bool.and_eq_true] at hok
    exact hok.1
  intro fuel
  induction fuel with
  | zero =>
    intro L a w hf hL hA hS
    have hr : Region.ready .any ops L = [] := by
      rw [List.eq_nil_iff_forall_not_mem]
      intro i hi
      obtain ⟨hu, _⟩ := mem_ready.1 hi
      have := unlF_set hu
      omega
    exact ⟨hr, hfin L a w hL hA hS hr⟩
  | succ fuel ih =>
    intro L a w hf hL hA hS
    refine ⟨fun hr => hfin L a w hL hA hS hr, fun i hi => ?_⟩
    obtain ⟨hu, o, ho, hall⟩ := mem_ready.1 hi
    obtain ⟨v, hst, hv⟩ := hstep i o ho
    have hlook := hA.eval hok ho hall
    have he := eval_same (fun cs b => Region.noSelect_spec hns i o cs b ho) hlook
    have hw := want_same hlook
    have hnext : ∀ w', S w' → wpAny P .any ops Q fuel (L.setIfInBounds i true) (a.put o.dst v) w' := fun w' hS' => ih _ _ _ (by have := unlF_set hu; omega) (by simpa using hL) (hA.put hok ho hL hv) hS'
    unfold wpOp
    simp only [ho]
    rw [hw]
    rcases hst with ⟨h1, h2⟩ | ⟨h1, rfl⟩ | ⟨h1, h2⟩
    · rw [if_pos h1]
      refine .inl ?_
      unfold Oper.wp
      rw [he, h2 w hS]
      exact hnext w hS
    · rw [if_neg (by rw [h1]; decide)]
      exact hnext w hS
    · rw [if_pos h1]
      refine .inl ?_
      unfold Oper.wp
      obtain ⟨f, args, h3, h4⟩ := h2 w hS
      rw [he, h3, Oper.upon_enter]
      refine Calls.mono h4 ?_
      rintro e w' ⟨rfl, h5⟩
      exact hnext w' h5
/-- **A REGION THAT DRAWS ITS ORDER, WHERE EACH OPERATION YIELDS ONE VALUE**: the values, the condition that is kept, and what each operation does in the frame of the end -/
theorem region_flow {id : Nat} {a : Act} {w : World} (vs : List Value) (S : World → Prop) (hm : P.follows .mixedOrders = true) (hok : flowOk ops = true) (hS : S w.drew)
    {F : Act} (hF : flowEnd ops.toList vs a = F) (hall : FlowAll P ops S F ops.toList vs) (hend : ∀ w', S w' → Q .normal F w') : (Code.region id ops true).wp P Q a w := by
  have hpw : ops.toList.Pairwise (fun x y => ∀ d, x.dst = some d → y.dst ≠ some d) := by
    rw [List.pairwise_iff_getElem]
    intro i j hi hj hij d h1 h2
    have hi' : ops[i]? = some (ops.toList[i]) := by rw [← Array.getElem?_toList]; exact List.getElem?_eq_getElem hi
    have hj' : ops[j]? = some (ops.toList[j]) := by rw [← Array.getElem?_toList]; exact List.getElem?_eq_getElem hj
    exact ((flow_spec hok hj').2 i _ d hi' h1).2 (by omega) h2
  obtain ⟨hs1, hs2⟩ := flow_size ops.toList vs a
  refine wp_region_any hm (flow_any (F := F) (S := S) hok (fun i o hi => ?_) hend ops.size _ a _ ?_ (by simp) ?_ hS)
  · obtain ⟨v, hv, hst⟩ := hall.at_ i o (by rw [Array.getElem?_toList]; exact hi)
    refine ⟨v, hst, fun t ht => ?_⟩
    have := flow_at ops.toList vs a hall.len hpw i o v (by rw [Array.getElem?_toList]; exact hi) hv ht
    rw [← hF, this, hs1]
  · unfold unlF
    refine Nat.le_trans List.count_le_length ?_
    simp
  · refine ⟨by rw [← hF, hs2], by rw [← hF, hs1], fun t ht => ?_⟩
    rw [← hF]
    refine (flow_ne ops.toList vs a (fun o ho hd => ?_)).symm
    obtain ⟨j, hj⟩ := List.getElem?_of_mem ho
    rw [Array.getElem?_toList] at hj
    have := ht j o hj hd
    have hlt := (Array.getElem?_eq_some_iff.1 hj).1
    simp [hlt] at this
theorem region_flowL {l : List Oper} {id : Nat} {a : Act} {w : World} (vs : List Value) (S : World → Prop) (hm : P.follows .mixedOrders = true) (hok : flowOk l.toArray = true) (hS : S w.drew)
    {F : Act} (hF : flowEnd l vs a = F) (hall : FlowAll P l.toArray S F l vs) (hend : ∀ w', S w' → Q .normal F w') : (Code.region id l.toArray true).wp P Q a w :=
  region_flow vs S hm hok hS (by simpa using hF) (by simpa using hall) hend
theorem flow_cons {F : Act} {o : Oper} {os : List Oper} {v : Value} {vs : List Value} (h1 : FlowStep P ops S F o v) (h2 : FlowAll P ops S F os vs) : FlowAll P ops S F (o :: os) (v :: vs) := ⟨h1, h2⟩
theorem flow_nil {F : Act} : FlowAll P ops S F [] [] := trivial
theorem flow_pure {F : Act} {o : Oper} {v : Value} (hw : Region.wanted o (yielded ops F.tmps) = true) (h : ∀ w, S w → (execOp F.eval o).run P w = .ok (.value v) w) : FlowStep P ops S F o v := .inl ⟨hw, h⟩
theorem flow_not {F : Act} {o : Oper} (hw : Region.wanted o (yielded ops F.tmps) = false) : FlowStep P ops S F o undef := .inr (.inl ⟨hw, rfl⟩)
theorem flow_call {F : Act} {o : Oper} {v : Value} (f : FuncId) (args : Array Value) (hw : Region.wanted o (yielded ops F.tmps) = true) (h : ∀ w, S w → (execOp F.eval o).run P w = .ok (.enter f args) w) (hc : ∀ w, S w → Calls P f args w fun e w' => e = .returned v ∧ S w') : FlowStep P ops S F o v := .inr (.inr ⟨hw, fun w hS => ⟨f, args, h w hS, hc w hS⟩⟩)
end
end Go.Proofs.Ytikijkpklneihaa
namespace Go.Proofs.Ytikijkpklneihaa
set_option linter.unusedVariables false
set_option linter.unusedSimpArgs false

/-! ### the frame of the end, where the temporaries follow one another -/
theorem flow_run : ∀ (os : List Oper) (vs : List Value) (t0 : Nat) (tl : List Value) (df : List Deferred), os.map (·.dst) = (List.range' t0 os.length).map some → vs.length = os.length → t0 + os.length ≤ tl.length →
    flowEnd os vs ⟨tl.toArray, df⟩ = ⟨(tl.take t0 ++ (vs ++ tl.drop (t0 + os.length))).toArray, df⟩
  | [], vs, t0, tl, df, _, h2, h3 => by
    obtain rfl : vs = [] := List.eq_nil_of_length_eq_zero (by simpa using h2)
    simp [flowEnd]
  | o :: os, [], t0, tl, df, _, h2, h3 => by simp at h2
  | o :: os, v :: vs, t0, tl, df, h1, h2, h3 => by
    rw [List.length_cons, List.range'_succ, List.map_cons, List.map_cons, List.cons.injEq] at h1
    simp only [List.length_cons] at h2 h3
    have hd : o.dst = some t0 := h1.1
    have ht : t0 < tl.length := by omega
    show flowEnd os vs (Act.put ⟨tl.toArray, df⟩ o.dst v) = _
    rw [hd]
    show flowEnd os vs ⟨tl.toArray.setIfInBounds t0 v, df⟩ = _
    rw [List.setIfInBounds_toArray, flow_run os vs (t0 + 1) (tl.set t0 v) df h1.2 (by omega) (by rw [List.length_set]; omega)]
    have e1 : (tl.set t0 v).take (t0 + 1) = tl.take t0 ++ [v] := by
      rw [List.take_succ_eq_append_getElem (by rw [List.length_set]; exact ht), List.getElem_set_self, List.take_set_of_le (Nat.le_refl _)]
    have e2 : (tl.set t0 v).drop (t0 + 1 + os.length) = tl.drop (t0 + (os.length + 1)) := by
      rw [List.drop_set_of_lt (by omega), show t0 + 1 + os.length = t0 + (os.length + 1) by omega]
    rw [e1, e2]
    simp
theorem flow_split : ∀ (m : Nat) (l : List Oper) (vs : List Value) (a : Act), vs.length = l.length → flowEnd l vs a = flowEnd (l.drop m) (vs.drop m) (flowEnd (l.take m) (vs.take m) a)
  | 0, l, vs, a, _ => rfl
  | m + 1, [], vs, a, h => by
    obtain rfl : vs = [] := List.eq_nil_of_length_eq_zero (by simpa using h)
    rfl
  | m + 1, o :: l, [], a, h => by simp at h
  | m + 1, o :: l, v :: vs, a, h => by
    show flowEnd l vs (a.put o.dst v) = flowEnd (l.drop m) (vs.drop m) (flowEnd (l.take m) (vs.take m) (a.put o.dst v))
    exact flow_split m l vs _ (by simpa using h)
theorem flowF {l : List Oper} {vs : List Value} {tl : List Value} {df : List Deferred} {F : Act} (t0 m : Nat) (h1 : (l.take m).map (·.dst) = (List.range' t0 m).map some) (h2 : vs.length = l.length) (h3 : m ≤ l.length) (h4 : t0 + m ≤ tl.length)
    (h5 : flowEnd (l.drop m) (vs.drop m) ⟨(tl.take t0 ++ (vs.take m ++ tl.drop (t0 + m))).toArray, df⟩ = F) : flowEnd l vs ⟨tl.toArray, df⟩ = F := by
  have e : (l.take m).length = m := by rw [List.length_take]; omega
  rw [flow_split m l vs _ h2, flow_run (l.take m) (vs.take m) t0 tl df (by rw [e]; exact h1) (by rw [List.length_take, List.length_take]; omega) (by rw [e]; exact h4), e]
  exact h5
end Go.Proofs.Ytikijkpklneihaa
namespace Go.Proofs.Ytikijkpklneihaa
set_option linter.unusedVariables false
set_option linter.unusedSimpArgs false

/-! ### a drawn region whose operations may make memory: by what holds of the values that have come up -/
section
variable {P : Program} {ops : Array Oper} {Q : Exit → Act → World → Prop}
abbrev Vals := Nat → Option Value
def Vals.put (u : Vals) (i : Nat) (v : Value) : Vals := fun j => if j = i then some v else u j
theorem Vals.put_self (u : Vals) (i : Nat) (v : Value) : u.put i v i = some v := by simp [Vals.put]
theorem Vals.put_ne (u : Vals) {i j : Nat} (v : Value) (h : j ≠ i) : u.put i v j = u j := by simp [Vals.put, h]
/-- a frame, with what has come up -/
structure AgrV (ops : Array Oper) (a0 : Act) (u : Vals) (a : Act) : Prop where
  def_ : a.defers = a0.defers
  size : a.tmps.size = a0.tmps.size
  get : ∀ (j : Nat) (o : Oper) (t : Tmp) (v : Value), ops[j]? = some o → o.dst = some t → u j = some v → a.tmps[t]? = if t < a0.tmps.size then some v else none
  old : ∀ t : Tmp, (∀ (j : Nat) (o : Oper), ops[j]? = some o → o.dst = some t → u j = none) → a.tmps[t]? = a0.tmps[t]?
theorem AgrV.put {a0 : Act} {u : Vals} {a : Act} (h : AgrV ops a0 u a) (hok : flowOk ops = true) {i : Nat} {o : Oper} (hi : ops[i]? = some o) (v : Value) : AgrV ops a0 (u.put i v) (a.put o.dst v) := by
  refine ⟨(put_def _ _ _).trans h.def_, (put_size _ _ _).trans h.size, fun j oj t x hj hd hx => ?_, fun t ht => ?_⟩
  · by_cases hji : j = i
    · subst hji
      rw [hi] at hj
      cases hj
      rw [Vals.put_self] at hx
      cases hx
      rw [hd, put_eq, h.size]
    · rw [Vals.put_ne _ _ hji] at hx
      have hne : o.dst ≠ some t := fun e => by
        have := ((flow_spec hok hi).2 j oj t hj hd).2 (fun e' => hji e'.symm)
        exact this e
      rw [put_ne _ _ _ hne]
      exact h.get j oj t x hj hd hx
  · have hne : o.dst ≠ some t := fun e => by
      have := ht i o hi e
      rw [Vals.put_self] at this
      cases this
    rw [put_ne _ _ _ hne]
    refine h.old t fun j oj hj hd => ?_
    have := ht j oj hj hd
    by_cases hji : j = i
    · subst hji; rw [Vals.put_self] at this; cases this
    · rw [Vals.put_ne _ _ hji] at this; exact this
theorem AgrV.at_ {a0 : Act} {u : Vals} {a : Act} (h : AgrV ops a0 u a) {j : Nat} {o : Oper} {t : Tmp} {v : Value} (hj : ops[j]? = some o) (hd : o.dst = some t) (hv : u j = some v) (ht : t < a0.tmps.size) : a.eval (.tmp t) = v := by
  have := h.get j o t v hj hd hv
  rw [if_pos ht] at this
  simp [Act.eval, Array.getD_eq_getD_getElem?, this]
theorem AgrV.was {a0 : Act} {u : Vals} {a : Act} (h : AgrV ops a0 u a) {t : Tmp} (hn : (ops.toList.all fun o => o.dst != some t) = true) : a.eval (.tmp t) = a0.eval (.tmp t) := by
  have := h.old t fun j o hj hd => by
    have hm : o ∈ ops.toList := by
      rw [← Array.getElem?_toList] at hj
      exact List.mem_of_getElem? hj
    have := List.all_eq_true.1 hn o hm
    simp [hd] at this
  simp [Act.eval, Array.getD_eq_getD_getElem?, this]
/-- what an operation does with what has come up -/
def StepV (P : Program) (S : Vals → World → Prop) (u : Vals) (i : Nat) (o : Oper) (a : Act) (w : World) : Prop :=
  o.guard = none ∧ ((∃ v w', (execOp a.eval o).run P w = .ok (.value v) w' ∧ S (u.put i v) w') ∨ (∃ w', (execOp a.eval o).run P w = .ok .skip w' ∧ S (u.put i undef) w') ∨ ∃ f args, (execOp a.eval o).run P w = .ok (.enter f args) w ∧ Calls P f args w fun e w' => ∃ v, e = .returned v ∧ S (u.put i v) w')
theorem flow_anyV {a0 : Act} (S : Vals → World → Prop) (hok : flowOk ops = true)
    (hstep : ∀ (u : Vals) (w : World) (i : Nat) (o : Oper) (a : Act), S u w → u i = none → ops[i]? = some o → (∀ e ∈ o.after, Region.binds .any e = true → ∃ v, u e.on = some v) → AgrV ops a0 u a → StepV P S u i o a w)
    (hend : ∀ (u : Vals) (a : Act) (w : World), (∀ i, i < ops.size → ∃ v, u i = some v) → AgrV ops a0 u a → S u w → Q .normal a w) :
    ∀ (fuel : Nat) (L : Array Bool) (u : Vals) (a : Act) (w : World), unlF L ≤ fuel → L.size = ops.size → (∀ i, L.getD i false = true → ∃ v, u i = some v) → (∀ i, L.getD i true = false → u i = none) → AgrV ops a0 u a → S u w → wpAny P .any ops Q fuel L a w := by
  have hfin : ∀ (L : Array Bool) (u : Vals) (a : Act) (w : World), L.size = ops.size → (∀ i, L.getD i false = true → ∃ v, u i = some v) → AgrV ops a0 u a → S u w → Region.ready .any ops L = [] → Q .normal a w := by
    intro L u a w hL h1 hA hS hr
    have hon := all_on hL (fun i o hi => (flow_spec hok hi).1) hr
    exact hend u a w (fun i hi => h1 i (hon i hi)) hA hS
  intro fuel
  induction fuel with
  | zero =>
    intro L u a w hf hL h1 h2 hA hS
    have hr : Region.ready .any ops L = [] := by
      rw [List.eq_nil_iff_forall_not_mem]
      intro i hi
      obtain ⟨hu, _⟩ := mem_ready.1 hi
      have := unlF_set hu
      omega
    exact ⟨hr, hfin L u a w hL h1 hA hS hr⟩
  | succ fuel ih =>
    intro L u a w hf hL h1 h2 hA hS
    refine ⟨fun hr => hfin L u a w hL h1 hA hS hr, fun i hi => ?_⟩
    obtain ⟨hu, o, ho, hall⟩ := mem_ready.1 hi
    obtain ⟨hg, hst⟩ := hstep u w i o a hS (h2 i hu) ho (fun e he hb => h1 _ (hall e he hb)) hA
    have hnext : ∀ v w', S (u.put i v) w' → wpAny P .any ops Q fuel (L.setIfInBounds i true) (a.put o.dst v) w' := fun v w' hS' => by
      refine ih _ (u.put i v) _ _ (by have := unlF_set hu; omega) (by simpa using hL) (fun j hj => ?_) (fun j hj => ?_) (hA.put hok ho v) hS'
      · by_cases hji : j = i
        · subst hji; exact ⟨v, Vals.put_self _ _ _⟩
        · rw [getD_set_ne false (fun e => hji e.symm)] at hj
          rw [Vals.put_ne _ _ hji]
          exact h1 j hj
      · by_cases hji : j = i
        · subst hji
          exfalso
          have hlt : j < L.size := by
            rcases Nat.lt_or_ge j L.size with h' | h'
            · exact h'
            · rw [Array.getD_eq_getD_getElem?, Array.getElem?_eq_none h'] at hu; cases hu
          rw [Array.getD_eq_getD_getElem?, Array.getElem?_setIfInBounds_self_of_lt hlt] at hj
          cases hj
        · rw [getD_set_ne true (fun e => hji e.symm)] at hj
          rw [Vals.put_ne _ _ hji]
          exact h2 j hj
    unfold wpOp
    simp only [ho]
    rw [if_pos (by simp [Region.wanted, hg])]
    refine .inl ?_
    unfold Oper.wp
    rcases hst with ⟨v, w', h3, h4⟩ | ⟨w', h3, h4⟩ | ⟨f, args, h3, h4⟩
    · rw [h3]
      exact hnext v w' h4
    · rw [h3]
      exact hnext undef w' h4
    · rw [h3, Oper.upon_enter]
      refine Calls.mono h4 ?_
      rintro e w' ⟨v, rfl, h5⟩
      exact hnext v w' h5
/-- **A REGION THAT DRAWS ITS ORDER, BY WHAT HOLDS OF THE VALUES THAT HAVE COME UP** -/
theorem region_flowV {l : List Oper} {id : Nat} {a : Act} {w : World} (S : Vals → World → Prop) (hm : P.follows .mixedOrders = true) (hok : flowOk l.toArray = true) (hS : S (fun _ => none) w.drew)
    (hstep : ∀ (u : Vals) (w : World) (i : Nat) (o : Oper) (b : Act), S u w → u i = none → l[i]? = some o → (∀ e ∈ o.after, Region.binds .any e = true → ∃ v, u e.on = some v) → AgrV l.toArray a u b → StepV P S u i o b w)
    (hend : ∀ (u : Vals) (vs : List Value) (w' : World), vs.length = l.length → (∀ i, i < l.length → u i = vs[i]?) → S u w' → ∃ F, flowEnd l vs a = F ∧ Q .normal F w') : (Code.region id l.toArray true).wp P Q a w := by
  refine wp_region_any hm (flow_anyV (a0 := a) S hok (fun u w i o b h1 h2 h3 h4 h5 => hstep u w i o b h1 h2 (by simpa using h3) h4 h5) (fun u b w' h1 h2 h3 => ?_) _ _ (fun _ => none) a _ ?_ (by simp) (fun i hi => ?_) (fun _ _ => rfl) ⟨rfl, rfl, (fun _ _ _ _ _ _ h => by cases h), fun _ _ => rfl⟩ hS)
  · obtain ⟨vs, hvl, hvs⟩ : ∃ vs : List Value, vs.length = l.length ∧ ∀ i, i < l.length → u i = vs[i]? := by
      have key : ∀ n, n ≤ l.length → ∃ vs : List Value, vs.length = n ∧ ∀ i, i < n → u i = vs[i]? := by
        intro n
        induction n with
        | zero => intro _; exact ⟨[], rfl, fun i h => by omega⟩
        | succ n ih =>
          intro hn
          obtain ⟨vs, hl, hv⟩ := ih (by omega)
          obtain ⟨v, hvn⟩ := h1 n (by simp; omega)
          refine ⟨vs ++ [v], by simp [hl], fun i hi => ?_⟩
          by_cases hin : i < n
          · rw [List.getElem?_append_left (by omega)]; exact hv i hin
          · obtain rfl : i = n := by omega
            rw [List.getElem?_append_right (by omega), hl, Nat.sub_self, hvn]; rfl
      exact key _ (Nat.le_refl _)
    have hpw : l.Pairwise (fun x y => ∀ d, x.dst = some d → y.dst ≠ some d) := by
      rw [List.pairwise_iff_getElem]
      intro i j hi hj hij d q1 q2
      exact ((flow_spec hok (i := j) (o := l[j]) (by simp [hj])).2 i l[i] d (by simp [hi]) q1).2 (by omega) q2
    obtain ⟨hs1, hs2⟩ := flow_size l vs a
    have hb : b = flowEnd l vs a := by
      have e1 : b.tmps = (flowEnd l vs a).tmps := Array.ext_getElem? fun t => by
        by_cases hex : ∃ (j : Nat) (o : Oper), l[j]? = some o ∧ o.dst = some t
        · obtain ⟨j, o, hj, hd⟩ := hex
          have hjl := (List.getElem?_eq_some_iff.1 hj).1
          obtain ⟨v, hv⟩ := h1 j (by simpa using hjl)
          rw [h2.get j o t v (by simpa using hj) hd hv, flow_at l vs a hvl hpw j o v hj (by rw [← hvs j hjl]; exact hv) hd]
        · have hno : ∀ o ∈ l, o.dst ≠ some t := fun o ho e => by
            obtain ⟨j, hj⟩ := List.getElem?_of_mem ho
            exact hex ⟨j, o, hj, e⟩
          rw [flow_ne l vs a hno]
          exact h2.old t fun j o hj hd => absurd hd (hno o (List.mem_of_getElem? (by simpa using hj)))
      have e2 : b.defers = (flowEnd l vs a).defers := h2.def_.trans hs2.symm
      cases b
      cases hf : flowEnd l vs a
      rw [hf] at e1 e2
      simp only at e1 e2
      rw [e1, e2]
    obtain ⟨F, hF, hQ⟩ := hend u vs w' hvl hvs h3
    rw [hb, hF]
    exact hQ
  · unfold unlF
    refine Nat.le_trans List.count_le_length ?_
    simp
  · exfalso
    revert hi
    rw [Array.getD_eq_getD_getElem?, Array.getElem?_replicate]
    split <;> simp
end
end Go.Proofs.Ytikijkpklneihaa
