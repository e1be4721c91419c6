import Derived.Test.YtjjbgbadkbomlaaDoorCTPlain
namespace Go.Proofs.YtjjbgbadkbomlaaDoor

/-- a meaning: what declares it, its block, how many of the open progs are done with it, what it hides; and how many progs were open when it was made -/
structure Mn where
  decl : Int
  block : Nat
  done : Nat
  outer : Option Nat
  lvl : Nat
def mn0 : Mn := ⟨-1, 0, 0, none, 0⟩
/-- where the walk stands: all meanings that were made; the names in scope; what is told; the fault; the open blocks; what the innermost one has declared; the open progs, each with what it took; the place that is set -/
structure SSt where
  ms : List Mn
  sc : ByteArray → Option Nat
  ref : List Int
  free : List (List Int)
  flt : Int × Int
  blocks : Nat
  dcl : List ByteArray
  gat : List (Nat × List Nat)
  set : Int
def mnS (s : SSt) (m : Nat) : Mn := s.ms.getD m mn0
def setMn (ms : List Mn) (m : Nat) (x : Mn) : List Mn := ms.set m x

def refuseP (l : List Nd) (i : Nat) (c : Int) (s : SSt) : SSt := if s.flt.2 = 0 then { s with flt := ((ndN l i).pos, c) } else s
def putP (nm : ByteArray) (i : Nat) (o : Option Nat) (s : SSt) : SSt :=
  { s with ms := s.ms ++ [⟨i, s.blocks, s.gat.length, o, s.gat.length⟩], sc := fun x => if x = nm then some s.ms.length else s.sc x, dcl := s.dcl ++ [nm] }
def declP (l : List Nd) (i : Nat) (s : SSt) : SSt :=
  if (ndN l i).name.toList.isEmpty = true then s else
  match s.sc (ndN l i).name with
  | none => putP (ndN l i).name i none s
  | some m => if (mnS s m).block = s.blocks then refuseP l i 50 s else putP (ndN l i).name i (some m) s
def isVarP (l : List Nd) (d : Int) : Bool := decide (0 ≤ d) && kdN l d.toNat == 32
def gatS (s : SSt) (k : Nat) : Nat × List Nat := s.gat.getD k (0, [])
/-- the prog at k takes a meaning -/
def takeP (m : Nat) (s : SSt) (k : Nat) : SSt :=
  { s with free := s.free.set (gatS s k).1 (s.free.getD (gatS s k).1 [] ++ [(mnS s m).decl]), gat := s.gat.set k ((gatS s k).1, (gatS s k).2 ++ [m]) }
def doneP (m d : Nat) (s : SSt) : SSt := { s with ms := s.ms.set m { mnS s m with done := d } }
def nameP (l : List Nd) (i : Nat) (s : SSt) : SSt :=
  match s.sc (ndN l i).name with
  | none => refuseP l i 51 s
  | some m =>
    if isVarP l (mnS s m).decl && decide ((mnS s m).done < s.gat.length) then refuseP l i 53 s
    else if !isVarP l (mnS s m).decl && decide ((i : Int) = s.set) then refuseP l i 52 s
    else doneP m s.gat.length ((List.range' (mnS s m).done (s.gat.length - (mnS s m).done)).foldl (takeP m) { s with ref := s.ref.set i (mnS s m).decl })
def outerP (s : SSt) (nm : ByteArray) : Option Nat := match s.sc nm with | none => none | some m => (mnS s m).outer
def outP (s : SSt) (nm : ByteArray) : SSt := { s with sc := fun x => if x = nm then outerP s nm else s.sc x }
def blockP (inside : SSt → SSt) (s : SSt) : SSt :=
  let s1 := inside { s with dcl := [], blocks := s.blocks + 1 }
  let s2 := s1.dcl.foldl outP s1
  { s2 with blocks := s2.blocks - 1, dcl := s.dcl }
def capP (i : Nat) (inside : SSt → SSt) (s : SSt) : SSt :=
  let s1 := inside { s with gat := s.gat ++ [(i, [])] }
  let s2 := { s1 with gat := s1.gat.take s.gat.length }
  (gatS s1 s.gat.length).2.foldl (fun s m => doneP m s2.gat.length s) s2
def placeP (l : List Nd) : Nat → Nat → Int
  | 0, _ => -1
  | f + 1, i => if kdN l i = 13 then i else if kdN l i = 24 ∨ kdN l i = 25 then placeP l f ((ndN l i).kids.getD 0 0).toNat else -1
def allP (v : Nat → SSt → SSt) (ks : List Int) (s : SSt) : SSt := ks.foldl (fun s k => v k.toNat s) s
def visF (l : List Nd) : Nat → Nat → SSt → SSt
  | 0, _, s => s
  | f + 1, i, s =>
    if kdN l i = 13 then nameP l i s
    else if kdN l i = 20 then capP i (blockP (fun s => blockP (fun s => allP (visF l f) (ndAt l ((ndN l i).kids.getLastD 0)).kids (allP (visF l f) (ndN l i).kids.dropLast s)) (declP l i s))) s
    else if kdN l i = 43 then blockP (fun s => allP (visF l f) (ndAt l ((ndN l i).kids.getD 1 0)).kids (declP l i s)) (visF l f ((ndN l i).kids.getD 0 0).toNat s)
    else if kdN l i = 41 ∨ kdN l i = 46 then blockP (allP (visF l f) (ndN l i).kids) s
    else if kdN l i = 31 ∨ kdN l i = 32 ∨ kdN l i = 42 then declP l i (allP (visF l f) (ndN l i).kids s)
    else if kdN l i = 33 then allP (visF l f) (ndN l i).kids { s with set := placeP l (l.length + 1) ((ndN l i).kids.getD 0 0).toNat }
    else allP (visF l f) (ndN l i).kids s

/-- what can come into scope again -/
inductive Live (s : SSt) : Nat → Prop
  | top {nm : ByteArray} {m : Nat} : s.sc nm = some m → Live s m
  | out {m m' : Nat} : Live s m → (mnS s m).outer = some m' → Live s m'
structure SWf (l : List Nd) (s : SSt) : Prop where
  outs : ∀ m m', (mnS s m).outer = some m' → m' < m
  tops : ∀ nm m, s.sc nm = some m → m < s.ms.length
  blk : ∀ nm m, s.sc nm = some m → (mnS s m).block ≤ s.blocks
  dcl : ∀ nm m, s.sc nm = some m → (mnS s m).block = s.blocks → 0 < s.blocks → nm ∈ s.dcl
  has : ∀ nm, nm ∈ s.dcl → ∃ m, s.sc nm = some m ∧ (mnS s m).block = s.blocks
  one : s.dcl.Nodup
  decl : ∀ m, m < s.ms.length → (mnS s m).decl = -2 ∨ (mnS s m).decl = -3 ∨ (∃ d : Nat, (mnS s m).decl = d ∧ d < l.length)
  lvl : ∀ m, Live s m → (mnS s m).lvl ≤ (mnS s m).done ∧ (mnS s m).done ≤ s.gat.length
  tak : ∀ m, Live s m → ∀ k, (mnS s m).lvl ≤ k → k < (mnS s m).done → m ∈ (gatS s k).2
  kat : ∀ m, Live s m → ∀ k, m ∈ (gatS s k).2 → k < (mnS s m).done
  prog : ∀ k, k < s.gat.length → (gatS s k).1 < l.length
  gids : ∀ k m, m ∈ (gatS s k).2 → m < s.ms.length
  refl_ : s.ref.length = l.length
  freel : s.free.length = l.length
  nms : ∀ nm, nm ∈ s.dcl → ∃ j, j < l.length ∧ nm = (ndN l j).name
theorem Live.lt {l : List Nd} {s : SSt} (h : SWf l s) {m : Nat} (hm : Live s m) : m < s.ms.length := by
  induction hm with
  | top e => exact h.tops _ _ e
  | out _ e ih => exact Nat.lt_trans (h.outs _ _ e) ih

/-- what a part of the walk leaves: new: what it has declared in the block that is open -/
structure SExt (s s' : SSt) (new : List ByteArray) : Prop where
  blocks : s'.blocks = s.blocks
  dcl : s'.dcl = s.dcl ++ new
  gat : s'.gat.map (·.1) = s.gat.map (·.1)
  msl : s.ms.length ≤ s'.ms.length
  old : ∀ m, m < s.ms.length → (mnS s' m).decl = (mnS s m).decl ∧ (mnS s' m).block = (mnS s m).block ∧ (mnS s' m).outer = (mnS s m).outer ∧ (mnS s' m).lvl = (mnS s m).lvl
  same : ∀ nm, nm ∉ new → s'.sc nm = s.sc nm
  fresh : ∀ nm, nm ∈ new → ∃ m, s'.sc nm = some m ∧ (mnS s' m).outer = s.sc nm ∧ s.ms.length ≤ m ∧ m < s'.ms.length
theorem SExt.len {s s' : SSt} {new : List ByteArray} (h : SExt s s' new) : s'.gat.length = s.gat.length := by
  have := congrArg List.length h.gat; simpa using this
theorem SExt.refl (s : SSt) : SExt s s [] := ⟨rfl, by simp, rfl, Nat.le_refl _, fun _ _ => ⟨rfl, rfl, rfl, rfl⟩, fun _ _ => rfl, fun _ h => by cases h⟩
theorem SExt.trans {s s' s'' : SSt} {n n' : List ByteArray} (h : SExt s s' n) (h' : SExt s' s'' n') (hd : ∀ x, x ∈ n → x ∉ n') : SExt s s'' (n ++ n') := by
  refine ⟨h'.blocks.trans h.blocks, by rw [h'.dcl, h.dcl, List.append_assoc], h'.gat.trans h.gat, Nat.le_trans h.msl h'.msl, ?_, ?_, ?_⟩
  · intro m hm
    obtain ⟨a1, a2, a3, a4⟩ := h.old m hm
    obtain ⟨b1, b2, b3, b4⟩ := h'.old m (Nat.lt_of_lt_of_le hm h.msl)
    exact ⟨b1.trans a1, b2.trans a2, b3.trans a3, b4.trans a4⟩
  · intro nm hn
    simp only [List.mem_append, not_or] at hn
    rw [h'.same nm hn.2, h.same nm hn.1]
  · intro nm hn
    rcases List.mem_append.1 hn with hn | hn
    · obtain ⟨m, e1, e2, e3, e4⟩ := h.fresh nm hn
      exact ⟨m, by rw [h'.same nm (hd nm hn)]; exact e1, by rw [(h'.old m e4).2.2.1]; exact e2, e3, Nat.lt_of_lt_of_le e4 h'.msl⟩
    · obtain ⟨m, e1, e2, e3, e4⟩ := h'.fresh nm hn
      have hnn : nm ∉ n := fun hx => hd nm hx hn
      exact ⟨m, e1, by rw [e2, h.same nm hnn], Nat.le_trans h.msl e3, e4⟩
end Go.Proofs.YtjjbgbadkbomlaaDoor
namespace Go.Proofs.YtjjbgbadkbomlaaDoor

/-- a part of the walk: all stays well -/
def StepOk (l : List Nd) (s s' : SSt) : Prop := SWf l s' ∧ ∃ new, SExt s s' new ∧ ∀ x, x ∈ new → x ∉ s.dcl
theorem StepOk.refl {l : List Nd} {s : SSt} (h : SWf l s) : StepOk l s s := ⟨h, [], SExt.refl s, fun _ h => by cases h⟩
theorem StepOk.trans {l : List Nd} {s s' s'' : SSt} (h : StepOk l s s') (h' : StepOk l s' s'') : StepOk l s s'' := by
  obtain ⟨_, n, e, d⟩ := h
  obtain ⟨w', n', e', d'⟩ := h'
  refine ⟨w', n ++ n', e.trans e' (fun x hx hx' => d' x hx' (by rw [e.dcl]; exact List.mem_append_right _ hx)), fun x hx => ?_⟩
  rcases List.mem_append.1 hx with hx | hx
  · exact d x hx
  · exact fun hc => d' x hx (by rw [e.dcl]; exact List.mem_append_left _ hc)
theorem StepOk.len {l : List Nd} {s s' : SSt} (h : StepOk l s s') : s'.gat.length = s.gat.length := by
  obtain ⟨_, n, e, _⟩ := h
  exact e.len

/-- states that agree on all that matters here -/
theorem wf_agree {l : List Nd} {s s' : SSt} (h : SWf l s) (e1 : s'.ms = s.ms) (e2 : s'.sc = s.sc) (e3 : s'.blocks = s.blocks) (e4 : s'.dcl = s.dcl) (e5 : s'.gat = s.gat) (e6 : s'.ref.length = s.ref.length) (e7 : s'.free.length = s.free.length) : SWf l s' := by
  have hm : ∀ m, mnS s' m = mnS s m := fun m => by unfold mnS; rw [e1]
  have hg : ∀ k, gatS s' k = gatS s k := fun k => by unfold gatS; rw [e5]
  have hL : ∀ m, Live s' m → Live s m := by
    intro m h
    induction h with
    | top e => exact Live.top (by rw [← e2]; exact e)
    | out _ e ih => exact Live.out ih (by rw [← hm]; exact e)
  refine ⟨?_, ?_, ?_, ?_, ?_, ?_, ?_, ?_, ?_, ?_, ?_, ?_, ?_, ?_, ?_⟩
  · intro m m'; rw [hm]; exact h.outs m m'
  · intro nm m; rw [e2, e1]; exact h.tops nm m
  · intro nm m; rw [e2, hm, e3]; exact h.blk nm m
  · intro nm m; rw [e2, hm, e3, e4]; exact h.dcl nm m
  · intro nm; rw [e4, e2, e3]; intro hn
    obtain ⟨m, q1, q2⟩ := h.has nm hn
    exact ⟨m, q1, by rw [hm]; exact q2⟩
  · rw [e4]; exact h.one
  · intro m; rw [e1, hm]; exact h.decl m
  · intro m hl; rw [hm, e5]; exact h.lvl m (hL m hl)
  · intro m hl k; rw [hm, hg]; exact h.tak m (hL m hl) k
  · intro m hl k; rw [hm, hg]; exact h.kat m (hL m hl) k
  · intro k; rw [e5, hg]; exact h.prog k
  · intro k m; rw [hg, e1]; exact h.gids k m
  · rw [e6]; exact h.refl_
  · rw [e7]; exact h.freel
  · rw [e4]; exact h.nms
theorem ext_agree {s s' : SSt} (e1 : s'.ms = s.ms) (e2 : s'.sc = s.sc) (e3 : s'.blocks = s.blocks) (e4 : s'.dcl = s.dcl) (e5 : s'.gat.map (·.1) = s.gat.map (·.1)) : SExt s s' [] := by
  have hm : ∀ m, mnS s' m = mnS s m := fun m => by unfold mnS; rw [e1]
  exact ⟨e3, by simp [e4], e5, by rw [e1]; exact Nat.le_refl _, fun m _ => by rw [hm]; exact ⟨rfl, rfl, rfl, rfl⟩, fun nm _ => by rw [e2], fun _ h => by cases h⟩
theorem step_agree {l : List Nd} {s s' : SSt} (h : SWf l s) (e1 : s'.ms = s.ms) (e2 : s'.sc = s.sc) (e3 : s'.blocks = s.blocks) (e4 : s'.dcl = s.dcl) (e5 : s'.gat = s.gat) (e6 : s'.ref.length = s.ref.length) (e7 : s'.free.length = s.free.length) : StepOk l s s' :=
  ⟨wf_agree h e1 e2 e3 e4 e5 e6 e7, [], ext_agree e1 e2 e3 e4 (by rw [e5]), fun _ h => by cases h⟩
theorem refuse_ok {l : List Nd} {s : SSt} (h : SWf l s) (i : Nat) (c : Int) : StepOk l s (refuseP l i c s) := by
  unfold refuseP
  split
  · exact step_agree h rfl rfl rfl rfl rfl rfl rfl
  · exact StepOk.refl h

theorem mnS_lt {s : SSt} {m : Nat} (h : m < s.ms.length) : mnS s m = s.ms[m] := by
  unfold mnS; rw [List.getD_eq_getElem?_getD, List.getElem?_eq_getElem h]; rfl
theorem mnS_ge {s : SSt} {m : Nat} (h : s.ms.length ≤ m) : mnS s m = mn0 := by
  unfold mnS; rw [List.getD_eq_getElem?_getD, List.getElem?_eq_none h]; rfl
theorem put_old {nm : ByteArray} {i : Nat} {o : Option Nat} {s : SSt} {m : Nat} (h : m < s.ms.length) : mnS (putP nm i o s) m = mnS s m := by
  unfold mnS putP
  simp only [List.getD_eq_getElem?_getD, List.getElem?_append_left h]
theorem put_new (nm : ByteArray) (i : Nat) (o : Option Nat) (s : SSt) : mnS (putP nm i o s) s.ms.length = ⟨i, s.blocks, s.gat.length, o, s.gat.length⟩ := by
  unfold mnS putP
  simp
theorem put_far {nm : ByteArray} {i : Nat} {o : Option Nat} {s : SSt} {m : Nat} (h : s.ms.length < m) : mnS (putP nm i o s) m = mn0 := by
  apply mnS_ge; unfold putP; simp; omega
theorem put_ok {l : List Nd} {s : SSt} (h : SWf l s) (i : Nat) (hi : i < l.length) (nm : ByteArray) (o : Option Nat) (ho : o = s.sc nm) (hd : nm ∉ s.dcl) (hnm : ∃ j, j < l.length ∧ nm = (ndN l j).name) : StepOk l s (putP nm i o s) := by
  have hsc : ∀ x, (putP nm i o s).sc x = if x = nm then some s.ms.length else s.sc x := fun _ => rfl
  have hms : (putP nm i o s).ms.length = s.ms.length + 1 := by simp [putP]
  have hg : ∀ k, gatS (putP nm i o s) k = gatS s k := fun _ => rfl
  have hL : ∀ m, Live (putP nm i o s) m → m = s.ms.length ∨ (m < s.ms.length ∧ Live s m) := by
    intro m hl
    induction hl with
    | @top x m e =>
      rw [hsc] at e
      split at e
      · exact .inl (by cases e; rfl)
      · exact .inr ⟨h.tops _ _ e, .top e⟩
    | @out m m' _ e ih =>
      rcases ih with rfl | ⟨ih1, ih2⟩
      · rw [put_new] at e
        simp only [ho] at e
        exact .inr ⟨h.tops _ _ e, .top e⟩
      · rw [put_old ih1] at e
        exact .inr ⟨Nat.lt_trans (h.outs _ _ e) ih1, .out ih2 e⟩
  refine ⟨⟨?_, ?_, ?_, ?_, ?_, ?_, ?_, ?_, ?_, ?_, h.prog, ?_, h.refl_, h.freel, ?_⟩, [nm], ⟨rfl, rfl, rfl, by omega, fun m hm => by rw [put_old hm]; exact ⟨rfl, rfl, rfl, rfl⟩, ?_, ?_⟩, ?_⟩
  · intro m m' e
    rcases Nat.lt_trichotomy m s.ms.length with hm | rfl | hm
    · rw [put_old hm] at e; exact h.outs _ _ e
    · rw [put_new] at e; simp only [ho] at e; exact h.tops _ _ e
    · rw [put_far hm] at e; cases e
  · intro x m e
    rw [hsc] at e; rw [hms]
    split at e
    · cases e; omega
    · have := h.tops _ _ e; omega
  · intro x m e
    rw [hsc] at e
    split at e
    · cases e; rw [put_new]; exact Nat.le_refl _
    · rw [put_old (h.tops _ _ e)]; exact h.blk _ _ e
  · intro x m e eb hb0
    rw [hsc] at e
    show x ∈ s.dcl ++ [nm]
    split at e
    · rename_i hx; rw [hx]; simp
    · rw [put_old (h.tops _ _ e)] at eb
      exact List.mem_append_left _ (h.dcl _ _ e eb hb0)
  · intro x hx
    rcases List.mem_append.1 (show x ∈ s.dcl ++ [nm] from hx) with hx | hx
    · obtain ⟨m, e1, e2⟩ := h.has x hx
      refine ⟨m, ?_, by rw [put_old (h.tops _ _ e1)]; exact e2⟩
      rw [hsc, if_neg (fun hh : x = nm => hd (by rw [← hh]; exact hx))]; exact e1
    · simp at hx
      exact ⟨s.ms.length, by rw [hsc, if_pos hx], by rw [put_new]; rfl⟩
  · show (s.dcl ++ [nm]).Nodup
    refine List.nodup_append.2 ⟨h.one, by simp, fun a ha b hb hh => ?_⟩
    have hb : b = nm := by simpa using hb
    exact hd (by rw [← hb, ← hh]; exact ha)
  · intro m hm
    rw [hms] at hm
    by_cases hh : m < s.ms.length
    · rw [put_old hh]; exact h.decl m hh
    · have : m = s.ms.length := by omega
      rw [this, put_new]
      exact .inr (.inr ⟨i, rfl, hi⟩)
  · intro m hl
    rcases hL m hl with rfl | ⟨h1, h2⟩
    · rw [put_new]; exact ⟨Nat.le_refl _, Nat.le_refl _⟩
    · rw [put_old h1]; exact h.lvl m h2
  · intro m hl k
    rcases hL m hl with rfl | ⟨h1, h2⟩
    · rw [put_new]; intro q1 q2; exact absurd q2 (by simpa using q1)
    · rw [put_old h1, hg]; exact h.tak m h2 k
  · intro m hl k
    rcases hL m hl with rfl | ⟨h1, h2⟩
    · intro q; exact absurd (h.gids k _ q) (Nat.lt_irrefl _)
    · rw [put_old h1, hg]; exact h.kat m h2 k
  · intro k m hm
    rw [hms]; have := h.gids k m hm; omega
  · intro x hx
    rcases List.mem_append.1 (show x ∈ s.dcl ++ [nm] from hx) with hx | hx
    · exact h.nms x hx
    · have hx : x = nm := by simpa using hx
      rw [hx]; exact hnm
  · intro x hx
    rw [hsc, if_neg (by simpa using hx)]
  · intro x hx
    simp at hx
    exact ⟨s.ms.length, by rw [hsc, if_pos hx], by rw [put_new, hx]; exact ho, Nat.le_refl _, by omega⟩
  · intro x hx
    simp at hx
    rw [hx]; exact hd
theorem decl_ok {l : List Nd} {s : SSt} (h : SWf l s) (i : Nat) (hi : i < l.length) : StepOk l s (declP l i s) := by
  unfold declP
  split
  · exact StepOk.refl h
  · split
    · rename_i e
      refine put_ok h i hi _ none e.symm (fun hc => ?_) ⟨i, hi, rfl⟩
      obtain ⟨m, q, _⟩ := h.has _ hc
      rw [q] at e; cases e
    · rename_i m e
      split
      · exact refuse_ok h i 50
      · rename_i hb
        refine put_ok h i hi _ (some m) e.symm (fun hc => ?_) ⟨i, hi, rfl⟩
        obtain ⟨m', q, q2⟩ := h.has _ hc
        rw [q] at e; cases e
        exact hb q2

/-! ### what is taken -/
theorem gatS_set {s : SSt} {k j : Nat} {x : Nat × List Nat} {g : List (Nat × List Nat)} (hg : g = s.gat.set k x) (hk : k < s.gat.length) : g.getD j (0, []) = if j = k then x else gatS s j := by
  subst hg
  unfold gatS
  rw [List.getD_eq_getElem?_getD, List.getD_eq_getElem?_getD, List.getElem?_set]
  by_cases hj : j = k
  · rw [if_pos hj.symm, if_pos hj, if_pos (by omega)]; rfl
  · rw [if_neg (fun h => hj h.symm), if_neg hj]
/-- s' is s, but that progs have taken m -/
structure TakeOk (m : Nat) (s s' : SSt) : Prop where
  ms : s'.ms = s.ms
  sc : s'.sc = s.sc
  blocks : s'.blocks = s.blocks
  dcl : s'.dcl = s.dcl
  set : s'.set = s.set
  flt : s'.flt = s.flt
  ref : s'.ref = s.ref
  freel : s'.free.length = s.free.length
  gat : s'.gat.map (·.1) = s.gat.map (·.1)
  more : ∀ k x, x ∈ (gatS s k).2 → x ∈ (gatS s' k).2
  none_ : ∀ k x, x ∈ (gatS s' k).2 → x ∈ (gatS s k).2 ∨ x = m
theorem TakeOk.refl (m : Nat) (s : SSt) : TakeOk m s s := ⟨rfl, rfl, rfl, rfl, rfl, rfl, rfl, rfl, rfl, fun _ _ h => h, fun _ _ h => .inl h⟩
theorem TakeOk.trans {m : Nat} {s s' s'' : SSt} (h : TakeOk m s s') (h' : TakeOk m s' s'') : TakeOk m s s'' :=
  ⟨h'.ms.trans h.ms, h'.sc.trans h.sc, h'.blocks.trans h.blocks, h'.dcl.trans h.dcl, h'.set.trans h.set, h'.flt.trans h.flt, h'.ref.trans h.ref, h'.freel.trans h.freel, h'.gat.trans h.gat,
   fun k x hx => h'.more k x (h.more k x hx), fun k x hx => (h'.none_ k x hx).elim (h.none_ k x) .inr⟩
theorem take_ok (m : Nat) (s : SSt) (k : Nat) (hk : k < s.gat.length) : TakeOk m s (takeP m s k) ∧ m ∈ (gatS (takeP m s k) k).2 := by
  have hG : ∀ j, gatS (takeP m s k) j = if j = k then ((gatS s k).1, (gatS s k).2 ++ [m]) else gatS s j := fun j => gatS_set (s := s) rfl hk
  refine ⟨⟨rfl, rfl, rfl, rfl, rfl, rfl, rfl, by simp [takeP], ?_, ?_, ?_⟩, ?_⟩
  · show (s.gat.set k ((gatS s k).1, (gatS s k).2 ++ [m])).map (·.1) = s.gat.map (·.1)
    apply List.ext_getElem?
    intro j
    rw [List.getElem?_map, List.getElem?_map, List.getElem?_set]
    by_cases hj : k = j
    · subst hj
      rw [if_pos rfl, if_pos hk, List.getElem?_eq_getElem hk]
      unfold gatS
      rw [List.getD_eq_getElem?_getD, List.getElem?_eq_getElem hk]
      rfl
    · rw [if_neg hj]
  · intro j x hx
    rw [hG]
    split
    · rename_i hj; subst hj; exact List.mem_append_left _ hx
    · exact hx
  · intro j x hx
    rw [hG] at hx
    split at hx
    · rename_i hj; subst hj
      rcases List.mem_append.1 hx with hx | hx
      · exact .inl hx
      · exact .inr (by simpa using hx)
    · exact .inl hx
  · rw [hG, if_pos rfl]; simp
theorem TakeOk.len {m : Nat} {s s' : SSt} (h : TakeOk m s s') : s'.gat.length = s.gat.length := by
  have := congrArg List.length h.gat; simpa using this
theorem takes_ok (m : Nat) : ∀ (n a : Nat) (s : SSt), a + n ≤ s.gat.length → TakeOk m s ((List.range' a n).foldl (takeP m) s) ∧ ∀ k, a ≤ k → k < a + n → m ∈ (gatS ((List.range' a n).foldl (takeP m) s) k).2
  | 0, a, s, _ => ⟨TakeOk.refl m s, fun k h1 h2 => by omega⟩
  | n + 1, a, s, h => by
    rw [List.range'_succ, List.foldl_cons]
    obtain ⟨t1, t2⟩ := take_ok m s a (by omega)
    obtain ⟨r1, r2⟩ := takes_ok m n (a + 1) (takeP m s a) (by rw [t1.len]; omega)
    refine ⟨t1.trans r1, fun k h1 h2 => ?_⟩
    by_cases hk : k = a
    · subst hk; exact r1.more _ _ t2
    · exact r2 k (by omega) (by omega)
theorem done_mn (s : SSt) (m d x : Nat) (hm : m < s.ms.length) : mnS (doneP m d s) x = if x = m then { mnS s m with done := d } else mnS s x := by
  unfold doneP
  show (s.ms.set m { mnS s m with done := d }).getD x mn0 = _
  rw [List.getD_eq_getElem?_getD, List.getElem?_set]
  by_cases hx : x = m
  · rw [if_pos hx.symm, if_pos (by omega), if_pos hx]; rfl
  · rw [if_neg (fun h => hx h.symm), if_neg hx]
    unfold mnS; rw [List.getD_eq_getElem?_getD]
theorem done_live {s : SSt} {m d : Nat} (hm : m < s.ms.length) {x : Nat} (h : Live (doneP m d s) x) : Live s x := by
  induction h with
  | top e => exact Live.top e
  | @out a b _ e ih =>
    refine Live.out ih ?_
    rw [done_mn _ _ _ _ hm] at e
    split at e
    · rename_i hx; rw [hx]; exact e
    · exact e
theorem name_ok {l : List Nd} {s : SSt} (h : SWf l s) (i : Nat) : StepOk l s (nameP l i s) := by
  unfold nameP
  split
  · exact refuse_ok h i 51
  rename_i m e
  split
  · exact refuse_ok h i 53
  split
  · exact refuse_ok h i 52
  have hlv := h.lvl m (.top e)
  have hm := h.tops _ _ e
  obtain ⟨t, ht⟩ := takes_ok m (s.gat.length - (mnS s m).done) (mnS s m).done { s with ref := s.ref.set i (mnS s m).decl } (by show _ ≤ s.gat.length; omega)
  generalize hF : (List.range' (mnS s m).done (s.gat.length - (mnS s m).done)).foldl (takeP m) { s with ref := s.ref.set i (mnS s m).decl } = F at t ht ⊢
  have hms : F.ms = s.ms := t.ms
  have hmF : m < F.ms.length := by rw [hms]; exact hm
  have hmn : ∀ x, mnS F x = mnS s x := fun x => by unfold mnS; rw [hms]
  have hD : ∀ x, mnS (doneP m s.gat.length F) x = if x = m then { mnS s m with done := s.gat.length } else mnS s x := fun x => by
    rw [done_mn _ _ _ _ hmF, hmn, hmn]
  have hL : ∀ x, Live (doneP m s.gat.length F) x → Live s x := by
    intro x hx0
    have hx := done_live hmF hx0
    clear ht hlv hD hx0
    induction hx with
    | top e => exact Live.top (by rw [← e, t.sc])
    | out _ e ih => exact Live.out ih (by rw [← hmn]; exact e)
  have hgl : F.gat.length = s.gat.length := t.len
  have hfst : ∀ k, (gatS F k).1 = (gatS s k).1 := by
    intro k
    have := congrArg (fun x => x.getD k 0) t.gat
    simp only [List.getD_eq_getElem?_getD, List.getElem?_map] at this
    unfold gatS
    rw [List.getD_eq_getElem?_getD, List.getD_eq_getElem?_getD]
    show ((F.gat[k]?).getD (0, [])).1 = ((s.gat[k]?).getD (0, [])).1
    revert this
    cases F.gat[k]? <;> cases s.gat[k]? <;> simp
  have hms2 : (doneP m s.gat.length F).ms.length = s.ms.length := by unfold doneP; simp [hms]
  refine ⟨⟨?_, ?_, ?_, ?_, ?_, ?_, ?_, ?_, ?_, ?_, ?_, ?_, ?_, ?_, ?_⟩, [], ⟨t.blocks, by show F.dcl = _; rw [t.dcl]; simp, t.gat, by rw [hms2]; exact Nat.le_refl _, ?_, fun nm _ => by show F.sc nm = _; rw [t.sc], fun _ h => by cases h⟩, fun _ h => by cases h⟩
  · intro x y ex
    rw [hD] at ex
    split at ex
    · rename_i hx; rw [hx]; exact h.outs _ _ ex
    · exact h.outs _ _ ex
  · intro nm x ex
    rw [hms2]; exact h.tops nm x (by rw [← ex]; show _ = F.sc nm; rw [t.sc])
  · intro nm x ex
    replace ex : s.sc nm = some x := by rw [← ex]; show _ = F.sc nm; rw [t.sc]
    rw [hD, show (doneP m s.gat.length F).blocks = s.blocks from t.blocks]
    split
    · rename_i hx; subst hx; exact h.blk nm x ex
    · exact h.blk nm x ex
  · intro nm x ex
    replace ex : s.sc nm = some x := by rw [← ex]; show _ = F.sc nm; rw [t.sc]
    rw [hD, show (doneP m s.gat.length F).blocks = s.blocks from t.blocks, show (doneP m s.gat.length F).dcl = s.dcl from t.dcl]
    split
    · rename_i hx; subst hx; exact h.dcl nm x ex
    · exact h.dcl nm x ex
  · intro nm hn
    rw [show (doneP m s.gat.length F).dcl = s.dcl from t.dcl] at hn
    obtain ⟨x, e1, e2⟩ := h.has nm hn
    refine ⟨x, by show F.sc nm = _; rw [t.sc]; exact e1, ?_⟩
    rw [hD, show (doneP m s.gat.length F).blocks = s.blocks from t.blocks]
    split
    · rename_i hx; subst hx; exact e2
    · exact e2
  · rw [show (doneP m s.gat.length F).dcl = s.dcl from t.dcl]; exact h.one
  · intro x hx
    rw [hms2] at hx
    rw [hD]
    split
    · rename_i he; subst he; exact h.decl x hx
    · exact h.decl x hx
  · intro x hx
    have := h.lvl x (hL x hx)
    rw [hD, show (doneP m s.gat.length F).gat.length = s.gat.length from hgl]
    split
    · rename_i he; subst he; exact ⟨by show (mnS s x).lvl ≤ s.gat.length; omega, Nat.le_refl _⟩
    · exact this
  · intro x hx k
    have hlx := hL x hx
    rw [hD]
    show _ → _ → x ∈ (gatS F k).2
    split
    · rename_i he; subst he
      intro q1 q2
      by_cases hk : k < (mnS s x).done
      · exact t.more _ _ (h.tak x hlx k q1 hk)
      · exact ht k (by omega) (by have : k < s.gat.length := q2; omega)
    · intro q1 q2
      exact t.more _ _ (h.tak x hlx k q1 q2)
  · intro x hx k hk
    have hlx := hL x hx
    have hkl : k < F.gat.length := by
      apply Classical.byContradiction
      intro hc
      replace hk : x ∈ (F.gat.getD k (0, [])).2 := hk
      rw [List.getD_eq_getElem?_getD, List.getElem?_eq_none (by omega)] at hk
      cases hk
    rw [hD]
    split
    · exact hgl ▸ hkl
    · rename_i he
      rcases t.none_ k x hk with hk | hk
      · exact h.kat x hlx k hk
      · exact absurd hk he
  · intro k hk
    show (gatS F k).1 < _
    rw [hfst]; exact h.prog k (by rw [← hgl]; exact hk)
  · intro k x hx
    rw [hms2]
    rcases t.none_ k x hx with hx | rfl
    · exact h.gids k x hx
    · exact hm
  · show F.ref.length = _
    rw [t.ref]; simp [h.refl_]
  · show F.free.length = _
    rw [t.freel]; exact h.freel
  · rw [show (doneP m s.gat.length F).dcl = s.dcl from t.dcl]; exact h.nms
  · intro x hx
    rw [hD]
    split
    · rename_i he; subst he; exact ⟨rfl, rfl, rfl, rfl⟩
    · exact ⟨rfl, rfl, rfl, rfl⟩
end Go.Proofs.YtjjbgbadkbomlaaDoor
namespace Go.Proofs.YtjjbgbadkbomlaaDoor

theorem outs_ok : ∀ (ns : List ByteArray) (s : SSt), ns.Nodup → ∃ s', ns.foldl outP s = s' ∧ s' = { s with sc := s'.sc } ∧ ∀ x, (x ∈ ns → s'.sc x = outerP s x) ∧ (x ∉ ns → s'.sc x = s.sc x)
  | [], s, _ => ⟨s, rfl, rfl, fun x => ⟨fun h => (by cases h), fun _ => rfl⟩⟩
  | n :: r, s, h => by
    rw [List.nodup_cons] at h
    obtain ⟨s', e1, e2, e3⟩ := outs_ok r (outP s n) h.2
    refine ⟨s', e1, by rw [e2]; rfl, fun x => ?_⟩
    by_cases hx : x = n
    · subst hx
      refine ⟨fun _ => ?_, fun hc => absurd List.mem_cons_self hc⟩
      rw [(e3 x).2 h.1]
      simp [outP]
    · have q : (outP s n).sc x = s.sc x := by simp [outP, hx]
      refine ⟨fun hc => ?_, fun hc => ?_⟩
      · rw [(e3 x).1 (by simpa [hx] using hc)]; unfold outerP; rw [q]; rfl
      · rw [(e3 x).2 (fun h => hc (List.mem_cons_of_mem _ h)), q]
theorem block_wf {l : List Nd} {s : SSt} (h : SWf l s) : SWf l { s with dcl := [], blocks := s.blocks + 1 } := by
  have hL : ∀ m, Live { s with dcl := [], blocks := s.blocks + 1 } m → Live s m := by
    intro m h
    induction h with
    | top e => exact Live.top e
    | out _ e ih => exact Live.out ih e
  refine ⟨h.outs, h.tops, fun nm m e => Nat.le_succ_of_le (h.blk nm m e), ?_, fun nm hn => (by cases hn), List.nodup_nil, h.decl, fun m hl => h.lvl m (hL m hl), fun m hl => h.tak m (hL m hl), fun m hl => h.kat m (hL m hl), h.prog, h.gids, h.refl_, h.freel, fun nm hn => (by cases hn)⟩
  intro nm m e eb _
  have := h.blk nm m e
  replace eb : (mnS s m).block = s.blocks + 1 := eb
  omega
theorem block_ok {l : List Nd} {s : SSt} (h : SWf l s) (inside : SSt → SSt) (hi : StepOk l { s with dcl := [], blocks := s.blocks + 1 } (inside { s with dcl := [], blocks := s.blocks + 1 })) :
    SWf l (blockP inside s) ∧ SExt s (blockP inside s) [] ∧ (blockP inside s).sc = s.sc := by
  obtain ⟨hw, new, ex, _⟩ := hi
  unfold blockP
  generalize inside { s with dcl := [], blocks := s.blocks + 1 } = s1 at hw ex ⊢
  have hd : s1.dcl = new := by rw [ex.dcl]; rfl
  obtain ⟨s2, e1, e2, e3⟩ := outs_ok s1.dcl s1 hw.one
  have hsc : s2.sc = s.sc := by
    funext x
    by_cases hx : x ∈ new
    · rw [(e3 x).1 (hd ▸ hx)]
      obtain ⟨m, q1, q2, q3, _⟩ := ex.fresh x hx
      unfold outerP; rw [q1]; exact q2
    · rw [(e3 x).2 (hd ▸ hx)]
      exact ex.same x hx
  have hbl : s1.blocks = s.blocks + 1 := ex.blocks
  simp only [e1]
  rw [e2, hsc, hbl]
  simp only [Nat.add_sub_cancel]
  have hL : ∀ m, Live { s1 with sc := s.sc, blocks := s.blocks, dcl := s.dcl } m → Live s1 m := by
    intro m hl
    induction hl with
    | @top nm m e =>
      by_cases hn : nm ∈ new
      · obtain ⟨m', q1, q2, _, _⟩ := ex.fresh nm hn
        exact Live.out (Live.top q1) (q2.trans e)
      · exact Live.top ((ex.same nm hn).trans e)
    | out _ e ih => exact Live.out ih e
  have hold : ∀ nm m, s.sc nm = some m → (mnS s1 m).block = (mnS s m).block := fun nm m e => (ex.old m (h.tops nm m e)).2.1
  refine ⟨⟨hw.outs, fun nm m e => Nat.lt_of_lt_of_le (h.tops nm m e) ex.msl, ?_, ?_, ?_, h.one, hw.decl, fun m hl => hw.lvl m (hL m hl), fun m hl => hw.tak m (hL m hl), fun m hl => hw.kat m (hL m hl), hw.prog, hw.gids, hw.refl_, hw.freel, h.nms⟩, ⟨rfl, by simp, ex.gat, ex.msl, ex.old, fun _ _ => rfl, fun _ hc => (by cases hc)⟩, trivial⟩
  · intro nm m e
    show (mnS s1 m).block ≤ s.blocks
    rw [hold nm m e]; exact h.blk nm m e
  · intro nm m e
    show (mnS s1 m).block = s.blocks → _
    rw [hold nm m e]; exact h.dcl nm m e
  · intro nm hn
    obtain ⟨m, q1, q2⟩ := h.has nm hn
    refine ⟨m, q1, ?_⟩
    show (mnS s1 m).block = s.blocks
    rw [hold nm m q1]; exact q2

theorem gatS_push {s : SSt} {i k : Nat} : gatS { s with gat := s.gat ++ [(i, [])] } k = if k = s.gat.length then (i, []) else gatS s k := by
  unfold gatS
  simp only [List.getD_eq_getElem?_getD]
  rcases Nat.lt_trichotomy k s.gat.length with hk | rfl | hk
  · rw [List.getElem?_append_left hk, if_neg (by omega)]
  · rw [if_pos rfl]; simp
  · rw [if_neg (by omega), List.getElem?_eq_none (by simp; omega), List.getElem?_eq_none (by omega)]
theorem cap_wf {l : List Nd} {s : SSt} (h : SWf l s) (i : Nat) (hi : i < l.length) : SWf l { s with gat := s.gat ++ [(i, [])] } := by
  have hL : ∀ m, Live { s with gat := s.gat ++ [(i, [])] } m → Live s m := by
    intro m h
    induction h with
    | top e => exact Live.top e
    | out _ e ih => exact Live.out ih e
  refine ⟨h.outs, h.tops, h.blk, h.dcl, h.has, h.one, h.decl, ?_, ?_, ?_, ?_, ?_, h.refl_, h.freel, h.nms⟩
  · intro m hl
    have := h.lvl m (hL m hl)
    show (mnS s m).lvl ≤ (mnS s m).done ∧ (mnS s m).done ≤ (s.gat ++ [(i, [])]).length
    simp; omega
  · intro m hl k q1 q2
    have := (h.lvl m (hL m hl)).2
    replace q2 : k < (mnS s m).done := q2
    rw [gatS_push, if_neg (by omega)]
    exact h.tak m (hL m hl) k q1 q2
  · intro m hl k
    rw [gatS_push]
    split
    · intro hc; cases hc
    · exact h.kat m (hL m hl) k
  · intro k hk
    rw [gatS_push]
    split
    · exact hi
    · refine h.prog k ?_
      replace hk : k < (s.gat ++ [(i, [])]).length := hk
      simp at hk; omega
  · intro k m
    rw [gatS_push]
    split
    · intro hc; cases hc
    · exact h.gids k m
theorem dones_ok (d : Nat) : ∀ (T : List Nat) (s : SSt), (∀ m, m ∈ T → m < s.ms.length) → ∃ s', T.foldl (fun s m => doneP m d s) s = s' ∧ s' = { s with ms := s'.ms } ∧ s'.ms.length = s.ms.length ∧ ∀ x, mnS s' x = if x ∈ T then { mnS s x with done := d } else mnS s x
  | [], s, _ => ⟨s, rfl, rfl, rfl, fun x => by simp⟩
  | m :: r, s, h => by
    have hm := h m (by simp)
    have hl : (doneP m d s).ms.length = s.ms.length := by simp [doneP]
    obtain ⟨s', e1, e2, e3, e4⟩ := dones_ok d r (doneP m d s) (fun x hx => by rw [hl]; exact h x (by simp [hx]))
    refine ⟨s', e1, by rw [e2]; rfl, e3.trans hl, fun x => ?_⟩
    rw [e4, done_mn _ _ _ _ hm]
    by_cases hx : x = m
    · subst hx; simp
    · simp [hx]
theorem cap_ok {l : List Nd} {s : SSt} (h : SWf l s) (i : Nat) (inside : SSt → SSt) (hw : SWf l (inside { s with gat := s.gat ++ [(i, [])] }))
    (ex : SExt { s with gat := s.gat ++ [(i, [])] } (inside { s with gat := s.gat ++ [(i, [])] }) []) : SWf l (capP i inside s) ∧ SExt s (capP i inside s) [] := by
  unfold capP
  generalize inside { s with gat := s.gat ++ [(i, [])] } = s1 at hw ex ⊢
  have hg1 : s1.gat.length = s.gat.length + 1 := by rw [ex.len]; simp
  have hn : ({ s1 with gat := s1.gat.take s.gat.length } : SSt).gat.length = s.gat.length := by simp; omega
  obtain ⟨s3, e1, e2, e3, e4⟩ := dones_ok s.gat.length (gatS s1 s.gat.length).2 { s1 with gat := s1.gat.take s.gat.length } (fun m hm => hw.gids _ m hm)
  simp only [hn]
  rw [e1]
  have e4 : ∀ x, mnS s3 x = if x ∈ (gatS s1 s.gat.length).2 then { mnS s1 x with done := s.gat.length } else mnS s1 x := e4
  have e3 : s3.ms.length = s1.ms.length := e3
  have hsc : s3.sc = s.sc := by
    rw [e2]; funext x; exact ex.same x (by simp)
  have hbl : s3.blocks = s.blocks := by rw [e2]; exact ex.blocks
  have hdc : s3.dcl = s.dcl := by rw [e2]; exact ex.dcl.trans (by simp)
  have hgt : s3.gat = s1.gat.take s.gat.length := by rw [e2]
  have hgl : s3.gat.length = s.gat.length := by rw [hgt]; exact hn
  have hG : ∀ k, gatS s3 k = if k < s.gat.length then gatS s1 k else (0, []) := by
    intro k
    unfold gatS
    rw [hgt, List.getD_eq_getElem?_getD, List.getD_eq_getElem?_getD, List.getElem?_take]
    split <;> rfl
  have hmo : ∀ x, (mnS s3 x).outer = (mnS s1 x).outer ∧ (mnS s3 x).decl = (mnS s1 x).decl ∧ (mnS s3 x).block = (mnS s1 x).block ∧ (mnS s3 x).lvl = (mnS s1 x).lvl := by
    intro x; rw [e4]; split <;> exact ⟨rfl, rfl, rfl, rfl⟩
  have hold : ∀ m, m < s.ms.length → (mnS s1 m).decl = (mnS s m).decl ∧ (mnS s1 m).block = (mnS s m).block ∧ (mnS s1 m).outer = (mnS s m).outer ∧ (mnS s1 m).lvl = (mnS s m).lvl := ex.old
  have hLs : ∀ m, Live s3 m → Live s m := by
    intro m hl
    induction hl with
    | @top nm m e => exact Live.top (by rw [← hsc]; exact e)
    | @out m m' _ e ih =>
      refine Live.out ih ?_
      rw [(hmo m).1, (hold m (ih.lt h)).2.2.1] at e
      exact e
  have hL1 : ∀ m, Live s3 m → Live s1 m := by
    intro m hl
    induction hl with
    | @top nm m e => exact Live.top (by rw [ex.same nm (by simp)]; show s.sc nm = _; rw [← hsc]; exact e)
    | @out m m' _ e ih => exact Live.out ih (by rw [← (hmo m).1]; exact e)
  have hmsl : s.ms.length ≤ s1.ms.length := ex.msl
  refine ⟨⟨?_, ?_, ?_, ?_, ?_, ?_, ?_, ?_, ?_, ?_, ?_, ?_, ?_, ?_, ?_⟩, ⟨hbl, by simp [hdc], ?_, by rw [e3]; exact hmsl, ?_, fun nm _ => by rw [hsc], fun _ hc => by cases hc⟩⟩
  · intro m m'; rw [(hmo m).1]; exact hw.outs m m'
  · intro nm m; rw [hsc, e3]; intro e; exact Nat.lt_of_lt_of_le (h.tops nm m e) hmsl
  · intro nm m; rw [hsc, hbl, (hmo m).2.2.1]; intro e; rw [(hold m (h.tops nm m e)).2.1]; exact h.blk nm m e
  · intro nm m; rw [hsc, hbl, (hmo m).2.2.1, hdc]; intro e; rw [(hold m (h.tops nm m e)).2.1]; exact h.dcl nm m e
  · intro nm hn; rw [hdc] at hn
    obtain ⟨m, q1, q2⟩ := h.has nm hn
    exact ⟨m, by rw [hsc]; exact q1, by rw [hbl, (hmo m).2.2.1, (hold m (h.tops nm m q1)).2.1]; exact q2⟩
  · rw [hdc]; exact h.one
  · intro m hm; rw [(hmo m).2.1]; exact hw.decl m (by rw [← e3]; exact hm)
  · intro m hl
    have a := h.lvl m (hLs m hl)
    have b := hw.lvl m (hL1 m hl)
    have c := (hold m ((hLs m hl).lt h)).2.2.2
    rw [hgl, (hmo m).2.2.2, e4]
    split
    · exact ⟨by show _ ≤ s.gat.length; omega, Nat.le_refl _⟩
    · rename_i hT
      refine ⟨b.1, ?_⟩
      apply Classical.byContradiction
      intro hc
      exact hT (hw.tak m (hL1 m hl) s.gat.length (by omega) (by omega))
  · intro m hl k q1 q2
    have a := hw.lvl m (hL1 m hl)
    rw [(hmo m).2.2.2] at q1
    rw [e4] at q2
    have hk : k < s.gat.length ∧ k < (mnS s1 m).done := by
      split at q2
      · rename_i hT
        have := hw.kat m (hL1 m hl) _ hT
        replace q2 : k < s.gat.length := q2
        exact ⟨q2, by omega⟩
      · rename_i hT
        refine ⟨?_, q2⟩
        apply Classical.byContradiction
        intro hc
        have c := (hold m ((hLs m hl).lt h)).2.2.2
        have d := h.lvl m (hLs m hl)
        exact hT (hw.tak m (hL1 m hl) s.gat.length (by omega) (by omega))
    rw [hG, if_pos hk.1]
    exact hw.tak m (hL1 m hl) k q1 hk.2
  · intro m hl k
    rw [hG]
    split
    · rename_i hk
      intro q
      have := hw.kat m (hL1 m hl) k q
      rw [e4]
      split
      · exact hk
      · exact this
    · intro hc; cases hc
  · intro k hk
    rw [hgl] at hk
    rw [hG, if_pos hk]
    exact hw.prog k (by omega)
  · intro k m
    rw [hG, e3]
    split
    · exact hw.gids k m
    · intro hc; cases hc
  · rw [e2]; exact hw.refl_
  · rw [e2]; exact hw.freel
  · rw [hdc]; exact h.nms
  · rw [hgt, List.map_take, ex.gat]
    simp
  · intro m hm
    obtain ⟨a, b, c, d⟩ := hmo m
    obtain ⟨a', b', c', d'⟩ := hold m hm
    exact ⟨b.trans a', c.trans b', a.trans c', d.trans d'⟩
def KidsLt (l : List Nd) : Prop := ∀ i, i < l.length → ∀ k, k ∈ (ndN l i).kids → k.toNat < l.length
theorem all_ok {l : List Nd} (v : Nat → SSt → SSt) (hv : ∀ i s, i < l.length → SWf l s → StepOk l s (v i s)) : ∀ (ks : List Int) (s : SSt), (∀ k, k ∈ ks → k.toNat < l.length) → SWf l s → StepOk l s (allP v ks s)
  | [], s, _, h => StepOk.refl h
  | k :: r, s, hk, h => by
    have a := hv k.toNat s (hk k (by simp)) h
    exact a.trans (all_ok v hv r _ (fun x hx => hk x (by simp [hx])) a.1)
theorem getD_kid {l : List Nd} (hl : KidsLt l) {i : Nat} (hi : i < l.length) (j : Nat) : ((ndN l i).kids.getD j 0).toNat < l.length := by
  rw [List.getD_eq_getElem?_getD]
  cases e : (ndN l i).kids[j]? with
  | none => show (0 : Int).toNat < _; simp; omega
  | some k => exact hl i hi k (List.mem_of_getElem? e)
theorem last_kid {l : List Nd} (hl : KidsLt l) {i : Nat} (hi : i < l.length) : ((ndN l i).kids.getLastD 0).toNat < l.length := by
  rw [List.getLastD_eq_getLast?]
  cases e : (ndN l i).kids.getLast? with
  | none => show (0 : Int).toNat < _; simp; omega
  | some k => exact hl i hi k (List.mem_of_getLast? e)
theorem vis_ok {l : List Nd} (hl : KidsLt l) : ∀ (f i : Nat) (s : SSt), i < l.length → SWf l s → StepOk l s (visF l f i s)
  | 0, _, s, _, h => StepOk.refl h
  | f + 1, i, s, hi, h => by
    have ih := fun i s => vis_ok hl f i s
    have ha : ∀ j s, j < l.length → SWf l s → StepOk l s (allP (visF l f) (ndN l j).kids s) := fun j s hj h => all_ok _ ih _ s (hl j hj) h
    have hb : ∀ (ins : SSt → SSt) s, SWf l s → (∀ s, SWf l s → StepOk l s (ins s)) → StepOk l s (blockP ins s) := by
      intro ins s h hins
      obtain ⟨a, b, _⟩ := block_ok h ins (hins _ (block_wf h))
      exact ⟨a, [], b, fun _ hc => by cases hc⟩
    unfold visF
    split
    · exact name_ok h i
    split
    · have hin : ∀ s, SWf l s → StepOk l s (allP (visF l f) (ndAt l ((ndN l i).kids.getLastD 0)).kids (allP (visF l f) (ndN l i).kids.dropLast s)) := by
        intro s h
        have a := all_ok _ ih (ndN l i).kids.dropLast s (fun k hk => hl i hi k (List.dropLast_subset _ hk)) h
        exact a.trans (ha _ _ (last_kid hl hi) a.1)
      have hmid : ∀ s, SWf l s → StepOk l s (blockP (fun s => allP (visF l f) (ndAt l ((ndN l i).kids.getLastD 0)).kids (allP (visF l f) (ndN l i).kids.dropLast s)) (declP l i s)) := by
        intro s h
        have a := decl_ok h i hi
        exact a.trans (hb _ _ a.1 hin)
      have hc := cap_wf h i hi
      obtain ⟨a, b, _⟩ := block_ok hc (fun s => blockP (fun s => allP (visF l f) (ndAt l ((ndN l i).kids.getLastD 0)).kids (allP (visF l f) (ndN l i).kids.dropLast s)) (declP l i s)) (hmid _ (block_wf hc))
      obtain ⟨c, d⟩ := cap_ok h i _ a b
      exact ⟨c, [], d, fun _ hc => by cases hc⟩
    split
    · have a := ih ((ndN l i).kids.getD 0 0).toNat s (getD_kid hl hi 0) h
      refine a.trans (hb _ _ a.1 ?_)
      intro s h
      have b := decl_ok h i hi
      exact b.trans (ha _ _ (getD_kid hl hi 1) b.1)
    split
    · exact hb _ _ h (fun s h => ha i s hi h)
    split
    · have a := ha i s hi h
      exact a.trans (decl_ok a.1 i hi)
    split
    · have a : StepOk l s { s with set := placeP l (l.length + 1) ((ndN l i).kids.getD 0 0).toNat } := step_agree h rfl rfl rfl rfl rfl rfl rfl
      exact a.trans (ha i _ hi a.1)
    · exact ha i s hi h
end Go.Proofs.YtjjbgbadkbomlaaDoor
