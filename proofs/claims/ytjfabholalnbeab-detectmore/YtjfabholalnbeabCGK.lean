import Derived.Test.YtjfabholalnbeabCGF
import Derived.DeepKeys4
import Derived.WideKeyEntry
namespace Go.Proofs.Ytjfabholalnbeab
open Go.RowKit Go.MapKept Go.ChangeMaps Go.WideShapes
set_option linter.unusedVariables false
set_option linter.unusedSimpArgs false

/-! ### maps by stances -/
theorem out_laid : laidOutB Try.prog = true := by kernel_rfl
theorem lawS : WideMaps.KeyLaw Try.prog 73 := deep_law_laid out_laid (m := 4) (by omega) (by decide +kernel) (by kernel_rfl) (by kernel_rfl)
theorem keyedS : Maps.Keyed Try.prog 73 := Maps.Keyed.of_law lawS
theorem keyS (s : Stc) : ∃ kl, keyOf Try.prog 73 (stV s) = some kl := by
  have h : (keyOf Try.prog 73 (stV s)).isSome = true := by
    obtain ⟨a, b, c⟩ := s
    cases a <;> cases b <;> cases c <;> kernel_rfl
  exact Option.isSome_iff_exists.1 h
theorem stV_inj {s t : Stc} (h : stV s = stV t) : s = t := by
  obtain ⟨a, b, c⟩ := s
  obtain ⟨d, e, f⟩ := t
  simp [stV] at h
  obtain ⟨rfl, rfl, rfl⟩ := h
  rfl
theorem keyS_ne {s t : Stc} {k l : Lit} (hk : keyOf Try.prog 73 (stV s) = some k) (hl : keyOf Try.prog 73 (stV t) = some l) (h : s ≠ t) : k ≠ l := fun e => h (stV_inj (keyedS.inj hk (e ▸ hl)))
def nV : Value := .slice none 0 0
structure MpS (W : World) (mb n : Nat) (M : Stc → Value) (hs : Stc → Bool) : Prop where
  ex : ∃ D, W.ownsMap Try.prog 73 Rw mb n D ∧ (∀ c kl, keyOf Try.prog 73 (stV c) = some kl → D.atKey kl (.held nV) = .held (M c) ∧ Maps.has D kl = hs c) ∧ ∀ kl, Maps.has D kl = true → ∃ c, keyOf Try.prog 73 (stV c) = some kl
theorem ms_new (W : World) : MpS (W.alloc (.map #[] 0)) W.heap.size 0 (fun _ => nV) (fun _ => false) :=
  ⟨_, World.ownsMap_made W Try.prog 73 Rw, fun c kl _ => ⟨rfl, rfl⟩, fun kl h => by simp [Maps.has] at h⟩
theorem MpS.same {W W' : World} {mb n : Nat} {M : Stc → Value} {hs : Stc → Bool} (h : MpS W mb n M hs) (hg : W'.heap[mb]? = W.heap[mb]?) : MpS W' mb n M hs := by
  obtain ⟨D, ⟨es, clock, h0, h3⟩, h2, h4⟩ := h.ex
  exact ⟨D, ⟨es, clock, hg.trans h0, h3⟩, h2, h4⟩
theorem MpS.lt {W : World} {mb n : Nat} {M : Stc → Value} {hs : Stc → Bool} (h : MpS W mb n M hs) : mb < W.heap.size := by
  obtain ⟨D, h1, _⟩ := h.ex
  exact h1.lt
theorem MpS.mono {W : World} {mb n m : Nat} {M : Stc → Value} {hs : Stc → Bool} (h : MpS W mb n M hs) (hn : n ≤ m) : MpS W mb m M hs := by
  obtain ⟨D, h1, h2⟩ := h.ex
  exact ⟨D, h1.mono hn, h2⟩
theorem MpI.mono {W : World} {mb n m : Nat} {z : Value} {M : Int → Value} {hs : Int → Bool} (h : MpI W mb n z M hs) (hn : n ≤ m) : MpI W mb m z M hs := by
  obtain ⟨D, h1, h2⟩ := h.ex
  exact ⟨D, h1.mono hn, h2⟩
def updS {α : Type} (f : Stc → α) (c : Stc) (x : α) : Stc → α := fun d => if d.awake = c.awake ∧ d.sends = c.sends ∧ d.recvs = c.recvs then x else f d
theorem updS_same {α : Type} (f : Stc → α) (c : Stc) (x : α) : updS f c x c = x := if_pos ⟨rfl, rfl, rfl⟩
theorem updS_other {α : Type} (f : Stc → α) {c d : Stc} (x : α) (h : d ≠ c) : updS f c x d = f d := if_neg (fun e => h (by
  obtain ⟨a, b, c⟩ := c
  obtain ⟨d1, d2, d3⟩ := d
  simp only at e
  obtain ⟨rfl, rfl, rfl⟩ := e
  rfl))
theorem MpS.put {W : World} {mb n : Nat} {M : Stc → Value} {hs : Stc → Bool} (h : MpS W mb n M hs) (c : Stc) (hn : n < maxLen) (v : Value) :
    ∃ w', (Instr.mapUpdate 76 (.map (some mb)) (stV c) v).run Try.prog W = .ok () w' ∧ MpS w' mb (n + 1) (updS M c v) (updS hs c true) ∧ W.grownBy w' (some mb) := by
  obtain ⟨D, h1, h2, h3⟩ := h.ex
  obtain ⟨kc, hkc⟩ := keyS c
  obtain ⟨w', hr, h4, h5⟩ := h1.update keyedS Try.underlying76 hn (val := v) (d := .held v) (ps := []) hkc rfl
  refine ⟨w', hr, ⟨_, h4, fun d kl hkl => ?_, fun kl hkl => ?_⟩, h5⟩
  · by_cases e : d = c
    · subst e
      rw [hkc] at hkl
      cases hkl
      rw [updS_same, updS_same, Maps.atKey_put_same h1.isMap (keyedS.key hkc), Maps.has_put_same h1.isMap (keyedS.key hkc)]
      exact ⟨rfl, rfl⟩
    · rw [updS_other _ _ e, updS_other _ _ e, Maps.atKey_put_other (keyS_ne hkl hkc e), Maps.has_put_other (keyS_ne hkl hkc e)]
      exact h2 d kl hkl
  · by_cases e : kl = kc
    · exact ⟨c, by rw [e]; exact hkc⟩
    · rw [Maps.has_put_other e] at hkl
      exact h3 kl hkl
/-- m[k] = append(m[k], ..): the entry, and its store -/
theorem MpS.entry {W : World} {mb n : Nat} {M : Stc → Value} {hs : Stc → Bool} (h : MpS W mb n M hs) (c : Stc) (hn : n < maxLen) :
    ∃ (st : Nat) (W1 : World), (Instr.mapEntry 76 (.map (some mb)) (stV c)).run Try.prog W = .ok (.tuple #[M c, goInt st]) W1 ∧ W.grownBy W1 (some mb) ∧ W1.heap.size = W.heap.size ∧
      ∀ (w2 : World) (val : Value), w2.heap[mb]? = W1.heap[mb]? → ∃ w3, (Instr.entryStore 76 (.map (some mb)) (goInt st) val).run Try.prog w2 = .ok () w3 ∧ MpS w3 mb (n + 1) (updS M c val) (updS hs c true) ∧ w2.grownBy w3 (some mb) ∧ w3.heap.size = w2.heap.size := by
  have hput := fun v => h.put c hn v
  obtain ⟨kc, hkc⟩ := keyS c
  obtain ⟨D, ⟨es, clock, hb, F, hsz, hD⟩, h2, _⟩ := h.ex
  obtain ⟨v0, st, es1, clock1, hr, hv, hst⟩ := WideElems.entry_then_store lawS Try.underlying76 (z := nV) Try.zeroValue25 hb F hkc
  have hl := (Array.getElem?_eq_some_iff.1 hb).1
  have hv0 : v0 = M c := by
    have hat := (h2 c kc hkc).1
    rw [hD] at hat
    rcases Maps.fit_look false keyedS Try.underlying76 (Try.zeroValue25 W) hb F hkc with ⟨_, hno, ha⟩ | ⟨e0, y, he0, hk0, _, hRv, ha, _⟩
    · rw [ha] at hat
      rcases hv with ⟨e1, he1, hk1, _⟩ | ⟨_, rfl⟩
      · exact absurd hk1 (hno e1 he1)
      · exact DataW.held.inj hat
    · rw [ha] at hat
      have hy : y.1 = .held e0.val := by
        have : some ((DataW.held e0.val : DataW Value), ([] : List MemPlace)) = some y := hRv
        rw [← Option.some.inj this]
      rw [hy] at hat
      rcases hv with ⟨e1, he1, hk1, rfl⟩ | ⟨hno, _⟩
      · have := entry_eq_of_key ((MapKept.stamped_iff es clock).1 F.stamped).2.2 he1 he0 (hk1.trans hk0.symm)
        rw [this]
        exact DataW.held.inj hat
      · exact absurd hk0 (hno e0 he0)
  subst hv0
  refine ⟨st, _, hr, ?_, by simp [setBlock], fun w2 val hw2 => ?_⟩
  · exact ⟨rfl, rfl, rfl, by simp [setBlock], fun i _ hi => heap_setBlock_other hb _ (fun e => hi (by rw [e]))⟩
  · have e1 : (setBlock W mb (.map es1 clock1)).heap[mb]? = some (.map es1 clock1) := heap_setBlock_same hb _
    rw [e1] at hw2
    obtain ⟨es', clock', hr2, hu⟩ := hst w2 val hw2
    obtain ⟨w', hu2, hm', hg'⟩ := hput val
    rw [hu] at hu2
    injection hu2 with _ hu2
    subst hu2
    refine ⟨_, hr2, hm'.same ?_, ⟨rfl, rfl, rfl, by simp [setBlock], fun i _ hi => heap_setBlock_other hw2 _ (fun e => hi (by rw [e]))⟩, by simp [setBlock]⟩
    rw [heap_setBlock_same hw2, heap_setBlock_same hb]
end Go.Proofs.Ytjfabholalnbeab
namespace Go.Proofs.Ytjfabholalnbeab
open Go.RowKit Go.MapKept Go.ChangeMaps Go.WideShapes
set_option linter.unusedVariables false
set_option linter.unusedSimpArgs false

/-! ### a range over a map by numbers -/
theorem kI_same (d c : Int) : (kI d).sameKey (kI c) = (d == c) := by
  by_cases e : d = c
  · subst e
    rw [WideAt.sameKey_self (kI_key d)]
    simp
  · rw [Maps.sameKey_ne (kI_ne e)]
    simp [e]
structure RgI (W : World) (mb r n : Nat) (z : Value) (M : Int → Value) (hs : Int → Bool) (left : Int → Bool) (cnt : Nat) : Prop where
  ex : ∃ D lf, W.ranges Try.prog 3 Rw mb r n D lf cnt ∧ (∀ c, I64 c → D.atKey (kI c) (.held z) = .held (M c) ∧ Maps.has D (kI c) = hs c) ∧ ∀ c, I64 c → lf (kI c) = left c
theorem RgI.lt {W : World} {mb r n : Nat} {z : Value} {M : Int → Value} {hs left : Int → Bool} {cnt : Nat} (h : RgI W mb r n z M hs left cnt) : mb < W.heap.size ∧ r < W.heap.size := by
  obtain ⟨D, lf, h1, _⟩ := h.ex
  exact ⟨h1.owns.lt, h1.lt⟩
theorem RgI.same {W W' : World} {mb r n : Nat} {z : Value} {M : Int → Value} {hs left : Int → Bool} {cnt : Nat} (h : RgI W mb r n z M hs left cnt) (h1 : W'.heap[mb]? = W.heap[mb]?) (h2 : W'.heap[r]? = W.heap[r]?) : RgI W' mb r n z M hs left cnt := by
  obtain ⟨D, lf, ⟨es, clock, since, seen, c0, hb, F, hsz, hD, hr, rest⟩, h3⟩ := h.ex
  exact ⟨D, lf, ⟨es, clock, since, seen, c0, h1.trans hb, F, hsz, hD, h2.trans hr, rest⟩, h3⟩
theorem RgI.map {W : World} {mb r n : Nat} {z : Value} {M : Int → Value} {hs left : Int → Bool} {cnt : Nat} (h : RgI W mb r n z M hs left cnt) : MpI W mb n z M hs := by
  obtain ⟨D, lf, h1, h2, _⟩ := h.ex
  exact ⟨D, h1.owns, h2⟩
theorem RgI.ext {W : World} {mb r n : Nat} {z : Value} {M : Int → Value} {hs left left' : Int → Bool} {cnt : Nat} (h : RgI W mb r n z M hs left cnt) (e : ∀ c, left' c = left c) : RgI W mb r n z M hs left' cnt := by
  obtain ⟨D, lf, h1, h2, h3⟩ := h.ex
  exact ⟨D, lf, h1, h2, fun c hc => by rw [e]; exact h3 c hc⟩
section
variable {w : World} {ops : Array Oper} {rest : List Oper} {o : Oper} {a : Act} {Q : Exit → Act → World → Prop}
theorem rangeI (hg : o.guard = none) (m : Operand) (t e : TypeId) (hop : o.op = Op.range t m) (ht : Try.prog.underlying t = some (.map 3 e)) (mb n : Nat) (z : Value) (M : Int → Value) (hs : Int → Bool)
    (hm : a.eval m = .map (some mb)) (h : MpI w mb n z M hs)
    (hK : ∀ w' cnt, cnt ≤ n → RgI w' mb w.heap.size n z M hs hs cnt → Below w.heap.size w w' → w'.heap.size = w.heap.size + 1 → wpList Try.prog ops Q rest (a.put o.dst (.pointer (some ⟨w.heap.size, 0, none⟩))) w') :
    wpList Try.prog ops Q (o :: rest) a w := by
  obtain ⟨D, h1, h2⟩ := h.ex
  refine wpList_range_own w hg m t hop 3 e (Maps.int_keyed Try.underlying3) ht Rw mb n D hm h1 (fun w' hr hgr hsz => ?_)
  exact hK w' _ h1.size_le ⟨D, _, hr, h2, fun c hc => (h2 c hc).2⟩ ⟨hgr.os, hgr.tape, hgr.output, hgr.size, fun b hb => hgr.block b hb (by simp)⟩ hsz
theorem nextI (hg : o.guard = none) (it : Operand) (hop : o.op = Op.next it false) (mb r n : Nat) (z : Value) (M : Int → Value) (hs left : Int → Bool) (cnt : Nat)
    (hit : a.eval it = .pointer (some ⟨r, 0, none⟩)) (h : RgI w mb r n z M hs left cnt)
    (hDone : (∀ c, I64 c → left c = false) → wpList Try.prog ops Q rest (a.put o.dst (.tuple #[.bool false])) w)
    (hMore : ∀ (c : Int) (w' : World) (cnt' : Nat), I64 c → left c = true → hs c = true → RgI w' mb r n z M hs (fun d => left d && !(d == c)) cnt' → cnt' < cnt → w.grownBy w' (some r) → w'.heap.size = w.heap.size → (Instr.entry (.pointer (some ⟨r, 0, none⟩))).run Try.prog w' = .ok (.tuple #[.int .i64 c, M c]) w' → wpList Try.prog ops Q rest (a.put o.dst (.tuple #[.bool true, .int .i64 c, M c])) w') :
    wpList Try.prog ops Q (o :: rest) a w := by
  obtain ⟨D, lf, h1, h2, h3⟩ := h.ex
  refine wpList_next_ranges w hg it hop 3 (Maps.int_keyed Try.underlying3) Rw (Value.int .i64) (fun v : Value => v) (fun key kl hkey => by obtain ⟨x, rfl, _⟩ := Maps.keyOf_int_inv Try.underlying3 hkey; exact ⟨x, rfl⟩) (fun v y _ => ⟨v, rfl⟩) mb r n D lf cnt hit h1 (fun _ hl => hDone (fun c hc => by rw [← h3 c hc]; exact hl _)) ?_
  intro x v kl y w' cnt' hkey hlk hRv hat hrg hlt hgr hsz hen
  obtain ⟨x', ex, rfl, hwf⟩ := Maps.keyOf_int_inv Try.underlying3 hkey
  cases ex
  have hx : I64 x := by
    have h5 : (decide (IntKind.i64.min ≤ x) && decide (x ≤ IntKind.i64.max)) = true := hwf
    rw [Bool.and_eq_true, decide_eq_true_eq, decide_eq_true_eq] at h5
    exact ⟨h5.1, h5.2⟩
  have hv : v = M x := by
    have e1 := (h2 x hx).1
    have e2 := hat (.held z)
    have e3 : (D.atKey (kI x) (.held z)) = y.1 := e2
    rw [e1] at e3
    have e4 : some ((DataW.held v : DataW Value), ([] : List MemPlace)) = some y := hRv
    rw [← Option.some.inj e4] at e3
    exact (DataW.held.inj e3).symm
  subst hv
  have hh : hs x = true := by
    rw [← (h2 x hx).2]
    exact Maps.has_true_of_atKey hat
  refine hMore x w' cnt' hx (by rw [← h3 x hx]; exact hlk) hh ⟨D, _, hrg, h2, fun c hc => ?_⟩ hlt hgr hsz hen
  show (lf (kI c) && !(kI c).sameKey (kI x)) = _
  rw [h3 c hc, kI_same]
end
end Go.Proofs.Ytjfabholalnbeab
