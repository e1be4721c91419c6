import Derived.Test.YtjabdhmkibahlaaCGF
import Derived.DeepKeys4
import Derived.WideKeyEntry
namespace Go.Proofs.Ytjabdhmkibahlaa
open Go.RowKit Go.MapKept Go.ChangeMaps Go.WideShapes
set_option linter.unusedVariables false
set_option linter.unusedSimpArgs false

/-! ### maps by stances -/
theorem out_laid : laidOutB Try.prog = true := by kernel_rfl
theorem lawS : WideMaps.KeyLaw Try.prog 72 := deep_law_laid out_laid (m := 4) (by omega) (by decide +kernel) (by kernel_rfl) (by kernel_rfl)
theorem keyedS : Maps.Keyed Try.prog 72 := Maps.Keyed.of_law lawS
theorem keyS (s : Stc) : ∃ kl, keyOf Try.prog 72 (stV s) = some kl := by
  have h : (keyOf Try.prog 72 (stV s)).isSome = true := by
    obtain ⟨a, b, c⟩ := s
    cases a <;> cases b <;> cases c <;> kernel_rfl
  exact Option.isSome_iff_exists.1 h
theorem stV_inj {s t : Stc} (h : stV s = stV t) : s = t := by
  obtain ⟨a, b, c⟩ := s
  obtain ⟨d, e, f⟩ := t
  simp [stV] at h
  obtain ⟨rfl, rfl, rfl⟩ := h
  rfl
theorem keyS_ne {s t : Stc} {k l : Lit} (hk : keyOf Try.prog 72 (stV s) = some k) (hl : keyOf Try.prog 72 (stV t) = some l) (h : s ≠ t) : k ≠ l := fun e => h (stV_inj (keyedS.inj hk (e ▸ hl)))
def nV : Value := .slice none 0 0
structure MpS (W : World) (mb n : Nat) (M : Stc → Value) (hs : Stc → Bool) : Prop where
  ex : ∃ D, W.ownsMap Try.prog 72 Rw mb n D ∧ (∀ c kl, keyOf Try.prog 72 (stV c) = some kl → D.atKey kl (.held nV) = .held (M c) ∧ Maps.has D kl = hs c) ∧ ∀ kl, Maps.has D kl = true → ∃ c, keyOf Try.prog 72 (stV c) = some kl
theorem ms_new (W : World) : MpS (W.alloc (.map #[] 0)) W.heap.size 0 (fun _ => nV) (fun _ => false) :=
  ⟨_, World.ownsMap_made W Try.prog 72 Rw, fun c kl _ => ⟨rfl, rfl⟩, fun kl h => by simp [Maps.has] at h⟩
theorem MpS.same {W W' : World} {mb n : Nat} {M : Stc → Value} {hs : Stc → Bool} (h : MpS W mb n M hs) (hg : W'.heap[mb]? = W.heap[mb]?) : MpS W' mb n M hs := by
  obtain ⟨D, ⟨es, clock, h0, h3⟩, h2, h4⟩ := h.ex
  exact ⟨D, ⟨es, clock, hg.trans h0, h3⟩, h2, h4⟩
theorem MpS.lt {W : World} {mb n : Nat} {M : Stc → Value} {hs : Stc → Bool} (h : MpS W mb n M hs) : mb < W.heap.size := by
  obtain ⟨D, h1, _⟩ := h.ex
  exact h1.lt
theorem MpS.mono {W : World} {mb n m : Nat} {M : Stc → Value} {hs : Stc → Bool} (h : MpS W mb n M hs) (hn : n ≤ m) : MpS W mb m M hs := by
  obtain ⟨D, h1, h2⟩ := h.ex
  exact ⟨D, h1.mono hn, h2⟩
theorem MpI.mono {W : World} {mb n m : Nat} {z : Value} {M : Int → Value} {hs : Int → Bool} (h : MpI W mb n z M hs) (hn : n ≤ m) : MpI W mb m z M hs := by
  obtain ⟨D, h1, h2⟩ := h.ex
  exact ⟨D, h1.mono hn, h2⟩
def updS {α : Type} (f : Stc → α) (c : Stc) (x : α) : Stc → α := fun d => if d.awake = c.awake ∧ d.sends = c.sends ∧ d.recvs = c.recvs then x else f d
theorem updS_same {α : Type} (f : Stc → α) (c : Stc) (x : α) : updS f c x c = x := if_pos ⟨rfl, rfl, rfl⟩
theorem updS_other {α : Type} (f : Stc → α) {c d : Stc} (x : α) (h : d ≠ c) : updS f c x d = f d := if_neg (fun e => h (by
  obtain ⟨a, b, c⟩ := c
  obtain ⟨d1, d2, d3⟩ := d
  simp only at e
  obtain ⟨rfl, rfl, rfl⟩ := e
  rfl))
theorem MpS.put {W : World} {mb n : Nat} {M : Stc → Value} {hs : Stc → Bool} (h : MpS W mb n M hs) (c : Stc) (hn : n < maxLen) (v : Value) :
    ∃ w', (Instr.mapUpdate 75 (.map (some mb)) (stV c) v).run Try.prog W = .ok () w' ∧ MpS w' mb (n + 1) (updS M c v) (updS hs c true) ∧ W.grownBy w' (some mb) := by
  obtain ⟨D, h1, h2, h3⟩ := h.ex
  obtain ⟨kc, hkc⟩ := keyS c
  obtain ⟨w', hr, h4, h5⟩ := h1.update keyedS Try.underlying75 hn (val := v) (d := .held v) (ps := []) hkc rfl
  refine ⟨w', hr, ⟨_, h4, fun d kl hkl => ?_, fun kl hkl => ?_⟩, h5⟩
  · by_cases e : d = c
    · subst e
      rw [hkc] at hkl
      cases hkl
      rw [updS_same, updS_same, Maps.atKey_put_same h1.isMap (keyedS.key hkc), Maps.has_put_same h1.isMap (keyedS.key hkc)]
      exact ⟨rfl, rfl⟩
    · rw [updS_other _ _ e, updS_other _ _ e, Maps.atKey_put_other (keyS_ne hkl hkc e), Maps.has_put_other (keyS_ne hkl hkc e)]
      exact h2 d kl hkl
  · by_cases e : kl = kc
    · exact ⟨c, by rw [e]; exact hkc⟩
    · rw [Maps.has_put_other e] at hkl
      exact h3 kl hkl
/-- m[k] = append(m[k], ..): the entry, and its store -/
theorem MpS.entry {W : World} {mb n : Nat} {M : Stc → Value} {hs : Stc → Bool} (h : MpS W mb n M hs) (c : Stc) (hn : n < maxLen) :
    ∃ (st : Nat) (W1 : World), (Instr.mapEntry 75 (.map (some mb)) (stV c)).run Try.prog W = .ok (.tuple #[M c, goInt st]) W1 ∧ W.grownBy W1 (some mb) ∧ W1.heap.size = W.heap.size ∧
      ∀ (w2 : World) (val : Value), w2.heap[mb]? = W1.heap[mb]? → ∃ w3, (Instr.entryStore 75 (.map (some mb)) (goInt st) val).run Try.prog w2 = .ok () w3 ∧ MpS w3 mb (n + 1) (updS M c val) (updS hs c true) ∧ w2.grownBy w3 (some mb) ∧ w3.heap.size = w2.heap.size := by
  have hput := fun v => h.put c hn v
  obtain ⟨kc, hkc⟩ := keyS c
  obtain ⟨D, ⟨es, clock, hb, F, hsz, hD⟩, h2, _⟩ := h.ex
  obtain ⟨v0, st, es1, clock1, hr, hv, hst⟩ := WideElems.entry_then_store lawS Try.underlying75 (z := nV) Try.zeroValue45 hb F hkc
  have hl := (Array.getElem?_eq_some_iff.1 hb).1
  have hv0 : v0 = M c := by
    have hat := (h2 c kc hkc).1
    rw [hD] at hat
    rcases Maps.fit_look false keyedS Try.underlying75 (Try.zeroValue45 W) hb F hkc with ⟨_, hno, ha⟩ | ⟨e0, y, he0, hk0, _, hRv, ha, _⟩
    · rw [ha] at hat
      rcases hv with ⟨e1, he1, hk1, _⟩ | ⟨_, rfl⟩
      · exact absurd hk1 (hno e1 he1)
      · exact DataW.held.inj hat
    · rw [ha] at hat
      have hy : y.1 = .held e0.val := by
        have : some ((DataW.held e0.val : DataW Value), ([] : List MemPlace)) = some y := hRv
        rw [← Option.some.inj this]
      rw [hy] at hat
      rcases hv with ⟨e1, he1, hk1, rfl⟩ | ⟨hno, _⟩
      · have := entry_eq_of_key ((MapKept.stamped_iff es clock).1 F.stamped).2.2 he1 he0 (hk1.trans hk0.symm)
        rw [this]
        exact DataW.held.inj hat
      · exact absurd hk0 (hno e0 he0)
  subst hv0
  refine ⟨st, _, hr, ?_, by simp [setBlock], fun w2 val hw2 => ?_⟩
  · exact ⟨rfl, rfl, rfl, by simp [setBlock], fun i _ hi => heap_setBlock_other hb _ (fun e => hi (by rw [e]))⟩
  · have e1 : (setBlock W mb (.map es1 clock1)).heap[mb]? = some (.map es1 clock1) := heap_setBlock_same hb _
    rw [e1] at hw2
    obtain ⟨es', clock', hr2, hu⟩ := hst w2 val hw2
    obtain ⟨w', hu2, hm', hg'⟩ := hput val
    rw [hu] at hu2
    injection hu2 with _ hu2
    subst hu2
    refine ⟨_, hr2, hm'.same ?_, ⟨rfl, rfl, rfl, by simp [setBlock], fun i _ hi => heap_setBlock_other hw2 _ (fun e => hi (by rw [e]))⟩, by simp [setBlock]⟩
    rw [heap_setBlock_same hw2, heap_setBlock_same hb]
end Go.Proofs.Ytjabdhmkibahlaa
