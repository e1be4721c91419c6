import Derived.Test.YtjabdhmkibahlaaCGF
import Derived.Laws.Cover3
namespace Go.Proofs.Ytjabdhmkibahlaa
open Go.RowKit Go.MapKept Go.ChangeMaps Go.WideShapes
set_option linter.unusedVariables false
set_option linter.unusedSimpArgs false

/-! ### a range over a map by numbers -/
theorem kI_same (d c : Int) : (kI d).sameKey (kI c) = (d == c) := by
  by_cases e : d = c
  · subst e
    rw [WideAt.sameKey_self (kI_key d)]
    simp
  · rw [Maps.sameKey_ne (kI_ne e)]
    simp [e]
structure RgI (W : World) (mb r n : Nat) (z : Value) (M : Int → Value) (hs : Int → Bool) (left : Int → Bool) (cnt : Nat) : Prop where
  ex : ∃ D lf, W.ranges Try.prog 3 Rw mb r n D lf cnt ∧ (∀ c, I64 c → D.atKey (kI c) (.held z) = .held (M c) ∧ Maps.has D (kI c) = hs c) ∧ ∀ c, I64 c → lf (kI c) = left c
theorem RgI.lt {W : World} {mb r n : Nat} {z : Value} {M : Int → Value} {hs left : Int → Bool} {cnt : Nat} (h : RgI W mb r n z M hs left cnt) : mb < W.heap.size ∧ r < W.heap.size := by
  obtain ⟨D, lf, h1, _⟩ := h.ex
  exact ⟨h1.owns.lt, h1.lt⟩
theorem RgI.same {W W' : World} {mb r n : Nat} {z : Value} {M : Int → Value} {hs left : Int → Bool} {cnt : Nat} (h : RgI W mb r n z M hs left cnt) (h1 : W'.heap[mb]? = W.heap[mb]?) (h2 : W'.heap[r]? = W.heap[r]?) : RgI W' mb r n z M hs left cnt := by
  obtain ⟨D, lf, ⟨es, clock, since, seen, c0, hb, F, hsz, hD, hr, rest⟩, h3⟩ := h.ex
  exact ⟨D, lf, ⟨es, clock, since, seen, c0, h1.trans hb, F, hsz, hD, h2.trans hr, rest⟩, h3⟩
theorem RgI.map {W : World} {mb r n : Nat} {z : Value} {M : Int → Value} {hs left : Int → Bool} {cnt : Nat} (h : RgI W mb r n z M hs left cnt) : MpI W mb n z M hs := by
  obtain ⟨D, lf, h1, h2, _⟩ := h.ex
  exact ⟨D, h1.owns, h2⟩
theorem RgI.ext {W : World} {mb r n : Nat} {z : Value} {M : Int → Value} {hs left left' : Int → Bool} {cnt : Nat} (h : RgI W mb r n z M hs left cnt) (e : ∀ c, left' c = left c) : RgI W mb r n z M hs left' cnt := by
  obtain ⟨D, lf, h1, h2, h3⟩ := h.ex
  exact ⟨D, lf, h1, h2, fun c hc => by rw [e]; exact h3 c hc⟩
section
variable {w : World} {ops : Array Oper} {rest : List Oper} {o : Oper} {a : Act} {Q : Exit → Act → World → Prop}
theorem rangeI (hg : o.guard = none) (m : Operand) (t e : TypeId) (hop : o.op = Op.range t m) (ht : Try.prog.underlying t = some (.map 3 e)) (mb n : Nat) (z : Value) (M : Int → Value) (hs : Int → Bool)
    (hm : a.eval m = .map (some mb)) (h : MpI w mb n z M hs)
    (hK : ∀ w' cnt, cnt ≤ n → RgI w' mb w.heap.size n z M hs hs cnt → Below w.heap.size w w' → w'.heap.size = w.heap.size + 1 → wpList Try.prog ops Q rest (a.put o.dst (.pointer (some ⟨w.heap.size, 0, none⟩))) w') :
    wpList Try.prog ops Q (o :: rest) a w := by
  obtain ⟨D, h1, h2⟩ := h.ex
  refine wpList_range_own w hg m t hop 3 e (Maps.int_keyed Try.underlying3) ht Rw mb n D hm h1 (fun w' hr hgr hsz => ?_)
  exact hK w' _ h1.size_le ⟨D, _, hr, h2, fun c hc => (h2 c hc).2⟩ ⟨hgr.os, hgr.tape, hgr.output, hgr.size, fun b hb => hgr.block b hb (by simp)⟩ hsz
theorem nextI (hg : o.guard = none) (it : Operand) (hop : o.op = Op.next it false) (mb r n : Nat) (z : Value) (M : Int → Value) (hs left : Int → Bool) (cnt : Nat)
    (hit : a.eval it = .pointer (some ⟨r, 0, none⟩)) (h : RgI w mb r n z M hs left cnt)
    (hDone : (∀ c, I64 c → left c = false) → wpList Try.prog ops Q rest (a.put o.dst (.tuple #[.bool false])) w)
    (hMore : ∀ (c : Int) (w' : World) (cnt' : Nat), I64 c → left c = true → hs c = true → RgI w' mb r n z M hs (fun d => left d && !(d == c)) cnt' → cnt' < cnt → w.grownBy w' (some r) → w'.heap.size = w.heap.size → (Instr.entry (.pointer (some ⟨r, 0, none⟩))).run Try.prog w' = .ok (.tuple #[.int .i64 c, M c]) w' → wpList Try.prog ops Q rest (a.put o.dst (.tuple #[.bool true, .int .i64 c, M c])) w') :
    wpList Try.prog ops Q (o :: rest) a w := by
  obtain ⟨D, lf, h1, h2, h3⟩ := h.ex
  refine wpList_next_ranges w hg it hop 3 (Maps.int_keyed Try.underlying3) Rw (Value.int .i64) (fun v : Value => v) (fun key kl hkey => by obtain ⟨x, rfl, _⟩ := Maps.keyOf_int_inv Try.underlying3 hkey; exact ⟨x, rfl⟩) (fun v y _ => ⟨v, rfl⟩) mb r n D lf cnt hit h1 (fun _ hl => hDone (fun c hc => by rw [← h3 c hc]; exact hl _)) ?_
  intro x v kl y w' cnt' hkey hlk hRv hat hrg hlt hgr hsz hen
  obtain ⟨x', ex, rfl, hwf⟩ := Maps.keyOf_int_inv Try.underlying3 hkey
  cases ex
  have hx : I64 x := by
    have h5 : (decide (IntKind.i64.min ≤ x) && decide (x ≤ IntKind.i64.max)) = true := hwf
    rw [Bool.and_eq_true, decide_eq_true_eq, decide_eq_true_eq] at h5
    exact ⟨h5.1, h5.2⟩
  have hv : v = M x := by
    have e1 := (h2 x hx).1
    have e2 := hat (.held z)
    have e3 : (D.atKey (kI x) (.held z)) = y.1 := e2
    rw [e1] at e3
    have e4 : some ((DataW.held v : DataW Value), ([] : List MemPlace)) = some y := hRv
    rw [← Option.some.inj e4] at e3
    exact (DataW.held.inj e3).symm
  subst hv
  have hh : hs x = true := by
    rw [← (h2 x hx).2]
    exact Maps.has_true_of_atKey hat
  refine hMore x w' cnt' hx (by rw [← h3 x hx]; exact hlk) hh ⟨D, _, hrg, h2, fun c hc => ?_⟩ hlt hgr hsz hen
  show (lf (kI c) && !(kI c).sameKey (kI x)) = _
  rw [h3 c hc, kI_same]
end
end Go.Proofs.Ytjabdhmkibahlaa
namespace Go.Proofs.Ytjabdhmkibahlaa
open Go.RowKit Go.MapKept Go.ChangeMaps Go.WideShapes
set_option linter.unusedVariables false
set_option linter.unusedSimpArgs false

/-! ### who stands where, under way -/
abbrev Lb : Type := Int × Option Stc
def rowC (l : List Int) : List Value := l.map (Value.int .i64)
structure CrI (W : World) (B wb N : Nat) (C : Int → Option Nat) (V : Int → Stc → Value) (ids : Int → Stc → List Int) (own : Nat → Option Lb) : Prop where
  map : MpI W wb N (.map none) (fun c => .map (C c)) (fun c => (C c).isSome)
  cr : ∀ c cb, C c = some cb → ∃ hS, MpS W cb N (V c) hS ∧ ∀ s, hS s = false → ids c s = []
  row : ∀ c s, C c ≠ none → W.ownsRow B 3 1 (V c s) (ids c s).length (rowC (ids c s))
  non : ∀ c s, C c = none → ids c s = []
  lc : ∀ c cb, C c = some cb → own cb = some (c, none)
  lr : ∀ c s b, C c ≠ none → (V c s).ownBlock = some b → own b = some (c, some s)
  wbo : own wb = none
  low : ∀ b, own b ≠ none → B ≤ b ∧ b < W.heap.size
  wbB : B ≤ wb
/-- what stays -/
structure Fr (wb : Nat) (own own' : Nat → Option Lb) (W W' : World) : Prop where
  os : W'.os = W.os
  tape : W'.tape = W.tape
  output : W'.output = W.output
  size : W.heap.size ≤ W'.heap.size
  keep : ∀ b, b < W.heap.size → own b = none → b ≠ wb → W'.heap[b]? = W.heap[b]?
  new : ∀ b, own' b ≠ none → own b ≠ none ∨ W.heap.size ≤ b
theorem CrI.same {W W' : World} {B wb N : Nat} {C : Int → Option Nat} {V : Int → Stc → Value} {ids : Int → Stc → List Int} {own : Nat → Option Lb} (h : CrI W B wb N C V ids own) (hz : W.heap.size ≤ W'.heap.size) (hk : ∀ b, (own b ≠ none ∨ b = wb) → W'.heap[b]? = W.heap[b]?) : CrI W' B wb N C V ids own :=
  ⟨h.map.same (hk wb (.inr rfl)), fun c cb hc => by
    obtain ⟨hS, h1, h2⟩ := h.cr c cb hc
    exact ⟨hS, h1.same (hk cb (.inl (by rw [h.lc c cb hc]; simp))), h2⟩, fun c s hc => own_same (h.row c s hc) (fun g o hg ho => (hk g (.inl (by rw [h.lr c s g hc hg]; simp))).trans ho), h.non, h.lc, h.lr, h.wbo, fun b hb => ⟨(h.low b hb).1, Nat.lt_of_lt_of_le (h.low b hb).2 hz⟩, h.wbB⟩
theorem CrI.below {W W' : World} {B wb N : Nat} {C : Int → Option Nat} {V : Int → Stc → Value} {ids : Int → Stc → List Int} {own : Nat → Option Lb} (h : CrI W B wb N C V ids own) (hb : Below W.heap.size W W') : CrI W' B wb N C V ids own :=
  h.same hb.size (fun b hb' => hb.block b (by
    rcases hb' with h1 | rfl
    · exact (h.low b h1).2
    · exact h.map.lt))
theorem CrI.mono {W : World} {B wb N N' : Nat} {C : Int → Option Nat} {V : Int → Stc → Value} {ids : Int → Stc → List Int} {own : Nat → Option Lb} (h : CrI W B wb N C V ids own) (hn : N ≤ N') : CrI W B wb N' C V ids own :=
  ⟨h.map.mono hn, fun c cb hc => by
    obtain ⟨hS, h1, h2⟩ := h.cr c cb hc
    exact ⟨hS, h1.mono hn, h2⟩, h.row, h.non, h.lc, h.lr, h.wbo, h.low, h.wbB⟩
theorem cr_new (W : World) : CrI (W.alloc (.map #[] 0)) W.heap.size W.heap.size 0 (fun _ => none) (fun _ _ => nV) (fun _ _ => []) (fun _ => none) :=
  ⟨mp_new W (.map none), fun c cb h => (by cases h), fun c s h => absurd rfl h, fun _ _ _ => rfl, fun c cb h => (by cases h), fun c s b h => absurd rfl h, rfl, fun b h => absurd rfl h, Nat.le_refl _⟩
/-- nobody stood there so far -/
theorem CrI.fresh {W : World} {B wb N : Nat} {C : Int → Option Nat} {V : Int → Stc → Value} {ids : Int → Stc → List Int} {own : Nat → Option Lb} (h : CrI W B wb N C V ids own) {c : Int} (hc : C c = none) (h64 : I64 c) (hn : N < maxLen) :
    ∃ w3, (Instr.mapUpdate 63 (.map (some wb)) (.int .i64 c) (.map (some W.heap.size))).run Try.prog (W.alloc (.map #[] 0)) = .ok () w3 ∧
      CrI w3 B wb (N + 1) (upd C c (some W.heap.size)) (upd V c (fun _ => nV)) ids (fun b => if b = W.heap.size then some (c, none) else own b) ∧ Fr wb own (fun b => if b = W.heap.size then some (c, none) else own b) W w3 := by
  have hb := below1 W (.map #[] 0)
  have hX := h.below hb
  have hwl := h.map.lt
  obtain ⟨w3, hr, hm, hg⟩ := hX.map.put Try.underlying63 h64 hn (.map (some W.heap.size))
  have hz3 : (W.alloc (.map #[] 0)).heap.size ≤ w3.heap.size := hg.size
  have hkeep : ∀ b, b < W.heap.size + 1 → b ≠ wb → w3.heap[b]? = (W.alloc (.map #[] 0)).heap[b]? := fun b hbl hne => hg.block b (by simpa using hbl) (fun e => hne (by injection e))
  have hown : ∀ b, own b ≠ none → b < W.heap.size ∧ b ≠ wb := fun b hb' => ⟨(h.low b hb').2, fun e => hb' (by rw [e]; exact h.wbo)⟩
  have hz : W.heap.size + 1 ≤ w3.heap.size := by simpa using hz3
  refine ⟨w3, hr, ⟨?_, fun d cb hd => ?_, fun d s hd => ?_, fun d s hd => ?_, fun d cb hd => ?_, fun d s b hd hb' => ?_, ?_, fun b hb' => ?_, h.wbB⟩, ⟨hg.os, hg.tape, hg.output, by omega, fun b hbl _ hne => (hkeep b (by omega) hne).trans (Below.heap_alloc _ _ _ hbl), fun b hb' => ?_⟩⟩
  · refine hm.ext (fun d => ?_) (fun d => ?_)
    · by_cases e : d = c
      · subst e; rw [upd_same, upd_same]
      · rw [upd_other _ _ e, upd_other _ _ e]
    · by_cases e : d = c
      · subst e; rw [upd_same, upd_same]; rfl
      · rw [upd_other _ _ e, upd_other _ _ e]
  · by_cases e : d = c
    · subst e
      rw [upd_same] at hd ⊢
      cases hd
      exact ⟨fun _ => false, ((ms_new W).same (hkeep _ (by omega) (by omega))).mono (Nat.zero_le _), fun s _ => h.non d s hc⟩
    · rw [upd_other _ _ e] at hd ⊢
      obtain ⟨hS, h1, h2⟩ := hX.cr d cb hd
      have := hown cb (by rw [h.lc d cb hd]; simp)
      exact ⟨hS, (h1.same (hkeep cb (by omega) this.2)).mono (Nat.le_succ _), h2⟩
  · by_cases e : d = c
    · subst e
      rw [upd_same, h.non d s hc]
      exact ⟨rfl, .inl ⟨rfl, rfl⟩⟩
    · rw [upd_other _ _ e] at hd ⊢
      exact own_same (hX.row d s hd) (fun g o hg' ho => by
        have := hown g (by rw [h.lr d s g hd hg']; simp)
        exact (hkeep g (by omega) this.2).trans ho)
  · by_cases e : d = c
    · subst e; rw [upd_same] at hd; cases hd
    · rw [upd_other _ _ e] at hd; exact h.non d s hd
  · by_cases e : d = c
    · subst e
      rw [upd_same] at hd
      cases hd
      rw [if_pos rfl]
    · rw [upd_other _ _ e] at hd
      have := hown cb (by rw [h.lc d cb hd]; simp)
      rw [if_neg (by omega)]
      exact h.lc d cb hd
  · by_cases e : d = c
    · subst e; rw [upd_same] at hb'; cases hb'
    · rw [upd_other _ _ e] at hd hb'
      have h1 := h.lr d s b hd hb'
      have := hown b (by rw [h1]; simp)
      rw [if_neg (by omega)]
      exact h1
  · show (if wb = W.heap.size then _ else own wb) = none
    rw [if_neg (by omega)]
    exact h.wbo
  · by_cases e : b = W.heap.size
    · have := h.wbB
      omega
    · have hb2 : own b ≠ none := by rw [if_neg e] at hb'; exact hb'
      have := h.low b hb2
      omega
  · by_cases e : b = W.heap.size
    · exact .inr (by omega)
    · rw [if_neg e] at hb'; exact .inl hb'
def upd2 {α : Type} (f : Int → Stc → α) (c : Int) (s : Stc) (x : α) : Int → Stc → α := upd f c (updS (f c) s x)
theorem upd2_same {α : Type} (f : Int → Stc → α) (c : Int) (s : Stc) (x : α) : upd2 f c s x c s = x := by unfold upd2; rw [upd_same, updS_same]
theorem upd2_row {α : Type} (f : Int → Stc → α) (c : Int) {s t : Stc} (x : α) (h : t ≠ s) : upd2 f c s x c t = f c t := by unfold upd2; rw [upd_same, updS_other _ _ h]
theorem upd2_other {α : Type} (f : Int → Stc → α) {c d : Int} (s t : Stc) (x : α) (h : d ≠ c) : upd2 f c s x d t = f d t := by unfold upd2; rw [upd_other _ _ h]
def relab (own : Nat → Option Lb) (L : Lb) (g : Nat) : Nat → Option Lb := fun b => if b = g then some L else if (own b).any (fun l => l.1 == L.1 && (match l.2, L.2 with | some x, some y => x.awake == y.awake && x.sends == y.sends && x.recvs == y.recvs | none, none => true | _, _ => false)) then none else own b
theorem lb_any (o : Option Lb) (c : Int) (s : Stc) : (o.any (fun l => l.1 == c && (match l.2, (some s : Option Stc) with | some x, some y => x.awake == y.awake && x.sends == y.sends && x.recvs == y.recvs | none, none => true | _, _ => false))) = true ↔ o = some (c, some s) := by
  cases o with
  | none => simp
  | some l =>
    obtain ⟨d, t⟩ := l
    cases t with
    | none => simp
    | some t =>
      obtain ⟨a1, a2, a3⟩ := t
      obtain ⟨b1, b2, b3⟩ := s
      simp [and_assoc]
theorem relab_at (own : Nat → Option Lb) (L : Lb) (g : Nat) : relab own L g g = some L := if_pos rfl
theorem relab_other {own : Nat → Option Lb} {c : Int} {s : Stc} {g b : Nat} {L' : Lb} (h : own b = some L') (hne : L' ≠ (c, some s)) (hg : b ≠ g) : relab own (c, some s) g b = some L' := by
  unfold relab
  rw [if_neg hg, if_neg (fun e => hne (by
    have := (lb_any (own b) c s).1 e
    rw [h] at this
    exact Option.some.inj this)), h]
theorem relab_some {own : Nat → Option Lb} {c : Int} {s : Stc} {g b : Nat} (h : relab own (c, some s) g b ≠ none) : b = g ∨ own b ≠ none ∧ own b ≠ some (c, some s) := by
  unfold relab at h
  split at h
  · exact .inl ‹_›
  · split at h
    · exact absurd rfl h
    · rename_i h1 h2
      exact .inr ⟨h, fun e => h2 ((lb_any (own b) c s).2 e)⟩
/-- one more stands there -/
theorem CrI.add {W : World} {B wb N : Nat} {C : Int → Option Nat} {V : Int → Stc → Value} {ids : Int → Stc → List Int} {own : Nat → Option Lb} (h : CrI W B wb N C V ids own) {c : Int} {cb : Nat} (hc : C c = some cb) (s : Stc) (k : Int) (hn : N < maxLen) :
    ∃ (st : Nat) (X1 : World), (Instr.mapEntry 75 (.map (some cb)) (stV s)).run Try.prog (W.alloc (.cells #[.int .i64 k] 3)) = .ok (.tuple #[V c s, goInt st]) X1 ∧
      X1.ownsRow B 3 1 (V c s) (ids c s).length (rowC (ids c s)) ∧ X1.heap[W.heap.size]? = some (.cells #[.int .i64 k] 3 (0, 0)) ∧ X1.heap.size = W.heap.size + 1 ∧
      ∀ g cap w', w'.ownsRow B 3 1 (.slice (some ⟨g, 0, none⟩) ((ids c s).length + 1) cap) ((ids c s).length + 1) (rowC (ids c s) ++ [.int .i64 k]) → X1.grownBy w' (V c s).ownBlock → ((V c s).ownBlock = some g ∨ g = W.heap.size + 1) → g < w'.heap.size →
        ∃ w3, (Instr.entryStore 75 (.map (some cb)) (goInt st) (.slice (some ⟨g, 0, none⟩) ((ids c s).length + 1) cap)).run Try.prog w' = .ok () w3 ∧
          CrI w3 B wb (N + 1) C (upd2 V c s (.slice (some ⟨g, 0, none⟩) ((ids c s).length + 1) cap)) (upd2 ids c s (ids c s ++ [k])) (relab own (c, some s) g) ∧ Fr wb own (relab own (c, some s) g) W w3 := by
  have hb := below1 W (.cells #[.int .i64 k] 3)
  have hX := h.below hb
  have hwl := h.map.lt
  have hcn : C c ≠ none := by rw [hc]; simp
  have hcb : own cb = some (c, none) := h.lc c cb hc
  have hcl := h.low cb (by rw [hcb]; simp)
  have hcw : cb ≠ wb := fun e => by rw [e, h.wbo] at hcb; cases hcb
  obtain ⟨hS, hmS, hids⟩ := hX.cr c cb hc
  obtain ⟨st, X1, hr, hg1, hz1, hst⟩ := hmS.entry s hn
  have hzX : (W.alloc (.cells #[.int .i64 k] 3)).heap.size = W.heap.size + 1 := by simp
  have k1 : ∀ b, b < W.heap.size + 1 → b ≠ cb → X1.heap[b]? = (W.alloc (.cells #[.int .i64 k] 3)).heap[b]? := fun b hbl hne => hg1.block b (by omega) (fun e => hne (by injection e))
  have hrowne : ∀ d t b, C d ≠ none → (V d t).ownBlock = some b → b ≠ cb ∧ b ≠ wb ∧ b < W.heap.size := fun d t b hd hb' => by
    have h1 := h.lr d t b hd hb'
    refine ⟨fun e => ?_, fun e => ?_, (h.low b (by rw [h1]; simp)).2⟩
    · rw [e, hcb] at h1; cases h1
    · rw [e, h.wbo] at h1; cases h1
  refine ⟨st, X1, hr, own_same (hX.row c s hcn) (fun g o hg ho => ?_), (k1 _ (by omega) (by omega)).trans (World.alloc_heap_new _ _), by omega, fun g cap w' how hgr hgi hgl => ?_⟩
  · have := hrowne c s g hcn hg
    exact (k1 g (by omega) this.1).trans ho
  · have hgn : g ≠ cb ∧ g ≠ wb := by
      rcases hgi with h1 | h1
      · have := hrowne c s g hcn h1
        exact ⟨this.1, this.2.1⟩
      · exact ⟨by omega, by omega⟩
    have k2 : ∀ b, b < W.heap.size + 1 → (V c s).ownBlock ≠ some b → w'.heap[b]? = X1.heap[b]? := fun b hbl hne => hgr.block b (by omega) (fun e => hne e.symm)
    obtain ⟨w3, hr3, hm3, hg3, hz3⟩ := hst w' (.slice (some ⟨g, 0, none⟩) ((ids c s).length + 1) cap) (k2 cb (by omega) (fun e => (hrowne c s cb hcn e).1 rfl))
    have hzw := hgr.size
    have k3 : ∀ b, b < w'.heap.size → b ≠ cb → w3.heap[b]? = w'.heap[b]? := fun b hbl hne => hg3.block b hbl (fun e => hne (by injection e))
    have kall : ∀ b, b < W.heap.size → b ≠ cb → (V c s).ownBlock ≠ some b → w3.heap[b]? = W.heap[b]? := fun b hbl h1 h2 => by
      rw [k3 b (by omega) h1, k2 b (by omega) h2, k1 b (by omega) h1]
      exact Below.heap_alloc _ _ _ hbl
    have hcg : ∀ d, d ≠ c → ∀ cd, C d = some cd → cd < W.heap.size ∧ cd ≠ cb ∧ (V c s).ownBlock ≠ some cd ∧ cd ≠ g := fun d hd cd hcd => by
      have h1 := h.lc d cd hcd
      have h2 := h.low cd (by rw [h1]; simp)
      have h3 : (V c s).ownBlock ≠ some cd := fun e => by
        have := h.lr c s cd hcn e
        rw [h1] at this
        cases this
      refine ⟨h2.2, fun e => ?_, h3, fun e => ?_⟩
      · rw [e, hcb] at h1
        cases h1
        exact hd rfl
      · rcases hgi with h4 | h4
        · exact h3 (by rw [e]; exact h4)
        · omega
    have hrg : ∀ d t b, C d ≠ none → (d, t) ≠ (c, s) → (V d t).ownBlock = some b → (V c s).ownBlock ≠ some b ∧ b ≠ g := fun d t b hd hne hb' => by
      have h1 := h.lr d t b hd hb'
      have h3 : (V c s).ownBlock ≠ some b := fun e => by
        have := h.lr c s b hcn e
        rw [h1] at this
        cases this
        exact hne rfl
      refine ⟨h3, fun e => ?_⟩
      rcases hgi with h4 | h4
      · exact h3 (by rw [e]; exact h4)
      · have := (hrowne d t b hd hb').2.2
        omega
    have hB := h.wbB
    refine ⟨w3, hr3, ⟨?_, fun d cd hcd => ?_, fun d t hd => ?_, fun d t hd => ?_, fun d cd hcd => ?_, fun d t b hd hb' => ?_, ?_, fun b hb' => ?_, h.wbB⟩, ⟨?_, ?_, ?_, by omega, fun b hbl hob hbw => ?_, fun b hb' => ?_⟩⟩
    · refine (h.map.same (kall wb hwl (fun e => hcw e.symm) (fun e => (hrowne c s wb hcn e).2.1 rfl))).mono (Nat.le_succ _)
    · by_cases e : d = c
      · subst e
        rw [hc] at hcd
        cases hcd
        refine ⟨updS hS s true, ?_, fun t ht => ?_⟩
        · have : upd2 V d s (.slice (some ⟨g, 0, none⟩) ((ids d s).length + 1) cap) d = updS (V d) s (.slice (some ⟨g, 0, none⟩) ((ids d s).length + 1) cap) := by unfold upd2; rw [upd_same]
          rw [this]
          exact hm3
        · by_cases e2 : t = s
          · subst e2; rw [updS_same] at ht; cases ht
          · rw [updS_other _ _ e2] at ht
            rw [upd2_row _ _ _ e2]
            exact hids t ht
      · obtain ⟨hS', h1, h2⟩ := h.cr d cd hcd
        obtain ⟨x1, x2, x3, x4⟩ := hcg d e cd hcd
        have ev : upd2 V c s (.slice (some ⟨g, 0, none⟩) ((ids c s).length + 1) cap) d = V d := by unfold upd2; rw [upd_other _ _ e]
        rw [ev]
        refine ⟨hS', (h1.same (kall cd x1 x2 x3)).mono (Nat.le_succ _), fun t ht => ?_⟩
        rw [upd2_other _ _ _ _ e]
        exact h2 t ht
    · by_cases e : (d, t) = (c, s)
      · cases e
        rw [upd2_same, upd2_same]
        have h1 : w3.ownsRow B 3 1 (.slice (some ⟨g, 0, none⟩) ((ids c s).length + 1) cap) ((ids c s).length + 1) (rowC (ids c s) ++ [.int .i64 k]) := own_same how (fun g' o hg' ho => by cases hg'; exact (k3 g hgl hgn.1).trans ho)
        simpa [rowC] using h1
      · have hev : upd2 V c s (.slice (some ⟨g, 0, none⟩) ((ids c s).length + 1) cap) d t = V d t ∧ upd2 ids c s (ids c s ++ [k]) d t = ids d t := by
          by_cases e1 : d = c
          · subst e1
            have e2 : t ≠ s := fun x => e (by rw [x])
            exact ⟨upd2_row _ _ _ e2, upd2_row _ _ _ e2⟩
          · exact ⟨upd2_other _ _ _ _ e1, upd2_other _ _ _ _ e1⟩
        rw [hev.1, hev.2]
        exact own_same (h.row d t hd) (fun g' o hg' ho => by
          have h1 := hrowne d t g' hd hg'
          have h2 := hrg d t g' hd e hg'
          exact (kall g' h1.2.2 h1.1 h2.1).trans ho)
    · have e1 : d ≠ c := fun x => hcn (by rw [← x]; exact hd)
      rw [upd2_other _ _ _ _ e1]
      exact h.non d t hd
    · have h1 := h.lc d cd hcd
      by_cases e : d = c
      · subst e
        rw [hc] at hcd
        cases hcd
        exact relab_other h1 (by simp) (fun x => hgn.1 x.symm)
      · exact relab_other h1 (by simp) (hcg d e cd hcd).2.2.2
    · by_cases e : (d, t) = (c, s)
      · cases e
        rw [upd2_same] at hb'
        cases hb'
        exact relab_at _ _ _
      · have hev : upd2 V c s (.slice (some ⟨g, 0, none⟩) ((ids c s).length + 1) cap) d t = V d t := by
          by_cases e1 : d = c
          · subst e1
            exact upd2_row _ _ _ (fun x => e (by rw [x]))
          · exact upd2_other _ _ _ _ e1
        rw [hev] at hb'
        exact relab_other (h.lr d t b hd hb') (fun x => e (by cases x; rfl)) (hrg d t b hd e hb').2
    · have h1 := h.wbo
      unfold relab
      rw [if_neg (fun e => hgn.2 e.symm), h1]
      rfl
    · rcases relab_some hb' with rfl | ⟨h1, _⟩
      · exact ⟨own_base how b rfl, by omega⟩
      · have := h.low b h1
        exact ⟨this.1, by omega⟩
    · rw [hg3.os, hgr.os, hg1.os]; rfl
    · rw [hg3.tape, hgr.tape, hg1.tape]; rfl
    · rw [hg3.output, hgr.output, hg1.output]; rfl
    · exact kall b hbl (fun e => by rw [e, hcb] at hob; cases hob) (fun e => by rw [h.lr c s b hcn e] at hob; cases hob)
    · rcases relab_some hb' with rfl | ⟨h1, _⟩
      · rcases hgi with h4 | h4
        · exact .inl (by rw [h.lr c s b hcn h4]; simp)
        · exact .inr (by omega)
      · exact .inl h1
end Go.Proofs.Ytjabdhmkibahlaa
namespace Go.Proofs.Ytjabdhmkibahlaa
open Go.RowKit Go.MapKept Go.ChangeMaps Go.WideShapes
set_option linter.unusedVariables false
set_option linter.unusedSimpArgs false

theorem Fr.refl (wb : Nat) (own : Nat → Option Lb) (W : World) : Fr wb own own W W := ⟨rfl, rfl, rfl, Nat.le_refl _, fun _ _ _ _ => rfl, fun _ h => .inl h⟩
theorem Fr.trans {wb : Nat} {o1 o2 o3 : Nat → Option Lb} {A B C : World} (h : Fr wb o1 o2 A B) (k : Fr wb o2 o3 B C) : Fr wb o1 o3 A C :=
  ⟨k.os.trans h.os, k.tape.trans h.tape, k.output.trans h.output, Nat.le_trans h.size k.size, fun b hb ho hw => (k.keep b (Nat.lt_of_lt_of_le hb h.size) (by
    cases hx : o2 b with
    | none => rfl
    | some l =>
      rcases h.new b (by rw [hx]; simp) with h1 | h1
      · exact absurd ho h1
      · omega) hw).trans (h.keep b hb ho hw), fun b hb => by
    rcases k.new b hb with h1 | h1
    · exact h.new b h1
    · exact .inr (Nat.le_trans h.size h1)⟩
theorem Fr.below {wb : Nat} {own : Nat → Option Lb} {A B : World} (h : Below A.heap.size A B) : Fr wb own own A B :=
  ⟨h.os, h.tape, h.output, h.size, fun b hb _ _ => h.block b hb, fun _ h => .inl h⟩
theorem Fr.low {w0 A B : World} {wb : Nat} {o1 o2 : Nat → Option Lb} (h : Fr wb o1 o2 A B) (hb : Below w0.heap.size w0 A) (hl : ∀ b, o1 b ≠ none → w0.heap.size ≤ b) (hw : w0.heap.size ≤ wb) : Below w0.heap.size w0 B :=
  ⟨h.os.trans hb.os, h.tape.trans hb.tape, h.output.trans hb.output, Nat.le_trans hb.size h.size, fun b hbl => (h.keep b (Nat.lt_of_lt_of_le hbl hb.size) (by
    cases hx : o1 b with
    | none => rfl
    | some l =>
      have := hl b (by rw [hx]; simp)
      omega) (by omega)).trans (hb.block b hbl)⟩
theorem neq_map (w : World) (m : Option Nat) : (binOp BinOp.neq 75 (Value.map m) (Value.map none)).run Try.prog w = .ok (.bool (!m.isNone)) w := by
  have h := run_equal_map_nil (P := Try.prog) (w := w) 75 _ _ m Try.underlying75
  simp [binOp, h, go_sem, Result.andThen]
theorem eql_map (w : World) (m : Option Nat) : (binOp BinOp.eql 75 (Value.map m) (Value.map none)).run Try.prog w = .ok (.bool m.isNone) w := by
  have h := run_equal_map_nil (P := Try.prog) (w := w) 75 _ _ m Try.underlying75
  simp [binOp, h, go_sem, Result.andThen]
def awk : Stc := ⟨true, false, false⟩
theorem infoI : (Try.prog.info? 3).map (fun i => (i.zero, i.size, i.bytes)) = some (some (.int .i64 0), 1, 8) := by kernel_rfl
/-- what join has made of who stood where -/
structure Jn (C : Int → Option Nat) (ids ids' : Int → Stc → List Int) (held : List Int) (k : Int) : Prop where
  yes : ∀ c, c ∈ held → C c ≠ none → ids' c awk = ids c awk ++ [k]
  no : ∀ c s, ¬ (s = awk ∧ c ∈ held ∧ C c ≠ none) → ids' c s = ids c s

set_option maxRecDepth 100000 in
set_option maxHeartbeats 8000000 in
theorem join_any (w0 W : World) (wb N : Nat) (C : Int → Option Nat) (V : Int → Stc → Value) (ids : Int → Stc → List Int) (own : Nat → Option Lb) (h : CrI W w0.heap.size wb N C V ids own) (hb : Below w0.heap.size w0 W) (k : Int)
    (hp : Option Addr) (hc : Nat) (held : List Int) (hh : IntsR w0 hp hc held) (hd : held.Pairwise (· < ·)) (hN : N + held.length < maxLen) (hL : ∀ c s, (ids c s).length ≤ 100000) :
    Calls Try.prog 57 #[.map (some wb), .int .i64 k, .slice hp held.length hc] W fun e w' => e = .returned (.tuple #[]) ∧ ∃ V' ids' own', CrI w' w0.heap.size wb (N + held.length) C V' ids' own' ∧ Fr wb own own' W w' ∧ Jn C ids ids' held k := by
  obtain ⟨i0, hi, iz0, iz1, iz2⟩ := info_parts infoI
  have hlc := hh.len
  have hcm := hh.max
  unfold maxLen at hcm
  obtain ⟨X, hX⟩ : ∃ X, W.alloc (.cells #[.bool true, .bool false, .bool false] 72) = X := ⟨_, rfl⟩
  have hbX : Below W.heap.size W X := by rw [← hX]; exact below1 _ _
  have hkX : X.heap[W.heap.size]? = some (.cells #[.bool true, .bool false, .bool false] 72 (0, 0)) := by rw [← hX]; exact World.alloc_heap_new _ _
  have hoX : own W.heap.size = none := by
    cases hx : own W.heap.size with
    | none => rfl
    | some l =>
      have := (h.low _ (by rw [hx]; simp)).2
      omega
  have hwX : W.heap.size ≠ wb := by have := h.map.lt; omega
  have HS : Bx (CrI X w0.heap.size wb N C V ids own ∧ Fr wb own own X X ∧ Jn C ids ids (held.take 0) k ∧ X.heap[W.heap.size]? = some (.cells #[.bool true, .bool false, .bool false] 72 (0, 0))) := ⟨h.below hbX, Fr.refl _ _ _, ⟨fun c hc => by simp at hc, fun c s _ => rfl⟩, hkX⟩
  have HLO : Bx ((∀ b, own b ≠ none → w0.heap.size ≤ b) ∧ w0.heap.size ≤ wb ∧ Below w0.heap.size w0 X ∧ Below W.heap.size W X) := ⟨fun b hb => (h.low b hb).1, h.wbB, hb.trans (hbX.mono hb.size), hbX⟩
  have HXE : Bx (W.alloc (.cells #[.bool true, .bool false, .bool false] 72) = X ∧ X.heap.size = W.heap.size + 1) := ⟨hX, by rw [← hX]; simp⟩
  have HH : Bx (IntsR w0 hp hc held) := ⟨hh⟩
  have HD : Bx (held.Pairwise (· < ·)) := ⟨hd⟩
  clear h hb hh hd hbX hkX hX
  go_enter Try.func57, Try.ntmps57
  go_wp2
  rw [HXE.out.1]
  go_loopg [13] (held.length + 1) (fun g v wr => ∃ i V' ids' own', g = held.length + 1 - i ∧ i ≤ held.length ∧ v = .int .i64 (i : Nat) ∧ Bx (CrI wr w0.heap.size wb (N + i) C V' ids' own' ∧ Fr wb own own' X wr ∧ Jn C ids ids' (held.take i) k ∧ wr.heap[W.heap.size]? = some (.cells #[.bool true, .bool false, .bool false] 72 (0, 0))))
  case atStart => exact ⟨0, V, ids, own, by simp, by omega, rfl, HS⟩
  case round =>
    obtain ⟨i, V', ids', own', hk, hil, rfl, HR⟩ := hrel
    clear HS
    by_cases hlt : i < held.length
    · obtain ⟨b, o, rfl, h64, hcl⟩ := HH.out.at_ i hlt
      have hbw : Below w0.heap.size w0 wr := HR.out.2.1.low HLO.out.2.2.1 HLO.out.1 HLO.out.2.1
      have c0 := hcl wr hbw
      have hmem : held[i] ∈ held := List.getElem_mem hlt
      have hnot : held[i] ∉ held.take i := fun hm => by
        obtain ⟨j, hj, e⟩ := List.mem_iff_getElem.1 hm
        simp at hj
        have := List.pairwise_iff_getElem.1 HD.out j i (by omega) hlt (by omega)
        simp at e
        omega
      have HT : Bx (∀ c, c ∈ held.take (i + 1) ↔ c ∈ held.take i ∨ c = held[i]) := ⟨fun c => by rw [List.take_succ_eq_append_getElem hlt, List.mem_append, List.mem_singleton]⟩
      have HNT : Bx (held[i] ∉ held.take i) := ⟨hnot⟩
      have H64 : Bx (I64 held[i]) := ⟨h64⟩
      clear hcl hmem hnot h64 HH HD
      generalize held[i] = cc at *
      have hlk := HR.out.1.map.look Try.underlying63 Try.zeroValue75 H64.out
      cases hC : C cc with
      | none =>
        simp only [hC] at hlk
        have HF : Bx (CrI wr w0.heap.size wb (N + (i + 1)) C V' ids' own' ∧ Fr wb own own' X wr ∧ Jn C ids ids' (held.take (i + 1)) k ∧ wr.heap[W.heap.size]? = some (.cells #[.bool true, .bool false, .bool false] 72 (0, 0))) := ⟨HR.out.1.mono (by omega), HR.out.2.1, ⟨fun c hc hcn => by
            rcases (HT.out c).1 hc with h1 | rfl
            · exact HR.out.2.2.1.yes c h1 hcn
            · exact absurd hC hcn, fun c s hn => HR.out.2.2.1.no c s (fun x => hn ⟨x.1, (HT.out c).2 (.inl x.2.1), x.2.2⟩)⟩, HR.out.2.2.2⟩
        have hnq := neq_map wr none
        simp only [Option.isNone_none, Bool.not_true] at hnq
        clear HR hC
        go_wp2
        go_roundg (held.length + 1 - (i + 1))
        case measure => omega
        case rel => exact ⟨i + 1, V', ids', own', rfl, by omega, by simp, HF⟩
      | some cb =>
        simp only [hC] at hlk
        have hnq := neq_map wr (some cb)
        simp only [Option.isNone_some, Bool.not_false] at hnq
        have hst := HR.out.2.2.2
        have d0 : wr.cell? ⟨W.heap.size, 0, none⟩ = some (.bool true) := cell_of hst rfl
        have d1 : wr.cell? ⟨W.heap.size, 1, none⟩ = some (.bool false) := cell_of hst rfl
        have d2 : wr.cell? ⟨W.heap.size, 2, none⟩ = some (.bool false) := cell_of hst rfl
        obtain ⟨st, X1, hme, hrow, hnew, hz1, hfin⟩ := HR.out.1.add hC awk k (by unfold maxLen at *; omega)
        have hold : ids' cc awk = ids cc awk := HR.out.2.2.1.no cc awk (fun x => HNT.out x.2.1)
        have hLc : (ids' cc awk).length ≤ 100000 := by rw [hold]; exact hL cc awk
        have hB : w0.heap.size ≤ X1.heap.size := by
          have := HR.out.1.map.lt
          have := HLO.out.2.1
          omega
        have HFN : Bx (∀ g cap w', w'.ownsRow w0.heap.size 3 1 (.slice (some ⟨g, 0, none⟩) ((ids' cc awk).length + 1) cap) ((ids' cc awk).length + 1) (rowC (ids' cc awk) ++ [.int .i64 k]) → X1.grownBy w' (V' cc awk).ownBlock → ((V' cc awk).ownBlock = some g ∨ g = wr.heap.size + 1) → g < w'.heap.size → ∃ w3, (Instr.entryStore 75 (.map (some cb)) (goInt st) (.slice (some ⟨g, 0, none⟩) ((ids' cc awk).length + 1) cap)).run Try.prog w' = .ok () w3 ∧ ∃ V2 ids2 own2, CrI w3 w0.heap.size wb (N + (i + 1)) C V2 ids2 own2 ∧ Fr wb own own2 X w3 ∧ Jn C ids ids2 (held.take (i + 1)) k ∧ w3.heap[W.heap.size]? = some (.cells #[.bool true, .bool false, .bool false] 72 (0, 0))) := ⟨fun g cap w' a1 a2 a3 a4 => by
          obtain ⟨w3, r3, c3, f3⟩ := hfin g cap w' a1 a2 a3 a4
          have hlst := (Array.getElem?_eq_some_iff.1 hst).1
          have ho' : own' W.heap.size = none := by
            cases hx : own' W.heap.size with
            | none => rfl
            | some l =>
              rcases HR.out.2.1.new W.heap.size (by rw [hx]; simp) with h1 | h1
              · exact absurd hoX h1
              · have := HXE.out.2
                omega
          refine ⟨w3, r3, _, _, _, by rw [← Nat.add_assoc]; exact c3, HR.out.2.1.trans f3, ⟨fun c hc hcn => ?_, fun c s hn => ?_⟩, (f3.keep W.heap.size hlst ho' hwX).trans hst⟩
          · by_cases e : c = cc
            · subst e; rw [upd2_same, hold]
            · rw [upd2_other _ _ _ _ e]
              rcases (HT.out c).1 hc with h1 | h1
              · exact HR.out.2.2.1.yes c h1 hcn
              · exact absurd h1 e
          · by_cases e : c = cc
            · subst e
              have e2 : s ≠ awk := fun x => hn ⟨x, (HT.out c).2 (.inr rfl), by rw [hC]; simp⟩
              rw [upd2_row _ _ _ e2]
              exact HR.out.2.2.1.no c s (fun x => e2 x.1)
            · rw [upd2_other _ _ _ _ e]
              exact HR.out.2.2.1.no c s (fun x => hn ⟨x.1, (HT.out c).2 (.inl x.2.1), x.2.2⟩)⟩
        have HOW : Bx _ := ⟨hrow⟩
        have HNW : Bx _ := ⟨hnew⟩
        rw [show stV awk = .agg #[.bool true, .bool false, .bool false] from rfl] at hme
        clear HR hC hst hfin hrow hnew hold HLO HT HNT
        generalize hids : ids' cc awk = iz at *
        generalize hV : V' cc awk = vz at *
        obtain ⟨sp, sc, rfl, hsc⟩ : ∃ sp sc, vz = .slice sp iz.length sc ∧ iz.length ≤ sc := by
          rcases HOW.out.2 with ⟨h1, h2⟩ | ⟨g, cap, cur, h1, _, _, h4, _⟩
          · exact ⟨none, 0, by rw [h1, h2], by omega⟩
          · exact ⟨_, cap, h1, h4⟩
        go_wp2_with (first | (at_builtin; (refine wpList_app _ rfl (.tmp 24) (.tmp 26) 45 rfl w0.heap.size 3 i0 (.int .i64 0) 1 8 Try.underlying45 hi iz0 iz1 iz2 rfl (by decide) (.slice sp iz.length sc) iz.length (rowC iz) rfl HOW.out ⟨wr.heap.size, 0, none⟩ 1 1 [.int .i64 k] rfl rfl (block_cells _ _ #[.int .i64 k] 3 HNW.out) (by simp [Value.oneCell']) (by decide) (by unfold maxLen; omega) (by omega) hB (wr.heap.size + 1) hz1 ?_; intro gg gcap w5 hown5 hgrow5 hgi5 hgl5; obtain ⟨w6, hes, V2, ids2, own2, hF⟩ := HFN.out gg gcap w5 hown5 hgrow5 hgi5 hgl5; have HF : Bx _ := ⟨hF⟩; simp only [goInt] at hes; clear hown5 hgrow5 hgi5 hF)))
        go_roundg (held.length + 1 - (i + 1))
        case measure => omega
        case rel => exact ⟨i + 1, V2, ids2, own2, rfl, by omega, by simp, HF⟩
    · have hie : i = held.length := by omega
      subst hie
      rw [List.take_length] at HR
      go_wp2
      go_end0
      exact ⟨rfl, V', ids', own', HR.out.1, (Fr.below HLO.out.2.2.2).trans HR.out.2.1, HR.out.2.2.1⟩
end Go.Proofs.Ytjabdhmkibahlaa
namespace Go.Proofs.Ytjabdhmkibahlaa
open Go.RowKit Go.MapKept Go.ChangeMaps Go.WideShapes
set_option linter.unusedVariables false
set_option linter.unusedSimpArgs false

/-- a block that is none of ours -/
structure Out (own : Nat → Option Lb) (wb : Nat) (W : World) (b : Nat) : Prop where
  lt : b < W.heap.size
  own : own b = none
  wb : b ≠ wb
theorem Out.fr {own own' : Nat → Option Lb} {wb : Nat} {W W' : World} {b : Nat} (h : Out own wb W b) (f : Fr wb own own' W W') : Out own' wb W' b ∧ W'.heap[b]? = W.heap[b]? :=
  ⟨⟨Nat.lt_of_lt_of_le h.lt f.size, by
    cases hx : own' b with
    | none => rfl
    | some l =>
      rcases f.new b (by rw [hx]; simp) with h1 | h1
      · exact absurd h.own h1
      · have := h.lt
        omega, h.wb⟩, f.keep b h.lt h.own h.wb⟩
theorem Out.grow {own : Nat → Option Lb} {wb : Nat} {W W' : World} {b : Nat} (h : Out own wb W b) (hz : W.heap.size ≤ W'.heap.size) : Out own wb W' b := ⟨Nat.lt_of_lt_of_le h.lt hz, h.own, h.wb⟩
/-! ### who has been entered where -/
structure Ct (f : Int → Ag) (C : Int → Option Nat) (ids : Int → Stc → List Int) (P : Int → Int → Prop) : Prop where
  mem : ∀ c s k, k ∈ ids c s ↔ P k c ∧ waitI (f k).arms c = s
  nod : ∀ c s, (ids c s).Nodup
  has : ∀ c, C c ≠ none ↔ ∃ k, P k c
theorem Ct.ext {f : Int → Ag} {C : Int → Option Nat} {ids : Int → Stc → List Int} {P P' : Int → Int → Prop} (h : Ct f C ids P) (e : ∀ k c, P' k c ↔ P k c) : Ct f C ids P' :=
  ⟨fun c s k => by rw [h.mem, e], h.nod, fun c => by rw [h.has]; exact ⟨fun ⟨k, hk⟩ => ⟨k, (e k c).2 hk⟩, fun ⟨k, hk⟩ => ⟨k, (e k c).1 hk⟩⟩⟩
theorem Ct.step {f : Int → Ag} {C C' : Int → Option Nat} {ids : Int → Stc → List Int} {P : Int → Int → Prop} (h : Ct f C ids P) {k0 c0 : Int} (hn : ¬ P k0 c0) (hC : ∀ c, C' c ≠ none ↔ C c ≠ none ∨ c = c0) : Ct f C' (upd2 ids c0 (waitI (f k0).arms c0) (ids c0 (waitI (f k0).arms c0) ++ [k0])) (fun k c => P k c ∨ k = k0 ∧ c = c0) := by
  refine ⟨fun c s k => ?_, fun c s => ?_, fun c => ?_⟩
  · by_cases e : c = c0
    · subst e
      by_cases e2 : s = waitI (f k0).arms c
      · subst e2
        rw [upd2_same, List.mem_append, List.mem_singleton, h.mem]
        constructor
        · rintro (⟨h1, h2⟩ | rfl)
          · exact ⟨.inl h1, h2⟩
          · exact ⟨.inr ⟨rfl, rfl⟩, rfl⟩
        · rintro ⟨h1 | ⟨rfl, _⟩, h2⟩
          · exact .inl ⟨h1, h2⟩
          · exact .inr rfl
      · rw [upd2_row _ _ _ e2, h.mem]
        constructor
        · rintro ⟨h1, h2⟩; exact ⟨.inl h1, h2⟩
        · rintro ⟨h1 | ⟨rfl, _⟩, h2⟩
          · exact ⟨h1, h2⟩
          · exact absurd h2.symm e2
    · rw [upd2_other _ _ _ _ e, h.mem]
      constructor
      · rintro ⟨h1, h2⟩; exact ⟨.inl h1, h2⟩
      · rintro ⟨h1 | ⟨_, h3⟩, h2⟩
        · exact ⟨h1, h2⟩
        · exact absurd h3 e
  · by_cases e : c = c0
    · subst e
      by_cases e2 : s = waitI (f k0).arms c
      · subst e2
        rw [upd2_same]
        refine List.nodup_append.2 ⟨h.nod _ _, by simp, fun a ha b hb => ?_⟩
        rw [List.mem_singleton] at hb
        subst hb
        rintro rfl
        exact hn ((h.mem _ _ _).1 ha).1
      · rw [upd2_row _ _ _ e2]; exact h.nod _ _
    · rw [upd2_other _ _ _ _ e]; exact h.nod _ _
  · rw [hC, h.has]
    constructor
    · rintro (⟨k, hk⟩ | rfl)
      · exact ⟨k, .inl hk⟩
      · exact ⟨k0, .inr ⟨rfl, rfl⟩⟩
    · rintro ⟨k, hk | ⟨_, rfl⟩⟩
      · exact .inl ⟨k, hk⟩
      · exact .inr rfl
theorem nod_len {l ks : List Int} (hn : l.Nodup) (hs : ∀ x ∈ l, x ∈ ks) : l.length ≤ ks.length := by
  induction l generalizing ks with
  | nil => simp
  | cons x r ih =>
    obtain ⟨s, t, rfl⟩ := List.append_of_mem (hs x List.mem_cons_self)
    rw [List.nodup_cons] at hn
    have := ih (ks := s ++ t) hn.2 (fun y hy => by
      have h1 := hs y (List.mem_cons_of_mem _ hy)
      rw [List.mem_append, List.mem_cons] at h1
      rw [List.mem_append]
      rcases h1 with h1 | rfl | h1
      · exact .inl h1
      · exact absurd hy hn.1
      · exact .inr h1)
    simp only [List.length_cons, List.length_append] at this ⊢
    omega
theorem Ct.len {f : Int → Ag} {C : Int → Option Nat} {ids : Int → Stc → List Int} {P : Int → Int → Prop} (h : Ct f C ids P) {ks : List Int} (hk : ∀ k c, P k c → k ∈ ks) (c : Int) (s : Stc) : (ids c s).length ≤ ks.length := nod_len (h.nod c s) (fun x hx => hk x c ((h.mem c s x).1 hx).1)
/-- the map of those that there are, ranged over, and who stands where so far -/
structure In1 (w0 W : World) (mb r nW : Nat) (M : Int → Value) (hs left : Int → Bool) (cnt wb N : Nat) (C : Int → Option Nat) (V : Int → Stc → Value) (ids : Int → Stc → List Int) (own : Nat → Option Lb) : Prop where
  rg : RgI W mb r nW zV M hs left cnt
  cr : CrI W w0.heap.size wb N C V ids own
  bel : Below w0.heap.size w0 W
  o1 : Out own wb W mb
  o2 : Out own wb W r
theorem In1.fr {w0 W W' : World} {mb r nW : Nat} {M : Int → Value} {hs left : Int → Bool} {cnt wb N N' : Nat} {C C' : Int → Option Nat} {V V' : Int → Stc → Value} {ids ids' : Int → Stc → List Int} {own own' : Nat → Option Lb} (h : In1 w0 W mb r nW M hs left cnt wb N C V ids own) (hc : CrI W' w0.heap.size wb N' C' V' ids' own') (f : Fr wb own own' W W') : In1 w0 W' mb r nW M hs left cnt wb N' C' V' ids' own' :=
  ⟨h.rg.same (h.o1.fr f).2 (h.o2.fr f).2, hc, f.low h.bel (fun b hb => (h.cr.low b hb).1) h.cr.wbB, (h.o1.fr f).1, (h.o2.fr f).1⟩
theorem In1.below {w0 W W' : World} {mb r nW : Nat} {M : Int → Value} {hs left : Int → Bool} {cnt wb N : Nat} {C : Int → Option Nat} {V : Int → Stc → Value} {ids : Int → Stc → List Int} {own : Nat → Option Lb} (h : In1 w0 W mb r nW M hs left cnt wb N C V ids own) (hb : Below W.heap.size W W') : In1 w0 W' mb r nW M hs left cnt wb N C V ids own := h.fr (h.cr.below hb) (Fr.below hb)
/-- an iterator of another map goes on -/
theorem In1.other {w0 W W' : World} {mb r nW q : Nat} {M : Int → Value} {hs left : Int → Bool} {cnt wb N : Nat} {C : Int → Option Nat} {V : Int → Stc → Value} {ids : Int → Stc → List Int} {own : Nat → Option Lb} (h : In1 w0 W mb r nW M hs left cnt wb N C V ids own) (hg : W.grownBy W' (some q)) (hq : Out own wb W q) (h1 : q ≠ mb) (h2 : q ≠ r) (h0 : w0.heap.size ≤ q) : In1 w0 W' mb r nW M hs left cnt wb N C V ids own := by
  have hk : ∀ b, b < W.heap.size → b ≠ q → W'.heap[b]? = W.heap[b]? := fun b hb hne => hg.block b hb (fun e => hne (by injection e))
  refine ⟨h.rg.same (hk mb h.o1.lt (fun e => h1 e.symm)) (hk r h.o2.lt (fun e => h2 e.symm)), h.cr.same hg.size (fun b hb => ?_), h.bel.grown hg h.bel.size (fun x e => by cases e; exact h0), h.o1.grow hg.size, h.o2.grow hg.size⟩
  rcases hb with hb | rfl
  · exact hk b (h.cr.low b hb).2 (fun e => hb (by rw [e]; exact hq.own))
  · exact hk b h.cr.map.lt (fun e => hq.wb e.symm)
/-- its own goes on -/
theorem In1.next {w0 W W' : World} {mb r nW : Nat} {M : Int → Value} {hs left left' : Int → Bool} {cnt cnt' wb N : Nat} {C : Int → Option Nat} {V : Int → Stc → Value} {ids : Int → Stc → List Int} {own : Nat → Option Lb} (h : In1 w0 W mb r nW M hs left cnt wb N C V ids own) (hr : RgI W' mb r nW zV M hs left' cnt') (hg : W.grownBy W' (some r)) (h0 : w0.heap.size ≤ r) : In1 w0 W' mb r nW M hs left' cnt' wb N C V ids own := by
  have hk : ∀ b, b < W.heap.size → b ≠ r → W'.heap[b]? = W.heap[b]? := fun b hb hne => hg.block b hb (fun e => hne (by injection e))
  refine ⟨hr, h.cr.same hg.size (fun b hb => ?_), h.bel.grown hg h.bel.size (fun x e => by cases e; exact h0), h.o1.grow hg.size, h.o2.grow hg.size⟩
  rcases hb with hb | rfl
  · exact hk b (h.cr.low b hb).2 (fun e => hb (by rw [e]; exact h.o2.own))
  · exact hk b h.cr.map.lt (fun e => h.o2.wb e.symm)
/-- beside it, the map of one that waits, ranged over -/
structure In2 (w0 W : World) (mb r nW : Nat) (M : Int → Value) (hs left : Int → Bool) (cnt wb N : Nat) (C : Int → Option Nat) (V : Int → Stc → Value) (ids : Int → Stc → List Int) (own : Nat → Option Lb) (m2 r2 n2 : Nat) (arms : List Hd) (left2 : Int → Bool) (cnt2 : Nat) : Prop where
  in1 : In1 w0 W mb r nW M hs left cnt wb N C V ids own
  rg2 : RgI W m2 r2 n2 (stV st0) (fun c => stV (waitI arms c)) (onI arms) left2 cnt2
  o3 : Out own wb W m2
  o4 : Out own wb W r2
  n1 : r2 ≠ mb
  n2 : r2 ≠ r
  l2 : w0.heap.size ≤ r2
section
variable {w0 W W' : World} {mb r nW : Nat} {M : Int → Value} {hs left : Int → Bool} {cnt wb N N' : Nat} {C C' : Int → Option Nat} {V V' : Int → Stc → Value} {ids ids' : Int → Stc → List Int} {own own' : Nat → Option Lb} {m2 r2 n2 : Nat} {arms : List Hd} {left2 left2' : Int → Bool} {cnt2 cnt2' : Nat}
theorem In2.fr (h : In2 w0 W mb r nW M hs left cnt wb N C V ids own m2 r2 n2 arms left2 cnt2) (hc : CrI W' w0.heap.size wb N' C' V' ids' own') (f : Fr wb own own' W W') : In2 w0 W' mb r nW M hs left cnt wb N' C' V' ids' own' m2 r2 n2 arms left2 cnt2 :=
  ⟨h.in1.fr hc f, h.rg2.same (h.o3.fr f).2 (h.o4.fr f).2, (h.o3.fr f).1, (h.o4.fr f).1, h.n1, h.n2, h.l2⟩
theorem In2.below (h : In2 w0 W mb r nW M hs left cnt wb N C V ids own m2 r2 n2 arms left2 cnt2) (hb : Below W.heap.size W W') : In2 w0 W' mb r nW M hs left cnt wb N C V ids own m2 r2 n2 arms left2 cnt2 := h.fr (h.in1.cr.below hb) (Fr.below hb)
theorem In2.next (h : In2 w0 W mb r nW M hs left cnt wb N C V ids own m2 r2 n2 arms left2 cnt2) (hr : RgI W' m2 r2 n2 (stV st0) (fun c => stV (waitI arms c)) (onI arms) left2' cnt2') (hg : W.grownBy W' (some r2)) : In2 w0 W' mb r nW M hs left cnt wb N C V ids own m2 r2 n2 arms left2' cnt2' :=
  ⟨h.in1.other hg h.o4 h.n1 h.n2 h.l2, hr, h.o3.grow hg.size, h.o4.grow hg.size, h.n1, h.n2, h.l2⟩
/-- one is entered -/
theorem In2.add (h : In2 w0 W mb r nW M hs left cnt wb N C V ids own m2 r2 n2 arms left2 cnt2) {c : Int} {cb : Nat} (hc : C c = some cb) (s : Stc) (k : Int) (hn : N < maxLen) :
    ∃ (st : Nat) (X1 : World), (Instr.mapEntry 75 (.map (some cb)) (stV s)).run Try.prog (W.alloc (.cells #[.int .i64 k] 3)) = .ok (.tuple #[V c s, goInt st]) X1 ∧
      X1.ownsRow w0.heap.size 3 1 (V c s) (ids c s).length (rowC (ids c s)) ∧ X1.heap[W.heap.size]? = some (.cells #[.int .i64 k] 3 (0, 0)) ∧ X1.heap.size = W.heap.size + 1 ∧ w0.heap.size ≤ X1.heap.size ∧
      ∀ g cap w', w'.ownsRow w0.heap.size 3 1 (.slice (some ⟨g, 0, none⟩) ((ids c s).length + 1) cap) ((ids c s).length + 1) (rowC (ids c s) ++ [.int .i64 k]) → X1.grownBy w' (V c s).ownBlock → ((V c s).ownBlock = some g ∨ g = W.heap.size + 1) → g < w'.heap.size →
        ∃ w3, (Instr.entryStore 75 (.map (some cb)) (goInt st) (.slice (some ⟨g, 0, none⟩) ((ids c s).length + 1) cap)).run Try.prog w' = .ok () w3 ∧ ∃ V2 own2, In2 w0 w3 mb r nW M hs left cnt wb (N + 1) C V2 (upd2 ids c s (ids c s ++ [k])) own2 m2 r2 n2 arms left2 cnt2 := by
  obtain ⟨st, X1, h1, h2, h3, h4, h5⟩ := h.in1.cr.add hc s k hn
  refine ⟨st, X1, h1, h2, h3, h4, ?_, fun g cap w' a1 a2 a3 a4 => ?_⟩
  · have := h.in1.cr.map.lt
    have := h.in1.cr.wbB
    omega
  · obtain ⟨w3, b1, b2, b3⟩ := h5 g cap w' a1 a2 a3 a4
    exact ⟨w3, b1, _, _, h.fr b2 b3⟩
end
section
variable {w0 w : World} {mb r nW : Nat} {M : Int → Value} {hs left : Int → Bool} {cnt wb N : Nat} {C : Int → Option Nat} {V : Int → Stc → Value} {ids : Int → Stc → List Int} {own : Nat → Option Lb} {m2 r2 n2 : Nat} {arms : List Hd} {left2 : Int → Bool} {cnt2 : Nat}
variable {ops : Array Oper} {rest : List Oper} {o : Oper} {a : Act} {Q : Exit → Act → World → Prop}
theorem nextA (hg : o.guard = none) (it : Operand) (hop : o.op = Op.next it false) (hit : a.eval it = .pointer (some ⟨r, 0, none⟩)) (f : Int → Ag) (hv : WhoV w0 f M) (hr0 : w0.heap.size ≤ r) (h : In1 w0 w mb r nW M hs left cnt wb N C V ids own)
    (hDone : (∀ c, I64 c → left c = false) → wpList Try.prog ops Q rest (a.put o.dst (.tuple #[.bool false])) w)
    (hMore : ∀ (k : Int) (w' : World) (cnt' : Nat) (ap : Option Addr) (ac : Nat) (hp : Option Addr) (hc : Nat), I64 k → left k = true → hs k = true → Bx (In1 w0 w' mb r nW M hs (fun d => left d && !(d == k)) cnt' wb N C V ids own) → cnt' < cnt → Bx (AgR w0 (f k) ap ac hp hc) → (Instr.entry (.pointer (some ⟨r, 0, none⟩))).run Try.prog w' = .ok (.tuple #[.int .i64 k, .agg #[.int .i64 (f k).id, .bool (f k).awake, .slice ap (f k).arms.length ac, .slice hp (f k).held.length hc]]) w' → wpList Try.prog ops Q rest (a.put o.dst (.tuple #[.bool true, .int .i64 k, .agg #[.int .i64 (f k).id, .bool (f k).awake, .slice ap (f k).arms.length ac, .slice hp (f k).held.length hc]])) w') :
    wpList Try.prog ops Q (o :: rest) a w := by
  refine nextI hg it hop mb r nW zV M hs left cnt hit h.rg hDone (fun k w' cnt' h64 hl hh hr hlt hgr hz hen => ?_)
  obtain ⟨ap, ac, hp, hc, e, rM⟩ := hv k
  rw [e] at hen ⊢
  exact hMore k w' cnt' ap ac hp hc h64 hl hh ⟨h.next hr hgr hr0⟩ hlt ⟨rM⟩ hen
theorem nextS (hg : o.guard = none) (it : Operand) (hop : o.op = Op.next it false) (hit : a.eval it = .pointer (some ⟨r2, 0, none⟩)) (h : In2 w0 w mb r nW M hs left cnt wb N C V ids own m2 r2 n2 arms left2 cnt2)
    (hDone : (∀ c, I64 c → left2 c = false) → wpList Try.prog ops Q rest (a.put o.dst (.tuple #[.bool false])) w)
    (hMore : ∀ (c : Int) (w' : World) (cnt' : Nat), I64 c → left2 c = true → onI arms c = true → Bx (In2 w0 w' mb r nW M hs left cnt wb N C V ids own m2 r2 n2 arms (fun d => left2 d && !(d == c)) cnt') → cnt' < cnt2 → (Instr.entry (.pointer (some ⟨r2, 0, none⟩))).run Try.prog w' = .ok (.tuple #[.int .i64 c, .agg #[.bool (waitI arms c).awake, .bool (waitI arms c).sends, .bool (waitI arms c).recvs]]) w' → wpList Try.prog ops Q rest (a.put o.dst (.tuple #[.bool true, .int .i64 c, .agg #[.bool (waitI arms c).awake, .bool (waitI arms c).sends, .bool (waitI arms c).recvs]])) w') :
    wpList Try.prog ops Q (o :: rest) a w :=
  nextI hg it hop m2 r2 n2 (stV st0) (fun c => stV (waitI arms c)) (onI arms) left2 cnt2 hit h.rg2 hDone (fun c w' cnt' h64 hl hh hr hlt hgr hz hen => hMore c w' cnt' h64 hl hh ⟨h.next hr hgr⟩ hlt hen)
end
/-! ### one more is entered: all that the walk asks for -/
def AddF (w0 W : World) (cb : Nat) (s : Stc) (k : Int) (FIN : World → Prop) : Prop := ∃ (st : Nat) (X1 : World) (sp : Option Addr) (sc : Nat) (iz : List Int),
  (Instr.mapEntry 75 (.map (some cb)) (.agg #[.bool s.awake, .bool s.sends, .bool s.recvs])).run Try.prog (W.alloc (.cells #[.int .i64 k] 3)) = .ok (.tuple #[.slice sp iz.length sc, .int .i64 st]) X1 ∧ iz.length ≤ 100000 ∧
  Bx (X1.ownsRow w0.heap.size 3 1 (.slice sp iz.length sc) iz.length (rowC iz)) ∧ Bx (X1.heap[W.heap.size]? = some (.cells #[.int .i64 k] 3 (0, 0))) ∧ X1.heap.size = W.heap.size + 1 ∧ w0.heap.size ≤ X1.heap.size ∧
  Bx (∀ g cap w', w'.ownsRow w0.heap.size 3 1 (.slice (some ⟨g, 0, none⟩) (iz.length + 1) cap) (iz.length + 1) (rowC iz ++ [.int .i64 k]) → X1.grownBy w' (Value.slice sp iz.length sc).ownBlock → ((Value.slice sp iz.length sc).ownBlock = some g ∨ g = W.heap.size + 1) → g < w'.heap.size →
    ∃ w3, (Instr.entryStore 75 (.map (some cb)) (.int .i64 st) (.slice (some ⟨g, 0, none⟩) (iz.length + 1) cap)).run Try.prog w' = .ok () w3 ∧ Bx (FIN w3))
section
variable {w0 W : World} {mb r nW : Nat} {M : Int → Value} {hs left : Int → Bool} {cnt wb N : Nat} {C : Int → Option Nat} {V : Int → Stc → Value} {ids : Int → Stc → List Int} {own : Nat → Option Lb} {m2 r2 n2 : Nat} {arms : List Hd} {left2 : Int → Bool} {cnt2 : Nat}
theorem In2.addF (h : In2 w0 W mb r nW M hs left cnt wb N C V ids own m2 r2 n2 arms left2 cnt2) {c : Int} {cb : Nat} (hc : C c = some cb) (s : Stc) (k : Int) (hn : N < maxLen) (hl : (ids c s).length ≤ 100000) (FIN : World → Prop)
    (hF : ∀ w3 V2 own2, In2 w0 w3 mb r nW M hs left cnt wb (N + 1) C V2 (upd2 ids c s (ids c s ++ [k])) own2 m2 r2 n2 arms left2 cnt2 → FIN w3) : AddF w0 W cb s k FIN := by
  obtain ⟨st, X1, h1, h2, h3, h4, h5, h6⟩ := h.add hc s k hn
  have h1' : (Instr.mapEntry 75 (.map (some cb)) (.agg #[.bool s.awake, .bool s.sends, .bool s.recvs])).run Try.prog (W.alloc (.cells #[.int .i64 k] 3)) = .ok (.tuple #[V c s, .int .i64 st]) X1 := h1
  obtain ⟨sp, sc, e⟩ : ∃ sp sc, V c s = .slice sp (ids c s).length sc := by
    rcases h2.2 with ⟨x1, x2⟩ | ⟨g, cap, cur, x1, _⟩
    · exact ⟨none, 0, by rw [x1, x2]⟩
    · exact ⟨_, cap, x1⟩
  rw [e] at h1' h2 h6
  refine ⟨st, X1, sp, sc, ids c s, h1', hl, ⟨h2⟩, ⟨h3⟩, h4, h5, ⟨fun g cap w' a1 a2 a3 a4 => ?_⟩⟩
  obtain ⟨w3, b1, V2, own2, b2⟩ := h6 g cap w' a1 a2 a3 a4
  exact ⟨w3, b1, ⟨hF w3 V2 own2 b2⟩⟩
/-- .. where a stance lies in block g -/
theorem In2.enter (h : In2 w0 W mb r nW M hs left cnt wb N C V ids own m2 r2 n2 arms left2 cnt2) {f : Int → Ag} {P : Int → Int → Prop} (hct : Ct f C ids P) {c k : Int} (h64 : I64 c) (hP : ¬ P k c) (hn : N + 1 < maxLen) {ks : List Int} (hks : ∀ k c, P k c → k ∈ ks) (hkl : ks.length ≤ 100000) {g : Nat} (hg : W.heap[g]? = some (.cells #[.bool (waitI (f k).arms c).awake, .bool (waitI (f k).arms c).sends, .bool (waitI (f k).arms c).recvs] 72 (0, 0))) (hgo : Out own wb W g) (FIN : World → Prop)
    (hF : ∀ w3 C' V' ids' own', In2 w0 w3 mb r nW M hs left cnt wb (N + 2) C' V' ids' own' m2 r2 n2 arms left2 cnt2 → Ct f C' ids' (fun k' c' => P k' c' ∨ k' = k ∧ c' = c) → FIN w3) :
    ((Instr.lookup 63 (.map (some wb)) (.int .i64 c) false).run Try.prog W = .ok (.map none) W ∧ (binOp BinOp.eql 75 (Value.map none) (Value.map none)).run Try.prog W = .ok (.bool true) W ∧
      ∃ w6, (Instr.mapUpdate 63 (.map (some wb)) (.int .i64 c) (.map (some W.heap.size))).run Try.prog (W.alloc (.map #[] 0)) = .ok () w6 ∧ (Instr.lookup 63 (.map (some wb)) (.int .i64 c) false).run Try.prog w6 = .ok (.map (some W.heap.size)) w6 ∧
        (w6.cell? ⟨g, 0, none⟩ = some (.bool (waitI (f k).arms c).awake) ∧ w6.cell? ⟨g, 1, none⟩ = some (.bool (waitI (f k).arms c).sends) ∧ w6.cell? ⟨g, 2, none⟩ = some (.bool (waitI (f k).arms c).recvs)) ∧ Bx (AddF w0 w6 W.heap.size (waitI (f k).arms c) k FIN)) ∨
    (∃ cb, (Instr.lookup 63 (.map (some wb)) (.int .i64 c) false).run Try.prog W = .ok (.map (some cb)) W ∧ (binOp BinOp.eql 75 (Value.map (some cb)) (Value.map none)).run Try.prog W = .ok (.bool false) W ∧
        (W.cell? ⟨g, 0, none⟩ = some (.bool (waitI (f k).arms c).awake) ∧ W.cell? ⟨g, 1, none⟩ = some (.bool (waitI (f k).arms c).sends) ∧ W.cell? ⟨g, 2, none⟩ = some (.bool (waitI (f k).arms c).recvs)) ∧ Bx (AddF w0 W cb (waitI (f k).arms c) k FIN)) := by
  have hlk := h.in1.cr.map.look Try.underlying63 Try.zeroValue75 h64
  have hlen := fun s => Nat.le_trans (hct.len hks c s) hkl
  cases hC : C c with
  | none =>
    left
    simp only [hC] at hlk
    refine ⟨hlk, eql_map W none, ?_⟩
    obtain ⟨w6, hmu, hc6, hf6⟩ := h.in1.cr.fresh hC h64 (by omega)
    have h6 := h.fr hc6 hf6
    have hlk6 := hc6.map.look Try.underlying63 Try.zeroValue75 h64
    simp only [upd_same] at hlk6
    have hg6 := (hgo.fr hf6).2.trans hg
    refine ⟨w6, hmu, hlk6, ⟨cell_of hg6 rfl, cell_of hg6 rfl, cell_of hg6 rfl⟩, ⟨h6.addF (upd_same _ _ _) (waitI (f k).arms c) k hn (hlen _) FIN (fun w3 V2 own2 hi => hF w3 _ _ _ _ hi (hct.step hP (fun d => ?_)))⟩⟩
    by_cases e : d = c
    · subst e; rw [upd_same]; simp
    · rw [upd_other _ _ e]; simp [e]
  | some cb =>
    right
    simp only [hC] at hlk
    refine ⟨cb, hlk, eql_map W (some cb), ⟨cell_of hg rfl, cell_of hg rfl, cell_of hg rfl⟩, ⟨h.addF hC (waitI (f k).arms c) k (by omega) (hlen _) FIN (fun w3 V2 own2 hi => hF w3 C V2 _ own2 (hi.fr (hi.in1.cr.mono (Nat.le_succ _)) (Fr.refl _ _ _)) (hct.step hP (fun d => ?_)))⟩⟩
    constructor
    · exact fun x => .inl x
    · rintro (x | rfl)
      · exact x
      · rw [hC]; simp
end
end Go.Proofs.Ytjabdhmkibahlaa
