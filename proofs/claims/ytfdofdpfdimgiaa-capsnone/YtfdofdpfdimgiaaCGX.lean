import Derived.Test.YtfdofdpfdimgiaaCGR
namespace Go.Proofs.Ytfdofdpfdimgiaa
open Go.RowKit Go.MapKept Go.ChangeMaps Go.WideShapes
set_option linter.unusedVariables false
set_option linter.unusedSimpArgs false

/-! ### who stands where, under way -/
abbrev Lb : Type := Int × Option Stc
def rowC (l : List Int) : List Value := l.map (Value.int .i64)
structure CrI (W : World) (B wb N : Nat) (C : Int → Option Nat) (V : Int → Stc → Value) (ids : Int → Stc → List Int) (own : Nat → Option Lb) : Prop where
  map : MpI W wb N (.map none) (fun c => .map (C c)) (fun c => (C c).isSome)
  cr : ∀ c cb, C c = some cb → ∃ hS, MpS W cb N (V c) hS ∧ ∀ s, hS s = false → ids c s = []
  row : ∀ c s, C c ≠ none → W.ownsRow B 3 1 (V c s) (ids c s).length (rowC (ids c s))
  non : ∀ c s, C c = none → ids c s = []
  lc : ∀ c cb, C c = some cb → own cb = some (c, none)
  lr : ∀ c s b, C c ≠ none → (V c s).ownBlock = some b → own b = some (c, some s)
  wbo : own wb = none
  low : ∀ b, own b ≠ none → B ≤ b ∧ b < W.heap.size
  wbB : B ≤ wb
/-- what stays -/
structure Fr (wb : Nat) (own own' : Nat → Option Lb) (W W' : World) : Prop where
  os : W'.os = W.os
  tape : W'.tape = W.tape
  output : W'.output = W.output
  size : W.heap.size ≤ W'.heap.size
  keep : ∀ b, b < W.heap.size → own b = none → b ≠ wb → W'.heap[b]? = W.heap[b]?
  new : ∀ b, own' b ≠ none → own b ≠ none ∨ W.heap.size ≤ b
theorem CrI.same {W W' : World} {B wb N : Nat} {C : Int → Option Nat} {V : Int → Stc → Value} {ids : Int → Stc → List Int} {own : Nat → Option Lb} (h : CrI W B wb N C V ids own) (hz : W.heap.size ≤ W'.heap.size) (hk : ∀ b, (own b ≠ none ∨ b = wb) → W'.heap[b]? = W.heap[b]?) : CrI W' B wb N C V ids own :=
  ⟨h.map.same (hk wb (.inr rfl)), fun c cb hc => by
    obtain ⟨hS, h1, h2⟩ := h.cr c cb hc
    exact ⟨hS, h1.same (hk cb (.inl (by rw [h.lc c cb hc]; simp))), h2⟩, fun c s hc => own_same (h.row c s hc) (fun g o hg ho => (hk g (.inl (by rw [h.lr c s g hc hg]; simp))).trans ho), h.non, h.lc, h.lr, h.wbo, fun b hb => ⟨(h.low b hb).1, Nat.lt_of_lt_of_le (h.low b hb).2 hz⟩, h.wbB⟩
theorem CrI.below {W W' : World} {B wb N : Nat} {C : Int → Option Nat} {V : Int → Stc → Value} {ids : Int → Stc → List Int} {own : Nat → Option Lb} (h : CrI W B wb N C V ids own) (hb : Below W.heap.size W W') : CrI W' B wb N C V ids own :=
  h.same hb.size (fun b hb' => hb.block b (by
    rcases hb' with h1 | rfl
    · exact (h.low b h1).2
    · exact h.map.lt))
theorem CrI.mono {W : World} {B wb N N' : Nat} {C : Int → Option Nat} {V : Int → Stc → Value} {ids : Int → Stc → List Int} {own : Nat → Option Lb} (h : CrI W B wb N C V ids own) (hn : N ≤ N') : CrI W B wb N' C V ids own :=
  ⟨h.map.mono hn, fun c cb hc => by
    obtain ⟨hS, h1, h2⟩ := h.cr c cb hc
    exact ⟨hS, h1.mono hn, h2⟩, h.row, h.non, h.lc, h.lr, h.wbo, h.low, h.wbB⟩
theorem cr_new (W : World) : CrI (W.alloc (.map #[] 0)) W.heap.size W.heap.size 0 (fun _ => none) (fun _ _ => nV) (fun _ _ => []) (fun _ => none) :=
  ⟨mp_new W (.map none), fun c cb h => (by cases h), fun c s h => absurd rfl h, fun _ _ _ => rfl, fun c cb h => (by cases h), fun c s b h => absurd rfl h, rfl, fun b h => absurd rfl h, Nat.le_refl _⟩
/-- nobody stood there so far -/
theorem CrI.fresh {W : World} {B wb N : Nat} {C : Int → Option Nat} {V : Int → Stc → Value} {ids : Int → Stc → List Int} {own : Nat → Option Lb} (h : CrI W B wb N C V ids own) {c : Int} (hc : C c = none) (h64 : I64 c) (hn : N < maxLen) :
    ∃ w3, (Instr.mapUpdate 65 (.map (some wb)) (.int .i64 c) (.map (some W.heap.size))).run Try.prog (W.alloc (.map #[] 0)) = .ok () w3 ∧
      CrI w3 B wb (N + 1) (upd C c (some W.heap.size)) (upd V c (fun _ => nV)) ids (fun b => if b = W.heap.size then some (c, none) else own b) ∧ Fr wb own (fun b => if b = W.heap.size then some (c, none) else own b) W w3 := by
  have hb := below1 W (.map #[] 0)
  have hX := h.below hb
  have hwl := h.map.lt
  obtain ⟨w3, hr, hm, hg⟩ := hX.map.put Try.underlying65 h64 hn (.map (some W.heap.size))
  have hz3 : (W.alloc (.map #[] 0)).heap.size ≤ w3.heap.size := hg.size
  have hkeep : ∀ b, b < W.heap.size + 1 → b ≠ wb → w3.heap[b]? = (W.alloc (.map #[] 0)).heap[b]? := fun b hbl hne => hg.block b (by simpa using hbl) (fun e => hne (by injection e))
  have hown : ∀ b, own b ≠ none → b < W.heap.size ∧ b ≠ wb := fun b hb' => ⟨(h.low b hb').2, fun e => hb' (by rw [e]; exact h.wbo)⟩
  have hz : W.heap.size + 1 ≤ w3.heap.size := by simpa using hz3
  refine ⟨w3, hr, ⟨?_, fun d cb hd => ?_, fun d s hd => ?_, fun d s hd => ?_, fun d cb hd => ?_, fun d s b hd hb' => ?_, ?_, fun b hb' => ?_, h.wbB⟩, ⟨hg.os, hg.tape, hg.output, by omega, fun b hbl _ hne => (hkeep b (by omega) hne).trans (Below.heap_alloc _ _ _ hbl), fun b hb' => ?_⟩⟩
  · refine hm.ext (fun d => ?_) (fun d => ?_)
    · by_cases e : d = c
      · subst e; rw [upd_same, upd_same]
      · rw [upd_other _ _ e, upd_other _ _ e]
    · by_cases e : d = c
      · subst e; rw [upd_same, upd_same]; rfl
      · rw [upd_other _ _ e, upd_other _ _ e]
  · by_cases e : d = c
    · subst e
      rw [upd_same] at hd ⊢
      cases hd
      exact ⟨fun _ => false, ((ms_new W).same (hkeep _ (by omega) (by omega))).mono (Nat.zero_le _), fun s _ => h.non d s hc⟩
    · rw [upd_other _ _ e] at hd ⊢
      obtain ⟨hS, h1, h2⟩ := hX.cr d cb hd
      have := hown cb (by rw [h.lc d cb hd]; simp)
      exact ⟨hS, (h1.same (hkeep cb (by omega) this.2)).mono (Nat.le_succ _), h2⟩
  · by_cases e : d = c
    · subst e
      rw [upd_same, h.non d s hc]
      exact ⟨rfl, .inl ⟨rfl, rfl⟩⟩
    · rw [upd_other _ _ e] at hd ⊢
      exact own_same (hX.row d s hd) (fun g o hg' ho => by
        have := hown g (by rw [h.lr d s g hd hg']; simp)
        exact (hkeep g (by omega) this.2).trans ho)
  · by_cases e : d = c
    · subst e; rw [upd_same] at hd; cases hd
    · rw [upd_other _ _ e] at hd; exact h.non d s hd
  · by_cases e : d = c
    · subst e
      rw [upd_same] at hd
      cases hd
      rw [if_pos rfl]
    · rw [upd_other _ _ e] at hd
      have := hown cb (by rw [h.lc d cb hd]; simp)
      rw [if_neg (by omega)]
      exact h.lc d cb hd
  · by_cases e : d = c
    · subst e; rw [upd_same] at hb'; cases hb'
    · rw [upd_other _ _ e] at hd hb'
      have h1 := h.lr d s b hd hb'
      have := hown b (by rw [h1]; simp)
      rw [if_neg (by omega)]
      exact h1
  · show (if wb = W.heap.size then _ else own wb) = none
    rw [if_neg (by omega)]
    exact h.wbo
  · by_cases e : b = W.heap.size
    · have := h.wbB
      omega
    · have hb2 : own b ≠ none := by rw [if_neg e] at hb'; exact hb'
      have := h.low b hb2
      omega
  · by_cases e : b = W.heap.size
    · exact .inr (by omega)
    · rw [if_neg e] at hb'; exact .inl hb'
def upd2 {α : Type} (f : Int → Stc → α) (c : Int) (s : Stc) (x : α) : Int → Stc → α := upd f c (updS (f c) s x)
theorem upd2_same {α : Type} (f : Int → Stc → α) (c : Int) (s : Stc) (x : α) : upd2 f c s x c s = x := by unfold upd2; rw [upd_same, updS_same]
theorem upd2_row {α : Type} (f : Int → Stc → α) (c : Int) {s t : Stc} (x : α) (h : t ≠ s) : upd2 f c s x c t = f c t := by unfold upd2; rw [upd_same, updS_other _ _ h]
theorem upd2_other {α : Type} (f : Int → Stc → α) {c d : Int} (s t : Stc) (x : α) (h : d ≠ c) : upd2 f c s x d t = f d t := by unfold upd2; rw [upd_other _ _ h]
def relab (own : Nat → Option Lb) (L : Lb) (g : Nat) : Nat → Option Lb := fun b => if b = g then some L else if (own b).any (fun l => l.1 == L.1 && (match l.2, L.2 with | some x, some y => x.awake == y.awake && x.sends == y.sends && x.recvs == y.recvs | none, none => true | _, _ => false)) then none else own b
theorem lb_any (o : Option Lb) (c : Int) (s : Stc) : (o.any (fun l => l.1 == c && (match l.2, (some s : Option Stc) with | some x, some y => x.awake == y.awake && x.sends == y.sends && x.recvs == y.recvs | none, none => true | _, _ => false))) = true ↔ o = some (c, some s) := by
  cases o with
  | none => simp
  | some l =>
    obtain ⟨d, t⟩ := l
    cases t with
    | none => simp
    | some t =>
      obtain ⟨a1, a2, a3⟩ := t
      obtain ⟨b1, b2, b3⟩ := s
      simp [and_assoc]
theorem relab_at (own : Nat → Option Lb) (L : Lb) (g : Nat) : relab own L g g = some L := if_pos rfl
theorem relab_other {own : Nat → Option Lb} {c : Int} {s : Stc} {g b : Nat} {L' : Lb} (h : own b = some L') (hne : L' ≠ (c, some s)) (hg : b ≠ g) : relab own (c, some s) g b = some L' := by
  unfold relab
  rw [if_neg hg, if_neg (fun e => hne (by
    have := (lb_any (own b) c s).1 e
    rw [h] at this
    exact Option.some.inj this)), h]
theorem relab_some {own : Nat → Option Lb} {c : Int} {s : Stc} {g b : Nat} (h : relab own (c, some s) g b ≠ none) : b = g ∨ own b ≠ none ∧ own b ≠ some (c, some s) := by
  unfold relab at h
  split at h
  · exact .inl ‹_›
  · split at h
    · exact absurd rfl h
    · rename_i h1 h2
      exact .inr ⟨h, fun e => h2 ((lb_any (own b) c s).2 e)⟩
/-- one more stands there -/
theorem CrI.add {W : World} {B wb N : Nat} {C : Int → Option Nat} {V : Int → Stc → Value} {ids : Int → Stc → List Int} {own : Nat → Option Lb} (h : CrI W B wb N C V ids own) {c : Int} {cb : Nat} (hc : C c = some cb) (s : Stc) (k : Int) (hn : N < maxLen) :
    ∃ (st : Nat) (X1 : World), (Instr.mapEntry 77 (.map (some cb)) (stV s)).run Try.prog (W.alloc (.cells #[.int .i64 k] 3)) = .ok (.tuple #[V c s, goInt st]) X1 ∧
      X1.ownsRow B 3 1 (V c s) (ids c s).length (rowC (ids c s)) ∧ X1.heap[W.heap.size]? = some (.cells #[.int .i64 k] 3 (0, 0)) ∧ X1.heap.size = W.heap.size + 1 ∧
      ∀ g cap w', w'.ownsRow B 3 1 (.slice (some ⟨g, 0, none⟩) ((ids c s).length + 1) cap) ((ids c s).length + 1) (rowC (ids c s) ++ [.int .i64 k]) → X1.grownBy w' (V c s).ownBlock → ((V c s).ownBlock = some g ∨ g = W.heap.size + 1) → g < w'.heap.size →
        ∃ w3, (Instr.entryStore 77 (.map (some cb)) (goInt st) (.slice (some ⟨g, 0, none⟩) ((ids c s).length + 1) cap)).run Try.prog w' = .ok () w3 ∧
          CrI w3 B wb (N + 1) C (upd2 V c s (.slice (some ⟨g, 0, none⟩) ((ids c s).length + 1) cap)) (upd2 ids c s (ids c s ++ [k])) (relab own (c, some s) g) ∧ Fr wb own (relab own (c, some s) g) W w3 := by
  have hb := below1 W (.cells #[.int .i64 k] 3)
  have hX := h.below hb
  have hwl := h.map.lt
  have hcn : C c ≠ none := by rw [hc]; simp
  have hcb : own cb = some (c, none) := h.lc c cb hc
  have hcl := h.low cb (by rw [hcb]; simp)
  have hcw : cb ≠ wb := fun e => by rw [e, h.wbo] at hcb; cases hcb
  obtain ⟨hS, hmS, hids⟩ := hX.cr c cb hc
  obtain ⟨st, X1, hr, hg1, hz1, hst⟩ := hmS.entry s hn
  have hzX : (W.alloc (.cells #[.int .i64 k] 3)).heap.size = W.heap.size + 1 := by simp
  have k1 : ∀ b, b < W.heap.size + 1 → b ≠ cb → X1.heap[b]? = (W.alloc (.cells #[.int .i64 k] 3)).heap[b]? := fun b hbl hne => hg1.block b (by omega) (fun e => hne (by injection e))
  have hrowne : ∀ d t b, C d ≠ none → (V d t).ownBlock = some b → b ≠ cb ∧ b ≠ wb ∧ b < W.heap.size := fun d t b hd hb' => by
    have h1 := h.lr d t b hd hb'
    refine ⟨fun e => ?_, fun e => ?_, (h.low b (by rw [h1]; simp)).2⟩
    · rw [e, hcb] at h1; cases h1
    · rw [e, h.wbo] at h1; cases h1
  refine ⟨st, X1, hr, own_same (hX.row c s hcn) (fun g o hg ho => ?_), (k1 _ (by omega) (by omega)).trans (World.alloc_heap_new _ _), by omega, fun g cap w' how hgr hgi hgl => ?_⟩
  · have := hrowne c s g hcn hg
    exact (k1 g (by omega) this.1).trans ho
  · have hgn : g ≠ cb ∧ g ≠ wb := by
      rcases hgi with h1 | h1
      · have := hrowne c s g hcn h1
        exact ⟨this.1, this.2.1⟩
      · exact ⟨by omega, by omega⟩
    have k2 : ∀ b, b < W.heap.size + 1 → (V c s).ownBlock ≠ some b → w'.heap[b]? = X1.heap[b]? := fun b hbl hne => hgr.block b (by omega) (fun e => hne e.symm)
    obtain ⟨w3, hr3, hm3, hg3, hz3⟩ := hst w' (.slice (some ⟨g, 0, none⟩) ((ids c s).length + 1) cap) (k2 cb (by omega) (fun e => (hrowne c s cb hcn e).1 rfl))
    have hzw := hgr.size
    have k3 : ∀ b, b < w'.heap.size → b ≠ cb → w3.heap[b]? = w'.heap[b]? := fun b hbl hne => hg3.block b hbl (fun e => hne (by injection e))
    have kall : ∀ b, b < W.heap.size → b ≠ cb → (V c s).ownBlock ≠ some b → w3.heap[b]? = W.heap[b]? := fun b hbl h1 h2 => by
      rw [k3 b (by omega) h1, k2 b (by omega) h2, k1 b (by omega) h1]
      exact Below.heap_alloc _ _ _ hbl
    have hcg : ∀ d, d ≠ c → ∀ cd, C d = some cd → cd < W.heap.size ∧ cd ≠ cb ∧ (V c s).ownBlock ≠ some cd ∧ cd ≠ g := fun d hd cd hcd => by
      have h1 := h.lc d cd hcd
      have h2 := h.low cd (by rw [h1]; simp)
      have h3 : (V c s).ownBlock ≠ some cd := fun e => by
        have := h.lr c s cd hcn e
        rw [h1] at this
        cases this
      refine ⟨h2.2, fun e => ?_, h3, fun e => ?_⟩
      · rw [e, hcb] at h1
        cases h1
        exact hd rfl
      · rcases hgi with h4 | h4
        · exact h3 (by rw [e]; exact h4)
        · omega
    have hrg : ∀ d t b, C d ≠ none → (d, t) ≠ (c, s) → (V d t).ownBlock = some b → (V c s).ownBlock ≠ some b ∧ b ≠ g := fun d t b hd hne hb' => by
      have h1 := h.lr d t b hd hb'
      have h3 : (V c s).ownBlock ≠ some b := fun e => by
        have := h.lr c s b hcn e
        rw [h1] at this
        cases this
        exact hne rfl
      refine ⟨h3, fun e => ?_⟩
      rcases hgi with h4 | h4
      · exact h3 (by rw [e]; exact h4)
      · have := (hrowne d t b hd hb').2.2
        omega
    have hB := h.wbB
    refine ⟨w3, hr3, ⟨?_, fun d cd hcd => ?_, fun d t hd => ?_, fun d t hd => ?_, fun d cd hcd => ?_, fun d t b hd hb' => ?_, ?_, fun b hb' => ?_, h.wbB⟩, ⟨?_, ?_, ?_, by omega, fun b hbl hob hbw => ?_, fun b hb' => ?_⟩⟩
    · refine (h.map.same (kall wb hwl (fun e => hcw e.symm) (fun e => (hrowne c s wb hcn e).2.1 rfl))).mono (Nat.le_succ _)
    · by_cases e : d = c
      · subst e
        rw [hc] at hcd
        cases hcd
        refine ⟨updS hS s true, ?_, fun t ht => ?_⟩
        · have : upd2 V d s (.slice (some ⟨g, 0, none⟩) ((ids d s).length + 1) cap) d = updS (V d) s (.slice (some ⟨g, 0, none⟩) ((ids d s).length + 1) cap) := by unfold upd2; rw [upd_same]
          rw [this]
          exact hm3
        · by_cases e2 : t = s
          · subst e2; rw [updS_same] at ht; cases ht
          · rw [updS_other _ _ e2] at ht
            rw [upd2_row _ _ _ e2]
            exact hids t ht
      · obtain ⟨hS', h1, h2⟩ := h.cr d cd hcd
        obtain ⟨x1, x2, x3, x4⟩ := hcg d e cd hcd
        have ev : upd2 V c s (.slice (some ⟨g, 0, none⟩) ((ids c s).length + 1) cap) d = V d := by unfold upd2; rw [upd_other _ _ e]
        rw [ev]
        refine ⟨hS', (h1.same (kall cd x1 x2 x3)).mono (Nat.le_succ _), fun t ht => ?_⟩
        rw [upd2_other _ _ _ _ e]
        exact h2 t ht
    · by_cases e : (d, t) = (c, s)
      · cases e
        rw [upd2_same, upd2_same]
        have h1 : w3.ownsRow B 3 1 (.slice (some ⟨g, 0, none⟩) ((ids c s).length + 1) cap) ((ids c s).length + 1) (rowC (ids c s) ++ [.int .i64 k]) := own_same how (fun g' o hg' ho => by cases hg'; exact (k3 g hgl hgn.1).trans ho)
        simpa [rowC] using h1
      · have hev : upd2 V c s (.slice (some ⟨g, 0, none⟩) ((ids c s).length + 1) cap) d t = V d t ∧ upd2 ids c s (ids c s ++ [k]) d t = ids d t := by
          by_cases e1 : d = c
          · subst e1
            have e2 : t ≠ s := fun x => e (by rw [x])
            exact ⟨upd2_row _ _ _ e2, upd2_row _ _ _ e2⟩
          · exact ⟨upd2_other _ _ _ _ e1, upd2_other _ _ _ _ e1⟩
        rw [hev.1, hev.2]
        exact own_same (h.row d t hd) (fun g' o hg' ho => by
          have h1 := hrowne d t g' hd hg'
          have h2 := hrg d t g' hd e hg'
          exact (kall g' h1.2.2 h1.1 h2.1).trans ho)
    · have e1 : d ≠ c := fun x => hcn (by rw [← x]; exact hd)
      rw [upd2_other _ _ _ _ e1]
      exact h.non d t hd
    · have h1 := h.lc d cd hcd
      by_cases e : d = c
      · subst e
        rw [hc] at hcd
        cases hcd
        exact relab_other h1 (by simp) (fun x => hgn.1 x.symm)
      · exact relab_other h1 (by simp) (hcg d e cd hcd).2.2.2
    · by_cases e : (d, t) = (c, s)
      · cases e
        rw [upd2_same] at hb'
        cases hb'
        exact relab_at _ _ _
      · have hev : upd2 V c s (.slice (some ⟨g, 0, none⟩) ((ids c s).length + 1) cap) d t = V d t := by
          by_cases e1 : d = c
          · subst e1
            exact upd2_row _ _ _ (fun x => e (by rw [x]))
          · exact upd2_other _ _ _ _ e1
        rw [hev] at hb'
        exact relab_other (h.lr d t b hd hb') (fun x => e (by cases x; rfl)) (hrg d t b hd e hb').2
    · have h1 := h.wbo
      unfold relab
      rw [if_neg (fun e => hgn.2 e.symm), h1]
      rfl
    · rcases relab_some hb' with rfl | ⟨h1, _⟩
      · exact ⟨own_base how b rfl, by omega⟩
      · have := h.low b h1
        exact ⟨this.1, by omega⟩
    · rw [hg3.os, hgr.os, hg1.os]; rfl
    · rw [hg3.tape, hgr.tape, hg1.tape]; rfl
    · rw [hg3.output, hgr.output, hg1.output]; rfl
    · exact kall b hbl (fun e => by rw [e, hcb] at hob; cases hob) (fun e => by rw [h.lr c s b hcn e] at hob; cases hob)
    · rcases relab_some hb' with rfl | ⟨h1, _⟩
      · rcases hgi with h4 | h4
        · exact .inl (by rw [h.lr c s b hcn h4]; simp)
        · exact .inr (by omega)
      · exact .inl h1
end Go.Proofs.Ytfdofdpfdimgiaa
