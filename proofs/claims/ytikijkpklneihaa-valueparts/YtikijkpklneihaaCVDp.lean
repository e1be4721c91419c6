import Derived.Test.YtikijkpklneihaaCVCy
namespace Go.Proofs.Ytikijkpklneihaa
open Go.RowKit
set_option linter.unusedVariables false
set_option linter.unusedSimpArgs false

/-- of a block: the path at which its list stands, and the list -/
abbrev Gm := Nat → Option (List Nat × List V)
def GE (G G' : Gm) : Prop := ∀ g p, G g = some p → G' g = some p
/-- a list that was converted: none, or in a block of its path -/
def ChG (G : Gm) (π : List Nat) (q : Option Addr) (c : Nat) (l : List V) : Prop := (l = [] ∧ q = none ∧ c = 0) ∨ ∃ g, q = some ⟨g, 0, none⟩ ∧ c = l.length ∧ G g = some (π, l)
theorem ChG.ge {G G' : Gm} {π : List Nat} {q : Option Addr} {c : Nat} {l : List V} (h : ChG G π q c l) (he : GE G G') : ChG G' π q c l := by
  rcases h with h | ⟨g, h1, h2, h3⟩
  · exact .inl h
  · exact .inr ⟨g, h1, h2, he _ _ h3⟩
/-- an element of a row; those from n on are as they were -/
structure ElG (W : World) (B : Nat) (G : Gm) (n b : Nat) (π : List Nat) (i : Nat) (x : V) : Prop where
  c0 : W.cell? ⟨b, i * 3, none⟩ = some (.int .i64 x.k)
  c1 : W.cell? ⟨b, i * 3 + 1, none⟩ = some (.int .i64 x.n)
  k64 : I64 x.k
  n64 : I64 x.n
  c2 : ∃ q c, W.cell? ⟨b, i * 3 + 2, none⟩ = some (.slice q x.l.length c) ∧ (n ≤ i → SlV W B q c x.l) ∧ (i < n → ChG G (π ++ [i]) q c x.l)
structure RwG (W : World) (lo B : Nat) (G : Gm) (n b : Nat) (π : List Nat) (l : List V) : Prop where
  ge : lo ≤ b
  pos : 0 < l.length
  blk : ∃ cur, W.heap[b]? = some (.cells cur 24 (0, 0)) ∧ cur.size = l.length * 3
  el : ∀ i (h : i < l.length), ElG W B G n b π i l[i]
def OwM (W : World) (lo B : Nat) (G : Gm) (d : Nat → Nat) : Prop := ∀ b π l, G b = some (π, l) → RwG W lo B G (d b) b π l
theorem RwG.lt {W : World} {lo B : Nat} {G : Gm} {n b : Nat} {π : List Nat} {l : List V} (h : RwG W lo B G n b π l) : b < W.heap.size := by
  obtain ⟨cur, h1, _⟩ := h.blk
  exact (Array.getElem?_eq_some_iff.1 h1).1
theorem OwM.lt {W : World} {lo B : Nat} {G : Gm} {d : Nat → Nat} (h : OwM W lo B G d) {b : Nat} {p : List Nat × List V} (hb : G b = some p) : b < W.heap.size := (h b p.1 p.2 hb).lt
theorem OwM.new_none {W : World} {lo B : Nat} {G : Gm} {d : Nat → Nat} (h : OwM W lo B G d) : G W.heap.size = none := by
  cases hg : G W.heap.size with
  | none => rfl
  | some p => exact absurd (h.lt hg) (Nat.lt_irrefl _)
theorem RwG.keep {W W' : World} {lo B : Nat} {G G' : Gm} {n b : Nat} {π : List Nat} {l : List V} (h : RwG W lo B G n b π l) (hb : W'.heap[b]? = W.heap[b]?) (hl : Lo B W W') (he : GE G G') : RwG W' lo B G' n b π l := by
  have hc : ∀ o, W'.cell? ⟨b, o, none⟩ = W.cell? ⟨b, o, none⟩ := fun o => by simp [World.cell?, hb]
  refine ⟨h.ge, h.pos, by rw [hb]; exact h.blk, fun i hi => ?_⟩
  have e := h.el i hi
  obtain ⟨q, c, e1, e2, e3⟩ := e.c2
  exact ⟨by rw [hc]; exact e.c0, by rw [hc]; exact e.c1, e.k64, e.n64, q, c, by rw [hc]; exact e1, fun x => (e2 x).lo hl, fun x => (e3 x).ge he⟩
theorem OwM.keep {W W' : World} {lo B : Nat} {G : Gm} {d : Nat → Nat} (h : OwM W lo B G d) (hb : ∀ b p, G b = some p → W'.heap[b]? = W.heap[b]?) (hl : Lo B W W') : OwM W' lo B G d :=
  fun b π l hg => (h b π l hg).keep (hb b _ hg) hl fun _ _ x => x
def upN (d : Nat → Nat) (b n : Nat) : Nat → Nat := fun x => if x = b then n else d x
def upG (G : Gm) (b : Nat) (p : List Nat × List V) : Gm := fun x => if x = b then some p else G x
theorem upG_ge {G : Gm} {b : Nat} {p : List Nat × List V} (h : G b = none) : GE G (upG G b p) := fun g q hg => by
  unfold upG
  split
  · rename_i e; subst e; rw [h] at hg; cases hg
  · exact hg
theorem set1_blk {W : World} {b : Nat} {cur : Array Value} {t : TypeId} (h : W.heap[b]? = some (.cells cur t (0, 0))) (o : Nat) (v : Value) : (W.setCell ⟨b, o, none⟩ v).heap[b]? = some (.cells (cur.setIfInBounds o v) t (0, 0)) := by
  simp [World.setCell, Array.getElem?_modify, h]
/-- a place is converted -/
theorem OwM.put {W : World} {lo B : Nat} {G : Gm} {d : Nat → Nat} (h : OwM W lo B G d) {b i : Nat} {π : List Nat} {l : List V} (hg : G b = some (π, l)) (hd : d b = i) (hi : i < l.length) {q : Option Addr} {c : Nat} (hq : ChG G (π ++ [i]) q c l[i].l) (hB : B ≤ lo) : OwM (W.setCell ⟨b, i * 3 + 2, none⟩ (.slice q l[i].l.length c)) lo B G (upN d b (i + 1)) := by
  intro b' π' l' hg'
  have hr := h b' π' l' hg'
  have hrb := h b π l hg
  have hlo : Lo B W (W.setCell ⟨b, i * 3 + 2, none⟩ (.slice q l[i].l.length c)) := Lo.blocks fun x hx => Below.heap_setCell _ _ _ _ (by show x ≠ b; have := hrb.ge; omega)
  by_cases hbb : b' = b
  · subst hbb
    rw [hg] at hg'
    injection hg' with hg'
    injection hg' with e1 e2
    subst e1 e2
    have hn : upN d b' (i + 1) b' = i + 1 := by simp [upN]
    rw [hn]
    rw [hd] at hr
    obtain ⟨cur, b1, b2⟩ := hr.blk
    refine ⟨hr.ge, hr.pos, ⟨cur.setIfInBounds (i * 3 + 2) (.slice q l[i].l.length c), set1_blk b1 _ _, by simpa using b2⟩, fun j hj => ?_⟩
    have e := hr.el j hj
    have hc : ∀ o, o ≠ i * 3 + 2 → (W.setCell ⟨b', i * 3 + 2, none⟩ (.slice q l[i].l.length c)).cell? ⟨b', o, none⟩ = W.cell? ⟨b', o, none⟩ := fun o ho => World.cell?_setCell_other _ _ _ _ (by intro e; injection e with _ e2; omega)
    obtain ⟨q', c', e1, e2, e3⟩ := e.c2
    by_cases hji : j = i
    · subst hji
      exact ⟨by rw [hc _ (by omega)]; exact e.c0, by rw [hc _ (by omega)]; exact e.c1, e.k64, e.n64, q, c, World.cell?_setCell_same _ _ _ e1, fun x => absurd x (by omega), fun _ => hq⟩
    · exact ⟨by rw [hc _ (by omega)]; exact e.c0, by rw [hc _ (by omega)]; exact e.c1, e.k64, e.n64, q', c', by rw [hc _ (by omega)]; exact e1, fun x => (e2 (by omega)).lo hlo, fun x => e3 (by omega)⟩
  · have hn : upN d b (i + 1) b' = d b' := by simp [upN, hbb]
    rw [hn]
    exact hr.keep (Below.heap_setCell _ _ _ _ (by show b' ≠ b; exact hbb)) hlo fun _ _ x => x
theorem RowV.get {W : World} {B : Nat} {l : List V} : ∀ {xs : List Value}, RowV W B l xs → ∀ i (h : i < l.length), xs[i * 3]? = some (.int .i64 l[i].k) ∧ xs[i * 3 + 1]? = some (.int .i64 l[i].n) ∧ I64 l[i].k ∧ I64 l[i].n ∧ ∃ q c, xs[i * 3 + 2]? = some (.slice q l[i].l.length c) ∧ SlV W B q c l[i].l := by
  induction l with
  | nil => intro xs h i hi; simp at hi
  | cons v vs ih =>
    intro xs h i hi
    obtain ⟨p, c, ys, rfl, h1, h2, h3, h4⟩ := h
    cases i with
    | zero => exact ⟨rfl, rfl, h2, h3, p, c, rfl, h1⟩
    | succ i =>
      have := ih h4 i (by simpa using hi)
      rw [show (i + 1) * 3 = i * 3 + 3 by omega]
      simpa using this
/-- a new row -/
theorem OwM.new {W W1 : World} {lo B : Nat} {G : Gm} {d : Nat → Nat} (h : OwM W lo B G d) {σ : List Nat} {m : List V} {xs : List Value} (hb : Below W.heap.size W W1) (hrow : RowV W B m xs) (hx : W1.heap[W.heap.size]? = some (.cells xs.toArray 24 (0, 0))) (hm : 0 < m.length) (hlo : lo ≤ W.heap.size) (hB : B ≤ W.heap.size) : OwM W1 lo B (upG G W.heap.size (σ, m)) (upN d W.heap.size 0) := by
  have hge : GE G (upG G W.heap.size (σ, m)) := upG_ge h.new_none
  have hl : Lo B W W1 := Lo.of (hb.mono hB)
  intro b π l hg
  by_cases hbb : b = W.heap.size
  · subst hbb
    have : upG G W.heap.size (σ, m) W.heap.size = some (σ, m) := by simp [upG]
    rw [this] at hg
    injection hg with hg
    injection hg with e1 e2
    subst e1 e2
    have hn : upN d W.heap.size 0 W.heap.size = 0 := by simp [upN]
    rw [hn]
    have hlen := hrow.len
    have hc : ∀ (o : Nat) u, xs[o]? = some u → W1.cell? ⟨W.heap.size, o, none⟩ = some u := fun o u hu => by simp [World.cell?, hx, hu]
    refine ⟨hlo, hm, ⟨_, hx, by simpa using hlen⟩, fun i hi => ?_⟩
    obtain ⟨g0, g1, g2, g3, q, c, g4, g5⟩ := hrow.get i hi
    exact ⟨hc _ _ g0, hc _ _ g1, g2, g3, q, c, hc _ _ g4, fun _ => g5.lo hl, fun x => absurd x (by omega)⟩
  · have e1 : upG G W.heap.size (σ, m) b = G b := by simp [upG, hbb]
    have e2 : upN d W.heap.size 0 b = d b := by simp [upN, hbb]
    rw [e1] at hg
    rw [e2]
    have hr := h b π l hg
    exact hr.keep (hb.block b hr.lt) hl hge
/-- all is converted -/
def OwT (W : World) (lo : Nat) (G : Gm) : Prop := ∀ b π l, G b = some (π, l) → RwG W lo 0 G l.length b π l
theorem OwM.all {W : World} {lo B : Nat} {G : Gm} {d : Nat → Nat} (h : OwM W lo B G d) (hd : ∀ b π l, G b = some (π, l) → d b = l.length) : OwT W lo G := by
  intro b π l hg
  have hr := h b π l hg
  rw [hd b π l hg] at hr
  refine ⟨hr.ge, hr.pos, hr.blk, fun i hi => ?_⟩
  have e := hr.el i hi
  obtain ⟨q, c, e1, e2, e3⟩ := e.c2
  exact ⟨e.c0, e.c1, e.k64, e.n64, q, c, e1, fun x => absurd hi (by omega), e3⟩
theorem OwT.keep {W W' : World} {lo : Nat} {G : Gm} (h : OwT W lo G) (hb : ∀ b p, G b = some p → W'.heap[b]? = W.heap[b]?) : OwT W' lo G :=
  fun b π l hg => (h b π l hg).keep (hb b _ hg) (Lo.blocks fun x hx => absurd hx (by omega)) fun _ _ x => x
theorem OwT.below {W W' : World} {lo : Nat} {G : Gm} (h : OwT W lo G) (hb : Below W.heap.size W W') : OwT W' lo G :=
  h.keep fun b p hg => hb.block b (h b p.1 p.2 hg).lt
/-- what is read there -/
theorem OwT.sl {W : World} {lo : Nat} {G : Gm} (h : OwT W lo G) : ∀ x : V, ∀ {π : List Nat} {q : Option Addr} {c : Nat}, ChG G π q c x.l → x.sz ≤ 1000000 → SlV W W.heap.size q c x.l := by
  intro x
  induction x using V.ind with
  | h k n l ih =>
    intro π q c hc hs
    have hl := szs_len l
    simp only [V.sz] at hs
    change SlV W W.heap.size q c l
    rcases hc with ⟨h1, rfl, rfl⟩ | ⟨g, rfl, hcl, hg⟩
    · change l = [] at h1
      subst h1
      exact ⟨by simp, by simp [maxLen], .inl rfl⟩
    · change c = l.length at hcl
      change G g = some (π, l) at hg
      have hr := h g π l hg
      refine ⟨by omega, by unfold maxLen; omega, .inr ⟨g, 0, rfl, hr.lt, AtVs.of_get fun i hi => ?_⟩⟩
      have e := hr.el i hi
      obtain ⟨q', c', e1, _, e3⟩ := e.c2
      have hk := szs_mem (List.getElem_mem hi)
      rw [Nat.zero_add, Nat.mul_comm 3 i]
      exact ⟨e.c0, e.c1, e.k64, e.n64, q', c', e1, ih _ (List.getElem_mem hi) (e3 hi) (by omega)⟩
end Go.Proofs.Ytikijkpklneihaa
