import Derived.Test.YtikijkpklneihaaCVHd
import Derived.Test.YtikijkpklneihaaCVP
import Derived.Test.YtikijkpklneihaaCVGt
namespace Go.Proofs.Ytikijkpklneihaa
open Go.RowKit
set_option linter.unusedVariables false
set_option linter.unusedSimpArgs false

/-- of a block: the path at which its list stands, and the list -/
abbrev Gm := Nat → Option (List Nat × List V)
def GE (G G' : Gm) : Prop := ∀ g p, G g = some p → G' g = some p
/-- a list that was converted: none, or in a block of its path -/
def ChG (G : Gm) (π : List Nat) (q : Option Addr) (c : Nat) (l : List V) : Prop := (l = [] ∧ q = none ∧ c = 0) ∨ ∃ g, q = some ⟨g, 0, none⟩ ∧ c = l.length ∧ G g = some (π, l)
theorem ChG.ge {G G' : Gm} {π : List Nat} {q : Option Addr} {c : Nat} {l : List V} (h : ChG G π q c l) (he : GE G G') : ChG G' π q c l := by
  rcases h with h | ⟨g, h1, h2, h3⟩
  · exact .inl h
  · exact .inr ⟨g, h1, h2, he _ _ h3⟩
/-- an element of a row; those from n on are as they were -/
structure ElG (W : World) (B : Nat) (G : Gm) (n b : Nat) (π : List Nat) (i : Nat) (x : V) : Prop where
  c0 : W.cell? ⟨b, i * 3, none⟩ = some (.int .i64 x.k)
  c1 : W.cell? ⟨b, i * 3 + 1, none⟩ = some (.int .i64 x.n)
  k64 : I64 x.k
  n64 : I64 x.n
  c2 : ∃ q c, W.cell? ⟨b, i * 3 + 2, none⟩ = some (.slice q x.l.length c) ∧ (n ≤ i → SlV W B q c x.l) ∧ (i < n → ChG G (π ++ [i]) q c x.l)
structure RwG (W : World) (lo B : Nat) (G : Gm) (n b : Nat) (π : List Nat) (l : List V) : Prop where
  ge : lo ≤ b
  pos : 0 < l.length
  blk : ∃ cur, W.heap[b]? = some (.cells cur 24 (0, 0)) ∧ cur.size = l.length * 3
  el : ∀ i (h : i < l.length), ElG W B G n b π i l[i]
def OwM (W : World) (lo B : Nat) (G : Gm) (d : Nat → Nat) : Prop := ∀ b π l, G b = some (π, l) → RwG W lo B G (d b) b π l
theorem RwG.lt {W : World} {lo B : Nat} {G : Gm} {n b : Nat} {π : List Nat} {l : List V} (h : RwG W lo B G n b π l) : b < W.heap.size := by
  obtain ⟨cur, h1, _⟩ := h.blk
  exact (Array.getElem?_eq_some_iff.1 h1).1
theorem OwM.lt {W : World} {lo B : Nat} {G : Gm} {d : Nat → Nat} (h : OwM W lo B G d) {b : Nat} {p : List Nat × List V} (hb : G b = some p) : b < W.heap.size := (h b p.1 p.2 hb).lt
theorem OwM.new_none {W : World} {lo B : Nat} {G : Gm} {d : Nat → Nat} (h : OwM W lo B G d) : G W.heap.size = none := by
  cases hg : G W.heap.size with
  | none => rfl
  | some p => exact absurd (h.lt hg) (Nat.lt_irrefl _)
theorem RwG.keep {W W' : World} {lo B : Nat} {G G' : Gm} {n b : Nat} {π : List Nat} {l : List V} (h : RwG W lo B G n b π l) (hb : W'.heap[b]? = W.heap[b]?) (hl : Lo B W W') (he : GE G G') : RwG W' lo B G' n b π l := by
  have hc : ∀ o, W'.cell? ⟨b, o, none⟩ = W.cell? ⟨b, o, none⟩ := fun o => by simp [World.cell?, hb]
  refine ⟨h.ge, h.pos, by rw [hb]; exact h.blk, fun i hi => ?_⟩
  have e := h.el i hi
  obtain ⟨q, c, e1, e2, e3⟩ := e.c2
  exact ⟨by rw [hc]; exact e.c0, by rw [hc]; exact e.c1, e.k64, e.n64, q, c, by rw [hc]; exact e1, fun x => (e2 x).lo hl, fun x => (e3 x).ge he⟩
theorem OwM.keep {W W' : World} {lo B : Nat} {G : Gm} {d : Nat → Nat} (h : OwM W lo B G d) (hb : ∀ b p, G b = some p → W'.heap[b]? = W.heap[b]?) (hl : Lo B W W') : OwM W' lo B G d :=
  fun b π l hg => (h b π l hg).keep (hb b _ hg) hl fun _ _ x => x
def upN (d : Nat → Nat) (b n : Nat) : Nat → Nat := fun x => if x = b then n else d x
def upG (G : Gm) (b : Nat) (p : List Nat × List V) : Gm := fun x => if x = b then some p else G x
theorem upG_ge {G : Gm} {b : Nat} {p : List Nat × List V} (h : G b = none) : GE G (upG G b p) := fun g q hg => by
  unfold upG
  split
  · rename_i e; subst e; rw [h] at hg; cases hg
  · exact hg
theorem set1_blk {W : World} {b : Nat} {cur : Array Value} {t : TypeId} (h : W.heap[b]? = some (.cells cur t (0, 0))) (o : Nat) (v : Value) : (W.setCell ⟨b, o, none⟩ v).heap[b]? = some (.cells (cur.setIfInBounds o v) t (0, 0)) := by
  simp [World.setCell, Array.getElem?_modify, h]
/-- a place is converted -/
theorem OwM.put {W : World} {lo B : Nat} {G : Gm} {d : Nat → Nat} (h : OwM W lo B G d) {b i : Nat} {π : List Nat} {l : List V} (hg : G b = some (π, l)) (hd : d b = i) (hi : i < l.length) {q : Option Addr} {c : Nat} (hq : ChG G (π ++ [i]) q c l[i].l) (hB : B ≤ lo) : OwM (W.setCell ⟨b, i * 3 + 2, none⟩ (.slice q l[i].l.length c)) lo B G (upN d b (i + 1)) := by
  intro b' π' l' hg'
  have hr := h b' π' l' hg'
  have hrb := h b π l hg
  have hlo : Lo B W (W.setCell ⟨b, i * 3 + 2, none⟩ (.slice q l[i].l.length c)) := Lo.blocks fun x hx => Below.heap_setCell _ _ _ _ (by show x ≠ b; have := hrb.ge; omega)
  by_cases hbb : b' = b
  · subst hbb
    rw [hg] at hg'
    injection hg' with hg'
    injection hg' with e1 e2
    subst e1 e2
    have hn : upN d b' (i + 1) b' = i + 1 := by simp [upN]
    rw [hn]
    rw [hd] at hr
    obtain ⟨cur, b1, b2⟩ := hr.blk
    refine ⟨hr.ge, hr.pos, ⟨cur.setIfInBounds (i * 3 + 2) (.slice q l[i].l.length c), set1_blk b1 _ _, by simpa using b2⟩, fun j hj => ?_⟩
    have e := hr.el j hj
    have hc : ∀ o, o ≠ i * 3 + 2 → (W.setCell ⟨b', i * 3 + 2, none⟩ (.slice q l[i].l.length c)).cell? ⟨b', o, none⟩ = W.cell? ⟨b', o, none⟩ := fun o ho => World.cell?_setCell_other _ _ _ _ (by intro e; injection e with _ e2; omega)
    obtain ⟨q', c', e1, e2, e3⟩ := e.c2
    by_cases hji : j = i
    · subst hji
      exact ⟨by rw [hc _ (by omega)]; exact e.c0, by rw [hc _ (by omega)]; exact e.c1, e.k64, e.n64, q, c, World.cell?_setCell_same _ _ _ e1, fun x => absurd x (by omega), fun _ => hq⟩
    · exact ⟨by rw [hc _ (by omega)]; exact e.c0, by rw [hc _ (by omega)]; exact e.c1, e.k64, e.n64, q', c', by rw [hc _ (by omega)]; exact e1, fun x => (e2 (by omega)).lo hlo, fun x => e3 (by omega)⟩
  · have hn : upN d b (i + 1) b' = d b' := by simp [upN, hbb]
    rw [hn]
    exact hr.keep (Below.heap_setCell _ _ _ _ (by show b' ≠ b; exact hbb)) hlo fun _ _ x => x
theorem RowV.get {W : World} {B : Nat} {l : List V} : ∀ {xs : List Value}, RowV W B l xs → ∀ i (h : i < l.length), xs[i * 3]? = some (.int .i64 l[i].k) ∧ xs[i * 3 + 1]? = some (.int .i64 l[i].n) ∧ I64 l[i].k ∧ I64 l[i].n ∧ ∃ q c, xs[i * 3 + 2]? = some (.slice q l[i].l.length c) ∧ SlV W B q c l[i].l := by
  induction l with
  | nil => intro xs h i hi; simp at hi
  | cons v vs ih =>
    intro xs h i hi
    obtain ⟨p, c, ys, rfl, h1, h2, h3, h4⟩ := h
    cases i with
    | zero => exact ⟨rfl, rfl, h2, h3, p, c, rfl, h1⟩
    | succ i =>
      have := ih h4 i (by simpa using hi)
      rw [show (i + 1) * 3 = i * 3 + 3 by omega]
      simpa using this
/-- a new row -/
theorem OwM.new {W W1 : World} {lo B : Nat} {G : Gm} {d : Nat → Nat} (h : OwM W lo B G d) {σ : List Nat} {m : List V} {xs : List Value} (hb : Below W.heap.size W W1) (hrow : RowV W B m xs) (hx : W1.heap[W.heap.size]? = some (.cells xs.toArray 24 (0, 0))) (hm : 0 < m.length) (hlo : lo ≤ W.heap.size) (hB : B ≤ W.heap.size) : OwM W1 lo B (upG G W.heap.size (σ, m)) (upN d W.heap.size 0) := by
  have hge : GE G (upG G W.heap.size (σ, m)) := upG_ge h.new_none
  have hl : Lo B W W1 := Lo.of (hb.mono hB)
  intro b π l hg
  by_cases hbb : b = W.heap.size
  · subst hbb
    have : upG G W.heap.size (σ, m) W.heap.size = some (σ, m) := by simp [upG]
    rw [this] at hg
    injection hg with hg
    injection hg with e1 e2
    subst e1 e2
    have hn : upN d W.heap.size 0 W.heap.size = 0 := by simp [upN]
    rw [hn]
    have hlen := hrow.len
    have hc : ∀ (o : Nat) u, xs[o]? = some u → W1.cell? ⟨W.heap.size, o, none⟩ = some u := fun o u hu => by simp [World.cell?, hx, hu]
    refine ⟨hlo, hm, ⟨_, hx, by simpa using hlen⟩, fun i hi => ?_⟩
    obtain ⟨g0, g1, g2, g3, q, c, g4, g5⟩ := hrow.get i hi
    exact ⟨hc _ _ g0, hc _ _ g1, g2, g3, q, c, hc _ _ g4, fun _ => g5.lo hl, fun x => absurd x (by omega)⟩
  · have e1 : upG G W.heap.size (σ, m) b = G b := by simp [upG, hbb]
    have e2 : upN d W.heap.size 0 b = d b := by simp [upN, hbb]
    rw [e1] at hg
    rw [e2]
    have hr := h b π l hg
    exact hr.keep (hb.block b hr.lt) hl hge
/-- all is converted -/
def OwT (W : World) (lo : Nat) (G : Gm) : Prop := ∀ b π l, G b = some (π, l) → RwG W lo 0 G l.length b π l
theorem OwM.all {W : World} {lo B : Nat} {G : Gm} {d : Nat → Nat} (h : OwM W lo B G d) (hd : ∀ b π l, G b = some (π, l) → d b = l.length) : OwT W lo G := by
  intro b π l hg
  have hr := h b π l hg
  rw [hd b π l hg] at hr
  refine ⟨hr.ge, hr.pos, hr.blk, fun i hi => ?_⟩
  have e := hr.el i hi
  obtain ⟨q, c, e1, e2, e3⟩ := e.c2
  exact ⟨e.c0, e.c1, e.k64, e.n64, q, c, e1, fun x => absurd hi (by omega), e3⟩
theorem OwT.keep {W W' : World} {lo : Nat} {G : Gm} (h : OwT W lo G) (hb : ∀ b p, G b = some p → W'.heap[b]? = W.heap[b]?) : OwT W' lo G :=
  fun b π l hg => (h b π l hg).keep (hb b _ hg) (Lo.blocks fun x hx => absurd hx (by omega)) fun _ _ x => x
theorem OwT.below {W W' : World} {lo : Nat} {G : Gm} (h : OwT W lo G) (hb : Below W.heap.size W W') : OwT W' lo G :=
  h.keep fun b p hg => hb.block b (h b p.1 p.2 hg).lt
/-- what is read there -/
theorem OwT.sl {W : World} {lo : Nat} {G : Gm} (h : OwT W lo G) : ∀ x : V, ∀ {π : List Nat} {q : Option Addr} {c : Nat}, ChG G π q c x.l → x.sz ≤ 1000000 → SlV W W.heap.size q c x.l := by
  intro x
  induction x using V.ind with
  | h k n l ih =>
    intro π q c hc hs
    have hl := szs_len l
    simp only [V.sz] at hs
    change SlV W W.heap.size q c l
    rcases hc with ⟨h1, rfl, rfl⟩ | ⟨g, rfl, hcl, hg⟩
    · change l = [] at h1
      subst h1
      exact ⟨by simp, by simp [maxLen], .inl rfl⟩
    · change c = l.length at hcl
      change G g = some (π, l) at hg
      have hr := h g π l hg
      refine ⟨by omega, by unfold maxLen; omega, .inr ⟨g, 0, rfl, hr.lt, AtVs.of_get fun i hi => ?_⟩⟩
      have e := hr.el i hi
      obtain ⟨q', c', e1, _, e3⟩ := e.c2
      have hk := szs_mem (List.getElem_mem hi)
      rw [Nat.zero_add, Nat.mul_comm 3 i]
      exact ⟨e.c0, e.c1, e.k64, e.n64, q', c', e1, ih _ (List.getElem_mem hi) (e3 hi) (by omega)⟩
end Go.Proofs.Ytikijkpklneihaa
namespace Go.Proofs.Ytikijkpklneihaa
open Go.RowKit
set_option linter.unusedVariables false
set_option linter.unusedSimpArgs false

/-- a value with the part at a path another one -/
def putV : V → List Int → V → V
  | x, [], y => y
  | x, k :: ks, y => .mk x.k x.n (x.l.set k.toNat (putV (x.l.getD k.toNat v0) ks y))
theorem put_l (x : V) (k : Int) (ks : List Int) (y : V) : (putV x (k :: ks) y).l = x.l.set k.toNat (putV (x.l.getD k.toNat v0) ks y) := rfl
theorem put_k (x : V) (k : Int) (ks : List Int) (y : V) : (putV x (k :: ks) y).k = x.k := rfl
theorem getD_of {l : List V} {i : Nat} (h : i < l.length) : l.getD i v0 = l[i] := by
  rw [List.getD, List.getElem?_eq_getElem h]; rfl
theorem szs_set {l : List V} : ∀ {i : Nat} (h : i < l.length) (v : V), szs (l.set i v) + l[i].sz = szs l + v.sz := by
  induction l with
  | nil => intro i h; simp at h
  | cons a l ih =>
    intro i h v
    cases i with
    | zero => simp only [List.set_cons_zero, List.getElem_cons_zero, szs]; omega
    | succ i =>
      have := ih (i := i) (by simpa using h) v
      simp only [List.set_cons_succ, List.getElem_cons_succ, szs]
      omega
theorem find_cons {x z : V} {k : Int} {ks : List Int} (h : findV x (k :: ks) = some z) : goesI x k = true ∧ ∃ hk : k.toNat < x.l.length, findV x.l[k.toNat] ks = some z := by
  simp only [findV] at h
  split at h
  · rename_i hg
    have hl := (goes_lt hg).2
    rw [getD_of hl] at h
    exact ⟨hg, hl, h⟩
  · cases h
theorem put_goes (x : V) (k j : Int) (ks : List Int) (y : V) : goesI (putV x (k :: ks) y) j = goesI x j := by
  simp only [goesI, put_l, put_k, List.length_set]
theorem put_find {y z : V} : ∀ {ks : List Int} {x : V}, findV x ks = some z → findV (putV x ks y) ks = some y
  | [], x, h => rfl
  | k :: ks, x, h => by
    obtain ⟨hg, hl, h2⟩ := find_cons h
    simp only [findV, put_goes, hg, if_true]
    have e : (putV x (k :: ks) y).l.getD k.toNat v0 = putV x.l[k.toNat] ks y := by
      rw [put_l, getD_of (by simpa using hl), List.getElem_set_self, getD_of hl]
    rw [e]
    exact put_find h2
theorem put_sz {y z : V} : ∀ {ks : List Int} {x : V}, findV x ks = some z → (putV x ks y).sz + z.sz = x.sz + y.sz
  | [], x, h => by simp [findV] at h; subst h; simp [putV]; omega
  | k :: ks, x, h => by
    obtain ⟨hg, hl, h2⟩ := find_cons h
    have ih := put_sz (y := y) h2
    have e := szs_set hl (putV x.l[k.toNat] ks y)
    have h3 : (putV x (k :: ks) y).sz = 1 + szs (x.l.set k.toNat (putV x.l[k.toNat] ks y)) := by
      rw [V.sz_eq, put_l, getD_of hl]
    rw [h3, V.sz_eq x]
    omega
theorem put_back {y z : V} : ∀ {ks : List Int} {x : V}, findV x ks = some z → putV (putV x ks y) ks z = x
  | [], x, h => by simp [findV] at h; subst h; rfl
  | k :: ks, x, h => by
    obtain ⟨hg, hl, h2⟩ := find_cons h
    have ih := put_back (y := y) h2
    have e : (putV x (k :: ks) y).l.getD k.toNat v0 = putV x.l[k.toNat] ks y := by
      rw [put_l, getD_of (by simpa using hl), List.getElem_set_self, getD_of hl]
    have e1 : (putV x (k :: ks) y).l = x.l.set k.toNat (putV x.l[k.toNat] ks y) := by
      rw [put_l, getD_of hl]
    rw [putV, e, ih, e1, List.set_set, List.set_getElem_self]
    exact V.eta x
theorem put_apart {y z : V} : ∀ {ks os : List Int} {x : V}, findV x ks = some z → (∃ i, ∃ (h1 : i < ks.length) (h2 : i < os.length), ks[i] ≠ os[i]) → findV (putV x ks y) os = findV x os
  | [], os, x, h, ⟨i, h1, _⟩ => by simp at h1
  | k :: ks, [], x, h, ⟨i, _, h2, _⟩ => by simp at h2
  | k :: ks, o :: os, x, h, ⟨i, h1, h2, h3⟩ => by
    obtain ⟨hg, hl, hf⟩ := find_cons h
    simp only [findV, put_goes]
    by_cases ho : goesI x o = true
    · rw [if_pos ho, if_pos ho]
      have hol := (goes_lt ho).2
      have e1 : (putV x (k :: ks) y).l = x.l.set k.toNat (putV x.l[k.toNat] ks y) := by
        rw [put_l, getD_of hl]
      rw [e1]
      by_cases hko : k = o
      · subst hko
        rw [getD_of (by simpa using hl), List.getElem_set_self, getD_of hl]
        cases i with
        | zero => simp at h3
        | succ i => exact put_apart hf ⟨i, by simpa using h1, by simpa using h2, by simpa using h3⟩
      · have hn : k.toNat ≠ o.toNat := by have := (goes_lt ho).1; have := (goes_lt hg).1; omega
        rw [getD_of (by simpa using hol), List.getElem_set_ne hn, getD_of hol]
    · rw [if_neg ho, if_neg ho]
theorem find_len {x z : V} {ks : List Int} (h : findV x ks = some z) : z.sz ≤ x.sz := find_sz h
end Go.Proofs.Ytikijkpklneihaa
namespace Go.Proofs.Ytikijkpklneihaa
open Go.RowKit
set_option linter.unusedVariables false
set_option linter.unusedSimpArgs false

/-- where a path leads to, from a list on -/
def wq (W : World) : List Int → Option Addr → Option (Option Addr)
  | [], q => some q
  | k :: ks, some a => match W.cell? ⟨a.block, k.toNat * 3 + 2, none⟩ with
    | some (.slice q2 _ _) => wq W ks q2
    | _ => none
  | _ :: _, none => none
theorem wq_cons {W : World} {k : Int} {ks : List Int} {g n c : Nat} {q2 : Option Addr} (h : W.cell? ⟨g, k.toNat * 3 + 2, none⟩ = some (.slice q2 n c)) : wq W (k :: ks) (some ⟨g, 0, none⟩) = wq W ks q2 := by
  simp only [wq, h]
theorem wq_append {W : World} (b : List Int) {q r : Option Addr} {a : List Int} (h : wq W a q = some r) : wq W (a ++ b) q = wq W b r := by
  induction a generalizing q with
  | nil => simp [wq] at h; subst h; rfl
  | cons k ks ih =>
    cases q with
    | none => simp [wq] at h
    | some ad =>
      simp only [wq, List.cons_append] at h ⊢
      split at h
      · rename_i q2 n c he
        exact ih h
      · cases h
/-- a value is written into a place of one row -/
structure St3 (G : Gm) (W W' : World) (b k : Nat) (y : V) (q : Option Addr) (c : Nat) : Prop where
  oth : ∀ x p, G x = some p → x ≠ b → W'.heap[x]? = W.heap[x]?
  rest : ∀ o, o ≠ k * 3 → o ≠ k * 3 + 1 → o ≠ k * 3 + 2 → W'.cell? ⟨b, o, none⟩ = W.cell? ⟨b, o, none⟩
  c0 : W'.cell? ⟨b, k * 3, none⟩ = some (.int .i64 y.k)
  c1 : W'.cell? ⟨b, k * 3 + 1, none⟩ = some (.int .i64 y.n)
  c2 : W'.cell? ⟨b, k * 3 + 2, none⟩ = some (.slice q y.l.length c)
  k64 : I64 y.k
  n64 : I64 y.n
  size : W.heap.size ≤ W'.heap.size
theorem St3.lt {G : Gm} {W W' : World} {b k : Nat} {y : V} {q : Option Addr} {c : Nat} (h : St3 G W W' b k y q c) : b < W'.heap.size := by
  rcases Nat.lt_or_ge b W'.heap.size with h1 | h1
  · exact h1
  · have := h.c0
    simp [World.cell?, Array.getElem?_eq_none h1] at this
/-- what does not lie about that place is not turned -/
theorem OwT.off {W W' : World} {lo : Nat} {G : Gm} (h : OwT W lo G) {b k : Nat} {σ : List Nat} {m : List V} {y : V} {q' : Option Addr} {c' : Nat} (hb : G b = some (σ, m)) (hs : St3 G W W' b k y q' c') : ∀ x : V, ∀ {π : List Nat} {q : Option Addr} {c : Nat}, ¬ π <+: σ → ChG G π q c x.l → x.sz ≤ 1000000 → SlV W' W'.heap.size q c x.l := by
  intro x
  induction x using V.ind with
  | h k n l ih =>
    intro π q c hp hc hz
    have hl := szs_len l
    simp only [V.sz] at hz
    change SlV W' W'.heap.size q c l
    rcases hc with ⟨h1, rfl, rfl⟩ | ⟨g, rfl, hcl, hg⟩
    · change l = [] at h1
      subst h1
      exact ⟨by simp, by simp [maxLen], .inl rfl⟩
    · change c = l.length at hcl
      change G g = some (π, l) at hg
      have hr := h g π l hg
      have hgb : g ≠ b := by
        intro e
        subst e
        rw [hg] at hb
        injection hb with hb
        injection hb with e1 e2
        subst e1
        exact hp (List.prefix_refl _)
      have hc : ∀ o, W'.cell? ⟨g, o, none⟩ = W.cell? ⟨g, o, none⟩ := fun o => by simp [World.cell?, hs.oth g _ hg hgb]
      refine ⟨by omega, by unfold maxLen; omega, .inr ⟨g, 0, rfl, Nat.lt_of_lt_of_le hr.lt hs.size, AtVs.of_get fun i hi => ?_⟩⟩
      have e := hr.el i hi
      obtain ⟨q2, c2, e1, _, e3⟩ := e.c2
      have hk := szs_mem (List.getElem_mem hi)
      rw [Nat.zero_add, Nat.mul_comm 3 i]
      exact ⟨by rw [hc]; exact e.c0, by rw [hc]; exact e.c1, e.k64, e.n64, q2, c2, by rw [hc]; exact e1, ih _ (List.getElem_mem hi) (fun hq => hp ((List.prefix_append _ _).trans hq)) (e3 hi) (by omega)⟩
theorem pre_ne {π σ : List Nat} {i k : Nat} {τ : List Nat} (hs : σ = π ++ k :: τ) (hi : i ≠ k) : ¬ (π ++ [i]) <+: σ := by
  subst hs
  rintro ⟨t, ht⟩
  rw [List.append_assoc, List.append_cancel_left_eq] at ht
  simp at ht
  exact hi ht.1
theorem pre_no {π : List Nat} {i : Nat} : ¬ (π ++ [i]) <+: π := by
  intro h
  have := h.length_le
  simp only [List.length_append, List.length_singleton] at this
  omega
/-- behind the store the whole reads with the part put in -/
theorem OwT.with {W W' : World} {lo : Nat} {G : Gm} (h : OwT W lo G) {b : Nat} {k : Int} {σ : List Nat} {m : List V} {y z : V} {q' : Option Addr} {c' : Nat} (hb : G b = some (σ, m)) (hs : St3 G W W' b k.toNat y q' c') (hy : SlV W' W'.heap.size q' c' y.l) : ∀ (pre : List Int) (x : V) (π : List Nat) (q : Option Addr) (c : Nat), findV x (pre ++ [k]) = some z → ChG G π q c x.l → wq W pre q = some (some ⟨b, 0, none⟩) → σ = π ++ pre.map Int.toNat → x.sz ≤ 1000000 → SlV W' W'.heap.size q c (putV x (pre ++ [k]) y).l := by
  intro pre
  induction pre with
  | nil =>
    intro x π q c hf hc hw hsg hz
    simp only [List.nil_append] at hf ⊢
    simp only [List.map_nil, List.append_nil] at hsg
    subst hsg
    obtain ⟨hg, hl, _⟩ := find_cons hf
    have hxl := szs_len x.l
    rw [V.sz_eq] at hz
    simp only [wq, Option.some.injEq] at hw
    subst hw
    have e1 : (putV x [k] y).l = x.l.set k.toNat y := rfl
    rw [e1]
    rcases hc with ⟨h1, h2, _⟩ | ⟨g, hq, hcl, hgg⟩
    · cases h2
    · injection hq with hq
      injection hq with hq
      subst hq
      have hr := h b _ _ hgg
      refine ⟨by simp; omega, by unfold maxLen; omega, .inr ⟨b, 0, rfl, hs.lt, AtVs.of_get fun i hi => ?_⟩⟩
      rw [Nat.zero_add, Nat.mul_comm 3 i]
      have hi' : i < x.l.length := by simpa using hi
      by_cases hik : i = k.toNat
      · subst hik
        rw [List.getElem_set_self]
        exact ⟨hs.c0, hs.c1, hs.k64, hs.n64, q', c', hs.c2, hy⟩
      · rw [List.getElem_set_ne (by omega)]
        have e := hr.el i hi'
        obtain ⟨q2, c2, e1, _, e3⟩ := e.c2
        have hk := szs_mem (List.getElem_mem hi')
        exact ⟨by rw [hs.rest _ (by omega) (by omega) (by omega)]; exact e.c0, by rw [hs.rest _ (by omega) (by omega) (by omega)]; exact e.c1, e.k64, e.n64, q2, c2, by rw [hs.rest _ (by omega) (by omega) (by omega)]; exact e1, h.off hb hs _ pre_no (e3 hi') (by omega)⟩
  | cons k1 pre ih =>
    intro x π q c hf hc hw hsg hz
    rw [List.cons_append] at hf ⊢
    obtain ⟨hg, hl, hf2⟩ := find_cons hf
    have hxl := szs_len x.l
    rw [V.sz_eq] at hz
    have e1 : (putV x (k1 :: (pre ++ [k])) y).l = x.l.set k1.toNat (putV x.l[k1.toNat] (pre ++ [k]) y) := by
      rw [put_l, getD_of hl]
    rw [e1]
    rcases hc with ⟨h1, h2, _⟩ | ⟨g, rfl, hcl, hgg⟩
    · rw [h1] at hl; simp at hl
    · have hr := h g _ _ hgg
      have hgb : g ≠ b := by
        intro e
        subst e
        rw [hgg] at hb
        injection hb with hb
        injection hb with e1 e2
        rw [hsg] at e1
        have := congrArg List.length e1
        simp at this
      have hc : ∀ o, W'.cell? ⟨g, o, none⟩ = W.cell? ⟨g, o, none⟩ := fun o => by simp [World.cell?, hs.oth g _ hgg hgb]
      refine ⟨by simp; omega, by unfold maxLen; omega, .inr ⟨g, 0, rfl, Nat.lt_of_lt_of_le hr.lt hs.size, AtVs.of_get fun i hi => ?_⟩⟩
      rw [Nat.zero_add, Nat.mul_comm 3 i]
      have hi' : i < x.l.length := by simpa using hi
      have e := hr.el i hi'
      obtain ⟨q2, c2, e1, _, e3⟩ := e.c2
      have hk := szs_mem (List.getElem_mem hi')
      by_cases hik : i = k1.toNat
      · subst hik
        rw [List.getElem_set_self]
        rw [wq_cons e1] at hw
        have r := ih x.l[k1.toNat] (π ++ [k1.toNat]) q2 c2 hf2 (e3 hi') hw (by rw [hsg]; simp) (by omega)
        have hkn : ∀ v : V, ∀ ks : List Int, (putV v (ks ++ [k]) y).k = v.k ∧ (putV v (ks ++ [k]) y).n = v.n := by
          intro v ks
          cases ks with
          | nil => exact ⟨rfl, rfl⟩
          | cons a rs => exact ⟨rfl, rfl⟩
        have hln : ∀ v : V, ∀ ks : List Int, (putV v (ks ++ [k]) y).l.length = v.l.length := by
          intro v ks
          cases ks with
          | nil => rw [List.nil_append, put_l, List.length_set]
          | cons a rs => rw [List.cons_append, put_l, List.length_set]
        refine ⟨by rw [(hkn _ _).1, hc]; exact e.c0, by rw [(hkn _ _).2, hc]; exact e.c1, by rw [(hkn _ _).1]; exact e.k64, by rw [(hkn _ _).2]; exact e.n64, q2, c2, by rw [hln, hc]; exact e1, r⟩
      · rw [List.getElem_set_ne (by omega)]
        exact ⟨by rw [hc]; exact e.c0, by rw [hc]; exact e.c1, e.k64, e.n64, q2, c2, by rw [hc]; exact e1, h.off hb hs _ (pre_ne (by rw [hsg]; simp; rfl) hik) (e3 hi') (by omega)⟩
end Go.Proofs.Ytikijkpklneihaa
namespace Go.Proofs.Ytikijkpklneihaa
open Go.RowKit
set_option linter.unusedVariables false
set_option linter.unusedSimpArgs false

def slOf (p : Nat × List V) : Value := .slice (some ⟨p.1, 0, none⟩) p.2.length p.2.length
/-- own, in the midst of its work: what is left is st; ex: the list that is being gone through -/
structure DpI (w wr : World) (A B : Nat) (x : V) (q : Option Addr) (c : Nat) (G : Gm) (d : Nat → Nat) (ex : Nat → Prop) (v : Value) (st : List (Nat × List V)) : Prop where
  m : OwM wr (A + 2) B G d
  stk : wr.ownsRow (A + 2) 22 1 v st.length (st.map slOf)
  mem : ∀ p ∈ st, (∃ π, G p.1 = some (π, p.2)) ∧ d p.1 = 0 ∧ ¬ ex p.1
  nd : (st.map Prod.fst).Nodup
  fin : ∀ b π l, G b = some (π, l) → d b = l.length ∨ b ∈ st.map Prod.fst ∨ ex b
  root : ChG G [] q c x.l
  bel : Below A w wr
  a0 : wr.heap[A]? = some (.cells #[.int .i64 x.k, .int .i64 x.n, .slice q x.l.length c] 24 (0, 0))
  a1 : wr.heap[A + 1]? = some z3
  siz : A + 2 ≤ wr.heap.size
theorem own_ty {W : World} {base : Nat} {e : TypeId} {s : Nat} {v : Value} {n : Nat} {cs : List Value} (h : W.ownsRow base e s v n cs) {g : Nat} (hg : v.ownBlock = some g) : ∃ cur, W.heap[g]? = some (.cells cur e (0, 0)) := by
  rcases h.2 with ⟨rfl, _⟩ | ⟨g', cap, cur, rfl, _, h3, _⟩
  · cases hg
  · cases hg
    exact ⟨cur, h3⟩
theorem own_ne {W : World} {base : Nat} {v : Value} {n : Nat} {cs : List Value} (h : W.ownsRow base 22 1 v n cs) {b : Nat} {cur : Array Value} (hb : W.heap[b]? = some (.cells cur 24 (0, 0))) : v.ownBlock ≠ some b := by
  intro e
  obtain ⟨cur', h2⟩ := own_ty h e
  rw [hb] at h2
  injection h2 with h2
  injection h2 with _ h2 _
  exact absurd h2 (by decide)
theorem DpI.bare {w wr : World} {A B : Nat} {x : V} {q : Option Addr} {c : Nat} {G : Gm} {d : Nat → Nat} {v : Value} {st : List (Nat × List V)} {b i : Nat} {π : List Nat} {l : List V} (h : DpI w wr A B x q c G d (· = b) v st) (hg : G b = some (π, l)) (hd : d b = i) (hi : i < l.length) (he : l[i].l = []) (hB : B ≤ A) : DpI w (wr.setCell ⟨b, i * 3 + 2, none⟩ (.slice none 0 0)) A B x q c G (upN d b (i + 1)) (· = b) v st := by
  have hr := h.m b π l hg
  obtain ⟨cur, hb1, _⟩ := hr.blk
  have hge := hr.ge
  have hm := h.m.put hg hd hi (q := Option.none) (c := 0) (.inl ⟨he, rfl, rfl⟩) (by omega)
  have hln : l[i].l.length = 0 := by rw [he]; rfl
  rw [hln] at hm
  have ho : ∀ y, y ≠ b → (wr.setCell ⟨b, i * 3 + 2, Option.none⟩ (.slice Option.none 0 0)).heap[y]? = wr.heap[y]? := fun y hy => Below.heap_setCell _ _ _ _ hy
  refine ⟨hm, own_same h.stk fun g o hgo hh => (ho g (fun e => own_ne h.stk hb1 (e ▸ hgo))).trans hh, fun p hp => ?_, h.nd, fun b' π' l' hg' => ?_, h.root, h.bel.setCell (p := ⟨b, i * 3 + 2, Option.none⟩) (by show A ≤ b; omega) _, (ho A (by omega)).trans h.a0, (ho (A + 1) (by omega)).trans h.a1, by rw [World.size_setCell]; exact h.siz⟩
  · obtain ⟨h1, h2, h3⟩ := h.mem p hp
    exact ⟨h1, by simp only [upN]; rw [if_neg h3]; exact h2, h3⟩
  · by_cases hbb : b' = b
    · exact .inr (.inr hbb)
    · rcases h.fin b' π' l' hg' with h1 | h1 | h1
      · exact .inl (by simp only [upN]; rw [if_neg hbb]; exact h1)
      · exact .inr (.inl h1)
      · exact .inr (.inr h1)
theorem DpI.full {w wr w1 X w' : World} {A B : Nat} {x : V} {q : Option Addr} {c : Nat} {G : Gm} {d : Nat → Nat} {v v' : Value} {st : List (Nat × List V)} {b i : Nat} {π : List Nat} {l : List V} {xs : List Value} (h : DpI w wr A B x q c G d (· = b) v st) (hg : G b = some (π, l)) (hd : d b = i) (hi : i < l.length) (he : 0 < l[i].l.length) (hB : B ≤ A)
    (hrow : RowV wr B l[i].l xs) (hx : w1.heap[wr.heap.size]? = some (.cells xs.toArray 24 (0, 0))) (hb1 : Below wr.heap.size wr w1)
    (hX : Below w1.heap.size (w1.setCell ⟨b, i * 3 + 2, Option.none⟩ (.slice (some ⟨wr.heap.size, 0, Option.none⟩) l[i].l.length l[i].l.length)) X)
    (hown : w'.ownsRow (A + 2) 22 1 v' (st.length + 1) (st.map slOf ++ [slOf (wr.heap.size, l[i].l)])) (hgr : X.grownBy w' v.ownBlock) :
    DpI w w' A B x q c (upG G wr.heap.size (π ++ [i], l[i].l)) (upN (upN d wr.heap.size 0) b (i + 1)) (· = b) v' (st ++ [(wr.heap.size, l[i].l)]) := by
  have hr := h.m b π l hg
  have hblt := hr.lt
  have hge := hr.ge
  have hsiz := h.siz
  have hnw := h.m.new_none
  have h1s := hb1.size
  have hm1 := h.m.new (σ := π ++ [i]) hb1 hrow hx he (by omega) (by omega)
  have hgg : GE G (upG G wr.heap.size (π ++ [i], l[i].l)) := upG_ge hnw
  have hself : upG G wr.heap.size (π ++ [i], l[i].l) wr.heap.size = Option.some (π ++ [i], l[i].l) := by simp [upG]
  have hdb : upN d wr.heap.size 0 b = i := by simp only [upN]; rw [if_neg (by omega)]; exact hd
  have hm2 := hm1.put (hgg _ _ hg) hdb hi (q := Option.some ⟨wr.heap.size, 0, Option.none⟩) (c := l[i].l.length) (.inr ⟨_, rfl, rfl, hself⟩) (by omega)
  have hX' : ∀ y, y < w1.heap.size → y ≠ b → X.heap[y]? = w1.heap[y]? := fun y hy hyb => (hX.block y hy).trans (Below.heap_setCell _ _ _ _ hyb)
  have hXb : X.heap[b]? = (w1.setCell ⟨b, i * 3 + 2, Option.none⟩ (.slice (Option.some ⟨wr.heap.size, 0, Option.none⟩) l[i].l.length l[i].l.length)).heap[b]? := hX.block b (by omega)
  have hXs := hX.size
  rw [World.size_setCell] at hXs
  -- what the row that grows is not
  have hkeep : ∀ y o, X.heap[y]? = Option.some o → v.ownBlock ≠ Option.some y → w'.heap[y]? = Option.some o := fun y o hy hn => grownBy_other hgr hy hn
  have hnv : ∀ y, v.ownBlock = Option.some y → ∃ cur, wr.heap[y]? = Option.some (.cells cur 22 (0, 0)) := fun y hy => own_ty h.stk hy
  have hold : ∀ y o, y < wr.heap.size → y ≠ b → wr.heap[y]? = Option.some o → v.ownBlock ≠ Option.some y → w'.heap[y]? = Option.some o := fun y o hy hyb ho hn => hkeep y o ((hX' y (by omega) hyb).trans ((hb1.block y hy).trans ho)) hn
  have hbw : Below A wr w' := by
    have e1 : Below A wr X := (hb1.mono (by omega)).trans (((Below.refl A w1).setCell (p := ⟨b, i * 3 + 2, Option.none⟩) (by show A ≤ b; omega) (.slice (Option.some ⟨wr.heap.size, 0, Option.none⟩) l[i].l.length l[i].l.length)).trans (hX.mono (by omega)))
    exact e1.grown hgr (by omega) fun k e => by have := own_base h.stk k e; omega
  have hmX : OwM X (A + 2) B (upG G wr.heap.size (π ++ [i], l[i].l)) (upN (upN d wr.heap.size 0) b (i + 1)) := hm2.keep (fun y p hy => by
    have := hm2.lt hy
    rw [World.size_setCell] at this
    exact hX.block y (by omega)) (Lo.blocks fun y hy => hX.block y (by omega))
  have hmw : OwM w' (A + 2) B (upG G wr.heap.size (π ++ [i], l[i].l)) (upN (upN d wr.heap.size 0) b (i + 1)) := hmX.keep (fun y p hy => by
    obtain ⟨cur, e1, _⟩ := (hmX y p.1 p.2 hy).blk
    rw [e1]
    refine hkeep y _ e1 fun e => ?_
    obtain ⟨cur', e2⟩ := hnv y e
    have hy' : y < wr.heap.size := (Array.getElem?_eq_some_iff.1 e2).1
    have hne : y ≠ b := by
      intro e3
      subst e3
      obtain ⟨cur3, e4, _⟩ := hr.blk
      rw [e2] at e4
      injection e4 with e4
      injection e4 with _ e4 _
      exact absurd e4 (by decide)
    rw [hX' y (by omega) hne, hb1.block y hy', e2] at e1
    injection e1 with e1
    injection e1 with _ e1 _
    exact absurd e1 (by decide)) (Lo.blocks fun y hy => hgr.block y (by omega) (fun e => by have := own_base h.stk y e.symm; omega))
  refine ⟨hmw, ?_, fun p hp => ?_, ?_, fun b' π' l' hg' => ?_, ?_, h.bel.trans hbw, ?_, ?_, ?_⟩
  · simpa using hown
  · rcases List.mem_append.1 hp with hp | hp
    · obtain ⟨⟨π', h1⟩, h2, h3⟩ := h.mem p hp
      have hlt := h.m.lt h1
      refine ⟨⟨π', hgg _ _ h1⟩, ?_, h3⟩
      simp only [upN]
      rw [if_neg h3, if_neg (by omega)]
      exact h2
    · simp at hp
      subst hp
      refine ⟨⟨_, hself⟩, ?_, by show wr.heap.size ≠ b; omega⟩
      simp only [upN]
      rw [if_neg (by omega)]
      simp
  · rw [List.map_append, List.nodup_append]
    refine ⟨h.nd, by simp, fun y hy z hz => ?_⟩
    simp at hz
    subst hz
    obtain ⟨p, hp, rfl⟩ := List.mem_map.1 hy
    obtain ⟨⟨π', h1⟩, _⟩ := h.mem p hp
    have := h.m.lt h1
    omega
  · by_cases hb' : b' = wr.heap.size
    · exact .inr (.inl (by simp [hb']))
    · have : upG G wr.heap.size (π ++ [i], l[i].l) b' = G b' := by simp [upG, hb']
      rw [this] at hg'
      by_cases hbb : b' = b
      · exact .inr (.inr hbb)
      · rcases h.fin b' π' l' hg' with h1 | h1 | h1
        · exact .inl (by simp only [upN]; rw [if_neg hbb, if_neg hb']; exact h1)
        · exact .inr (.inl (by rw [List.map_append]; exact List.mem_append_left _ h1))
        · exact .inr (.inr h1)
  · exact h.root.ge hgg
  · exact hold A _ (by omega) (by omega) h.a0 fun e => by have := own_base h.stk A e; omega
  · exact hold (A + 1) _ (by omega) (by omega) h.a1 fun e => by have := own_base h.stk (A + 1) e; omega
  · have := hgr.size
    omega
theorem DpI.pop {w wr : World} {A B : Nat} {x : V} {q : Option Addr} {c : Nat} {G : Gm} {d : Nat → Nat} {v : Value} {st : List (Nat × List V)} {b : Nat} {l : List V} (h : DpI w wr A B x q c G d (fun _ => False) v (st ++ [(b, l)])) :
    ∃ g cap, v = .slice (some ⟨g, 0, Option.none⟩) (st.length + 1) cap ∧ st.length + 1 ≤ cap ∧ cap ≤ maxLen ∧ g < wr.heap.size ∧ wr.cell? ⟨g, st.length, Option.none⟩ = Option.some (.slice (some ⟨b, 0, Option.none⟩) l.length l.length) ∧ (∃ π, G b = some (π, l)) ∧ d b = 0 ∧ DpI w wr A B x q c G d (· = b) (.slice (some ⟨g, 0, Option.none⟩) st.length cap) st := by
  obtain ⟨q1, q2⟩ := h.stk
  have hmem := h.mem (b, l) (by simp)
  have hnd := h.nd
  rw [List.map_append, List.nodup_append] at hnd
  rcases q2 with ⟨_, h5⟩ | ⟨g, cap, cur, rfl, q3, q4, q5, q6, q7, q8⟩
  · simp at h5
  · simp only [List.length_append, List.length_singleton, Nat.mul_one, List.map_append, List.map_cons, List.map_nil, List.length_map] at q1 q5 q7 q8 ⊢
    have hcur : ∀ j, j < st.length + 1 → cur[j]? = (st.map slOf ++ [slOf (b, l)])[j]? := fun j hj => by
      rw [← q8, List.getElem?_take_of_lt hj, Array.getElem?_toList]
    refine ⟨g, cap, rfl, q5, q6, (Array.getElem?_eq_some_iff.1 q4).1, ?_, hmem.1, hmem.2.1, ⟨h.m, ⟨by simp, .inr ⟨g, cap, cur, rfl, q3, q4, by omega, q6, by omega, ?_⟩⟩, fun p hp => ?_, hnd.1, fun b' π' l' hg' => ?_, h.root, h.bel, h.a0, h.a1, h.siz⟩⟩
    · simp only [World.cell?, q4]
      rw [hcur _ (by omega)]
      simp [slOf]
    · apply List.ext_getElem?
      intro j
      by_cases hj : j < st.length
      · rw [List.getElem?_take_of_lt (by omega), Array.getElem?_toList, hcur j (by omega), List.getElem?_append_left (by simpa using hj)]
      · rw [List.getElem?_eq_none (by simp; omega), List.getElem?_eq_none (by simp; omega)]
    · obtain ⟨h1, h2, _⟩ := h.mem p (List.mem_append_left _ hp)
      refine ⟨h1, h2, fun e => ?_⟩
      exact hnd.2.2 p.1 (List.mem_map_of_mem hp) b (by simp) e
    · rcases h.fin b' π' l' hg' with h1 | h1 | h1
      · exact .inl h1
      · rw [List.map_append] at h1
        rcases List.mem_append.1 h1 with h1 | h1
        · exact .inr (.inl h1)
        · simp at h1
          exact .inr (.inr h1)
      · exact h1.elim
theorem DpI.close {w wr : World} {A B : Nat} {x : V} {q : Option Addr} {c : Nat} {G : Gm} {d : Nat → Nat} {v : Value} {st : List (Nat × List V)} {b : Nat} {π : List Nat} {l : List V} (h : DpI w wr A B x q c G d (· = b) v st) (hg : G b = some (π, l)) (hd : d b = l.length) : DpI w wr A B x q c G d (fun _ => False) v st :=
  ⟨h.m, h.stk, fun p hp => ⟨(h.mem p hp).1, (h.mem p hp).2.1, fun e => e⟩, h.nd, fun b' π' l' hg' => by
    rcases h.fin b' π' l' hg' with h1 | h1 | h1
    · exact .inl h1
    · exact .inr (.inl h1)
    · subst h1
      rw [hg] at hg'
      injection hg' with hg'
      injection hg' with e1 e2
      subst e2
      exact .inl hd, h.root, h.bel, h.a0, h.a1, h.siz⟩
theorem DpI.done {w wr : World} {A B : Nat} {x : V} {q : Option Addr} {c : Nat} {G : Gm} {d : Nat → Nat} {v : Value} (h : DpI w wr A B x q c G d (fun _ => False) v []) : OwT wr (A + 2) G :=
  h.m.all fun b π l hg => by
    rcases h.fin b π l hg with h1 | h1 | h1
    · exact h1
    · simp at h1
    · exact h1.elim
/-- an element of the list that is being gone through -/
theorem DpI.at_ {w wr : World} {A B : Nat} {x : V} {q : Option Addr} {c : Nat} {G : Gm} {d : Nat → Nat} {ex : Nat → Prop} {v : Value} {st : List (Nat × List V)} {b i : Nat} {π : List Nat} {l : List V} (h : DpI w wr A B x q c G d ex v st) (hg : G b = some (π, l)) (hd : d b = i) (hi : i < l.length) : ∃ p e, wr.cell? ⟨b, i * 3 + 2, Option.none⟩ = Option.some (.slice p l[i].l.length e) ∧ SlV wr B p e l[i].l ∧ wr.frozen? ⟨b, i * 3 + 2, Option.none⟩ = false ∧ b < wr.heap.size ∧ A + 2 ≤ b := by
  have hr := h.m b π l hg
  rw [hd] at hr
  obtain ⟨p, e, h1, h2, _⟩ := (hr.el i hi).c2
  obtain ⟨cur, h3, _⟩ := hr.blk
  exact ⟨p, e, h1, h2 (Nat.le_refl _), by simp [World.frozen?, h3], hr.lt, hr.ge⟩
end Go.Proofs.Ytikijkpklneihaa
namespace Go.Proofs.Ytikijkpklneihaa
open Go.RowKit
set_option linter.unusedVariables false
set_option linter.unusedSimpArgs false

theorem OwT.low {W : World} {lo lo' : Nat} {G : Gm} (h : OwT W lo G) (hl : lo' ≤ lo) : OwT W lo' G := fun b π l hg => by
  have := h b π l hg
  exact ⟨Nat.le_trans hl this.ge, this.pos, this.blk, this.el⟩
/-- what own answers -/
def OnPost (w : World) (x : V) (e : Ending) (w' : World) : Prop := ∃ q c G, e = .returned (.agg #[.int .i64 x.k, .int .i64 x.n, .slice q x.l.length c]) ∧ OwT w' w.heap.size G ∧ ChG G [] q c x.l ∧ Below w.heap.size w w'
theorem DpI.start {w W0 w1 : World} {A B : Nat} {x : V} {p : Option Addr} {c : Nat} {xs : List Value} (hA : A = w.heap.size) (hB : B ≤ A) (hz : W0.heap.size = A + 2) (hb0 : Below A w W0) (ha0 : W0.heap[A]? = some (.cells #[.int .i64 x.k, .int .i64 x.n, .slice p x.l.length c] 24 (0, 0))) (ha1 : W0.heap[A + 1]? = some z3)
    (hrow : RowV W0 B x.l xs) (hx : w1.heap[W0.heap.size]? = some (.cells xs.toArray 24 (0, 0))) (hb1 : Below W0.heap.size W0 w1) (hs1 : w1.heap.size = W0.heap.size + 1) (hl : 0 < x.l.length) :
    DpI w ((w1.setCell ⟨A, 2, none⟩ (.slice (some ⟨A + 2, 0, none⟩) x.l.length x.l.length)).alloc (.cells #[.slice (some ⟨A + 2, 0, none⟩) x.l.length x.l.length] 22)) A B x (some ⟨A + 2, 0, none⟩) x.l.length (upG (fun _ => none) (A + 2) ([], x.l)) (upN (fun _ => 0) (A + 2) 0) (fun _ => False) (.slice (some ⟨A + 3, 0, none⟩) 1 1) [(A + 2, x.l)] := by
  obtain ⟨W2, hW2⟩ : ∃ W2, w1.setCell ⟨A, 2, none⟩ (.slice (some ⟨A + 2, 0, none⟩) x.l.length x.l.length) = W2 := ⟨_, rfl⟩
  rw [hW2]
  have s2 : W2.heap.size = A + 3 := by rw [← hW2, World.size_setCell]; omega
  have o2 : ∀ y, y ≠ A → W2.heap[y]? = w1.heap[y]? := fun y hy => by rw [← hW2]; exact Below.heap_setCell _ _ _ _ hy
  obtain ⟨W3, hW3⟩ : ∃ W3, W2.alloc (.cells #[.slice (some ⟨A + 2, 0, none⟩) x.l.length x.l.length] 22) = W3 := ⟨_, rfl⟩
  have o3 : ∀ y, y < A + 3 → W3.heap[y]? = W2.heap[y]? := fun y hy => by rw [← hW3]; exact Below.heap_alloc _ _ _ (by omega)
  have n3 : W3.heap[A + 3]? = some (.cells #[.slice (some ⟨A + 2, 0, none⟩) x.l.length x.l.length] 22 (0, 0)) := by rw [← hW3, ← s2]; exact World.alloc_heap_new _ _
  have s3 : W3.heap.size = A + 4 := by rw [← hW3]; simp [s2]
  rw [hW3]
  have hm0 : OwM W0 (A + 2) B (fun _ => none) (fun _ => 0) := fun b π l hg => by cases hg
  have hm1 := hm0.new (σ := []) hb1 hrow hx hl (by omega) (by omega)
  rw [hz] at hm1
  have hG : ∀ b p, upG (fun _ => none) (A + 2) ([], x.l) b = some p → b = A + 2 := fun b p hb => by
    unfold upG at hb
    split at hb
    · assumption
    · cases hb
  have hlo3 : Lo B w1 W3 := Lo.blocks fun y hy => by rw [o3 y (by omega), o2 y (by omega)]
  have hm3 : OwM W3 (A + 2) B (upG (fun _ => none) (A + 2) ([], x.l)) (upN (fun _ => 0) (A + 2) 0) := hm1.keep (fun b p hb => by
    have := hG b p hb
    subst this
    rw [o3 _ (by omega), o2 _ (by omega)]) hlo3
  have hself : upG (fun _ => none) (A + 2) ([], x.l) (A + 2) = some (([] : List Nat), x.l) := by simp [upG]
  have hbw : Below A w W3 := by
    rw [← hW3, ← hW2]
    exact ((hb0.trans (hb1.mono (by omega))).setCell (p := ⟨A, 2, none⟩) (Nat.le_refl _) _).alloc (by rw [World.size_setCell]; omega) _
  refine ⟨hm3, ⟨by simp [slOf], .inr ⟨A + 3, 1, _, rfl, by omega, n3, by simp, by simp [maxLen], by simp, by simp [slOf]⟩⟩, fun p hp => ?_, by simp, fun b π l hg => ?_, .inr ⟨A + 2, rfl, rfl, hself⟩, hbw, ?_, ?_, by omega⟩
  · simp at hp
    subst hp
    exact ⟨⟨[], hself⟩, by simp [upN], fun e => e⟩
  · have := hG b _ hg
    subst this
    exact .inr (.inl (by simp))
  · rw [o3 A (by omega), ← hW2, set1_blk ((hb1.block A (by omega)).trans ha0)]
    rfl
  · rw [o3 (A + 1) (by omega), o2 (A + 1) (by omega), hb1.block (A + 1) (by omega)]
    exact ha1

set_option maxRecDepth 100000 in
set_option maxHeartbeats 4000000 in
theorem own_some (w : World) (B : Nat) (v : Value) (x : V) (hv : IsV w B v x) (hB : B ≤ w.heap.size) (hx : x.sz ≤ 200000) (hl0 : 0 < x.l.length) : Calls Try.prog 22 #[v] w (OnPost w x) := by
  obtain ⟨⟨p, cap, rfl, h1⟩, h2, h3⟩ := hv
  obtain ⟨i0, hi, iz0, iz1, iz2⟩ := info_parts infoSl
  obtain ⟨A, hA⟩ : ∃ A, A = w.heap.size := ⟨_, rfl⟩
  obtain ⟨W0, hW0⟩ : ∃ W0, (w.alloc (Obj.cells #[Value.int IntKind.i64 x.k, Value.int IntKind.i64 x.n, Value.slice p x.l.length cap] 24)).alloc z3 = W0 := ⟨_, rfl⟩
  have hb0 : Below A w W0 := by rw [hA, ← hW0]; exact two_new _ _ _
  have ha0 : W0.heap[A]? = some (Obj.cells #[Value.int IntKind.i64 x.k, Value.int IntKind.i64 x.n, Value.slice p x.l.length cap] 24) := by
    rw [hA, ← hW0]; exact (Below.heap_alloc _ _ _ (by simp)).trans (World.alloc_heap_new _ _)
  have ha1 : W0.heap[A + 1]? = some z3 := by rw [hA, ← hW0]; exact alloc_at _ _ _
  have hz0 : W0.heap.size = A + 2 := by rw [hA, ← hW0]; simp
  obtain ⟨c0, c1, c2, f0, f1, f2, hAl⟩ := c3 ha0
  have hxl := szs_len x.l
  have hsz := V.sz_eq x
  have HC : Bx (Calls Try.prog 36 #[.slice p x.l.length cap] W0 (CyPost W0 B x.l)) := ⟨copied_some W0 B p cap x.l (h1.lo (Lo.of (hb0.mono (by omega)))) (by omega) hl0 (by omega)⟩
  have HST : Bx (∀ xs w1, RowV W0 B x.l xs → w1.heap[W0.heap.size]? = some (.cells xs.toArray 24 (0, 0)) → Below W0.heap.size W0 w1 → w1.heap.size = W0.heap.size + 1 → DpI w ((w1.setCell ⟨A, 2, none⟩ (.slice (some ⟨A + 2, 0, none⟩) x.l.length x.l.length)).alloc (.cells #[.slice (some ⟨A + 2, 0, none⟩) x.l.length x.l.length] 22)) A B x (some ⟨A + 2, 0, none⟩) x.l.length (upG (fun _ => none) (A + 2) ([], x.l)) (upN (fun _ => 0) (A + 2) 0) (fun _ => False) (.slice (some ⟨A + 3, 0, none⟩) 1 1) [(A + 2, x.l)]) := ⟨fun xs w1 q1 q2 q3 q4 => DpI.start hA (by omega) hz0 hb0 ha0 ha1 q1 q2 q3 q4 hl0⟩
  have HA : Bx (A = w.heap.size) := ⟨hA⟩
  have HZ : Bx (W0.heap.size = A + 2) := ⟨hz0⟩
  have HA0 : Bx _ := ⟨ha0⟩
  have hBA : B ≤ A := by omega
  clear h1 h2 h3 hb0 ha0 ha1
  subst hA
  go_enter Try.func22, Try.ntmps22
  go_wp2_with (first | (go_at_call 36; refine Calls.mono HC.out ?_; clear HC; rintro e w1 ⟨he, ⟨xs, hx1, hx2⟩, hb1, hs1⟩; rw [HZ.out] at he; subst he; have HI1 : Bx _ := ⟨HST.out xs w1 hx1 hx2 hb1 hs1⟩; have h1a := (hb1.block _ hAl).trans HA0.out; obtain ⟨k0, k1, k2, l0, l1, l2, hAl1⟩ := c3 h1a; have hz2 : w1.heap.size = w.heap.size + 3 := (by rw [hs1, HZ.out]); clear HST hx1 hx2 hb1 hs1 h1a))
  obtain ⟨W3, hW3⟩ : ∃ W3, (w1.setCell ⟨w.heap.size, 2, none⟩ (.slice (some ⟨w.heap.size + 2, 0, none⟩) x.l.length x.l.length)).alloc (.cells #[.slice (some ⟨w.heap.size + 2, 0, none⟩) x.l.length x.l.length] 22) = W3 := ⟨_, rfl⟩
  rw [hW3] at HI1
  rw [hW3]
  clear hW3 hW0 c0 c1 c2 f0 f1 f2 hAl k0 k1 k2 l0 l1 l2 hAl1 hz2 HA0 HZ hz0 HA
  have hcap : x.l.length ≤ 200000 := by omega
  obtain ⟨q, hq⟩ : ∃ q : Option Addr, some ⟨w.heap.size + 2, 0, none⟩ = q := ⟨_, rfl⟩
  obtain ⟨cq, hcq⟩ : ∃ cq, x.l.length = cq := ⟨_, rfl⟩
  have HI : Bx (DpI w W3 w.heap.size B x q cq (upG (fun _ => none) (w.heap.size + 2) ([], x.l)) (upN (fun _ => 0) (w.heap.size + 2) 0) (fun _ => False) (.slice (some ⟨w.heap.size + 3, 0, none⟩) 1 1) [(w.heap.size + 2, x.l)]) := ⟨by rw [← hq, ← hcq]; exact HI1.out⟩
  clear HI1 hq hcq
  generalize hS : szs x.l = S at *
  have hS6 : S ≤ 200000 := by omega
  clear hx hsz hxl
  go_loopg [3] (S + 1) (fun k v wr => ∃ (G : Gm) (d : Nat → Nat) (st : List (Nat × List V)), k = stz (st.map Prod.snd) + st.length ∧ k ≤ S + 1 ∧ Bx (DpI w wr w.heap.size B x q cq G d (fun _ => False) v st))
  case atStart => exact ⟨_, _, _, by simp [stz, hS], Nat.le_refl _, HI⟩
  case round =>
    obtain ⟨G, d, st, hk, hkS, HI⟩ := hrel
    rcases List.eq_nil_or_concat st with rfl | ⟨qs, ⟨b, l⟩, rfl⟩
    · obtain ⟨r0, r1, r2, s0, s1, s2, hAl3⟩ := c3 HI.out.a1
      obtain ⟨m0, m1, m2, n0, n1, n2, hAl2⟩ := c3 HI.out.a0
      have HT : Bx _ := ⟨HI.out.done⟩
      have HR : Bx _ := ⟨HI.out.root⟩
      have HB : Bx _ := ⟨HI.out.bel⟩
      rcases HI.out.stk.2 with ⟨rfl, _⟩ | ⟨g, gc, cur, rfl, _⟩
      · clear HI
        go_wp2
        refine bodyPost_ret (v := .agg #[.int .i64 x.k, .int .i64 x.n, .slice q x.l.length cq]) (by simp [results, Try.results22, go_sem, r0, r1, r2, hAl3]) rfl ⟨q, cq, G, rfl, (HT.out.low (by omega)).keep (fun b p hg => set3_other _ _ _ (by have := (HT.out b p.1 p.2 hg).ge; omega)), HR.out, below3 HB.out (by omega) _ _ _⟩
      · clear HI
        rw [show ([] : List (Nat × List V)).length = 0 from rfl]
        go_wp2
        refine bodyPost_ret (v := .agg #[.int .i64 x.k, .int .i64 x.n, .slice q x.l.length cq]) (by simp [results, Try.results22, go_sem, r0, r1, r2, hAl3]) rfl ⟨q, cq, G, rfl, (HT.out.low (by omega)).keep (fun b p hg => set3_other _ _ _ (by have := (HT.out b p.1 p.2 hg).ge; omega)), HR.out, below3 HB.out (by omega) _ _ _⟩
    · rw [List.concat_eq_append] at HI hk
      obtain ⟨g, gc, rfl, hgc, hgm, hgl, c0, hπ, hd, HI'⟩ := HI.out.pop
      simp only [List.map_append, List.map_cons, List.map_nil, stz_append, stz, List.length_append, List.length_singleton, Nat.add_zero] at hk
      unfold maxLen at hgm
      have hll := szs_len l
      have HIP : Bx (DpI w wr w.heap.size B x q cq G d (· = b) (.slice (some ⟨g, 0, none⟩) qs.length gc) qs ∧ (∃ π, G b = some (π, l)) ∧ d b = 0) := ⟨HI', hπ, hd⟩
      clear HI HI' hπ hd
      go_wp2
      go_loopg [3, 29] l.length (fun k v iv wr' => ∃ (i : Nat) (G : Gm) (d : Nat → Nat) (st : List (Nat × List V)), k = l.length - i ∧ i ≤ l.length ∧ iv = .int .i64 i ∧ stz (st.map Prod.snd) + st.length + szs (l.drop i) ≤ stz (qs.map Prod.snd) + qs.length + szs l ∧ Bx (DpI w wr' w.heap.size B x q cq G d (· = b) v st ∧ (∃ π, G b = some (π, l)) ∧ d b = i))
      case atStart => exact ⟨0, G, d, qs, by simp, by omega, rfl, by simp, HIP⟩
      case round =>
        clear HIP
        obtain ⟨i, G, d, st, hk', hil, rfl, hms, HR⟩ := hrel
        by_cases hlt : i < l.length
        · obtain ⟨π, hπ⟩ := HR.out.2.1
          obtain ⟨p, e, e0, hsl, hfz, hbl, hbA⟩ := HR.out.1.at_ hπ HR.out.2.2 hlt
          have hdr := szs_drop hlt
          by_cases hkid : 0 < l[i].l.length
          · have hsb := HR.out.1.siz
            have HS : Bx (Calls Try.prog 36 #[.slice p l[i].l.length e] wr (CyPost wr B l[i].l)) := ⟨copied_some wr B p e l[i].l hsl (by omega) hkid (by have := szs_len l[i].l; omega)⟩
            have HST : Bx (∀ w2, Below wr.heap.size wr w2 → w2.cell? ⟨b, i * 3 + 2, none⟩ = some (.slice p l[i].l.length e) ∧ w2.frozen? ⟨b, i * 3 + 2, none⟩ = false ∧ b < w2.heap.size ∧ (w2.setCell ⟨b, i * 3 + 2, none⟩ (.slice (some ⟨wr.heap.size, 0, none⟩) l[i].l.length l[i].l.length)).ownsRow (w.heap.size + 2) 22 1 u3 st.length (st.map slOf)) := ⟨fun w2 h2 => by
              have hbb := h2.block b hbl
              have hs := h2.size
              obtain ⟨cur, hcu, _⟩ := (HR.out.1.m b π l hπ).blk
              refine ⟨by rw [h2.cell (p := ⟨b, i * 3 + 2, none⟩) hbl]; exact e0, by simp only [World.frozen?, hbb] at hfz ⊢; exact hfz, by omega, own_same HR.out.1.stk fun g o hgo hh => ?_⟩
              rw [Below.heap_setCell _ _ _ _ (fun (e : g = b) => own_ne HR.out.1.stk hcu (by rw [← e]; exact hgo)), h2.block g (Array.getElem?_eq_some_iff.1 hh).1]
              exact hh⟩
            have hlen : st.length + 1 ≤ 300000 := by omega
            have HHS : Bx _ := ⟨hsl⟩
            clear hsl hdr
            go_wp2_with (first
              | (go_at_call 36; refine Calls.mono HS.out ?_; clear HS; rintro e' w2 ⟨rfl, ⟨xs, hx1, hx2⟩, hb2, hs2⟩; obtain ⟨a1, a2, a3, a4⟩ := HST.out w2 hb2; obtain ⟨W4, hW4⟩ : ∃ W4, w2.setCell ⟨b, i * 3 + 2, none⟩ (.slice (some ⟨wr.heap.size, 0, none⟩) l[i].l.length l[i].l.length) = W4 := ⟨_, rfl⟩; have a5 : W4.cell? ⟨b, i * 3 + 2, none⟩ = some (.slice (some ⟨wr.heap.size, 0, none⟩) l[i].l.length l[i].l.length) := (by rw [← hW4]; exact World.cell?_setCell_same _ _ _ a1); have a6 : b < W4.heap.size := (by rw [← hW4, World.size_setCell]; exact a3); have HO4 : Bx _ := ⟨hW4 ▸ a4⟩; have HX : Bx (RowV wr B l[i].l xs ∧ w2.heap[wr.heap.size]? = some (.cells xs.toArray 24 (0, 0)) ∧ Below wr.heap.size wr w2) := ⟨hx1, hx2, hb2⟩; have hs4 : W4.heap.size = w2.heap.size := (by rw [← hW4, World.size_setCell]); have HW4 : Bx _ := ⟨hW4⟩; have HZ4 : Bx (W4.heap.size = w2.heap.size ∧ w2.heap.size = wr.heap.size + 1 ∧ w.heap.size + 2 ≤ W4.heap.size) := ⟨hs4, hs2, (by have := hb2.size; omega)⟩; clear HST hx1 hx2 a4 hs4 hs2 hb2)
              | (at_builtin; refine wpList_append_own _ rfl (.tmp 49) (.tmp 55) 45 rfl (w.heap.size + 2) 22 i0 (.slice none 0 0) 1 24 Try.underlying45 hi iz0 iz1 iz2 rfl (by decide) u3 st.length (st.map slOf) rfl (own_new HO4.out (below1 _ _)) ⟨W4.heap.size, 0, none⟩ 1 1 [slOf (wr.heap.size, l[i].l)] rfl rfl (slice_one _ _ _ 22 (World.alloc_heap_new _ _)) (slice_cell _ _ _) (by unfold maxLen; omega) (by omega) (by have := HZ4.out.2.2; simp; omega) ?_; intro v' w' hown' hgrow _))
            go_roundg (l.length - (i + 1))
            case measure => omega
            case rel =>
              have hdr := szs_drop hlt
              refine ⟨i + 1, _, _, st ++ [(wr.heap.size, l[i].l)], rfl, by omega, by simp, by simp only [List.map_append, List.map_cons, List.map_nil, stz_append, stz, List.length_append, List.length_singleton]; omega, ⟨HR.out.1.full hπ HR.out.2.2 hlt hkid hBA HX.out.1 HX.out.2.1 HX.out.2.2 (by rw [HW4.out]; rw [← HZ4.out.1]; exact below1 _ _) hown' hgrow, ⟨π, upG_ge HR.out.1.m.new_none _ _ hπ⟩, by simp [upN]⟩⟩
          · have hk0 : l[i].l.length = 0 := by omega
            have hs0 : l[i].l = [] := List.eq_nil_of_length_eq_zero hk0
            have hs1 : szs l[i].l = 0 := by rw [hs0]; simp [szs]
            have HN : Bx _ := ⟨HR.out.1.bare hπ HR.out.2.2 hlt hs0 hBA⟩
            have HP : Bx _ := ⟨hπ⟩
            rw [hk0] at e0
            have g0 : (wr.setCell ⟨b, i * 3 + 2, none⟩ (.slice none 0 0)).cell? ⟨b, i * 3 + 2, none⟩ = some (.slice none 0 0) := World.cell?_setCell_same _ _ _ e0
            clear hsl HR hs0 hkid hk0 hπ
            go_wp2_with (first | (go_at_call 36; refine Calls.mono (copied_nil _ _ _) ?_; rintro e' w2 ⟨rfl, rfl⟩))
            go_roundg (l.length - (i + 1))
            case measure => omega
            case rel => exact ⟨i + 1, G, _, st, rfl, by omega, by simp, by omega, ⟨HN.out, ⟨π, HP.out⟩, by simp [upN]⟩⟩
        · have hie : i = l.length := by omega
          subst hie
          simp only [List.drop_length, szs, Nat.add_zero] at hms
          go_wp2
          go_roundg (stz (st.map Prod.snd) + st.length)
          case measure => omega
          case rel => exact ⟨G, d, st, rfl, by omega, ⟨by obtain ⟨π, hπ⟩ := HR.out.2.1; exact HR.out.1.close hπ HR.out.2.2⟩⟩
end Go.Proofs.Ytikijkpklneihaa
namespace Go.Proofs.Ytikijkpklneihaa
open Go.RowKit
set_option linter.unusedVariables false
set_option linter.unusedSimpArgs false

theorem own_any (w : World) (B : Nat) (v : Value) (x : V) (hv : IsV w B v x) (hB : B ≤ w.heap.size) (hx : x.sz ≤ 200000) : Calls Try.prog 22 #[v] w (OnPost w x) := by
  by_cases hl : 0 < x.l.length
  · exact own_some w B v x hv hB hx hl
  · obtain ⟨⟨p, cap, rfl, h1⟩, h2, h3⟩ := hv
    have h0 : x.l = [] := List.eq_nil_of_length_eq_zero (by omega)
    have hl0 : x.l.length = 0 := by omega
    rw [hl0]
    refine (own_leaf w x.k x.n p cap).mono ?_
    rintro e w' ⟨rfl, hb⟩
    exact ⟨none, 0, fun _ => none, by rw [hl0], (fun b π l hg => by cases hg), .inl ⟨h0, rfl, rfl⟩, hb⟩
theorem OwT.isv {W : World} {lo : Nat} {G : Gm} {x : V} {q : Option Addr} {c : Nat} (h : OwT W lo G) (hc : ChG G [] q c x.l) (hx : x.sz ≤ 1000000) (hk : I64 x.k) (hn : I64 x.n) : IsV W W.heap.size (.agg #[.int .i64 x.k, .int .i64 x.n, .slice q x.l.length c]) x :=
  ⟨⟨q, c, rfl, h.sl x hc hx⟩, hk, hn⟩
set_option maxRecDepth 100000 in
set_option maxHeartbeats 2000000 in
theorem Part_yes (w : World) (B : Nat) (v : Value) (x y : V) (pp : Option Addr) (pc : Nat) (ks : List Int) (hv : IsV w B v x) (hp : Pth w B pp pc ks) (hB : B ≤ w.heap.size) (hf : findV x ks = some y) (hx : x.sz ≤ 200000) :
    Calls Try.prog 7 #[v, .slice pp ks.length pc] w fun e w' => ∃ u, e = .returned (.tuple #[u, .bool true]) ∧ IsV w' w'.heap.size u y ∧ Below w.heap.size w w' := by
  have hys : y.sz ≤ 200000 := by have := find_sz hf; omega
  obtain ⟨⟨p, cap, rfl, h1⟩, h2, h3⟩ := hv
  obtain ⟨W0, hW0⟩ : ∃ W0, (w.alloc (Obj.cells #[Value.int IntKind.i64 x.k, Value.int IntKind.i64 x.n, Value.slice p x.l.length cap] 24)).alloc z3 = W0 := ⟨_, rfl⟩
  have hb0 : Below w.heap.size w W0 := by rw [← hW0]; exact two_new _ _ _
  have ha0 : W0.heap[w.heap.size]? = some (Obj.cells #[Value.int IntKind.i64 x.k, Value.int IntKind.i64 x.n, Value.slice p x.l.length cap] 24) := by
    rw [← hW0]; exact (Below.heap_alloc _ _ _ (by simp)).trans (World.alloc_heap_new _ _)
  have ha1 : W0.heap[w.heap.size + 1]? = some z3 := by rw [← hW0]; exact alloc_at _ _ _
  obtain ⟨c0, c1, c2, f0, f1, f2, hAl⟩ := c3 ha0
  have hLo : Lo B w W0 := Lo.of (hb0.mono hB)
  have HF : Bx _ := ⟨find_any W0 B (.agg #[.int .i64 x.k, .int .i64 x.n, .slice p x.l.length cap]) x pp pc ks ⟨⟨p, cap, rfl, h1.lo hLo⟩, h2, h3⟩ (hp.lo hLo) (by have := hb0.size; omega)⟩
  have HB0 : Bx _ := ⟨hb0⟩
  have HH1 : Bx _ := ⟨ha1⟩
  have HY : Bx _ := ⟨hys⟩
  clear hp h1 h2 h3 hb0 ha0 ha1 hLo hys hx
  go_enter Try.func7, Try.ntmps7
  go_wp2_with (first | (go_at_call 21; refine Calls.mono HF.out ?_; rintro e w2 (⟨y', u, hf', rfl, hu, hb2⟩ | ⟨hf', _, _⟩); rotate_left; exact absurd (hf.symm.trans hf') (by simp); obtain rfl : y = y' := Option.some.inj (hf.symm.trans hf'); have hz2 := hb2.size; have HU : Bx _ := ⟨hu⟩; obtain ⟨⟨q, d, rfl, _⟩, _, _⟩ := hu; obtain ⟨W3, hW3⟩ : ∃ W3, w2.alloc (Obj.cells #[.int .i64 y.k, .int .i64 y.n, .slice q y.l.length d] 24) = W3 := ⟨_, rfl⟩; have HB3 : Bx (Below w2.heap.size w2 W3) := ⟨by rw [← hW3]; exact below1 _ _⟩; have h3a : W3.heap[w2.heap.size]? = some (Obj.cells #[.int .i64 y.k, .int .i64 y.n, .slice q y.l.length d] 24) := (by rw [← hW3]; exact World.alloc_heap_new _ _); obtain ⟨d0, d1, d2, e0, e1, e2, hDl⟩ := c3 h3a; clear h3a) | (go_at_call 22; refine Calls.mono (own_any W3 B (.agg #[.int .i64 y.k, .int .i64 y.n, .slice q y.l.length d]) y (HU.out.lo (Lo.of (HB3.out.mono (by have := HB0.out.size; omega)))) (by have := HB0.out.size; omega) HY.out) ?_; rintro e w4 ⟨q', c', G, rfl, HO, HCh, hb4⟩; have hw1 : w.heap.size + 1 < W0.heap.size := (Array.getElem?_eq_some_iff.1 HH1.out).1; have hr4 : w4.heap[w.heap.size + 1]? = some z3 := (hb4.block _ (by have := HB3.out.size; omega)).trans ((HB3.out.block _ (by omega)).trans ((hb2.block _ hw1).trans HH1.out)); obtain ⟨r0, r1, r2, s0, s1, s2, hAl3⟩ := c3 hr4; have HO' : Bx _ := ⟨HO⟩; have HC' : Bx _ := ⟨HCh⟩; clear HO HCh hr4))
  refine bodyPost_ret (v := .tuple #[.agg #[.int .i64 y.k, .int .i64 y.n, .slice q' y.l.length c'], .bool true]) (by simp [results, Try.results7, go_sem, r0, r1, r2, hAl3]) rfl ⟨_, rfl, ?_, ?_⟩
  · have hz3 := HB3.out.size
    refine OwT.isv (lo := W3.heap.size) (HO'.out.keep fun b p hg => set3_other _ _ _ ?_) HC'.out (by have := HY.out; omega) HU.out.k64 HU.out.n64
    have := (HO'.out b p.1 p.2 hg).ge
    omega
  · exact below3 (((HB0.out.trans (hb2.mono HB0.out.size)).trans (HB3.out.mono (by have := HB0.out.size; omega))).trans (hb4.mono (by have := HB0.out.size; have := HB3.out.size; omega))) (by omega) _ _ _
set_option maxRecDepth 100000 in
set_option maxHeartbeats 2000000 in
theorem Part_no (w : World) (B : Nat) (v : Value) (x : V) (pp : Option Addr) (pc : Nat) (ks : List Int) (hv : IsV w B v x) (hp : Pth w B pp pc ks) (hB : B ≤ w.heap.size) (hf : findV x ks = none) :
    Calls Try.prog 7 #[v, .slice pp ks.length pc] w fun e w' => e = .returned (.tuple #[pv 0 0, .bool false]) ∧ Below w.heap.size w w' := by
  obtain ⟨⟨p, cap, rfl, h1⟩, h2, h3⟩ := hv
  obtain ⟨W0, hW0⟩ : ∃ W0, (w.alloc (Obj.cells #[Value.int IntKind.i64 x.k, Value.int IntKind.i64 x.n, Value.slice p x.l.length cap] 24)).alloc z3 = W0 := ⟨_, rfl⟩
  have hb0 : Below w.heap.size w W0 := by rw [← hW0]; exact two_new _ _ _
  have ha0 : W0.heap[w.heap.size]? = some (Obj.cells #[Value.int IntKind.i64 x.k, Value.int IntKind.i64 x.n, Value.slice p x.l.length cap] 24) := by
    rw [← hW0]; exact (Below.heap_alloc _ _ _ (by simp)).trans (World.alloc_heap_new _ _)
  have ha1 : W0.heap[w.heap.size + 1]? = some z3 := by rw [← hW0]; exact alloc_at _ _ _
  obtain ⟨c0, c1, c2, f0, f1, f2, hAl⟩ := c3 ha0
  have hLo : Lo B w W0 := Lo.of (hb0.mono hB)
  have HF : Bx _ := ⟨find_any W0 B (.agg #[.int .i64 x.k, .int .i64 x.n, .slice p x.l.length cap]) x pp pc ks ⟨⟨p, cap, rfl, h1.lo hLo⟩, h2, h3⟩ (hp.lo hLo) (by have := hb0.size; omega)⟩
  have HB0 : Bx _ := ⟨hb0⟩
  have HH1 : Bx _ := ⟨ha1⟩
  clear hp h1 h2 h3 hb0 ha0 ha1 hLo
  go_enter Try.func7, Try.ntmps7
  go_wp2_with (first | (go_at_call 21; refine Calls.mono HF.out ?_; rintro e w2 (⟨y', u, hf', rfl, hu, hb2⟩ | ⟨hf', rfl, hb2⟩); exact absurd (hf.symm.trans hf') (by simp); have hz2 := hb2.size; have hw1 : w.heap.size + 1 < W0.heap.size := (Array.getElem?_eq_some_iff.1 HH1.out).1; have hr3 : w2.heap[w.heap.size + 1]? = some z3 := (hb2.block _ hw1).trans HH1.out; obtain ⟨r0, r1, r2, s0, s1, s2, hAl3⟩ := c3 hr3; clear hr3))
  refine bodyPost_ret (v := .tuple #[pv 0 0, .bool false]) (by simp [results, Try.results7, go_sem, r0, r1, r2, hAl3]) rfl ⟨rfl, ?_⟩
  refine (below3 (A := w.heap.size + 1) (HB0.out.trans (hb2.mono HB0.out.size)) (by omega) _ _ _).trans ((below1 _ _).mono ?_)
  simp only [World.size_setCell]
  omega
end Go.Proofs.Ytikijkpklneihaa
namespace Go.Proofs.Ytikijkpklneihaa
open Go.RowKit
set_option linter.unusedVariables false
set_option linter.unusedSimpArgs false

/-- the place at which With stands, behind i steps -/
structure PlI (W : World) (G : Gm) (x : V) (ks : List Int) (O : Nat) (qo : Option Addr) (i : Nat) (y : V) (b o : Nat) (q : Option Addr) (c : Nat) : Prop where
  f : findV x ks = findV y (ks.drop i)
  c0 : W.cell? ⟨b, o, none⟩ = some (.int .i64 y.k)
  c1 : W.cell? ⟨b, o + 1, none⟩ = some (.int .i64 y.n)
  c2 : W.cell? ⟨b, o + 2, none⟩ = some (.slice q y.l.length c)
  blk : ∃ cur, W.heap[b]? = some (.cells cur 24 (0, 0))
  ch : ChG G ((ks.take i).map Int.toNat) q c y.l
  wq : wq W (ks.take i) qo = some q
  pos : (i = 0 ∧ b = O ∧ o = 0) ∨ ∃ j m, ∃ (hj : j < ks.length), i = j + 1 ∧ o = ks[j].toNat * 3 ∧ G b = some ((ks.take j).map Int.toNat, m) ∧ Go.Proofs.Ytikijkpklneihaa.wq W (ks.take j) qo = some (some ⟨b, 0, none⟩)
theorem PlI.next {W : World} {lo : Nat} {G : Gm} (hT : OwT W lo G) {x z : V} {ks : List Int} {O : Nat} {qo : Option Addr} {i : Nat} {y : V} {b o : Nat} {q : Option Addr} {c : Nat} (h : PlI W G x ks O qo i y b o q c) (hi : i < ks.length) (hz : findV x ks = some z) :
    ∃ (e g : Nat) (he : e < y.l.length) (q' : Option Addr) (c' : Nat), ks[i] = (e : Int) ∧ q = some ⟨g, 0, none⟩ ∧ c = y.l.length ∧ PlI W G x ks O qo (i + 1) y.l[e] g (e * 3) q' c' := by
  have hf := h.f
  rw [hz, List.drop_eq_getElem_cons hi] at hf
  obtain ⟨hg, hl, h2⟩ := find_cons hf.symm
  have h0 := (goes_lt hg).1
  rcases h.ch with ⟨h1, _, _⟩ | ⟨g, rfl, hc, hgg⟩
  · rw [h1] at hl; simp at hl
  · have hr := hT g _ _ hgg
    have e := hr.el _ hl
    obtain ⟨q', c', e1, _, e3⟩ := e.c2
    obtain ⟨cur, hcu, _⟩ := hr.blk
    refine ⟨ks[i].toNat, g, hl, q', c', by omega, rfl, hc, ⟨by rw [hz]; exact h2.symm, e.c0, e.c1, e1, ⟨cur, hcu⟩, ?_, ?_, .inr ⟨i, _, hi, rfl, rfl, hgg, h.wq⟩⟩⟩
    · have := e3 hl
      rw [List.take_succ_eq_append_getElem hi, List.map_append]
      exact this
    · rw [List.take_succ_eq_append_getElem hi, wq_append _ h.wq, wq_cons e1]
      rfl
theorem take_all {α : Type} (l : List α) {j : Nat} (h : j + 1 = l.length) (hj : j < l.length) : l = l.take j ++ [l[j]] := by
  rw [← List.take_succ_eq_append_getElem hj, h, List.take_length]
/-- the end: what the whole reads as -/
theorem wi_end {W2 w3 W5 : World} {lo O : Nat} {G G2 : Gm} {x y z : V} {ks : List Int} {qo qp : Option Addr} {co cp : Nat} {b o : Nat} {q : Option Addr} {c : Nat} (hT : OwT W2 lo G) (hroot : ChG G [] qo co x.l) (hz : findV x ks = some z) (hx : x.sz ≤ 1000000) (hy : y.sz ≤ 1000000) (hy1 : I64 y.k) (hy2 : I64 y.n) (hp : PlI W2 G x ks O qo ks.length z b o q c)
    (hT2 : OwT w3 W2.heap.size G2) (hch : ChG G2 [] qp cp y.l) (hb3 : Below W2.heap.size W2 w3) (hO : O < W2.heap.size)
    (h5 : ∀ g p, G g = some p → g ≠ b → W5.heap[g]? = w3.heap[g]?) (h52 : ∀ g p, G2 g = some p → W5.heap[g]? = w3.heap[g]?) (hs5 : w3.heap.size ≤ W5.heap.size)
    (hb5 : b ≠ O → W5.heap[b]? = (((w3.setCell ⟨b, o, none⟩ (.int .i64 y.k)).setCell ⟨b, o + 1, none⟩ (.int .i64 y.n)).setCell ⟨b, o + 2, none⟩ (.slice qp y.l.length cp)).heap[b]?) (hne : ∀ g p, G g = some p → g ≠ O) :
    (ks = [] ∧ b = O ∧ o = 0 ∧ putV x ks y = y ∧ SlV W5 W5.heap.size qp cp y.l) ∨ (b ≠ O ∧ (putV x ks y).k = x.k ∧ (putV x ks y).n = x.n ∧ (putV x ks y).l.length = x.l.length ∧ SlV W5 W5.heap.size qo co (putV x ks y).l) := by
  have hT25 : OwT W5 W2.heap.size G2 := hT2.keep h52
  have hyS := hT25.sl y hch hy
  rcases hp.pos with ⟨h1, h2, h3⟩ | ⟨j, m, hj, hij, ho, hg, hw⟩
  · have : ks = [] := List.eq_nil_of_length_eq_zero h1
    subst this
    exact .inl ⟨rfl, h2, h3, rfl, hyS⟩
  · have hbO := hne b _ hg
    have hks := take_all ks hij.symm hj
    obtain ⟨pre, hpre⟩ : ∃ pre, ks.take j = pre := ⟨_, rfl⟩
    obtain ⟨k, hk⟩ : ∃ k, ks[j] = k := ⟨_, rfl⟩
    rw [hpre, hk] at hks
    rw [hpre] at hg hw
    rw [hk] at ho
    rw [hks] at hz ⊢
    refine .inr ⟨hbO, by cases pre <;> rfl, by cases pre <;> rfl, by cases pre <;> simp [put_l], ?_⟩
    have hb5' := hb5 hbO
    obtain ⟨cur, hcu⟩ := hp.blk
    have hbl : b < W2.heap.size := (Array.getElem?_eq_some_iff.1 hcu).1
    have e0 : w3.cell? ⟨b, o, none⟩ = some (.int .i64 z.k) := by rw [hb3.cell (p := ⟨b, o, none⟩) hbl]; exact hp.c0
    have e1 : w3.cell? ⟨b, o + 1, none⟩ = some (.int .i64 z.n) := by rw [hb3.cell (p := ⟨b, o + 1, none⟩) hbl]; exact hp.c1
    have e2 : w3.cell? ⟨b, o + 2, none⟩ = some (.slice q z.l.length c) := by rw [hb3.cell (p := ⟨b, o + 2, none⟩) hbl]; exact hp.c2
    have hcell : ∀ t, W5.cell? ⟨b, t, none⟩ = (((w3.setCell ⟨b, o, none⟩ (.int .i64 y.k)).setCell ⟨b, o + 1, none⟩ (.int .i64 y.n)).setCell ⟨b, o + 2, none⟩ (.slice qp y.l.length cp)).cell? ⟨b, t, none⟩ := fun t => by simp only [World.cell?, hb5']
    have ne : ∀ {s t : Nat}, s ≠ t → (⟨b, s, none⟩ : Addr) ≠ ⟨b, t, none⟩ := fun h e => h (by injection e)
    have hst : St3 G W2 W5 b k.toNat y qp cp := by
      rw [ho] at *
      refine ⟨fun g p hgp hgb => ?_, fun t h1 h2 h3 => ?_, ?_, ?_, ?_, hy1, hy2, Nat.le_trans hb3.size hs5⟩
      · rw [h5 g p hgp hgb]
        exact hb3.block g (hT g p.1 p.2 hgp).lt
      · rw [hcell, World.cell?_setCell_other _ _ _ _ (ne (by omega)), World.cell?_setCell_other _ _ _ _ (ne (by omega)), World.cell?_setCell_other _ _ _ _ (ne (by omega))]
        exact hb3.cell (p := ⟨b, t, none⟩) hbl
      · rw [hcell, World.cell?_setCell_other _ _ _ _ (ne (by omega)), World.cell?_setCell_other _ _ _ _ (ne (by omega))]
        exact World.cell?_setCell_same _ _ _ e0
      · rw [hcell, World.cell?_setCell_other _ _ _ _ (ne (by omega))]
        exact World.cell?_setCell_same _ _ _ (by rw [World.cell?_setCell_other _ _ _ _ (ne (by omega))]; exact e1)
      · rw [hcell]
        exact World.cell?_setCell_same _ _ _ (by rw [World.cell?_setCell_other _ _ _ _ (ne (by omega)), World.cell?_setCell_other _ _ _ _ (ne (by omega))]; exact e2)
    exact hT.with hg hst hyS pre x [] qo co hz hroot hw (by simp) hx
end Go.Proofs.Ytikijkpklneihaa
namespace Go.Proofs.Ytikijkpklneihaa
open Go.RowKit
set_option linter.unusedVariables false
set_option linter.unusedSimpArgs false

/-- the ghost that a copy's ghost gives -/
def ghG (G : Gm) (id : Nat) (q : List Nat) : Gh := fun b => (G b).map fun p => (id, p.1.reverse ++ q)
theorem ghG_at {G : Gm} {id : Nat} {q : List Nat} {b : Nat} {π : List Nat} {l : List V} (h : G b = some (π, l)) : ghG G id q b = some (id, π.reverse ++ q) := by simp [ghG, h]
theorem ghG_ne {G : Gm} {id : Nat} {q : List Nat} {b : Nat} (h : ghG G id q b ≠ none) : ∃ p, G b = some p := by
  cases hg : G b with
  | none => simp [ghG, hg] at h
  | some p => exact ⟨p, rfl⟩
theorem RwG.mrow {W : World} {lo B : Nat} {G : Gm} {n b : Nat} {π : List Nat} {l : List V} (h : RwG W lo B G n b π l) : MRow W b (l.length * 3) := by
  obtain ⟨cur, h1, h2⟩ := h.blk
  exact ⟨cur, h1, h2⟩
/-- a copy is a tree in blocks of its own -/
theorem OwT.tr {W : World} {lo : Nat} {G : Gm} {ρ : Gh} {id : Nat} {q0 : List Nat} (h : OwT W lo G) (hr : ∀ b π l, G b = some (π, l) → ρ b = some (id, π.reverse ++ q0)) : ∀ x : V, ∀ {π : List Nat} {q : Option Addr} {c : Nat}, ChG G π q c x.l → x.sz ≤ 1000000 → TrV W ρ id (π.reverse ++ q0) x q c := by
  intro x
  induction x using V.ind with
  | h k n l ih =>
    intro π q c hc hs
    have hl := szs_len l
    simp only [V.sz] at hs
    rcases hc with ⟨h1, rfl, rfl⟩ | ⟨g, rfl, hcl, hg⟩
    · change l = [] at h1
      subst h1
      exact TrV.iff.2 ⟨⟨by simp [V.l], fun _ => rfl⟩, by omega, .inl ⟨rfl, rfl, rfl⟩⟩
    · change c = l.length at hcl
      change G g = some (π, l) at hg
      subst hcl
      have hrw := h g π l hg
      refine TrV.iff.2 ⟨⟨Nat.le_refl _, fun _ => rfl⟩, by omega, .inr ⟨g, rfl, hr _ _ _ hg, hrw.mrow, TrAll.of_get fun i hi => ?_⟩⟩
      have hi' : i < l.length := hi
      have e := hrw.el i hi'
      obtain ⟨q', c', e1, _, e3⟩ := e.c2
      have hk := szs_mem (List.getElem_mem hi')
      rw [Nat.zero_add]
      refine ⟨e.c0, e.c1, e.k64, e.n64, q', c', e1, ?_⟩
      rw [show i :: (π.reverse ++ q0) = (π ++ [i]).reverse ++ q0 by simp]
      exact ih _ (List.getElem_mem hi') (e3 hi') (by omega)
/-- what does not lie about that place is not turned -/
theorem OwT.offT {W W' : World} {lo id : Nat} {q0 : List Nat} {ρ : Gh} {G : Gm} (h : OwT W lo G) (hr : ∀ b π l, G b = some (π, l) → ρ b = some (id, π.reverse ++ q0)) {b k : Nat} {σ : List Nat} {m : List V} {y : V} {q' : Option Addr} {c' : Nat} (hb : G b = some (σ, m)) (hs : St3 G W W' b k y q' c') (hrb : ∀ N, MRow W b N → MRow W' b N) : ∀ x : V, ∀ {π : List Nat} {q : Option Addr} {c : Nat}, ¬ π <+: σ → ChG G π q c x.l → x.sz ≤ 1000000 → TrV W' ρ id (π.reverse ++ q0) x q c := by
  intro x
  induction x using V.ind with
  | h k n l ih =>
    intro π q c hp hc hz
    have hl := szs_len l
    simp only [V.sz] at hz
    rcases hc with ⟨h1, rfl, rfl⟩ | ⟨g, rfl, hcl, hg⟩
    · change l = [] at h1
      subst h1
      exact TrV.iff.2 ⟨⟨by simp [V.l], fun _ => rfl⟩, by omega, .inl ⟨rfl, rfl, rfl⟩⟩
    · change c = l.length at hcl
      change G g = some (π, l) at hg
      subst hcl
      have hrw := h g π l hg
      have hgb : g ≠ b := by
        intro e
        subst e
        rw [hg] at hb
        injection hb with hb
        injection hb with e1 e2
        subst e1
        exact hp (List.prefix_refl _)
      have hc : ∀ o, W'.cell? ⟨g, o, none⟩ = W.cell? ⟨g, o, none⟩ := fun o => by simp [World.cell?, hs.oth g _ hg hgb]
      have hgw : MRow W' g (l.length * 3) := hrw.mrow.same (hs.oth g _ hg hgb)
      refine TrV.iff.2 ⟨⟨Nat.le_refl _, fun _ => rfl⟩, by omega, .inr ⟨g, rfl, hr _ _ _ hg, hgw, TrAll.of_get fun i hi => ?_⟩⟩
      have hi : i < l.length := hi
      have e := hrw.el i hi
      obtain ⟨q2, c2, e1, _, e3⟩ := e.c2
      have hk := szs_mem (List.getElem_mem hi)
      rw [Nat.zero_add]
      refine ⟨by rw [hc]; exact e.c0, by rw [hc]; exact e.c1, e.k64, e.n64, q2, c2, by rw [hc]; exact e1, ?_⟩
      rw [show i :: (π.reverse ++ q0) = (π ++ [i]).reverse ++ q0 by simp]
      exact ih _ (List.getElem_mem hi) (fun hq => hp ((List.prefix_append _ _).trans hq)) (e3 hi) (by omega)
/-- behind the store the whole reads with the part put in -/
theorem OwT.withT {W W' : World} {lo id : Nat} {q0 : List Nat} {ρ : Gh} {G : Gm} (h : OwT W lo G) (hr : ∀ b π l, G b = some (π, l) → ρ b = some (id, π.reverse ++ q0)) {b : Nat} {k : Int} {σ : List Nat} {m : List V} {y z : V} {q' : Option Addr} {c' : Nat} (hb : G b = some (σ, m)) (hs : St3 G W W' b k.toNat y q' c') (hrb : ∀ N, MRow W b N → MRow W' b N) (hy : TrV W' ρ id (k.toNat :: σ.reverse ++ q0) y q' c') : ∀ (pre : List Int) (x : V) (π : List Nat) (q : Option Addr) (c : Nat), findV x (pre ++ [k]) = some z → ChG G π q c x.l → wq W pre q = some (some ⟨b, 0, none⟩) → σ = π ++ pre.map Int.toNat → x.sz ≤ 1000000 → TrV W' ρ id (π.reverse ++ q0) (putV x (pre ++ [k]) y) q c := by
  intro pre
  induction pre with
  | nil =>
    intro x π q c hf hc hw hsg hz
    simp only [List.nil_append] at hf ⊢
    simp only [List.map_nil, List.append_nil] at hsg
    subst hsg
    obtain ⟨hg, hl, _⟩ := find_cons hf
    have hxl := szs_len x.l
    rw [V.sz_eq] at hz
    simp only [wq, Option.some.injEq] at hw
    subst hw
    have e1 : (putV x [k] y).l = x.l.set k.toNat y := rfl
    refine TrV.iff.2 ?_
    rw [e1]
    rcases hc with ⟨h1, h2, _⟩ | ⟨g, hq, hcl, hgg⟩
    · cases h2
    · injection hq with hq
      injection hq with hq
      subst hq
      have hrw := h b _ _ hgg
      subst hcl
      refine ⟨⟨by simp, fun _ => by simp⟩, by omega, .inr ⟨b, rfl, hr _ _ _ hgg, hrb _ hrw.mrow, TrAll.of_get fun i hi => ?_⟩⟩
      rw [Nat.zero_add]
      have hi' : i < x.l.length := by simpa using hi
      by_cases hik : i = k.toNat
      · subst hik
        rw [List.getElem_set_self]
        exact ⟨hs.c0, hs.c1, hs.k64, hs.n64, q', c', hs.c2, hy⟩
      · rw [List.getElem_set_ne (by omega)]
        have e := hrw.el i hi'
        obtain ⟨q2, c2, e1, _, e3⟩ := e.c2
        have hk := szs_mem (List.getElem_mem hi')
        exact ⟨by rw [hs.rest _ (by omega) (by omega) (by omega)]; exact e.c0, by rw [hs.rest _ (by omega) (by omega) (by omega)]; exact e.c1, e.k64, e.n64, q2, c2, by rw [hs.rest _ (by omega) (by omega) (by omega)]; exact e1, by
          have := h.offT hr hb hs hrb _ pre_no (e3 hi') (by omega)
          simpa using this⟩
  | cons k1 pre ih =>
    intro x π q c hf hc hw hsg hz
    rw [List.cons_append] at hf ⊢
    obtain ⟨hg, hl, hf2⟩ := find_cons hf
    have hxl := szs_len x.l
    rw [V.sz_eq] at hz
    have e1 : (putV x (k1 :: (pre ++ [k])) y).l = x.l.set k1.toNat (putV x.l[k1.toNat] (pre ++ [k]) y) := by
      rw [put_l, getD_of hl]
    refine TrV.iff.2 ?_
    rw [e1]
    rcases hc with ⟨h1, h2, _⟩ | ⟨g, rfl, hcl, hgg⟩
    · rw [h1] at hl; simp at hl
    · have hrw := h g _ _ hgg
      subst hcl
      have hgb : g ≠ b := by
        intro e
        subst e
        rw [hgg] at hb
        injection hb with hb
        injection hb with e1 e2
        rw [hsg] at e1
        have := congrArg List.length e1
        simp at this
      have hc : ∀ o, W'.cell? ⟨g, o, none⟩ = W.cell? ⟨g, o, none⟩ := fun o => by simp [World.cell?, hs.oth g _ hgg hgb]
      have hgw : MRow W' g (x.l.length * 3) := hrw.mrow.same (hs.oth g _ hgg hgb)
      refine ⟨⟨by simp, fun _ => by simp⟩, by omega, .inr ⟨g, rfl, hr _ _ _ hgg, hgw, TrAll.of_get fun i hi => ?_⟩⟩
      rw [Nat.zero_add]
      have hi' : i < x.l.length := by simpa using hi
      have e := hrw.el i hi'
      obtain ⟨q2, c2, e1, _, e3⟩ := e.c2
      have hk := szs_mem (List.getElem_mem hi')
      by_cases hik : i = k1.toNat
      · subst hik
        rw [List.getElem_set_self]
        rw [wq_cons e1] at hw
        have r := ih x.l[k1.toNat] (π ++ [k1.toNat]) q2 c2 hf2 (e3 hi') hw (by rw [hsg]; simp) (by omega)
        have hkn : ∀ v : V, ∀ ks : List Int, (putV v (ks ++ [k]) y).k = v.k ∧ (putV v (ks ++ [k]) y).n = v.n := by
          intro v ks
          cases ks with
          | nil => exact ⟨rfl, rfl⟩
          | cons a rs => exact ⟨rfl, rfl⟩
        have hln : ∀ v : V, ∀ ks : List Int, (putV v (ks ++ [k]) y).l.length = v.l.length := by
          intro v ks
          cases ks with
          | nil => rw [List.nil_append, put_l, List.length_set]
          | cons a rs => rw [List.cons_append, put_l, List.length_set]
        refine ⟨by rw [(hkn _ _).1, hc]; exact e.c0, by rw [(hkn _ _).2, hc]; exact e.c1, by rw [(hkn _ _).1]; exact e.k64, by rw [(hkn _ _).2]; exact e.n64, q2, c2, by rw [hln, hc]; exact e1, by simpa using r⟩
      · rw [List.getElem_set_ne (by omega)]
        exact ⟨by rw [hc]; exact e.c0, by rw [hc]; exact e.c1, e.k64, e.n64, q2, c2, by rw [hc]; exact e1, by
          have := h.offT hr hb hs hrb _ (pre_ne (by rw [hsg]; simp; rfl) hik) (e3 hi') (by omega)
          simpa using this⟩
/-- the end: what the whole reads as -/
theorem wi_endT {W2 w3 W5 : World} {lo O : Nat} {G G2 : Gm} {x y z : V} {ks : List Int} {qo qp : Option Addr} {co cp : Nat} {b o : Nat} {q : Option Addr} {c : Nat} (hT : OwT W2 lo G) (hroot : ChG G [] qo co x.l) (hz : findV x ks = some z) (hx : x.sz ≤ 1000000) (hy : y.sz ≤ 1000000) (hy1 : I64 y.k) (hy2 : I64 y.n) (hp : PlI W2 G x ks O qo ks.length z b o q c)
    (hT2 : OwT w3 W2.heap.size G2) (hch : ChG G2 [] qp cp y.l) (hb3 : Below W2.heap.size W2 w3) (hO : O < W2.heap.size)
    (h5 : ∀ g p, G g = some p → g ≠ b → W5.heap[g]? = w3.heap[g]?) (h52 : ∀ g p, G2 g = some p → W5.heap[g]? = w3.heap[g]?) (hs5 : w3.heap.size ≤ W5.heap.size)
    (hb5 : b ≠ O → W5.heap[b]? = (((w3.setCell ⟨b, o, none⟩ (.int .i64 y.k)).setCell ⟨b, o + 1, none⟩ (.int .i64 y.n)).setCell ⟨b, o + 2, none⟩ (.slice qp y.l.length cp)).heap[b]?) (hne : ∀ g p, G g = some p → g ≠ O) :
    (ks = [] ∧ b = O ∧ o = 0 ∧ putV x ks y = y ∧ Prv W5 W2.heap.size w3.heap.size 0 y qp cp) ∨ (b ≠ O ∧ (putV x ks y).k = x.k ∧ (putV x ks y).n = x.n ∧ (putV x ks y).l.length = x.l.length ∧ Prv W5 lo w3.heap.size 0 (putV x ks y) qo co) := by
  have hT25 : OwT W5 W2.heap.size G2 := hT2.keep h52
  have hlt2 : ∀ g p, G2 g = some p → W2.heap.size ≤ g ∧ g < w3.heap.size := fun g p hg => ⟨(hT2 g p.1 p.2 hg).ge, (hT2 g p.1 p.2 hg).lt⟩
  have hlt1 : ∀ g p, G g = some p → lo ≤ g ∧ g < W2.heap.size := fun g p hg => ⟨(hT g p.1 p.2 hg).ge, (hT g p.1 p.2 hg).lt⟩
  rcases hp.pos with ⟨h1, h2, h3⟩ | ⟨j, m, hj, hij, ho, hg, hw⟩
  · have : ks = [] := List.eq_nil_of_length_eq_zero h1
    subst this
    refine .inl ⟨rfl, h2, h3, rfl, fun id q hid => ⟨ghG G2 id q, ?_, fun b hb => ?_, fun b r hb => ?_⟩⟩
    · have := hT25.tr (ρ := ghG G2 id q) (id := id) (q0 := q) (fun b π l hg => ghG_at hg) y hch hy
      simpa using this
    · obtain ⟨p, hp⟩ := ghG_ne hb
      exact hlt2 b p hp
    · cases hg : G2 b with
      | none => simp [ghG, hg] at hb
      | some p => exact ⟨p.1.reverse, by simp [ghG, hg] at hb; rw [← hb]⟩
  · have hbO := hne b _ hg
    have hks := take_all ks hij.symm hj
    obtain ⟨pre, hpre⟩ : ∃ pre, ks.take j = pre := ⟨_, rfl⟩
    obtain ⟨k, hk⟩ : ∃ k, ks[j] = k := ⟨_, rfl⟩
    rw [hpre, hk] at hks
    rw [hpre] at hg hw
    rw [hk] at ho
    rw [hks] at hz ⊢
    refine .inr ⟨hbO, by cases pre <;> rfl, by cases pre <;> rfl, by cases pre <;> simp [put_l], ?_⟩
    have hb5' := hb5 hbO
    obtain ⟨cur, hcu⟩ := hp.blk
    have hbl : b < W2.heap.size := (Array.getElem?_eq_some_iff.1 hcu).1
    have e0 : w3.cell? ⟨b, o, none⟩ = some (.int .i64 z.k) := by rw [hb3.cell (p := ⟨b, o, none⟩) hbl]; exact hp.c0
    have e1 : w3.cell? ⟨b, o + 1, none⟩ = some (.int .i64 z.n) := by rw [hb3.cell (p := ⟨b, o + 1, none⟩) hbl]; exact hp.c1
    have e2 : w3.cell? ⟨b, o + 2, none⟩ = some (.slice q z.l.length c) := by rw [hb3.cell (p := ⟨b, o + 2, none⟩) hbl]; exact hp.c2
    have hcell : ∀ t, W5.cell? ⟨b, t, none⟩ = (((w3.setCell ⟨b, o, none⟩ (.int .i64 y.k)).setCell ⟨b, o + 1, none⟩ (.int .i64 y.n)).setCell ⟨b, o + 2, none⟩ (.slice qp y.l.length cp)).cell? ⟨b, t, none⟩ := fun t => by simp only [World.cell?, hb5']
    have ne : ∀ {s t : Nat}, s ≠ t → (⟨b, s, none⟩ : Addr) ≠ ⟨b, t, none⟩ := fun h e => h (by injection e)
    have hst : St3 G W2 W5 b k.toNat y qp cp := by
      rw [ho] at *
      refine ⟨fun g p hgp hgb => ?_, fun t h1 h2 h3 => ?_, ?_, ?_, ?_, hy1, hy2, Nat.le_trans hb3.size hs5⟩
      · rw [h5 g p hgp hgb]
        exact hb3.block g (hT g p.1 p.2 hgp).lt
      · rw [hcell, World.cell?_setCell_other _ _ _ _ (ne (by omega)), World.cell?_setCell_other _ _ _ _ (ne (by omega)), World.cell?_setCell_other _ _ _ _ (ne (by omega))]
        exact hb3.cell (p := ⟨b, t, none⟩) hbl
      · rw [hcell, World.cell?_setCell_other _ _ _ _ (ne (by omega)), World.cell?_setCell_other _ _ _ _ (ne (by omega))]
        exact World.cell?_setCell_same _ _ _ e0
      · rw [hcell, World.cell?_setCell_other _ _ _ _ (ne (by omega))]
        exact World.cell?_setCell_same _ _ _ (by rw [World.cell?_setCell_other _ _ _ _ (ne (by omega))]; exact e1)
      · rw [hcell]
        exact World.cell?_setCell_same _ _ _ (by rw [World.cell?_setCell_other _ _ _ _ (ne (by omega)), World.cell?_setCell_other _ _ _ _ (ne (by omega))]; exact e2)
    have hrow : ∀ N, MRow W2 b N → MRow W5 b N := fun N h => by
      obtain ⟨C, c1, c2⟩ := h.ex
      have c3 : w3.heap[b]? = some (.cells C 24 (0, 0)) := (hb3.block b hbl).trans c1
      have c4 := set1_blk (set1_blk (set1_blk c3 o (.int .i64 y.k)) (o + 1) (.int .i64 y.n)) (o + 2) (.slice qp y.l.length cp)
      exact ⟨_, hb5'.trans c4, by simpa using c2⟩
    intro id q hid
    obtain ⟨σ, hσ⟩ : ∃ σ, pre.map Int.toNat = σ := ⟨_, rfl⟩
    rw [hσ] at hg
    refine ⟨fun b => if b < W2.heap.size then ghG G id q b else ghG G2 id (k.toNat :: σ.reverse ++ q) b, ?_, fun g hgn => ?_, fun g r hgr => ?_⟩
    · have hyT := hT25.tr (ρ := fun b => if b < W2.heap.size then ghG G id q b else ghG G2 id (k.toNat :: σ.reverse ++ q) b) (id := id) (q0 := k.toNat :: σ.reverse ++ q) (fun g π l hg2 => by
        simp only [if_neg (Nat.not_lt.2 (hlt2 g _ hg2).1)]
        exact ghG_at hg2) y hch hy
      have := hT.withT (ρ := fun b => if b < W2.heap.size then ghG G id q b else ghG G2 id (k.toNat :: σ.reverse ++ q) b) (id := id) (q0 := q) (fun g π l hg2 => by
        simp only [if_pos (hlt1 g _ hg2).2]
        exact ghG_at hg2) hg hst hrow (by simpa using hyT) pre x [] qo co hz hroot hw (by simp [hσ]) hx
      simpa using this
    · dsimp only at hgn
      split at hgn
      · obtain ⟨p, hp⟩ := ghG_ne hgn
        have := hlt1 g p hp
        have := hb3.size
        omega
      · obtain ⟨p, hp⟩ := ghG_ne hgn
        have := hlt2 g p hp
        have := hlt1 b _ hg
        omega
    · dsimp only at hgr
      split at hgr
      · cases hg2 : G g with
        | none => simp [ghG, hg2] at hgr
        | some p => exact ⟨p.1.reverse, by simp [ghG, hg2] at hgr; rw [← hgr]⟩
      · cases hg2 : G2 g with
        | none => simp [ghG, hg2] at hgr
        | some p => exact ⟨p.1.reverse ++ k.toNat :: σ.reverse, by simp [ghG, hg2] at hgr; rw [← hgr]; simp⟩
end Go.Proofs.Ytikijkpklneihaa
namespace Go.Proofs.Ytikijkpklneihaa
open Go.RowKit
set_option linter.unusedVariables false
set_option linter.unusedSimpArgs false

theorem three_new (w : World) (o o' o'' : Obj) : Below w.heap.size w (((w.alloc o).alloc o').alloc o'') := (two_new _ _ _).trans ((below1 _ _).mono (by simp; omega))
theorem set3o {W : World} {b o c : Nat} (x y z : Value) (h : c ≠ b) : (((W.setCell ⟨b, o, none⟩ x).setCell ⟨b, o + 1, none⟩ y).setCell ⟨b, o + 2, none⟩ z).heap[c]? = W.heap[c]? := by
  rw [Below.heap_setCell _ _ _ _ h, Below.heap_setCell _ _ _ _ h, Below.heap_setCell _ _ _ _ h]
theorem below3o {B b o : Nat} {w W : World} (h : Below B w W) (hb : B ≤ b) (x y z : Value) : Below B w (((W.setCell ⟨b, o, none⟩ x).setCell ⟨b, o + 1, none⟩ y).setCell ⟨b, o + 2, none⟩ z) :=
  ((h.setCell (p := ⟨b, o, none⟩) hb _).setCell (p := ⟨b, o + 1, none⟩) hb _).setCell (p := ⟨b, o + 2, none⟩) hb _
set_option maxRecDepth 100000 in
set_option maxHeartbeats 4000000 in
theorem With_yes (w : World) (B : Nat) (v u : Value) (x y z : V) (pp : Option Addr) (pc : Nat) (ks : List Int) (hv : IsV w B v x) (hu : IsV w B u y) (hp : Pth w B pp pc ks) (hB : B ≤ w.heap.size) (hf : findV x ks = some z) (hx : x.sz ≤ 200000) (hy : y.sz ≤ 200000) :
    Calls Try.prog 8 #[v, .slice pp ks.length pc, u] w fun e w' => ∃ a, e = .returned (.tuple #[a, .bool true]) ∧ IsV w' w'.heap.size a (putV x ks y) ∧ Below w.heap.size w w' := by
  obtain ⟨⟨p, cap, rfl, h1⟩, h2, h3⟩ := hv
  obtain ⟨⟨r, rcap, rfl, k1⟩, k2, k3⟩ := hu
  have hpl := hp.len
  have hpm := hp.max
  unfold maxLen at hpm
  obtain ⟨A, hA⟩ : ∃ A, A = w.heap.size := ⟨_, rfl⟩
  obtain ⟨W0, hW0⟩ : ∃ W0, ((w.alloc (Obj.cells #[.int .i64 x.k, .int .i64 x.n, .slice p x.l.length cap] 24)).alloc (Obj.cells #[.int .i64 y.k, .int .i64 y.n, .slice r y.l.length rcap] 24)).alloc z3 = W0 := ⟨_, rfl⟩
  have hb0 : Below A w W0 := by rw [hA, ← hW0]; exact three_new _ _ _ _
  have hz0 : W0.heap.size = A + 3 := by rw [hA, ← hW0]; simp
  have ha0 : W0.heap[A]? = some (Obj.cells #[.int .i64 x.k, .int .i64 x.n, .slice p x.l.length cap] 24) := by
    rw [hA, ← hW0]; exact (Below.heap_alloc _ _ _ (by simp; omega)).trans ((Below.heap_alloc _ _ _ (by simp)).trans (World.alloc_heap_new _ _))
  have ha1 : W0.heap[A + 1]? = some (Obj.cells #[.int .i64 y.k, .int .i64 y.n, .slice r y.l.length rcap] 24) := by
    rw [hA, ← hW0]; exact (Below.heap_alloc _ _ _ (by simp)).trans (alloc_at _ _ _)
  have ha2 : W0.heap[A + 2]? = some z3 := by
    rw [hA, ← hW0]; have := World.alloc_heap_new ((w.alloc (Obj.cells #[.int .i64 x.k, .int .i64 x.n, .slice p x.l.length cap] 24)).alloc (Obj.cells #[.int .i64 y.k, .int .i64 y.n, .slice r y.l.length rcap] 24)) z3; simpa using this
  obtain ⟨c0, c1, c2, f0, f1, f2, hAl⟩ := c3 ha0
  have hLo : Lo B w W0 := Lo.of (hb0.mono (by omega))
  have HF : Bx _ := ⟨find_any W0 B (.agg #[.int .i64 x.k, .int .i64 x.n, .slice p x.l.length cap]) x pp pc ks ⟨⟨p, cap, rfl, h1.lo hLo⟩, h2, h3⟩ (hp.lo hLo) (by omega)⟩
  have HP : Bx (Pth w B pp pc ks) := ⟨hp⟩
  -- a world behind W0
  have HN : Bx (∀ X, Below W0.heap.size W0 X → (X.heap[A]? = some (Obj.cells #[.int .i64 x.k, .int .i64 x.n, .slice p x.l.length cap] 24) ∧ X.heap[A + 1]? = some (Obj.cells #[.int .i64 y.k, .int .i64 y.n, .slice r y.l.length rcap] 24) ∧ X.heap[A + 2]? = some z3) ∧ (IsV X B (.agg #[.int .i64 x.k, .int .i64 x.n, .slice p x.l.length cap]) x ∧ IsV X B (.agg #[.int .i64 y.k, .int .i64 y.n, .slice r y.l.length rcap]) y) ∧ Below A w X ∧ A + 3 ≤ X.heap.size ∧ Pth X B pp pc ks) := ⟨fun X hX => by
    have hs := hX.size
    have hbX : Below A w X := hb0.trans (hX.mono (by omega))
    have hLX : Lo B w X := Lo.of (hbX.mono (by omega))
    exact ⟨⟨(hX.block A (by omega)).trans ha0, (hX.block (A + 1) (by omega)).trans ha1, (hX.block (A + 2) (by omega)).trans ha2⟩, ⟨⟨⟨p, cap, rfl, h1.lo hLX⟩, h2, h3⟩, ⟨⟨r, rcap, rfl, k1.lo hLX⟩, k2, k3⟩⟩, hbX, by omega, hp.lo hLX⟩⟩
  have HI : Bx ((I64 x.k ∧ I64 x.n) ∧ I64 y.k ∧ I64 y.n) := ⟨⟨h2, h3⟩, k2, k3⟩
  have HSZ : Bx (x.sz ≤ 200000 ∧ y.sz ≤ 200000) := ⟨hx, hy⟩
  have HBA : Bx (B ≤ A) := ⟨by omega⟩
  clear hp h1 h2 h3 k1 k2 k3 hb0 ha0 ha1 ha2 hLo hx hy hB hz0
  subst hA
  go_enter Try.func8, Try.ntmps8
  go_wp2_with (first
    | (go_at_call 21; refine Calls.mono HF.out ?_; clear HF; rintro e w1 (⟨z', a1, hf', rfl, hu1, hb1⟩ | ⟨hf', _, _⟩); rotate_left; exact absurd (hf.symm.trans hf') (by simp); obtain rfl : z = z' := Option.some.inj (hf.symm.trans hf'); clear hf'; obtain ⟨⟨q1, d1, rfl, _⟩, _, _⟩ := hu1; obtain ⟨W1, hW1⟩ : ∃ W1, w1.alloc (Obj.cells #[.int .i64 z.k, .int .i64 z.n, .slice q1 z.l.length d1] 24) = W1 := ⟨_, rfl⟩; have HB1 : Bx (Below W0.heap.size W0 W1) := ⟨hb1.trans (by rw [← hW1]; exact (below1 _ _).mono hb1.size)⟩; obtain ⟨m0, m1, m2, n0, n1, n2, hM⟩ := c3 (HN.out W1 HB1.out).1.1; clear hb1 c0 c1 c2 f0 f1 f2 hAl)
    | (go_at_call 22; refine Calls.mono (own_any W1 B (.agg #[.int .i64 x.k, .int .i64 x.n, .slice p x.l.length cap]) x (HN.out W1 HB1.out).2.1.1 (by have := HBA.out; have := (HN.out W1 HB1.out).2.2.2.1; omega) HSZ.out.1) ?_; rintro e w2 ⟨qo, co, G, rfl, hT, hroot, hb2⟩; obtain ⟨W2, hW2⟩ : ∃ W2, w2.alloc (Obj.cells #[.int .i64 x.k, .int .i64 x.n, .slice qo x.l.length co] 24) = W2 := ⟨_, rfl⟩; have hbb : Below w2.heap.size w2 W2 := (by rw [← hW2]; exact below1 _ _); have hO2 : W2.heap[w2.heap.size]? = some (Obj.cells #[.int .i64 x.k, .int .i64 x.n, .slice qo x.l.length co] 24) := (by rw [← hW2]; exact World.alloc_heap_new _ _); have HB2 : Bx (Below W0.heap.size W0 W2) := ⟨HB1.out.trans ((hb2.trans (hbb.mono hb2.size)).mono HB1.out.size)⟩; have HO : Bx (OwT W2 W1.heap.size G ∧ ChG G [] qo co x.l ∧ W2.heap[w2.heap.size]? = some (Obj.cells #[.int .i64 x.k, .int .i64 x.n, .slice qo x.l.length co] 24) ∧ (∀ g p, G g = some p → g < w2.heap.size) ∧ W1.heap.size ≤ w2.heap.size) := ⟨hT.below hbb, hroot, hO2, fun g p hg => (hT g p.1 p.2 hg).lt, hb2.size⟩; obtain ⟨O, hOe⟩ : ∃ O, w2.heap.size = O := ⟨_, rfl⟩; have hOB : Bx _ := ⟨hOe⟩; clear hT hroot hb2 hbb hO2 m0 m1 m2 n0 n1 n2 hM))
  rw [hOB.out] at HO
  have HPL : Bx (PlI W2 G x ks O qo 0 x O 0 qo co) := ⟨by
    obtain ⟨m0, m1, m2, _⟩ := c3 HO.out.2.2.1
    exact ⟨by simp, m0, m1, m2, ⟨_, HO.out.2.2.1⟩, HO.out.2.1, rfl, .inl ⟨rfl, rfl, rfl⟩⟩⟩
  clear hOe hOB hW0 hW1 hW2
  go_loopg [11, 27] ks.length (fun k pv iv wr => ∃ (i : Nat) (y' : V) (b o : Nat) (q : Option Addr) (c : Nat), k = ks.length - i ∧ i ≤ ks.length ∧ iv = .int .i64 i ∧ pv = .pointer (some ⟨b, o, none⟩) ∧ wr = W2 ∧ Bx (PlI W2 G x ks O qo i y' b o q c))
  case atStart => exact ⟨0, x, O, 0, qo, co, by simp, by omega, rfl, rfl, rfl, HPL⟩
  case round =>
    clear HPL
    obtain ⟨i, y', b, o, q, c, hk, hil, rfl, rfl, rfl, HPL⟩ := hrel
    by_cases hlt : i < ks.length
    · obtain ⟨e, g, he, q', c', hke, rfl, rfl, hn⟩ := PlI.next HO.out.1 HPL.out hlt hf
      obtain ⟨b2, o2, rfl, _, g0, _⟩ := (HN.out wr HB2.out).2.2.2.2.at_ i hlt
      rw [hke] at g0
      have g2 := HPL.out.c2
      have HNX : Bx _ := ⟨hn⟩
      clear hn HPL hke
      go_wp2
      go_roundg (ks.length - (i + 1))
      case measure => omega
      case rel => exact ⟨i + 1, y'.l[e], g, e * 3, q', c', rfl, by omega, by simp, by simp, rfl, HNX⟩
    · have hie : i = ks.length := by omega
      subst hie
      have hyz : z = y' := by
        have := HPL.out.f
        rw [hf] at this
        simpa [findV] using this
      subst hyz
      obtain ⟨y0, y1, y2, z0, z1, z2, hYl⟩ := c3 (HN.out wr HB2.out).1.2.1
      have HOW : Bx (Calls Try.prog 22 #[.agg #[.int .i64 y.k, .int .i64 y.n, .slice r y.l.length rcap]] wr (OnPost wr y)) := ⟨own_any wr B _ y (HN.out wr HB2.out).2.1.2 (by have := HBA.out; have := (HN.out wr HB2.out).2.2.2.1; omega) HSZ.out.2⟩
      have HZ : Bx (w.heap.size + 3 ≤ W1.heap.size ∧ O < wr.heap.size ∧ b < wr.heap.size ∧ w.heap.size + 3 ≤ b ∧ w.heap.size + 2 ≠ b) := ⟨by
        have q1 := (HN.out W1 HB1.out).2.2.2.1
        have q2 := (Array.getElem?_eq_some_iff.1 HO.out.2.2.1).1
        obtain ⟨cur, q3⟩ := HPL.out.blk
        have q4 := (Array.getElem?_eq_some_iff.1 q3).1
        have q5 := HO.out.2.2.2.2
        have q6 : w.heap.size + 3 ≤ b := by
          rcases HPL.out.pos with ⟨_, h2, _⟩ | ⟨j, m, hj, _, _, hg, _⟩
          · omega
          · have := (HO.out.1 b _ _ hg).ge
            omega
        exact ⟨q1, q2, q4, q6, by omega⟩⟩
      have HST : Bx (∀ w3, Below wr.heap.size wr w3 → (w3.cell? ⟨b, o, none⟩ = some (.int .i64 z.k) ∧ w3.cell? ⟨b, o + 1, none⟩ = some (.int .i64 z.n) ∧ w3.cell? ⟨b, o + 2, none⟩ = some (.slice q z.l.length c)) ∧ (∀ t, w3.frozen? ⟨b, t, none⟩ = false) ∧ b < w3.heap.size ∧ w3.heap[O]? = wr.heap[O]? ∧ w3.heap[w.heap.size + 2]? = some z3) := ⟨fun w3 h3 => by
        obtain ⟨cur, q3⟩ := HPL.out.blk
        have hbl := HZ.out.2.2.1
        have hb3 := (h3.block b hbl).trans q3
        exact ⟨⟨by rw [h3.cell (p := ⟨b, o, none⟩) hbl]; exact HPL.out.c0, by rw [h3.cell (p := ⟨b, o + 1, none⟩) hbl]; exact HPL.out.c1, by rw [h3.cell (p := ⟨b, o + 2, none⟩) hbl]; exact HPL.out.c2⟩, fun t => by simp [World.frozen?, hb3], Nat.lt_of_lt_of_le hbl h3.size, h3.block O HZ.out.2.1, (h3.block _ (by have := HZ.out; omega)).trans (HN.out wr HB2.out).1.2.2⟩⟩
      have HEND : Bx (∀ w3 qp cp G2, OwT w3 wr.heap.size G2 → ChG G2 [] qp cp y.l → Below wr.heap.size wr w3 → ∀ W5, (∀ g, g ≠ b → g ≠ w.heap.size + 2 → W5.heap[g]? = w3.heap[g]?) → w3.heap.size ≤ W5.heap.size → (b ≠ O → W5.heap[b]? = (((w3.setCell ⟨b, o, none⟩ (.int .i64 y.k)).setCell ⟨b, o + 1, none⟩ (.int .i64 y.n)).setCell ⟨b, o + 2, none⟩ (.slice qp y.l.length cp)).heap[b]?) →
        (ks = [] ∧ b = O ∧ o = 0 ∧ putV x ks y = y ∧ SlV W5 W5.heap.size qp cp y.l) ∨ (b ≠ O ∧ (putV x ks y).k = x.k ∧ (putV x ks y).n = x.n ∧ (putV x ks y).l.length = x.l.length ∧ SlV W5 W5.heap.size qo co (putV x ks y).l)) := ⟨fun w3 qp cp G2 a1 a2 a3 W5 a4 a5 a6 => by
        have hz := HZ.out
        have hsx := HSZ.out
        refine wi_end (lo := W1.heap.size) HO.out.1 HO.out.2.1 hf (by omega) (by omega) HI.out.2.1 HI.out.2.2 HPL.out a1 a2 a3 hz.2.1 (fun g p hg hgb => a4 g hgb ?_) (fun g p hg => a4 g ?_ ?_) a5 a6 (fun g p hg => Nat.ne_of_lt (HO.out.2.2.2.1 g p hg))
        · have := (HO.out.1 g _ _ hg).ge
          omega
        · have := (a1 g _ _ hg).ge
          omega
        · have := (a1 g _ _ hg).ge
          omega⟩
      have HBW : Bx (Below w.heap.size w wr) := ⟨(HN.out wr HB2.out).2.2.1⟩
      rcases HPL.out.pos with ⟨h1, h2, h3⟩ | ⟨j, m, hj, hij, ho, hg, hw⟩
      · subst h2 h3
        have hk0 : ks = [] := List.eq_nil_of_length_eq_zero h1
        clear HPL hk
        go_wp2_with (first
          | (go_at_call 22; refine Calls.mono HOW.out ?_; clear HOW; rintro e w3 ⟨qp, cp, G2, rfl, hT2, hch, hb3⟩; obtain ⟨⟨e0, e1, e2⟩, ef, hbl, hO3, hA3⟩ := HST.out w3 hb3; have ef0 := ef 0; have ef1 := ef 1; have ef2 := ef 2; rw [Nat.zero_add] at e1 e2; obtain ⟨W4, hW4⟩ : ∃ W4, ((w3.setCell ⟨b, 0, none⟩ (.int .i64 y.k)).setCell ⟨b, 1, none⟩ (.int .i64 y.n)).setCell ⟨b, 2, none⟩ (.slice qp y.l.length cp) = W4 := ⟨_, rfl⟩; have hO4 : W4.heap[b]? = some (Obj.cells #[.int .i64 y.k, .int .i64 y.n, .slice qp y.l.length cp] 24) := (by rw [← hW4]; exact set3 (hO3.trans HO.out.2.2.1)); have hA4 : W4.heap[w.heap.size + 1 + 1]? = some z3 := (by rw [← hW4]; exact (set3_other _ _ _ HZ.out.2.2.2.2).trans hA3); obtain ⟨p0, p1, p2, q0, q1, q2, hPl⟩ := c3 hO4; obtain ⟨r0, r1, r2, s0, s1, s2, hAl⟩ := c3 hA4; have HX : Bx (OwT w3 wr.heap.size G2 ∧ ChG G2 [] qp cp y.l ∧ Below wr.heap.size wr w3) := ⟨hT2, hch, hb3⟩; have HW4 : Bx _ := ⟨hW4⟩; clear hT2 hch hb3 hO4 hA4 hO3 hA3 HST ef))
        refine bodyPost_ret (v := .tuple #[.agg #[.int .i64 y.k, .int .i64 y.n, .slice qp y.l.length cp], .bool true]) (by simp [results, Try.results8, go_sem, r0, r1, r2, hAl]) rfl ⟨_, rfl, ?_, ?_⟩
        · rcases HEND.out w3 qp cp G2 HX.out.1 HX.out.2.1 HX.out.2.2 (((W4.setCell ⟨w.heap.size + 1 + 1, 0, none⟩ (.int .i64 y.k)).setCell ⟨w.heap.size + 1 + 1, 1, none⟩ (.int .i64 y.n)).setCell ⟨w.heap.size + 1 + 1, 2, none⟩ (.slice qp y.l.length cp)) (fun g g1 g2 => by rw [set3_other _ _ _ g2, ← HW4.out, set3_other _ _ _ g1]) (by simp [← HW4.out]) (fun h => absurd rfl h) with ⟨_, _, _, e4, e5⟩ | ⟨e1, _⟩
          · rw [e4]
            exact ⟨⟨qp, cp, rfl, e5⟩, HI.out.2.1, HI.out.2.2⟩
          · exact absurd rfl e1
        · refine below3 (A := w.heap.size + 1 + 1) ?_ (by omega) _ _ _
          rw [← HW4.out]
          exact below3 (HBW.out.trans (HX.out.2.2.mono HBW.out.size)) (by have := HZ.out; omega) _ _ _
      · have hbO : b ≠ O := Nat.ne_of_lt (HO.out.2.2.2.1 b _ hg)
        clear HPL hk hg hw ho hij hj
        go_wp2_with (first
          | (go_at_call 22; refine Calls.mono HOW.out ?_; clear HOW; rintro e w3 ⟨qp, cp, G2, rfl, hT2, hch, hb3⟩; obtain ⟨⟨e0, e1, e2⟩, ef, hbl, hO3, hA3⟩ := HST.out w3 hb3; have ef0 := ef o; have ef1 := ef (o + 1); have ef2 := ef (o + 2); obtain ⟨W4, hW4⟩ : ∃ W4, ((w3.setCell ⟨b, o, none⟩ (.int .i64 y.k)).setCell ⟨b, o + 1, none⟩ (.int .i64 y.n)).setCell ⟨b, o + 2, none⟩ (.slice qp y.l.length cp) = W4 := ⟨_, rfl⟩; have hO4 : W4.heap[O]? = some (Obj.cells #[.int .i64 x.k, .int .i64 x.n, .slice qo x.l.length co] 24) := (by rw [← hW4]; exact (set3o _ _ _ (fun e => hbO e.symm)).trans (hO3.trans HO.out.2.2.1)); have hA4 : W4.heap[w.heap.size + 1 + 1]? = some z3 := (by rw [← hW4]; exact (set3o _ _ _ HZ.out.2.2.2.2).trans hA3); obtain ⟨p0, p1, p2, q0, q1, q2, hPl⟩ := c3 hO4; obtain ⟨r0, r1, r2, s0, s1, s2, hAl⟩ := c3 hA4; have HX : Bx (OwT w3 wr.heap.size G2 ∧ ChG G2 [] qp cp y.l ∧ Below wr.heap.size wr w3) := ⟨hT2, hch, hb3⟩; have HW4 : Bx _ := ⟨hW4⟩; clear hT2 hch hb3 hO4 hA4 hO3 hA3 HST ef))
        refine bodyPost_ret (v := .tuple #[.agg #[.int .i64 x.k, .int .i64 x.n, .slice qo x.l.length co], .bool true]) (by simp [results, Try.results8, go_sem, r0, r1, r2, hAl]) rfl ⟨_, rfl, ?_, ?_⟩
        · rcases HEND.out w3 qp cp G2 HX.out.1 HX.out.2.1 HX.out.2.2 (((W4.setCell ⟨w.heap.size + 1 + 1, 0, none⟩ (.int .i64 x.k)).setCell ⟨w.heap.size + 1 + 1, 1, none⟩ (.int .i64 x.n)).setCell ⟨w.heap.size + 1 + 1, 2, none⟩ (.slice qo x.l.length co)) (fun g g1 g2 => by rw [set3_other _ _ _ g2, ← HW4.out, set3o _ _ _ g1]) (by simp [← HW4.out]) (fun h => by rw [set3_other _ _ _ (fun e => HZ.out.2.2.2.2 e.symm), ← HW4.out]) with ⟨_, e1, _⟩ | ⟨_, e2, e3, e4, e5⟩
          · exact absurd e1 hbO
          · refine ⟨⟨qo, co, by rw [e2, e3, e4], e5⟩, by rw [e2]; exact HI.out.1.1, by rw [e3]; exact HI.out.1.2⟩
        · refine below3 (A := w.heap.size + 1 + 1) ?_ (by omega) _ _ _
          rw [← HW4.out]
          exact below3o (HBW.out.trans (HX.out.2.2.mono HBW.out.size)) (by have := HZ.out; omega) _ _ _
set_option maxRecDepth 100000 in
set_option maxHeartbeats 2000000 in
theorem With_no (w : World) (B : Nat) (v u : Value) (x y : V) (pp : Option Addr) (pc : Nat) (ks : List Int) (hv : IsV w B v x) (hu : IsV w B u y) (hp : Pth w B pp pc ks) (hB : B ≤ w.heap.size) (hf : findV x ks = none) :
    Calls Try.prog 8 #[v, .slice pp ks.length pc, u] w fun e w' => e = .returned (.tuple #[pv 0 0, .bool false]) ∧ Below w.heap.size w w' := by
  obtain ⟨⟨p, cap, rfl, h1⟩, h2, h3⟩ := hv
  obtain ⟨⟨r, rcap, rfl, k1⟩, k2, k3⟩ := hu
  obtain ⟨W0, hW0⟩ : ∃ W0, ((w.alloc (Obj.cells #[.int .i64 x.k, .int .i64 x.n, .slice p x.l.length cap] 24)).alloc (Obj.cells #[.int .i64 y.k, .int .i64 y.n, .slice r y.l.length rcap] 24)).alloc z3 = W0 := ⟨_, rfl⟩
  have hb0 : Below w.heap.size w W0 := by rw [← hW0]; exact three_new _ _ _ _
  have ha0 : W0.heap[w.heap.size]? = some (Obj.cells #[.int .i64 x.k, .int .i64 x.n, .slice p x.l.length cap] 24) := by
    rw [← hW0]; exact (Below.heap_alloc _ _ _ (by simp; omega)).trans ((Below.heap_alloc _ _ _ (by simp)).trans (World.alloc_heap_new _ _))
  have ha2 : W0.heap[w.heap.size + 1 + 1]? = some z3 := by
    rw [← hW0]; have := World.alloc_heap_new ((w.alloc (Obj.cells #[.int .i64 x.k, .int .i64 x.n, .slice p x.l.length cap] 24)).alloc (Obj.cells #[.int .i64 y.k, .int .i64 y.n, .slice r y.l.length rcap] 24)) z3; simpa using this
  obtain ⟨c0, c1, c2, f0, f1, f2, hAl⟩ := c3 ha0
  have hLo : Lo B w W0 := Lo.of (hb0.mono hB)
  have HF : Bx _ := ⟨find_any W0 B (.agg #[.int .i64 x.k, .int .i64 x.n, .slice p x.l.length cap]) x pp pc ks ⟨⟨p, cap, rfl, h1.lo hLo⟩, h2, h3⟩ (hp.lo hLo) (by have := hb0.size; omega)⟩
  have HB0 : Bx _ := ⟨hb0⟩
  have HH1 : Bx _ := ⟨ha2⟩
  clear hp h1 h2 h3 hb0 ha0 ha2 hLo k1 k2 k3
  go_enter Try.func8, Try.ntmps8
  go_wp2_with (first | (go_at_call 21; refine Calls.mono HF.out ?_; rintro e w2 (⟨y', u, hf', rfl, hu, hb2⟩ | ⟨hf', rfl, hb2⟩); exact absurd (hf.symm.trans hf') (by simp); have hz2 := hb2.size; have hw1 : w.heap.size + 1 + 1 < W0.heap.size := (Array.getElem?_eq_some_iff.1 HH1.out).1; have hr3 : w2.heap[w.heap.size + 1 + 1]? = some z3 := (hb2.block _ hw1).trans HH1.out; obtain ⟨r0, r1, r2, s0, s1, s2, hAl3⟩ := c3 hr3; clear hr3))
  refine bodyPost_ret (v := .tuple #[pv 0 0, .bool false]) (by simp [results, Try.results8, go_sem, r0, r1, r2, hAl3]) rfl ⟨rfl, ?_⟩
  refine (below3 (A := w.heap.size + 1 + 1) (HB0.out.trans (hb2.mono HB0.out.size)) (by omega) _ _ _).trans ((below1 _ _).mono ?_)
  simp only [World.size_setCell]
  omega
end Go.Proofs.Ytikijkpklneihaa
namespace Go.Proofs.Ytikijkpklneihaa
open Go.RowKit
set_option linter.unusedVariables false
set_option linter.unusedSimpArgs false

set_option maxRecDepth 100000 in
set_option maxHeartbeats 2000000 in
theorem Part_own (w : World) (B : Nat) (v : Value) (x y : V) (pp : Option Addr) (pc : Nat) (ks : List Int) (hv : IsV w B v x) (hp : Pth w B pp pc ks) (hB : B ≤ w.heap.size) (hf : findV x ks = some y) (hx : x.sz ≤ 200000) :
    Calls Try.prog 7 #[v, .slice pp ks.length pc] w fun e w' => ∃ qp cp, e = .returned (.tuple #[.agg #[.int .i64 y.k, .int .i64 y.n, .slice qp y.l.length cp], .bool true]) ∧ (I64 y.k ∧ I64 y.n) ∧ Prv w' w.heap.size w'.heap.size 0 y qp cp ∧ Below w.heap.size w w' := by
  have hys : y.sz ≤ 200000 := by have := find_sz hf; omega
  obtain ⟨⟨p, cap, rfl, h1⟩, h2, h3⟩ := hv
  obtain ⟨W0, hW0⟩ : ∃ W0, (w.alloc (Obj.cells #[Value.int IntKind.i64 x.k, Value.int IntKind.i64 x.n, Value.slice p x.l.length cap] 24)).alloc z3 = W0 := ⟨_, rfl⟩
  have hb0 : Below w.heap.size w W0 := by rw [← hW0]; exact two_new _ _ _
  have ha0 : W0.heap[w.heap.size]? = some (Obj.cells #[Value.int IntKind.i64 x.k, Value.int IntKind.i64 x.n, Value.slice p x.l.length cap] 24) := by
    rw [← hW0]; exact (Below.heap_alloc _ _ _ (by simp)).trans (World.alloc_heap_new _ _)
  have ha1 : W0.heap[w.heap.size + 1]? = some z3 := by rw [← hW0]; exact alloc_at _ _ _
  obtain ⟨c0, c1, c2, f0, f1, f2, hAl⟩ := c3 ha0
  have hLo : Lo B w W0 := Lo.of (hb0.mono hB)
  have HF : Bx _ := ⟨find_any W0 B (.agg #[.int .i64 x.k, .int .i64 x.n, .slice p x.l.length cap]) x pp pc ks ⟨⟨p, cap, rfl, h1.lo hLo⟩, h2, h3⟩ (hp.lo hLo) (by have := hb0.size; omega)⟩
  have HB0 : Bx _ := ⟨hb0⟩
  have HH1 : Bx _ := ⟨ha1⟩
  have HY : Bx _ := ⟨hys⟩
  clear hp h1 h2 h3 hb0 ha0 ha1 hLo hys hx
  go_enter Try.func7, Try.ntmps7
  go_wp2_with (first | (go_at_call 21; refine Calls.mono HF.out ?_; rintro e w2 (⟨y', u, hf', rfl, hu, hb2⟩ | ⟨hf', _, _⟩); rotate_left; exact absurd (hf.symm.trans hf') (by simp); obtain rfl : y = y' := Option.some.inj (hf.symm.trans hf'); have hz2 := hb2.size; have HU : Bx _ := ⟨hu⟩; obtain ⟨⟨q, d, rfl, _⟩, _, _⟩ := hu; obtain ⟨W3, hW3⟩ : ∃ W3, w2.alloc (Obj.cells #[.int .i64 y.k, .int .i64 y.n, .slice q y.l.length d] 24) = W3 := ⟨_, rfl⟩; have HB3 : Bx (Below w2.heap.size w2 W3) := ⟨by rw [← hW3]; exact below1 _ _⟩; have h3a : W3.heap[w2.heap.size]? = some (Obj.cells #[.int .i64 y.k, .int .i64 y.n, .slice q y.l.length d] 24) := (by rw [← hW3]; exact World.alloc_heap_new _ _); obtain ⟨d0, d1, d2, e0, e1, e2, hDl⟩ := c3 h3a; clear h3a) | (go_at_call 22; refine Calls.mono (own_any W3 B (.agg #[.int .i64 y.k, .int .i64 y.n, .slice q y.l.length d]) y (HU.out.lo (Lo.of (HB3.out.mono (by have := HB0.out.size; omega)))) (by have := HB0.out.size; omega) HY.out) ?_; rintro e w4 ⟨q', c', G, rfl, HO, HCh, hb4⟩; have hw1 : w.heap.size + 1 < W0.heap.size := (Array.getElem?_eq_some_iff.1 HH1.out).1; have hr4 : w4.heap[w.heap.size + 1]? = some z3 := (hb4.block _ (by have := HB3.out.size; omega)).trans ((HB3.out.block _ (by omega)).trans ((hb2.block _ hw1).trans HH1.out)); obtain ⟨r0, r1, r2, s0, s1, s2, hAl3⟩ := c3 hr4; have HO' : Bx _ := ⟨HO⟩; have HC' : Bx _ := ⟨HCh⟩; clear HO HCh hr4))
  refine bodyPost_ret (v := .tuple #[.agg #[.int .i64 y.k, .int .i64 y.n, .slice q' y.l.length c'], .bool true]) (by simp [results, Try.results7, go_sem, r0, r1, r2, hAl3]) rfl ⟨_, _, rfl, ⟨HU.out.k64, HU.out.n64⟩, ?_, ?_⟩
  · have hz3 := HB3.out.size
    have hT5 : OwT (((w4.setCell ⟨w.heap.size + 1, 0, none⟩ (.int .i64 y.k)).setCell ⟨w.heap.size + 1, 1, none⟩ (.int .i64 y.n)).setCell ⟨w.heap.size + 1, 2, none⟩ (.slice q' y.l.length c')) W3.heap.size G := HO'.out.keep fun b p hg => set3_other _ _ _ (by
      have := (HO'.out b p.1 p.2 hg).ge
      omega)
    intro id q0 hid
    refine ⟨ghG G id q0, ?_, fun b hb => ?_, fun b r hb => ?_⟩
    · have := hT5.tr (ρ := ghG G id q0) (id := id) (q0 := q0) (fun b π l hg => ghG_at hg) y HC'.out (by have := HY.out; omega)
      simpa using this
    · obtain ⟨p, hp⟩ := ghG_ne hb
      have h1 := (HO'.out b p.1 p.2 hp).ge
      have h2 := (HO'.out b p.1 p.2 hp).lt
      have h3 := HB0.out.size
      simp only [World.size_setCell]
      omega
    · cases hg : G b with
      | none => simp [ghG, hg] at hb
      | some p => exact ⟨p.1.reverse, by simp [ghG, hg] at hb; rw [← hb]⟩
  · exact below3 (((HB0.out.trans (hb2.mono HB0.out.size)).trans (HB3.out.mono (by have := HB0.out.size; omega))).trans (hb4.mono (by have := HB0.out.size; have := HB3.out.size; omega))) (by omega) _ _ _
set_option maxRecDepth 100000 in
set_option maxHeartbeats 4000000 in
theorem With_own (w : World) (B : Nat) (v u : Value) (x y z : V) (pp : Option Addr) (pc : Nat) (ks : List Int) (hv : IsV w B v x) (hu : IsV w B u y) (hp : Pth w B pp pc ks) (hB : B ≤ w.heap.size) (hf : findV x ks = some z) (hx : x.sz ≤ 200000) (hy : y.sz ≤ 200000) :
    Calls Try.prog 8 #[v, .slice pp ks.length pc, u] w fun e w' => ∃ qa ca, e = .returned (.tuple #[.agg #[.int .i64 (putV x ks y).k, .int .i64 (putV x ks y).n, .slice qa (putV x ks y).l.length ca], .bool true]) ∧ (I64 (putV x ks y).k ∧ I64 (putV x ks y).n) ∧ Prv w' w.heap.size w'.heap.size 0 (putV x ks y) qa ca ∧ Below w.heap.size w w' := by
  obtain ⟨⟨p, cap, rfl, h1⟩, h2, h3⟩ := hv
  obtain ⟨⟨r, rcap, rfl, k1⟩, k2, k3⟩ := hu
  have hpl := hp.len
  have hpm := hp.max
  unfold maxLen at hpm
  obtain ⟨A, hA⟩ : ∃ A, A = w.heap.size := ⟨_, rfl⟩
  obtain ⟨W0, hW0⟩ : ∃ W0, ((w.alloc (Obj.cells #[.int .i64 x.k, .int .i64 x.n, .slice p x.l.length cap] 24)).alloc (Obj.cells #[.int .i64 y.k, .int .i64 y.n, .slice r y.l.length rcap] 24)).alloc z3 = W0 := ⟨_, rfl⟩
  have hb0 : Below A w W0 := by rw [hA, ← hW0]; exact three_new _ _ _ _
  have hz0 : W0.heap.size = A + 3 := by rw [hA, ← hW0]; simp
  have ha0 : W0.heap[A]? = some (Obj.cells #[.int .i64 x.k, .int .i64 x.n, .slice p x.l.length cap] 24) := by
    rw [hA, ← hW0]; exact (Below.heap_alloc _ _ _ (by simp; omega)).trans ((Below.heap_alloc _ _ _ (by simp)).trans (World.alloc_heap_new _ _))
  have ha1 : W0.heap[A + 1]? = some (Obj.cells #[.int .i64 y.k, .int .i64 y.n, .slice r y.l.length rcap] 24) := by
    rw [hA, ← hW0]; exact (Below.heap_alloc _ _ _ (by simp)).trans (alloc_at _ _ _)
  have ha2 : W0.heap[A + 2]? = some z3 := by
    rw [hA, ← hW0]; have := World.alloc_heap_new ((w.alloc (Obj.cells #[.int .i64 x.k, .int .i64 x.n, .slice p x.l.length cap] 24)).alloc (Obj.cells #[.int .i64 y.k, .int .i64 y.n, .slice r y.l.length rcap] 24)) z3; simpa using this
  obtain ⟨c0, c1, c2, f0, f1, f2, hAl⟩ := c3 ha0
  have hLo : Lo B w W0 := Lo.of (hb0.mono (by omega))
  have HF : Bx _ := ⟨find_any W0 B (.agg #[.int .i64 x.k, .int .i64 x.n, .slice p x.l.length cap]) x pp pc ks ⟨⟨p, cap, rfl, h1.lo hLo⟩, h2, h3⟩ (hp.lo hLo) (by omega)⟩
  have HP : Bx (Pth w B pp pc ks) := ⟨hp⟩
  -- a world behind W0
  have HN : Bx (∀ X, Below W0.heap.size W0 X → (X.heap[A]? = some (Obj.cells #[.int .i64 x.k, .int .i64 x.n, .slice p x.l.length cap] 24) ∧ X.heap[A + 1]? = some (Obj.cells #[.int .i64 y.k, .int .i64 y.n, .slice r y.l.length rcap] 24) ∧ X.heap[A + 2]? = some z3) ∧ (IsV X B (.agg #[.int .i64 x.k, .int .i64 x.n, .slice p x.l.length cap]) x ∧ IsV X B (.agg #[.int .i64 y.k, .int .i64 y.n, .slice r y.l.length rcap]) y) ∧ Below A w X ∧ A + 3 ≤ X.heap.size ∧ Pth X B pp pc ks) := ⟨fun X hX => by
    have hs := hX.size
    have hbX : Below A w X := hb0.trans (hX.mono (by omega))
    have hLX : Lo B w X := Lo.of (hbX.mono (by omega))
    exact ⟨⟨(hX.block A (by omega)).trans ha0, (hX.block (A + 1) (by omega)).trans ha1, (hX.block (A + 2) (by omega)).trans ha2⟩, ⟨⟨⟨p, cap, rfl, h1.lo hLX⟩, h2, h3⟩, ⟨⟨r, rcap, rfl, k1.lo hLX⟩, k2, k3⟩⟩, hbX, by omega, hp.lo hLX⟩⟩
  have HI : Bx ((I64 x.k ∧ I64 x.n) ∧ I64 y.k ∧ I64 y.n) := ⟨⟨h2, h3⟩, k2, k3⟩
  have HSZ : Bx (x.sz ≤ 200000 ∧ y.sz ≤ 200000) := ⟨hx, hy⟩
  have HBA : Bx (B ≤ A) := ⟨by omega⟩
  clear hp h1 h2 h3 k1 k2 k3 hb0 ha0 ha1 ha2 hLo hx hy hB hz0
  subst hA
  go_enter Try.func8, Try.ntmps8
  go_wp2_with (first
    | (go_at_call 21; refine Calls.mono HF.out ?_; clear HF; rintro e w1 (⟨z', a1, hf', rfl, hu1, hb1⟩ | ⟨hf', _, _⟩); rotate_left; exact absurd (hf.symm.trans hf') (by simp); obtain rfl : z = z' := Option.some.inj (hf.symm.trans hf'); clear hf'; obtain ⟨⟨q1, d1, rfl, _⟩, _, _⟩ := hu1; obtain ⟨W1, hW1⟩ : ∃ W1, w1.alloc (Obj.cells #[.int .i64 z.k, .int .i64 z.n, .slice q1 z.l.length d1] 24) = W1 := ⟨_, rfl⟩; have HB1 : Bx (Below W0.heap.size W0 W1) := ⟨hb1.trans (by rw [← hW1]; exact (below1 _ _).mono hb1.size)⟩; obtain ⟨m0, m1, m2, n0, n1, n2, hM⟩ := c3 (HN.out W1 HB1.out).1.1; clear hb1 c0 c1 c2 f0 f1 f2 hAl)
    | (go_at_call 22; refine Calls.mono (own_any W1 B (.agg #[.int .i64 x.k, .int .i64 x.n, .slice p x.l.length cap]) x (HN.out W1 HB1.out).2.1.1 (by have := HBA.out; have := (HN.out W1 HB1.out).2.2.2.1; omega) HSZ.out.1) ?_; rintro e w2 ⟨qo, co, G, rfl, hT, hroot, hb2⟩; obtain ⟨W2, hW2⟩ : ∃ W2, w2.alloc (Obj.cells #[.int .i64 x.k, .int .i64 x.n, .slice qo x.l.length co] 24) = W2 := ⟨_, rfl⟩; have hbb : Below w2.heap.size w2 W2 := (by rw [← hW2]; exact below1 _ _); have hO2 : W2.heap[w2.heap.size]? = some (Obj.cells #[.int .i64 x.k, .int .i64 x.n, .slice qo x.l.length co] 24) := (by rw [← hW2]; exact World.alloc_heap_new _ _); have HB2 : Bx (Below W0.heap.size W0 W2) := ⟨HB1.out.trans ((hb2.trans (hbb.mono hb2.size)).mono HB1.out.size)⟩; have HO : Bx (OwT W2 W1.heap.size G ∧ ChG G [] qo co x.l ∧ W2.heap[w2.heap.size]? = some (Obj.cells #[.int .i64 x.k, .int .i64 x.n, .slice qo x.l.length co] 24) ∧ (∀ g p, G g = some p → g < w2.heap.size) ∧ W1.heap.size ≤ w2.heap.size) := ⟨hT.below hbb, hroot, hO2, fun g p hg => (hT g p.1 p.2 hg).lt, hb2.size⟩; obtain ⟨O, hOe⟩ : ∃ O, w2.heap.size = O := ⟨_, rfl⟩; have hOB : Bx _ := ⟨hOe⟩; clear hT hroot hb2 hbb hO2 m0 m1 m2 n0 n1 n2 hM))
  rw [hOB.out] at HO
  have HPL : Bx (PlI W2 G x ks O qo 0 x O 0 qo co) := ⟨by
    obtain ⟨m0, m1, m2, _⟩ := c3 HO.out.2.2.1
    exact ⟨by simp, m0, m1, m2, ⟨_, HO.out.2.2.1⟩, HO.out.2.1, rfl, .inl ⟨rfl, rfl, rfl⟩⟩⟩
  clear hOe hOB hW0 hW1 hW2
  go_loopg [11, 27] ks.length (fun k pv iv wr => ∃ (i : Nat) (y' : V) (b o : Nat) (q : Option Addr) (c : Nat), k = ks.length - i ∧ i ≤ ks.length ∧ iv = .int .i64 i ∧ pv = .pointer (some ⟨b, o, none⟩) ∧ wr = W2 ∧ Bx (PlI W2 G x ks O qo i y' b o q c))
  case atStart => exact ⟨0, x, O, 0, qo, co, by simp, by omega, rfl, rfl, rfl, HPL⟩
  case round =>
    clear HPL
    obtain ⟨i, y', b, o, q, c, hk, hil, rfl, rfl, rfl, HPL⟩ := hrel
    by_cases hlt : i < ks.length
    · obtain ⟨e, g, he, q', c', hke, rfl, rfl, hn⟩ := PlI.next HO.out.1 HPL.out hlt hf
      obtain ⟨b2, o2, rfl, _, g0, _⟩ := (HN.out wr HB2.out).2.2.2.2.at_ i hlt
      rw [hke] at g0
      have g2 := HPL.out.c2
      have HNX : Bx _ := ⟨hn⟩
      clear hn HPL hke
      go_wp2
      go_roundg (ks.length - (i + 1))
      case measure => omega
      case rel => exact ⟨i + 1, y'.l[e], g, e * 3, q', c', rfl, by omega, by simp, by simp, rfl, HNX⟩
    · have hie : i = ks.length := by omega
      subst hie
      have hyz : z = y' := by
        have := HPL.out.f
        rw [hf] at this
        simpa [findV] using this
      subst hyz
      obtain ⟨y0, y1, y2, z0, z1, z2, hYl⟩ := c3 (HN.out wr HB2.out).1.2.1
      have HOW : Bx (Calls Try.prog 22 #[.agg #[.int .i64 y.k, .int .i64 y.n, .slice r y.l.length rcap]] wr (OnPost wr y)) := ⟨own_any wr B _ y (HN.out wr HB2.out).2.1.2 (by have := HBA.out; have := (HN.out wr HB2.out).2.2.2.1; omega) HSZ.out.2⟩
      have HZ : Bx (w.heap.size + 3 ≤ W1.heap.size ∧ O < wr.heap.size ∧ b < wr.heap.size ∧ w.heap.size + 3 ≤ b ∧ w.heap.size + 2 ≠ b) := ⟨by
        have q1 := (HN.out W1 HB1.out).2.2.2.1
        have q2 := (Array.getElem?_eq_some_iff.1 HO.out.2.2.1).1
        obtain ⟨cur, q3⟩ := HPL.out.blk
        have q4 := (Array.getElem?_eq_some_iff.1 q3).1
        have q5 := HO.out.2.2.2.2
        have q6 : w.heap.size + 3 ≤ b := by
          rcases HPL.out.pos with ⟨_, h2, _⟩ | ⟨j, m, hj, _, _, hg, _⟩
          · omega
          · have := (HO.out.1 b _ _ hg).ge
            omega
        exact ⟨q1, q2, q4, q6, by omega⟩⟩
      have HST : Bx (∀ w3, Below wr.heap.size wr w3 → (w3.cell? ⟨b, o, none⟩ = some (.int .i64 z.k) ∧ w3.cell? ⟨b, o + 1, none⟩ = some (.int .i64 z.n) ∧ w3.cell? ⟨b, o + 2, none⟩ = some (.slice q z.l.length c)) ∧ (∀ t, w3.frozen? ⟨b, t, none⟩ = false) ∧ b < w3.heap.size ∧ w3.heap[O]? = wr.heap[O]? ∧ w3.heap[w.heap.size + 2]? = some z3) := ⟨fun w3 h3 => by
        obtain ⟨cur, q3⟩ := HPL.out.blk
        have hbl := HZ.out.2.2.1
        have hb3 := (h3.block b hbl).trans q3
        exact ⟨⟨by rw [h3.cell (p := ⟨b, o, none⟩) hbl]; exact HPL.out.c0, by rw [h3.cell (p := ⟨b, o + 1, none⟩) hbl]; exact HPL.out.c1, by rw [h3.cell (p := ⟨b, o + 2, none⟩) hbl]; exact HPL.out.c2⟩, fun t => by simp [World.frozen?, hb3], Nat.lt_of_lt_of_le hbl h3.size, h3.block O HZ.out.2.1, (h3.block _ (by have := HZ.out; omega)).trans (HN.out wr HB2.out).1.2.2⟩⟩
      have HEND : Bx (∀ w3 qp cp G2, OwT w3 wr.heap.size G2 → ChG G2 [] qp cp y.l → Below wr.heap.size wr w3 → ∀ W5, (∀ g, g ≠ b → g ≠ w.heap.size + 2 → W5.heap[g]? = w3.heap[g]?) → w3.heap.size ≤ W5.heap.size → (b ≠ O → W5.heap[b]? = (((w3.setCell ⟨b, o, none⟩ (.int .i64 y.k)).setCell ⟨b, o + 1, none⟩ (.int .i64 y.n)).setCell ⟨b, o + 2, none⟩ (.slice qp y.l.length cp)).heap[b]?) →
        (ks = [] ∧ b = O ∧ o = 0 ∧ putV x ks y = y ∧ Prv W5 wr.heap.size w3.heap.size 0 y qp cp) ∨ (b ≠ O ∧ (putV x ks y).k = x.k ∧ (putV x ks y).n = x.n ∧ (putV x ks y).l.length = x.l.length ∧ Prv W5 W1.heap.size w3.heap.size 0 (putV x ks y) qo co)) := ⟨fun w3 qp cp G2 a1 a2 a3 W5 a4 a5 a6 => by
        have hz := HZ.out
        have hsx := HSZ.out
        refine wi_endT (lo := W1.heap.size) HO.out.1 HO.out.2.1 hf (by omega) (by omega) HI.out.2.1 HI.out.2.2 HPL.out a1 a2 a3 hz.2.1 (fun g p hg hgb => a4 g hgb ?_) (fun g p hg => a4 g ?_ ?_) a5 a6 (fun g p hg => Nat.ne_of_lt (HO.out.2.2.2.1 g p hg))
        · have := (HO.out.1 g _ _ hg).ge
          omega
        · have := (a1 g _ _ hg).ge
          omega
        · have := (a1 g _ _ hg).ge
          omega⟩
      have HBW : Bx (Below w.heap.size w wr) := ⟨(HN.out wr HB2.out).2.2.1⟩
      rcases HPL.out.pos with ⟨h1, h2, h3⟩ | ⟨j, m, hj, hij, ho, hg, hw⟩
      · subst h2 h3
        have hk0 : ks = [] := List.eq_nil_of_length_eq_zero h1
        clear HPL hk
        go_wp2_with (first
          | (go_at_call 22; refine Calls.mono HOW.out ?_; clear HOW; rintro e w3 ⟨qp, cp, G2, rfl, hT2, hch, hb3⟩; obtain ⟨⟨e0, e1, e2⟩, ef, hbl, hO3, hA3⟩ := HST.out w3 hb3; have ef0 := ef 0; have ef1 := ef 1; have ef2 := ef 2; rw [Nat.zero_add] at e1 e2; obtain ⟨W4, hW4⟩ : ∃ W4, ((w3.setCell ⟨b, 0, none⟩ (.int .i64 y.k)).setCell ⟨b, 1, none⟩ (.int .i64 y.n)).setCell ⟨b, 2, none⟩ (.slice qp y.l.length cp) = W4 := ⟨_, rfl⟩; have hO4 : W4.heap[b]? = some (Obj.cells #[.int .i64 y.k, .int .i64 y.n, .slice qp y.l.length cp] 24) := (by rw [← hW4]; exact set3 (hO3.trans HO.out.2.2.1)); have hA4 : W4.heap[w.heap.size + 1 + 1]? = some z3 := (by rw [← hW4]; exact (set3_other _ _ _ HZ.out.2.2.2.2).trans hA3); obtain ⟨p0, p1, p2, q0, q1, q2, hPl⟩ := c3 hO4; obtain ⟨r0, r1, r2, s0, s1, s2, hAl⟩ := c3 hA4; have HX : Bx (OwT w3 wr.heap.size G2 ∧ ChG G2 [] qp cp y.l ∧ Below wr.heap.size wr w3) := ⟨hT2, hch, hb3⟩; have HW4 : Bx _ := ⟨hW4⟩; clear hT2 hch hb3 hO4 hA4 hO3 hA3 HST ef))
        refine bodyPost_ret (v := .tuple #[.agg #[.int .i64 y.k, .int .i64 y.n, .slice qp y.l.length cp], .bool true]) (by simp [results, Try.results8, go_sem, r0, r1, r2, hAl]) rfl ?_
        rcases HEND.out w3 qp cp G2 HX.out.1 HX.out.2.1 HX.out.2.2 (((W4.setCell ⟨w.heap.size + 1 + 1, 0, none⟩ (.int .i64 y.k)).setCell ⟨w.heap.size + 1 + 1, 1, none⟩ (.int .i64 y.n)).setCell ⟨w.heap.size + 1 + 1, 2, none⟩ (.slice qp y.l.length cp)) (fun g g1 g2 => by rw [set3_other _ _ _ g2, ← HW4.out, set3_other _ _ _ g1]) (by simp [← HW4.out]) (fun h => absurd rfl h) with ⟨_, _, _, e4, e5⟩ | ⟨e1, _⟩
        · rw [e4]
          have hs34 : w3.heap.size = W4.heap.size := by rw [← HW4.out]; simp
          have hz := HZ.out
          have hbz := HBW.out.size
          refine ⟨_, _, rfl, HI.out.2, e5.up hbz (by simp only [World.size_setCell]; omega), ?_⟩
          refine below3 (A := w.heap.size + 1 + 1) ?_ (by omega) _ _ _
          rw [← HW4.out]
          exact below3 (HBW.out.trans (HX.out.2.2.mono HBW.out.size)) (by have := HZ.out; omega) _ _ _
        · exact absurd rfl e1
      · have hbO : b ≠ O := Nat.ne_of_lt (HO.out.2.2.2.1 b _ hg)
        clear HPL hk hg hw ho hij hj
        go_wp2_with (first
          | (go_at_call 22; refine Calls.mono HOW.out ?_; clear HOW; rintro e w3 ⟨qp, cp, G2, rfl, hT2, hch, hb3⟩; obtain ⟨⟨e0, e1, e2⟩, ef, hbl, hO3, hA3⟩ := HST.out w3 hb3; have ef0 := ef o; have ef1 := ef (o + 1); have ef2 := ef (o + 2); obtain ⟨W4, hW4⟩ : ∃ W4, ((w3.setCell ⟨b, o, none⟩ (.int .i64 y.k)).setCell ⟨b, o + 1, none⟩ (.int .i64 y.n)).setCell ⟨b, o + 2, none⟩ (.slice qp y.l.length cp) = W4 := ⟨_, rfl⟩; have hO4 : W4.heap[O]? = some (Obj.cells #[.int .i64 x.k, .int .i64 x.n, .slice qo x.l.length co] 24) := (by rw [← hW4]; exact (set3o _ _ _ (fun e => hbO e.symm)).trans (hO3.trans HO.out.2.2.1)); have hA4 : W4.heap[w.heap.size + 1 + 1]? = some z3 := (by rw [← hW4]; exact (set3o _ _ _ HZ.out.2.2.2.2).trans hA3); obtain ⟨p0, p1, p2, q0, q1, q2, hPl⟩ := c3 hO4; obtain ⟨r0, r1, r2, s0, s1, s2, hAl⟩ := c3 hA4; have HX : Bx (OwT w3 wr.heap.size G2 ∧ ChG G2 [] qp cp y.l ∧ Below wr.heap.size wr w3) := ⟨hT2, hch, hb3⟩; have HW4 : Bx _ := ⟨hW4⟩; clear hT2 hch hb3 hO4 hA4 hO3 hA3 HST ef))
        refine bodyPost_ret (v := .tuple #[.agg #[.int .i64 x.k, .int .i64 x.n, .slice qo x.l.length co], .bool true]) (by simp [results, Try.results8, go_sem, r0, r1, r2, hAl]) rfl ?_
        rcases HEND.out w3 qp cp G2 HX.out.1 HX.out.2.1 HX.out.2.2 (((W4.setCell ⟨w.heap.size + 1 + 1, 0, none⟩ (.int .i64 x.k)).setCell ⟨w.heap.size + 1 + 1, 1, none⟩ (.int .i64 x.n)).setCell ⟨w.heap.size + 1 + 1, 2, none⟩ (.slice qo x.l.length co)) (fun g g1 g2 => by rw [set3_other _ _ _ g2, ← HW4.out, set3o _ _ _ g1]) (by simp [← HW4.out]) (fun h => by rw [set3_other _ _ _ (fun e => HZ.out.2.2.2.2 e.symm), ← HW4.out]) with ⟨_, e1, _⟩ | ⟨_, e2, e3, e4, e5⟩
        · exact absurd e1 hbO
        · have hs34 : w3.heap.size = W4.heap.size := by rw [← HW4.out]; simp
          have hz := HZ.out
          have hbz := HBW.out.size
          refine ⟨qo, co, by rw [e2, e3, e4], ⟨by rw [e2]; exact HI.out.1.1, by rw [e3]; exact HI.out.1.2⟩, e5.up (by omega) (by simp only [World.size_setCell]; omega), ?_⟩
          refine below3 (A := w.heap.size + 1 + 1) ?_ (by omega) _ _ _
          rw [← HW4.out]
          exact below3o (HBW.out.trans (HX.out.2.2.mono HBW.out.size)) (by have := HZ.out; omega) _ _ _
end Go.Proofs.Ytikijkpklneihaa
namespace Go.Proofs.Ytikijkpklneihaa
open Go.RowKit
set_option linter.unusedVariables false
set_option linter.unusedSimpArgs false

/-! ### the reference's own: a row, each kid in blocks of its own between two numbers -/
theorem Mid.refl (lo B : Nat) (w : World) : Mid lo B w w := ⟨fun _ _ _ _ => rfl⟩
theorem Mid.trans {lo B : Nat} {w w1 w2 : World} (h : Mid lo B w w1) (g : Mid lo B w1 w2) : Mid lo B w w2 := ⟨fun b o h1 h2 => (g.cell b o h1 h2).trans (h.cell b o h1 h2)⟩
theorem Mid.narrow {lo lo' B B' : Nat} {w w' : World} (h : Mid lo B w w') (h1 : lo ≤ lo') (h2 : B' ≤ B) : Mid lo' B' w w' := ⟨fun b o a1 a2 => h.cell b o (by omega) (by omega)⟩
theorem Mid.blocks {lo B : Nat} {w w' : World} (h : ∀ b, lo ≤ b → b < B → w'.heap[b]? = w.heap[b]?) : Mid lo B w w' := ⟨fun b o h1 h2 => by simp [World.cell?, h b h1 h2]⟩
def RowK (W : World) (S : Nat) (ov : Value) (i : Nat) (cs : List Value) (l : List V) : Prop :=
  ∀ j (h : j < l.length), j < i → ∃ q c a b, cs[j * 3]? = some (.int .i64 l[j].k) ∧ cs[j * 3 + 1]? = some (.int .i64 l[j].n) ∧ cs[j * 3 + 2]? = some (.slice q l[j].l.length c) ∧ I64 l[j].k ∧ I64 l[j].n ∧ S ≤ a ∧ b ≤ W.heap.size ∧ (∀ y, ov.ownBlock = some y → y < a ∨ b ≤ y) ∧ ∀ W', Mid a b W W' → SlV W' b q c l[j].l
structure ROw (w : World) (x : V) (w' : World) (g cap : Nat) : Prop where
  bel : Below w.heap.size w w'
  ex : ∃ cs, w'.ownsRow w.heap.size 24 3 (.slice (some ⟨g, 0, none⟩) x.l.length cap) x.l.length cs ∧ RowK w' w.heap.size (.slice (some ⟨g, 0, none⟩) x.l.length cap) x.l.length cs x.l
theorem RowK.slv {W : World} {S g cap n : Nat} {l : List V} {cs : List Value} (ho : W.ownsRow S 24 3 (.slice (some ⟨g, 0, none⟩) l.length cap) l.length cs) (hk : RowK W S (.slice (some ⟨g, 0, none⟩) l.length cap) l.length cs l) : ∀ W', Mid S W.heap.size W W' → SlV W' W.heap.size (some ⟨g, 0, none⟩) cap l := fun W' hm => by
  rcases ho.2 with ⟨e, _⟩ | ⟨g', cap', cur, e, h1, h2, h3, h4, h5, h6⟩
  · cases e
  · simp only [Value.slice.injEq, Option.some.injEq, Addr.mk.injEq, and_true, true_and] at e
    obtain ⟨rfl, rfl⟩ := e
    have hgl := heap_lt h2
    refine ⟨h3, h4, .inr ⟨g, 0, rfl, hgl, AtVs.of_get fun i hi => ?_⟩⟩
    obtain ⟨q, c, a, b, a1, a2, a3, a4, a5, a6, a7, a8, a9⟩ := hk i hi hi
    have hc : ∀ (o : Nat) u, cs[o]? = some u → W'.cell? ⟨g, o, none⟩ = some u := fun o u hu => by
      have hol := (List.getElem?_eq_some_iff.1 hu).1
      have hln := ho.1
      rw [hm.cell _ _ h1 hgl]
      refine cell_blk h2 ?_
      rw [← h6, List.getElem?_take_of_lt (by omega), Array.getElem?_toList] at hu
      exact hu
    have e0 : 0 + 3 * i = i * 3 := by omega
    rw [e0]
    exact ⟨hc _ _ a1, hc _ _ a2, a4, a5, q, c, hc _ _ a3, (a9 W' (hm.narrow a6 a7)).up a7⟩
theorem ROw.slv {w w' : World} {x : V} {g cap : Nat} (h : ROw w x w' g cap) : ∀ W', Mid w.heap.size w'.heap.size w' W' → SlV W' w'.heap.size (some ⟨g, 0, none⟩) cap x.l := by
  obtain ⟨cs, h1, h2⟩ := h.ex
  exact RowK.slv (n := 0) h1 h2
/-- own in the midst -/
structure ROi (w wr : World) (B : Nat) (x : V) (p : Option Addr) (c : Nat) (ov : Value) (i : Nat) : Prop where
  one : OneB w wr B x p c
  z : wr.heap[w.heap.size + 1]? = some z3
  row : ∃ cs, wr.ownsRow (w.heap.size + 2) 24 3 ov i cs ∧ RowK wr (w.heap.size + 2) ov i cs x.l
  sh : ∃ g cap, ov = .slice (some ⟨g, 0, none⟩) i cap
theorem ROi.step {w wr w2 W : World} {B : Nat} {x : V} {p : Option Addr} {c : Nat} {ov : Value} {i g cap : Nat} (h : ROi w wr B x p c ov i) (hB : B ≤ w.heap.size) (hi : i < x.l.length) (hl : x.l.length ≤ 1000000) (hk : I64 x.l[i].k) (hn : I64 x.l[i].n) (hr : ROw wr x.l[i] w2 g cap) (hb : Below w2.heap.size w2 W) :
    ∃ v' W3, (∀ ty, (Builtin.append_ #[22, 22] ty #[ov, .slice (some ⟨W.heap.size, 0, none⟩) 1 1]).run Try.prog (W.alloc (.cells #[.int .i64 x.l[i].k, .int .i64 x.l[i].n, .slice (some ⟨g, 0, none⟩) x.l[i].l.length cap] 24)) = .ok v' W3) ∧ ROi w W3 B x p c v' (i + 1) := by
  obtain ⟨cs, o1, o2⟩ := h.row
  obtain ⟨i0, hi0, hz0, hz1, hz2⟩ := info_parts infoVl
  have hbW : Below wr.heap.size wr W := hr.bel.trans (hb.mono hr.bel.size)
  have hsz := h.one.bel.size
  have hs2 := hr.bel.size
  have hsW := hb.size
  have hwr2 : w.heap.size + 2 ≤ wr.heap.size := by have := heap_lt h.z; omega
  have oW := own_new o1 hbW
  obtain ⟨g', c', W3, r1, r2, r3, _, r5⟩ := app1 Try.underlying22 hi0 hz0 hz1 hz2 rfl (by decide) W (w.heap.size + 2) ov i cs oW #[.int .i64 x.l[i].k, .int .i64 x.l[i].n, .slice (some ⟨g, 0, none⟩) x.l[i].l.length cap] rfl (by simp [Value.oneCell']) (by unfold maxLen; omega) (by omega) (by omega)
  have hovl : ∀ y, ov.ownBlock = some y → w.heap.size + 2 ≤ y ∧ y < wr.heap.size := fun y hy => owns_block o1 hy
  have hlow : ∀ b, b < w.heap.size + 2 → W3.heap[b]? = wr.heap[b]? := fun b hb' => (r3.block b (by omega) fun e => by have := hovl b e.symm; omega).trans (hbW.block b (by omega))
  have hg' : ∀ y, (Value.slice (some ⟨g', 0, none⟩) (i + 1) c').ownBlock = some y → ov.ownBlock = some y ∨ W.heap.size ≤ y := fun y hy => by
    obtain rfl : g' = y := by simpa [Value.ownBlock] using hy
    exact r5
  have hz3 := r3.size
  refine ⟨_, W3, r1, ⟨⟨(hlow _ (by omega)).trans h.one.a, h.one.va.lo (Lo.blocks fun b hb' => hlow b (by omega)), h.one.bel.trans (((hbW.mono hsz).grown r3 (by omega) fun k e => by have := hovl k e; omega))⟩, (hlow _ (by omega)).trans h.z, ⟨_, r2, fun j hj hji => ?_⟩, ⟨_, _, rfl⟩⟩⟩
  have hcl := o1.1
  by_cases e : j = i
  · subst e
    refine ⟨some ⟨g, 0, none⟩, cap, wr.heap.size, w2.heap.size, ?_, ?_, ?_, hk, hn, by omega, by omega, fun y hy => ?_, fun W' hm => ?_⟩
    · rw [List.getElem?_append_right (by omega), hcl, Nat.sub_self]; rfl
    · rw [List.getElem?_append_right (by omega), hcl, Nat.add_sub_cancel_left]; rfl
    · rw [List.getElem?_append_right (by omega), hcl, Nat.add_sub_cancel_left]; rfl
    · rcases hg' y hy with h1 | h1
      · exact .inl (hovl y h1).2
      · exact .inr (by omega)
    · exact hr.slv W' (Mid.trans (Mid.blocks fun b h1 h2 => (r3.block b (by omega) fun e => by have := hovl b e.symm; omega).trans (hb.block b h2)) hm)
  · obtain ⟨q, c2, a, b, a1, a2, a3, a4, a5, a6, a7, a8, a9⟩ := o2 j hj (by omega)
    refine ⟨q, c2, a, b, by rw [List.getElem?_append_left (by omega)]; exact a1, by rw [List.getElem?_append_left (by omega)]; exact a2, by rw [List.getElem?_append_left (by omega)]; exact a3, a4, a5, a6, by omega, fun y hy => ?_, fun W' hm => a9 W' (Mid.trans (Mid.blocks fun y h1 h2 => (r3.block y (by omega) fun e => by
      have := a8 y e.symm
      omega).trans (hbW.block y (by omega))) hm)⟩
    rcases hg' y hy with h1 | h1
    · exact a8 y h1
    · exact .inr (by omega)
def ROp (w : World) (x : V) (e : Ending) (w' : World) : Prop := ∃ g cap, e = .returned (.agg #[.int .i64 x.k, .int .i64 x.n, .slice (some ⟨g, 0, none⟩) x.l.length cap]) ∧ ROw w x w' g cap
/-- done: the row is put in -/
theorem ROi.fin {w wr W5 : World} {B : Nat} {x : V} {p : Option Addr} {c : Nat} {ov : Value} (h : ROi w wr B x p c ov x.l.length) (hs : W5.heap.size = wr.heap.size) (hh : W5.os = wr.os ∧ W5.tape = wr.tape ∧ W5.output = wr.output) (hb : ∀ b, b ≠ w.heap.size → b ≠ w.heap.size + 1 → W5.heap[b]? = wr.heap[b]?) (hw : ∀ b, b < w.heap.size → W5.heap[b]? = wr.heap[b]?) {g cap : Nat} (hov : ov = .slice (some ⟨g, 0, none⟩) x.l.length cap) : ROw w x W5 g cap := by
  obtain ⟨cs, o1, o2⟩ := h.row
  subst hov
  have hwr2 : w.heap.size + 2 ≤ wr.heap.size := by have := heap_lt h.z; omega
  have hbe := h.one.bel
  refine ⟨⟨hh.1.trans hbe.os, hh.2.1.trans hbe.tape, hh.2.2.trans hbe.output, by have := hbe.size; omega, fun b hb' => (hw b hb').trans (hbe.block b hb')⟩, cs, own_low (own_same o1 fun y o hy ho => ?_) (by omega), fun j hj hji => ?_⟩
  · have := own_base o1 y hy
    rw [hb y (by omega) (by omega)]
    exact ho
  · obtain ⟨q, c2, a, b, a1, a2, a3, a4, a5, a6, a7, a8, a9⟩ := o2 j hj hji
    exact ⟨q, c2, a, b, a1, a2, a3, a4, a5, by omega, by omega, a8, fun W' hm => a9 W' (Mid.trans (Mid.blocks fun y h1 h2 => hb y (by omega) (by omega)) hm)⟩
set_option maxRecDepth 100000 in
set_option maxHeartbeats 4000000 in
theorem rown_rec (N : Nat) (ih : ∀ (x : V), x.sz < N → ∀ (w : World) (B : Nat) (v : Value), IsV w B v x → B ≤ w.heap.size → x.sz ≤ 1000000 → Calls Try.prog 23 #[v] w (ROp w x))
    (w : World) (B : Nat) (v : Value) (x : V) (hv : IsV w B v x) (hB : B ≤ w.heap.size) (hN : x.sz ≤ N) (h65 : x.sz ≤ 1000000) : Calls Try.prog 23 #[v] w (ROp w x) := by
  obtain ⟨⟨p, c, rfl, h1⟩, h2, h3⟩ := hv
  have hlen := szs_len x.l
  have hsz := V.sz_eq x
  have hlc : x.l.length ≤ c := h1.1
  have hcm : c ≤ maxLen := h1.2.1
  unfold maxLen at hcm
  obtain ⟨W0, hW0⟩ : ∃ W0, (w.alloc (Obj.cells #[.int .i64 x.k, .int .i64 x.n, .slice p x.l.length c] 24)).alloc z3 = W0 := ⟨_, rfl⟩
  have hz0 : W0.heap.size = w.heap.size + 2 := by rw [← hW0]; simp
  have ha0 : W0.heap[w.heap.size]? = some (Obj.cells #[.int .i64 x.k, .int .i64 x.n, .slice p x.l.length c] 24) := by rw [← hW0]; exact (Below.heap_alloc _ _ _ (by simp)).trans (World.alloc_heap_new _ _)
  have ha1 : W0.heap[w.heap.size + 1]? = some z3 := by rw [← hW0]; exact alloc_at _ _ _
  have hb0 : Below w.heap.size w W0 := by rw [← hW0]; exact two_new _ _ _
  obtain ⟨c0, c1, c2, f0, f1, f2, cl⟩ := c3 ha0
  obtain ⟨W1, hW1⟩ : ∃ W1, W0.alloc (.cells #[] 24) = W1 := ⟨_, rfl⟩
  have hb1 : Below W0.heap.size W0 W1 := by rw [← hW1]; exact below1 _ _
  have HS0 : Bx (ROi w W1 B x p c (.slice (some ⟨w.heap.size + 2, 0, none⟩) 0 0) 0) := ⟨⟨⟨keep_h hb1 ha0, h1.lo (Lo.of ((hb0.trans (hb1.mono hb0.size)).mono hB)), hb0.trans (hb1.mono hb0.size)⟩, keep_h hb1 ha1, ⟨[], ⟨rfl, .inr ⟨w.heap.size + 2, 0, #[], rfl, Nat.le_refl _, by rw [← hz0, ← hW1]; exact World.alloc_heap_new _ _, Nat.le_refl _, by simp [maxLen], rfl, rfl⟩⟩, fun j hj hi => by omega⟩, ⟨_, _, rfl⟩⟩⟩
  have HIH : Bx _ := ⟨ih⟩
  have HZ0 : Bx (W0.heap.size = w.heap.size + 2) := ⟨hz0⟩
  clear h1 h2 h3 ih hb0 hb1 ha0 ha1
  go_enter Try.func23, Try.ntmps23
  go_wp2
  clear c0 c1 c2 f0 f1 f2 cl hW0 hW1 HZ0 hz0
  go_loopg [3, 4] x.l.length (fun q v3 v4 wr => ∃ (i : Nat) (ov : Value), q = x.l.length - i ∧ i ≤ x.l.length ∧ v4 = .int .i64 i ∧ ov = v3 ∧ Bx (ROi w wr B x p c ov i))
  case atStart => exact ⟨0, _, by simp, by omega, rfl, rfl, HS0⟩
  case round =>
    obtain ⟨i, ov, hq, hil, rfl, rfl, HS⟩ := hrel
    clear HS0
    obtain ⟨r0, r1, r2, g0, g1, g2, rl⟩ := c3 HS.out.one.a
    by_cases hlt : i < x.l.length
    · obtain ⟨b, o, q1, qc, rfl, hbB, d0, d1, d2, hq1, dk, dn⟩ := HS.out.one.va.at3 i hlt
      have HC : Bx _ := ⟨HIH.out x.l[i] (by have h9 := szs_mem (List.getElem_mem hlt); omega) wr B _ ⟨⟨q1, qc, rfl, hq1⟩, dk, dn⟩ (Nat.le_trans hB HS.out.one.bel.size) (by have h9 := szs_mem (List.getElem_mem hlt); omega)⟩
      have HN : Bx (∀ w2 g cap, ROw wr x.l[i] w2 g cap → ∃ v' W3, (∀ ty, (Builtin.append_ #[22, 22] ty #[ov, .slice (some ⟨w2.heap.size + 1, 0, none⟩) 1 1]).run Try.prog ((w2.alloc (.cells #[.int .i64 x.l[i].k, .int .i64 x.l[i].n, .slice (some ⟨g, 0, none⟩) x.l[i].l.length cap] 24)).alloc (.cells #[.int .i64 x.l[i].k, .int .i64 x.l[i].n, .slice (some ⟨g, 0, none⟩) x.l[i].l.length cap] 24)) = .ok v' W3) ∧ ROi w W3 B x (some ⟨b, o, none⟩) c v' (i + 1)) := ⟨fun w2 g cap hr => by
        have := HS.out.step hB hlt (by omega) dk dn hr (below1 w2 (.cells #[.int .i64 x.l[i].k, .int .i64 x.l[i].n, .slice (some ⟨g, 0, none⟩) x.l[i].l.length cap] 24))
        rwa [World.size_alloc] at this⟩
      clear hq1 dk dn HS
      go_wp2_with (first
        | (go_at_call 23; refine Calls.mono HC.out ?_; rintro e w4 ⟨g, cap, rfl, hr⟩; obtain ⟨v', W3, hrun, hR⟩ := HN.out w4 g cap hr; have HR : Bx _ := ⟨hR⟩; clear hr hR HN HC)
        | (at_builtin; refine wpList_appI rfl (.tmp 20) (.tmp 22) 22 rfl rfl rfl hrun ?_; clear hrun))
      go_roundg (x.l.length - (i + 1))
      case measure => omega
      case rel => exact ⟨i + 1, v', rfl, by omega, by simp, rfl, HR⟩
    · have hie : i = x.l.length := by omega
      subst hie
      obtain ⟨z0, z1, z2, y0, y1, y2, zl⟩ := c3 HS.out.z
      obtain ⟨cs, o1, _⟩ := HS.out.row
      obtain ⟨g, cap, rfl⟩ := HS.out.sh
      have HF : Bx _ := ⟨fun W5 a b d e => HS.out.fin (W5 := W5) a b d e (g := g) (cap := cap) rfl⟩
      go_wp2
      refine bodyPost_ret (v := .agg #[.int .i64 x.k, .int .i64 x.n, .slice (some ⟨g, 0, none⟩) x.l.length cap]) (by simp [results, Try.results23, go_sem, z0, z1, z2, zl]) rfl ⟨_, _, rfl, ?_⟩
      refine HF.out _ (by simp [World.size_setCell]) ⟨rfl, rfl, rfl⟩ (fun b h1 h2 => ?_) (fun b h1 => ?_)
      · rw [set3_other _ _ _ h2, Below.heap_setCell _ _ _ _ h1]
      · rw [set3_other _ _ _ (by omega), Below.heap_setCell _ _ _ _ (by show b ≠ w.heap.size; omega)]
/-- the reference's own -/
theorem rown_any (w : World) (B : Nat) (v : Value) (x : V) (hv : IsV w B v x) (hB : B ≤ w.heap.size) (h65 : x.sz ≤ 1000000) : Calls Try.prog 23 #[v] w (ROp w x) := by
  have key : ∀ N : Nat, ∀ (x : V), x.sz ≤ N → ∀ (w : World) (B : Nat) (v : Value), IsV w B v x → B ≤ w.heap.size → x.sz ≤ 1000000 → Calls Try.prog 23 #[v] w (ROp w x) := by
    intro N
    induction N with
    | zero => intro x h; have := x.sz_pos; omega
    | succ N ih => intro x h w B v hv hB h65; exact rown_rec (N + 1) (fun x' h' => ih x' (by omega)) w B v x hv hB h h65
  exact key x.sz x (Nat.le_refl _) w B v hv hB h65
end Go.Proofs.Ytikijkpklneihaa
