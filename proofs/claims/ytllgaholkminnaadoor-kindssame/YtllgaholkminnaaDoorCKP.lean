import Derived.Test.YtllgaholkminnaaDoorCTPlain
namespace Go.Proofs.YtllgaholkminnaaDoor
set_option linter.unusedVariables false
set_option linter.unusedSimpArgs false

/-- a row of a table of types -/
structure Ty where
  kind : Int
  kids : List Int
  res : Bool
def tyN (t : List Ty) (i : Nat) : Ty := t.getD i ⟨0, [], false⟩
def fitsI (r : Ty) : Bool :=
  if r.kind = 1 ∨ r.kind = 2 then r.kids.length == 0 && !r.res
  else if r.kind = 3 ∨ r.kind = 5 then r.kids.length == 1 && !r.res
  else if r.kind = 4 then decide (2 ≤ r.kids.length) && !r.res
  else if r.kind = 6 then decide (1 ≤ r.kids.length) || !r.res
  else false
def isRowI (n : Nat) (k : Int) : Bool := decide (0 ≤ k) && decide (k < n)
def rowOk (n : Nat) (r : Ty) : Bool := fitsI r && r.kids.all (isRowI n)
def validI (t : List Ty) : Bool := t.all (rowOk t.length)

def kidN (t : List Ty) (x k : Nat) : Nat := ((tyN t x).kids.getD k 0).toNat
structure Alike (a b : Ty) : Prop where
  kind : a.kind = b.kind
  len : a.kids.length = b.kids.length
  res : a.res = b.res
theorem Alike.refl (a : Ty) : Alike a a := ⟨rfl, rfl, rfl⟩
theorem Alike.symm {a b : Ty} (h : Alike a b) : Alike b a := ⟨h.kind.symm, h.len.symm, h.res.symm⟩
theorem Alike.trans {a b c : Ty} (h : Alike a b) (g : Alike b c) : Alike a c := ⟨h.kind.trans g.kind, h.len.trans g.len, h.res.trans g.res⟩
/-- a relation that holds of two rows only where it holds of their kids -/
def IsBis (t : List Ty) (R : Nat → Nat → Prop) : Prop := ∀ x y, R x y → Alike (tyN t x) (tyN t y) ∧ ∀ k, k < (tyN t x).kids.length → R (kidN t x k) (kidN t y k)
/-- the unfoldings of two rows are alike -/
def Bis (t : List Ty) (a b : Nat) : Prop := ∃ R, IsBis t R ∧ R a b
theorem bis_is (t : List Ty) : IsBis t (Bis t) := by
  rintro x y ⟨R, hR, h⟩
  obtain ⟨h1, h2⟩ := hR x y h
  exact ⟨h1, fun k hk => ⟨R, hR, h2 k hk⟩⟩
theorem bis_refl (t : List Ty) (a : Nat) : Bis t a a := ⟨fun x y => x = y, fun x y h => by subst h; exact ⟨Alike.refl _, fun k _ => rfl⟩, rfl⟩
theorem bis_symm {t : List Ty} {a b : Nat} (h : Bis t a b) : Bis t b a := by
  refine ⟨fun x y => Bis t y x, fun x y h => ?_, h⟩
  obtain ⟨h1, h2⟩ := bis_is t y x h
  exact ⟨h1.symm, fun k hk => h2 k (by rw [h1.len]; exact hk)⟩
theorem bis_trans {t : List Ty} {a b c : Nat} (h : Bis t a b) (g : Bis t b c) : Bis t a c := by
  refine ⟨fun x z => ∃ y, Bis t x y ∧ Bis t y z, ?_, b, h, g⟩
  rintro x z ⟨y, h, g⟩
  obtain ⟨h1, h2⟩ := bis_is t x y h
  obtain ⟨g1, g2⟩ := bis_is t y z g
  exact ⟨h1.trans g1, fun k hk => ⟨kidN t y k, h2 k hk, g2 k (by rw [← h1.len]; exact hk)⟩⟩
theorem bis_of {t : List Ty} {a b : Nat} (h : Alike (tyN t a) (tyN t b)) (hk : ∀ k, k < (tyN t a).kids.length → Bis t (kidN t a k) (kidN t b k)) : Bis t a b := by
  refine ⟨fun x y => (x = a ∧ y = b) ∨ Bis t x y, ?_, Or.inl ⟨rfl, rfl⟩⟩
  rintro x y (⟨rfl, rfl⟩ | h)
  · exact ⟨h, fun k q => Or.inr (hk k q)⟩
  · obtain ⟨h1, h2⟩ := bis_is t x y h
    exact ⟨h1, fun k q => Or.inr (h2 k q)⟩

/-- each leads on to one that leads to itself -/
structure UF (xs : List Nat) (ρ d : Nat → Nat) : Prop where
  lt : ∀ i, i < xs.length → xs.getD i 0 < xs.length
  up : ∀ i, i < xs.length → xs.getD i 0 ≠ i → d (xs.getD i 0) < d i
  ro : ∀ i, i < xs.length → ρ (xs.getD i 0) = ρ i
  fx : ∀ i, i < xs.length → xs.getD i 0 = i → ρ i = i
  rl : ∀ i, i < xs.length → ρ i < xs.length ∧ xs.getD (ρ i) 0 = ρ i
theorem getD_set {xs : List Nat} {i j v : Nat} (hi : i < xs.length) : (xs.set i v).getD j 0 = if i = j then v else xs.getD j 0 := by
  simp only [List.getD_eq_getElem?_getD, List.getElem?_set]
  by_cases h : i = j
  · subst h
    simp [hi]
  · simp [h]
theorem UF.idem {xs : List Nat} {ρ d : Nat → Nat} (h : UF xs ρ d) {i : Nat} (hi : i < xs.length) : ρ (ρ i) = ρ i := h.fx _ (h.rl i hi).1 (h.rl i hi).2
theorem UF.halve {xs : List Nat} {ρ d : Nat → Nat} (h : UF xs ρ d) {i : Nat} (hi : i < xs.length) (hne : xs.getD i 0 ≠ i) :
    UF (xs.set i (xs.getD (xs.getD i 0) 0)) ρ d ∧ xs.getD (xs.getD i 0) 0 < xs.length ∧ d (xs.getD (xs.getD i 0) 0) < d i ∧ ρ (xs.getD (xs.getD i 0) 0) = ρ i := by
  have h1 := h.lt i hi
  have h2 := h.lt _ h1
  have h3 := h.up i hi hne
  have h4 : d (xs.getD (xs.getD i 0) 0) < d i := by
    by_cases e : xs.getD (xs.getD i 0) 0 = xs.getD i 0
    · rw [e]; exact h3
    · have := h.up _ h1 e
      omega
  have h5 : ρ (xs.getD (xs.getD i 0) 0) = ρ i := by rw [h.ro _ h1, h.ro _ hi]
  refine ⟨⟨?_, ?_, ?_, ?_, ?_⟩, h2, h4, h5⟩
  · intro j hj
    simp only [List.length_set] at hj ⊢
    rw [getD_set hi]
    split
    · exact h2
    · exact h.lt j hj
  · intro j hj hjn
    simp only [List.length_set] at hj
    rw [getD_set hi] at hjn ⊢
    split at hjn
    · rename_i e; subst e; rw [if_pos rfl]; exact h4
    · rename_i e; rw [if_neg e]; exact h.up j hj hjn
  · intro j hj
    simp only [List.length_set] at hj
    rw [getD_set hi]
    split
    · rename_i e; subst e; exact h5
    · exact h.ro j hj
  · intro j hj hjn
    simp only [List.length_set] at hj
    rw [getD_set hi] at hjn
    split at hjn
    · rename_i e; subst e; rw [hjn] at h4; omega
    · exact h.fx j hj hjn
  · intro j hj
    simp only [List.length_set] at hj ⊢
    obtain ⟨q1, q2⟩ := h.rl j hj
    refine ⟨q1, ?_⟩
    rw [getD_set hi, if_neg (by intro e; rw [← e] at q2; exact hne q2)]
    exact q2
def mergeR (ρ : Nat → Nat) (x y : Nat) : Nat → Nat := fun z => if ρ z = x then y else ρ z
def mergeD (ρ d : Nat → Nat) (x y : Nat) : Nat → Nat := fun z => if ρ z = x then d z + d y + 1 else d z
theorem UF.merge {xs : List Nat} {ρ d : Nat → Nat} (h : UF xs ρ d) {x y : Nat} (hx : x < xs.length) (hy : y < xs.length) (rx : ρ x = x) (ry : ρ y = y) (hne : x ≠ y) :
    UF (xs.set x y) (mergeR ρ x y) (mergeD ρ d x y) := by
  have hyx : ρ y ≠ x := by rw [ry]; exact fun e => hne e.symm
  have fy : xs.getD y 0 = y := by have := (h.rl y hy).2; rw [ry] at this; exact this
  refine ⟨?_, ?_, ?_, ?_, ?_⟩
  · intro j hj
    simp only [List.length_set] at hj ⊢
    rw [getD_set hx]
    split
    · exact hy
    · exact h.lt j hj
  · intro j hj hjn
    simp only [List.length_set] at hj
    rw [getD_set hx] at hjn ⊢
    unfold mergeD
    split at hjn
    · rename_i e
      subst e
      rw [if_pos rfl, if_neg hyx, if_pos rx]
      omega
    · rename_i e
      rw [if_neg e, h.ro j hj]
      have := h.up j hj hjn
      split <;> omega
  · intro j hj
    simp only [List.length_set] at hj
    rw [getD_set hx]
    unfold mergeR
    split
    · rename_i e
      subst e
      first | rw [if_neg hyx, if_pos rx, ry] | rw [if_pos rx, ry]
    · rw [h.ro j hj]
  · intro j hj hjn
    simp only [List.length_set] at hj
    rw [getD_set hx] at hjn
    unfold mergeR
    split at hjn
    · rename_i e; exact absurd (hjn ▸ e) hne
    · rename_i e
      have := h.fx j hj hjn
      rw [this, if_neg (fun e' => e e'.symm)]
  · intro j hj
    simp only [List.length_set] at hj ⊢
    obtain ⟨q1, q2⟩ := h.rl j hj
    unfold mergeR
    split
    · refine ⟨hy, ?_⟩
      rw [getD_set hx, if_neg hne, fy]
    · rename_i e
      refine ⟨q1, ?_⟩
      rw [getD_set hx, if_neg (fun e' => e e'.symm), q2]
theorem uf_each (n : Nat) : UF (List.range n) id (fun _ => 0) := by
  have e : ∀ i, i < n → (List.range n).getD i 0 = i := fun i hi => by simp [List.getD_eq_getElem?_getD, hi]
  refine ⟨?_, ?_, ?_, ?_, ?_⟩ <;> intro i hi <;> simp only [List.length_range] at hi ⊢
  · rw [e i hi]; exact hi
  · rw [e i hi]; intro q; exact absurd rfl q
  · rw [e i hi]
  · intro _; rfl
  · exact ⟨hi, e i hi⟩

/-- what is still to be done at most: roots with their kids -/
def sumTo (f : Nat → Nat) : Nat → Nat
  | 0 => 0
  | n + 1 => sumTo f n + f n
theorem sumTo_congr {f g : Nat → Nat} : ∀ n, (∀ i, i < n → f i = g i) → sumTo f n = sumTo g n
  | 0, _ => rfl
  | n + 1, h => by rw [sumTo, sumTo, sumTo_congr n (fun i hi => h i (by omega)), h n (by omega)]
theorem sumTo_less {f g : Nat → Nat} {x c : Nat} (hx : f x = g x + c) (h : ∀ i, i ≠ x → f i = g i) : ∀ n, x < n → sumTo f n = sumTo g n + c
  | 0, q => absurd q (by omega)
  | n + 1, q => by
    rw [sumTo, sumTo]
    by_cases e : x = n
    · subst e
      rw [sumTo_congr x (fun i hi => h i (by omega)), hx]
      omega
    · rw [sumTo_less hx h n (by omega), h n (fun e' => e e'.symm)]
      omega
def loadF (t : List Ty) (ρ : Nat → Nat) (i : Nat) : Nat := if ρ i = i then 1 + (tyN t i).kids.length else 0
def load (t : List Ty) (ρ : Nat → Nat) : Nat := sumTo (loadF t ρ) t.length
theorem load_merge {t : List Ty} {ρ : Nat → Nat} {x y : Nat} (hx : x < t.length) (rx : ρ x = x) (ry : ρ y = y) (hne : x ≠ y) : load t ρ = load t (mergeR ρ x y) + (1 + (tyN t x).kids.length) := by
  refine sumTo_less ?_ ?_ t.length hx
  · unfold loadF mergeR
    rw [if_pos rx, if_pos rx, if_neg (fun e => hne e.symm)]
    omega
  · intro i hi
    unfold loadF mergeR
    by_cases e : ρ i = x
    · rw [if_pos e, if_neg (by rw [e]; exact fun q => hi q.symm), if_neg (by intro q; subst q; rw [ry] at e; exact hne e.symm)]
    · rw [if_neg e]

inductive Cl (ρ : Nat → Nat) (ps : List (Nat × Nat)) : Nat → Nat → Prop
  | ro {x y} : ρ x = ρ y → Cl ρ ps x y
  | pr {x y} : (x, y) ∈ ps → Cl ρ ps x y
  | sy {x y} : Cl ρ ps x y → Cl ρ ps y x
  | tr {x y z} : Cl ρ ps x y → Cl ρ ps y z → Cl ρ ps x z
theorem Cl.map {ρ ρ' : Nat → Nat} {ps ps' : List (Nat × Nat)} (h1 : ∀ x y, ρ x = ρ y → Cl ρ' ps' x y) (h2 : ∀ p ∈ ps, Cl ρ' ps' p.1 p.2) {x y : Nat} (h : Cl ρ ps x y) : Cl ρ' ps' x y := by
  induction h with
  | ro e => exact h1 _ _ e
  | pr e => exact h2 _ e
  | sy _ q => exact q.sy
  | tr _ _ q r => exact q.tr r
theorem Cl.none {ρ : Nat → Nat} {x y : Nat} (h : Cl ρ [] x y) : ρ x = ρ y := by
  induction h with
  | ro e => exact e
  | pr e => cases e
  | sy _ q => exact q.symm
  | tr _ _ q r => exact q.trans r
/-- in the midst of Same -/
structure Sm (t : List Ty) (a b : Nat) (ρ : Nat → Nat) (ps : List (Nat × Nat)) : Prop where
  hd : ∀ z, z < t.length → Alike (tyN t z) (tyN t (ρ z)) ∧ ∀ k, k < (tyN t z).kids.length → Cl ρ ps (kidN t z k) (kidN t (ρ z) k)
  ab : Cl ρ ps a b
  bi : Bis t a b → (∀ z, z < t.length → Bis t z (ρ z)) ∧ ∀ p ∈ ps, Bis t p.1 p.2
  pl : ∀ p ∈ ps, p.1 < t.length ∧ p.2 < t.length
theorem valid_kid {t : List Ty} (h : validI t = true) {x k : Nat} (hx : x < t.length) (hk : k < (tyN t x).kids.length) : ∃ m : Nat, (tyN t x).kids[k] = (m : Int) ∧ m < t.length ∧ kidN t x k = m := by
  unfold validI at h
  rw [List.all_eq_true] at h
  have hm : tyN t x ∈ t := by unfold tyN; rw [List.getD_eq_getElem?_getD, List.getElem?_eq_getElem hx]; exact List.getElem_mem hx
  have h1 := h _ hm
  unfold rowOk at h1
  rw [Bool.and_eq_true, List.all_eq_true] at h1
  have h2 := h1.2 _ (List.getElem_mem hk)
  unfold isRowI at h2
  simp only [Bool.and_eq_true, decide_eq_true_eq] at h2
  refine ⟨((tyN t x).kids[k]).toNat, by omega, by omega, ?_⟩
  unfold kidN
  rw [List.getD_eq_getElem?_getD, List.getElem?_eq_getElem hk]
  rfl
theorem sm_start (t : List Ty) (a b : Nat) (ha : a < t.length) (hb : b < t.length) : Sm t a b id [(a, b)] := by
  refine ⟨fun z hz => ⟨Alike.refl _, fun k hk => .ro rfl⟩, .pr (by simp), fun h => ⟨fun z _ => bis_refl t z, ?_⟩, ?_⟩
  · intro p hp
    simp only [List.mem_singleton] at hp
    subst hp
    exact h
  · intro p hp
    simp only [List.mem_singleton] at hp
    subst hp
    exact ⟨ha, hb⟩
theorem Sm.skip {t : List Ty} {a b : Nat} {ρ : Nat → Nat} {ps : List (Nat × Nat)} {x y : Nat} (h : Sm t a b ρ (ps ++ [(x, y)])) (e : ρ x = ρ y) : Sm t a b ρ ps := by
  have hc : ∀ {u v}, Cl ρ (ps ++ [(x, y)]) u v → Cl ρ ps u v := fun h => h.map (fun _ _ q => .ro q) (fun p hp => by
    simp only [List.mem_append, List.mem_singleton] at hp
    rcases hp with hp | rfl
    · exact .pr hp
    · exact .ro e)
  refine ⟨fun z hz => ⟨(h.hd z hz).1, fun k hk => hc ((h.hd z hz).2 k hk)⟩, hc h.ab, fun q => ⟨(h.bi q).1, fun p hp => (h.bi q).2 p (by simp [hp])⟩, fun p hp => h.pl p (by simp [hp])⟩
theorem Sm.unlike {t : List Ty} {a b : Nat} {ρ : Nat → Nat} {ps : List (Nat × Nat)} {x y : Nat} (h : Sm t a b ρ (ps ++ [(x, y)])) (e : ¬ Alike (tyN t (ρ x)) (tyN t (ρ y))) : ¬ Bis t a b := by
  intro q
  obtain ⟨h1, h2⟩ := h.bi q
  obtain ⟨p1, p2⟩ := h.pl (x, y) (by simp)
  have := bis_trans (bis_trans (bis_symm (h1 x p1)) (h2 (x, y) (by simp))) (h1 y p2)
  exact e (bis_is t _ _ this).1
/-- the kids of two rows, as pairs -/
def kidPairs (t : List Ty) (x y : Nat) : List (Nat × Nat) := (List.range (tyN t x).kids.length).map fun k => (kidN t x k, kidN t y k)
theorem Sm.merge {t : List Ty} {a b : Nat} {ρ : Nat → Nat} {ps : List (Nat × Nat)} {x y : Nat} (h : Sm t a b ρ (ps ++ [(x, y)])) (hv : validI t = true) (hr : ∀ z, z < t.length → ρ z < t.length ∧ ρ (ρ z) = ρ z)
    (hne : ρ x ≠ ρ y) (e : Alike (tyN t (ρ x)) (tyN t (ρ y))) : Sm t a b (mergeR ρ (ρ x) (ρ y)) (ps ++ kidPairs t (ρ x) (ρ y)) := by
  obtain ⟨p1, p2⟩ := h.pl (x, y) (by simp)
  obtain ⟨x1, x2⟩ := hr x p1
  obtain ⟨y1, y2⟩ := hr y p2
  have mx : mergeR ρ (ρ x) (ρ y) x = ρ y := by unfold mergeR; rw [if_pos rfl]
  have my : mergeR ρ (ρ x) (ρ y) y = ρ y := by unfold mergeR; rw [if_neg (fun q => hne q.symm)]
  have hc : ∀ {u v}, Cl ρ (ps ++ [(x, y)]) u v → Cl (mergeR ρ (ρ x) (ρ y)) (ps ++ kidPairs t (ρ x) (ρ y)) u v := fun h => h.map (fun u v q => .ro (by unfold mergeR; rw [q])) (fun p hp => by
    simp only [List.mem_append, List.mem_singleton] at hp
    rcases hp with hp | rfl
    · exact .pr (by simp [hp])
    · exact .ro (by rw [mx, my]))
  refine ⟨fun z hz => ?_, hc h.ab, fun q => ?_, ?_⟩
  · obtain ⟨h1, h2⟩ := h.hd z hz
    unfold mergeR
    by_cases hz2 : ρ z = ρ x
    · rw [if_pos hz2]
      rw [hz2] at h1
      refine ⟨h1.trans e, fun k hk => ?_⟩
      have h3 := h2 k hk
      rw [hz2] at h3
      refine (hc h3).tr (.pr ?_)
      rw [List.mem_append]
      right
      unfold kidPairs
      rw [List.mem_map]
      exact ⟨k, by rw [List.mem_range, ← h1.len]; exact hk, rfl⟩
    · rw [if_neg hz2]
      exact ⟨h1, fun k hk => hc (h2 k hk)⟩
  · obtain ⟨b1, b2⟩ := h.bi q
    have hxy : Bis t (ρ x) (ρ y) := bis_trans (bis_trans (bis_symm (b1 x p1)) (b2 (x, y) (by simp))) (b1 y p2)
    refine ⟨fun z hz => ?_, fun p hp => ?_⟩
    · unfold mergeR
      by_cases hz2 : ρ z = ρ x
      · rw [if_pos hz2]
        have := b1 z hz
        rw [hz2] at this
        exact bis_trans this hxy
      · rw [if_neg hz2]
        exact b1 z hz
    · rw [List.mem_append] at hp
      rcases hp with hp | hp
      · exact b2 p (by simp [hp])
      · unfold kidPairs at hp
        rw [List.mem_map] at hp
        obtain ⟨k, hk, rfl⟩ := hp
        rw [List.mem_range] at hk
        exact (bis_is t _ _ hxy).2 k hk
  · intro p hp
    rw [List.mem_append] at hp
    rcases hp with hp | hp
    · exact h.pl p (by simp [hp])
    · unfold kidPairs at hp
      rw [List.mem_map] at hp
      obtain ⟨k, hk, rfl⟩ := hp
      rw [List.mem_range] at hk
      obtain ⟨m, _, hm, e1⟩ := valid_kid hv x1 hk
      obtain ⟨m', _, hm', e2⟩ := valid_kid hv y1 (k := k) (by rw [← e.len]; exact hk)
      show kidN t (ρ x) k < _ ∧ kidN t (ρ y) k < _
      rw [e1, e2]
      exact ⟨hm, hm'⟩
theorem Sm.done {t : List Ty} {a b : Nat} {ρ : Nat → Nat} (h : Sm t a b ρ []) (hv : validI t = true) (ha : a < t.length) (hb : b < t.length) : Bis t a b := by
  refine ⟨fun x y => x < t.length ∧ y < t.length ∧ ρ x = ρ y, ?_, ha, hb, h.ab.none⟩
  rintro x y ⟨hx, hy, e⟩
  obtain ⟨x1, x2⟩ := h.hd x hx
  obtain ⟨y1, y2⟩ := h.hd y hy
  rw [← e] at y1
  have hal := x1.trans y1.symm
  refine ⟨hal, fun k hk => ?_⟩
  obtain ⟨m, _, hm, e1⟩ := valid_kid hv hx hk
  have hk' : k < (tyN t y).kids.length := by rw [← hal.len]; exact hk
  obtain ⟨m', _, hm', e2⟩ := valid_kid hv hy hk'
  refine ⟨by rw [e1]; exact hm, by rw [e2]; exact hm', ?_⟩
  have := (x2 k hk).none
  have := (y2 k hk').none
  rw [← e] at this
  simp_all
/-- P4.3 -/
structure SameP (t : List Ty) (a b : Int) : Prop where
  va : validI t = true
  a0 : 0 ≤ a
  a1 : a < t.length
  b0 : 0 ≤ b
  b1 : b < t.length
  bis : Bis t a.toNat b.toNat
end Go.Proofs.YtllgaholkminnaaDoor
