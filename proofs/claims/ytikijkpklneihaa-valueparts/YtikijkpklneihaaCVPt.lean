import Derived.Test.YtikijkpklneihaaCVFi
namespace Go.Proofs.Ytikijkpklneihaa
open Go.RowKit
set_option linter.unusedVariables false
set_option linter.unusedSimpArgs false

/-- a value with the part at a path another one -/
def putV : V → List Int → V → V
  | x, [], y => y
  | x, k :: ks, y => .mk x.k x.n (x.l.set k.toNat (putV (x.l.getD k.toNat v0) ks y))
theorem put_l (x : V) (k : Int) (ks : List Int) (y : V) : (putV x (k :: ks) y).l = x.l.set k.toNat (putV (x.l.getD k.toNat v0) ks y) := rfl
theorem put_k (x : V) (k : Int) (ks : List Int) (y : V) : (putV x (k :: ks) y).k = x.k := rfl
theorem getD_of {l : List V} {i : Nat} (h : i < l.length) : l.getD i v0 = l[i] := by
  rw [List.getD, List.getElem?_eq_getElem h]; rfl
theorem szs_set {l : List V} : ∀ {i : Nat} (h : i < l.length) (v : V), szs (l.set i v) + l[i].sz = szs l + v.sz := by
  induction l with
  | nil => intro i h; simp at h
  | cons a l ih =>
    intro i h v
    cases i with
    | zero => simp only [List.set_cons_zero, List.getElem_cons_zero, szs]; omega
    | succ i =>
      have := ih (i := i) (by simpa using h) v
      simp only [List.set_cons_succ, List.getElem_cons_succ, szs]
      omega
theorem find_cons {x z : V} {k : Int} {ks : List Int} (h : findV x (k :: ks) = some z) : goesI x k = true ∧ ∃ hk : k.toNat < x.l.length, findV x.l[k.toNat] ks = some z := by
  simp only [findV] at h
  split at h
  · rename_i hg
    have hl := (goes_lt hg).2
    rw [getD_of hl] at h
    exact ⟨hg, hl, h⟩
  · cases h
theorem put_goes (x : V) (k j : Int) (ks : List Int) (y : V) : goesI (putV x (k :: ks) y) j = goesI x j := by
  simp only [goesI, put_l, put_k, List.length_set]
theorem put_find {y z : V} : ∀ {ks : List Int} {x : V}, findV x ks = some z → findV (putV x ks y) ks = some y
  | [], x, h => rfl
  | k :: ks, x, h => by
    obtain ⟨hg, hl, h2⟩ := find_cons h
    simp only [findV, put_goes, hg, if_true]
    have e : (putV x (k :: ks) y).l.getD k.toNat v0 = putV x.l[k.toNat] ks y := by
      rw [put_l, getD_of (by simpa using hl), List.getElem_set_self, getD_of hl]
    rw [e]
    exact put_find h2
theorem put_sz {y z : V} : ∀ {ks : List Int} {x : V}, findV x ks = some z → (putV x ks y).sz + z.sz = x.sz + y.sz
  | [], x, h => by simp [findV] at h; subst h; simp [putV]; omega
  | k :: ks, x, h => by
    obtain ⟨hg, hl, h2⟩ := find_cons h
    have ih := put_sz (y := y) h2
    have e := szs_set hl (putV x.l[k.toNat] ks y)
    have h3 : (putV x (k :: ks) y).sz = 1 + szs (x.l.set k.toNat (putV x.l[k.toNat] ks y)) := by
      rw [V.sz_eq, put_l, getD_of hl]
    rw [h3, V.sz_eq x]
    omega
theorem put_back {y z : V} : ∀ {ks : List Int} {x : V}, findV x ks = some z → putV (putV x ks y) ks z = x
  | [], x, h => by simp [findV] at h; subst h; rfl
  | k :: ks, x, h => by
    obtain ⟨hg, hl, h2⟩ := find_cons h
    have ih := put_back (y := y) h2
    have e : (putV x (k :: ks) y).l.getD k.toNat v0 = putV x.l[k.toNat] ks y := by
      rw [put_l, getD_of (by simpa using hl), List.getElem_set_self, getD_of hl]
    have e1 : (putV x (k :: ks) y).l = x.l.set k.toNat (putV x.l[k.toNat] ks y) := by
      rw [put_l, getD_of hl]
    rw [putV, e, ih, e1, List.set_set, List.set_getElem_self]
    exact V.eta x
theorem put_apart {y z : V} : ∀ {ks os : List Int} {x : V}, findV x ks = some z → (∃ i, ∃ (h1 : i < ks.length) (h2 : i < os.length), ks[i] ≠ os[i]) → findV (putV x ks y) os = findV x os
  | [], os, x, h, ⟨i, h1, _⟩ => by simp at h1
  | k :: ks, [], x, h, ⟨i, _, h2, _⟩ => by simp at h2
  | k :: ks, o :: os, x, h, ⟨i, h1, h2, h3⟩ => by
    obtain ⟨hg, hl, hf⟩ := find_cons h
    simp only [findV, put_goes]
    by_cases ho : goesI x o = true
    · rw [if_pos ho, if_pos ho]
      have hol := (goes_lt ho).2
      have e1 : (putV x (k :: ks) y).l = x.l.set k.toNat (putV x.l[k.toNat] ks y) := by
        rw [put_l, getD_of hl]
      rw [e1]
      by_cases hko : k = o
      · subst hko
        rw [getD_of (by simpa using hl), List.getElem_set_self, getD_of hl]
        cases i with
        | zero => simp at h3
        | succ i => exact put_apart hf ⟨i, by simpa using h1, by simpa using h2, by simpa using h3⟩
      · have hn : k.toNat ≠ o.toNat := by have := (goes_lt ho).1; have := (goes_lt hg).1; omega
        rw [getD_of (by simpa using hol), List.getElem_set_ne hn, getD_of hol]
    · rw [if_neg ho, if_neg ho]
theorem find_len {x z : V} {ks : List Int} (h : findV x ks = some z) : z.sz ≤ x.sz := find_sz h
end Go.Proofs.Ytikijkpklneihaa
