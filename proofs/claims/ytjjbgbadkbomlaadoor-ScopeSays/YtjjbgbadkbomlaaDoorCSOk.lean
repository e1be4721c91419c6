import Derived.Test.YtjjbgbadkbomlaaDoorCTChkP
import Derived.Test.YtjjbgbadkbomlaaDoorCSWi
import Derived.Test.YtjjbgbadkbomlaaDoorCTPlain
import Derived.Test.YtjjbgbadkbomlaaDoorCTRun
namespace Go.Proofs.YtjjbgbadkbomlaaDoor
set_option linter.unusedVariables false
set_option linter.unusedSimpArgs false

/-- what a list that is well gives of its node j -/
structure NodeOk (l : List Nd) (j : Nat) : Prop where
  kind : kindI (ndN l j).kind = true
  pos : ¬ (ndN l j).pos < 0
  num : numFitsI (ndN l j).kind (ndN l j).num (ndN l j).kids.length = true
  name : nameFitsI (ndN l j).kind (ndN l j).name = true
  fit : kidsFitI (kdN l) (ndN l j).kind (ndN l j).num ((ndN l j).kids.map Int.toNat) = true
  lev : levelsFitI l (ndN l j) = true
  nat : ((ndN l j).kids.map Int.toNat).map (fun k : Nat => (k : Int)) = (ndN l j).kids
  low : ∀ k ∈ (ndN l j).kids.map Int.toNat, k < j

theorem first_ok {l : List Nd} {fs : List Nat} (hle : ∀ i, i < fs.length → fs.getD i 0 ≤ i) (hz : checkNodeI l fs fs.length = 0) :
    ∀ i, i < (fs ++ [firstOf fs (ndN l fs.length) fs.length]).length → (fs ++ [firstOf fs (ndN l fs.length) fs.length]).getD i 0 ≤ i := by
  obtain ⟨_, _, _, _, ho, _, _⟩ := node_zero hz
  have hfl := first_le hle ho
  intro j hj
  simp at hj
  by_cases hj2 : j < fs.length
  · have := hle j hj2
    simp only [List.getD_eq_getElem?_getD] at this ⊢
    rw [List.getElem?_append_left hj2]
    exact this
  · have : j = fs.length := by omega
    subst this
    simp [List.getD_eq_getElem?_getD]
    exact hfl
theorem ok_go {l : List Nd} : ∀ (m : Nat) (fs : List Nat), fs.length + m = l.length → (∀ i, i < fs.length → fs.getD i 0 ≤ i) → (checkGo l m fs).2 = 0 →
    (∀ j, fs.length ≤ j → j < l.length → NodeOk l j) ∧ 0 < l.length ∧ kdN l (l.length - 1) = 46
  | 0, fs, hm, hle, hc => by
    rw [checkGo] at hc
    unfold rootI at hc
    split at hc
    · cases hc
    · rename_i hr
      refine ⟨fun j h1 h2 => by omega, ?_, ?_⟩
      · exact Nat.pos_of_ne_zero fun e => hr (.inl e)
      · exact Classical.byContradiction fun e => hr (.inr (.inl e))
  | m + 1, fs, hm, hle, hc => by
    rw [checkGo] at hc
    split at hc
    · rename_i hz
      obtain ⟨h1, h2, h3⟩ := ok_go m _ (by simp; omega) (first_ok hle hz) hc
      refine ⟨fun j hj hl => ?_, h2, h3⟩
      by_cases e : j = fs.length
      · subst e
        obtain ⟨q1, q2, q3, q4, q5, q6, q7⟩ := node_zero hz
        obtain ⟨k1, k2⟩ := kids_nat hle q5
        exact ⟨q1, q2, q3, q4, q6, q7, k1, k2⟩
      · exact h1 j (by simp; omega) hl
    · rename_i hz
      exact absurd hc hz
/-- a list that is well: each node is, and the last one is a program -/
theorem ok_all {l : List Nd} (h : (checkAll l).2 = 0) : (∀ j, j < l.length → NodeOk l j) ∧ 0 < l.length ∧ kdN l (l.length - 1) = 46 := by
  obtain ⟨h1, h2⟩ := ok_go l.length [] (by simp) (fun i hi => by cases hi) h
  exact ⟨fun j hj => h1 j (Nat.zero_le _) hj, h2⟩

/-- how many nodes a tree has (f: fuel) -/
def sizeF (l : List Nd) : Nat → Nat → Nat
  | 0, _ => 0
  | f + 1, j => 1 + (((ndN l j).kids.map Int.toNat).map (sizeF l f)).sum
end Go.Proofs.YtjjbgbadkbomlaaDoor
namespace Go.Proofs.YtjjbgbadkbomlaaDoor
set_option linter.unusedVariables false
set_option linter.unusedSimpArgs false

def kS (l : List Nd) (f k : Nat) : Nat := ((ndN l k).kids.map fun k => cntF l f k.toNat).sum
def cM (l : List Nd) (f k : Nat) : Nat := max (cntF l f k) (kS l f k)
def cS (l : List Nd) (f : Nat) (ks : List Int) : Nat := (ks.map fun k => cM l f k.toNat).sum
def endO (fs : List Nat) : Nat → List Int → Nat
  | n, [] => n
  | n, k :: r => endO fs (fs.getD k.toNat 0) r
theorem endO_last (fs : List Nat) (k : Int) : ∀ (ks : List Int) (n : Nat), endO fs n (ks ++ [k]) = fs.getD k.toNat 0
  | [], n => rfl
  | x :: r, n => by rw [List.cons_append, endO]; exact endO_last fs k r _
theorem first_endO (fs : List Nat) (n : Nd) (i : Nat) : firstOf fs n i = endO fs i n.kids.reverse := by
  unfold firstOf
  match n.kids with
  | [] => rfl
  | k :: r => simp only [List.reverse_cons, endO_last]
theorem sum_order {l : List Nd} {fs : List Nat} (hle : ∀ i, i < fs.length → fs.getD i 0 ≤ i) (f : Nat) (hc : ∀ j, j < fs.length → cM l f j + fs.getD j 0 ≤ j + 1) : ∀ (ks : List Int) (nx : Nat), nx ≤ fs.length → orderGo fs nx ks = true → cS l f ks + endO fs nx ks ≤ nx
  | [], nx, _, _ => by simp [cS, endO]
  | k :: r, nx, hnx, h => by
    rw [orderGo] at h
    split at h
    · rename_i hk
      obtain ⟨e, h0⟩ := hk
      have hkn : k.toNat + 1 = nx := by omega
      have h1 := hc k.toNat (by omega)
      have h2 := hle k.toNat (by omega)
      have h3 := sum_order hle f hc r (fs.getD k.toNat 0) (by omega) h
      simp only [cS, endO, List.map_cons, List.sum_cons] at h3 ⊢
      omega
    · cases h
theorem cS_app (l : List Nd) (f : Nat) (a b : List Int) : cS l f (a ++ b) = cS l f a + cS l f b := by simp [cS]
theorem cS_rev (l : List Nd) (f : Nat) : ∀ ks : List Int, cS l f ks.reverse = cS l f ks
  | [] => rfl
  | k :: r => by rw [List.reverse_cons, cS_app, cS_rev l f r]; simp [cS]; omega
theorem sum_le (l : List Nd) (f : Nat) : ∀ ks : List Int, (ks.map fun k => cntF l f k.toNat).sum ≤ cS l f ks
  | [] => by simp [cS]
  | k :: r => by
    have := sum_le l f r
    have h2 : cntF l f k.toNat ≤ cM l f k.toNat := Nat.le_max_left _ _
    simp only [cS, List.map_cons, List.sum_cons] at this ⊢
    omega
theorem cnt_le {l : List Nd} {f i : Nat} (h20 : kdN l i = 20 → 1 ≤ (ndN l i).kids.length) (h43 : kdN l i = 43 → 2 ≤ (ndN l i).kids.length) : cntF l (f + 1) i ≤ 1 + cS l f (ndN l i).kids := by
  unfold cntF
  split
  · rename_i hk
    have := drop_last (h20 hk)
    conv => rhs; rw [this, cS_app]
    have a := sum_le l f (ndN l i).kids.dropLast
    have b : ((ndAt l ((ndN l i).kids.getLastD 0)).kids.map fun k => cntF l f k.toNat).sum ≤ cS l f [(ndN l i).kids.getLastD 0] := by
      have : kS l f ((ndN l i).kids.getLastD 0).toNat ≤ cM l f ((ndN l i).kids.getLastD 0).toNat := Nat.le_max_right _ _
      simp only [cS, List.map_cons, List.map_nil, List.sum_cons, List.sum_nil, Nat.add_zero]
      exact this
    omega
  split
  · rename_i hk
    have h2 := h43 hk
    match hks : (ndN l i).kids, h2 with
    | a :: b :: r, _ =>
      have h3 : cntF l f a.toNat ≤ cM l f a.toNat := Nat.le_max_left _ _
      have h4 : kS l f b.toNat ≤ cM l f b.toNat := Nat.le_max_right _ _
      have e : ((ndAt l b).kids.map fun k => cntF l f k.toNat).sum = kS l f b.toNat := rfl
      simp only [cS, List.map_cons, List.sum_cons, List.getD_cons_zero, List.getD_cons_succ]
      rw [e]
      omega
    | [_], h => simp at h
    | [], h => simp at h
  · have := sum_le l f (ndN l i).kids
    omega
theorem cnt_go {l : List Nd} (h20 : ∀ i, i < l.length → kdN l i = 20 → 1 ≤ (ndN l i).kids.length) (h43 : ∀ i, i < l.length → kdN l i = 43 → 2 ≤ (ndN l i).kids.length) : ∀ (m : Nat) (fs : List Nat), fs.length + m = l.length → (∀ i, i < fs.length → fs.getD i 0 ≤ i) → (∀ f j, j < fs.length → cM l f j + fs.getD j 0 ≤ j + 1) → (checkGo l m fs).2 = 0 → ∀ f j, j < l.length → cntF l f j ≤ j + 1
  | 0, fs, hm, hle, hc, _ => fun f j hj => by
    have := hc f j (by omega)
    have h2 : cntF l f j ≤ cM l f j := Nat.le_max_left _ _
    omega
  | m + 1, fs, hm, hle, hc, hz0 => by
    rw [checkGo] at hz0
    split at hz0
    · rename_i hz
      refine cnt_go h20 h43 m _ (by simp; omega) (first_ok hle hz) (fun f j hj => ?_) hz0
      simp at hj
      by_cases hj2 : j < fs.length
      · have := hc f j hj2
        simp only [List.getD_eq_getElem?_getD] at this ⊢
        rw [List.getElem?_append_left hj2]
        exact this
      · have hje : j = fs.length := by omega
        subst hje
        obtain ⟨_, _, _, _, ho, _, _⟩ := node_zero hz
        have hfl := first_le hle ho
        have hg : (fs ++ [firstOf fs (ndN l fs.length) fs.length]).getD fs.length 0 = firstOf fs (ndN l fs.length) fs.length := by simp [List.getD_eq_getElem?_getD]
        rw [hg]
        have key : ∀ f, cS l f (ndN l fs.length).kids + firstOf fs (ndN l fs.length) fs.length ≤ fs.length := fun f => by
          have := sum_order hle f (hc f) (ndN l fs.length).kids.reverse fs.length (Nat.le_refl _) ho
          rw [cS_rev, ← first_endO] at this
          exact this
        have k1 : kS l f fs.length ≤ cS l f (ndN l fs.length).kids := sum_le l f _
        have k2 := key f
        have k3 : cntF l f fs.length + firstOf fs (ndN l fs.length) fs.length ≤ fs.length + 1 := by
          cases f with
          | zero => show 0 + _ ≤ _; omega
          | succ f =>
            have := cnt_le (f := f) (h20 fs.length (by omega)) (h43 fs.length (by omega))
            have := key f
            omega
        unfold cM
        rcases Nat.le_total (cntF l f fs.length) (kS l f fs.length) with hx | hx
        · rw [Nat.max_eq_right hx]; omega
        · rw [Nat.max_eq_left hx]; omega
    · rename_i hz
      exact absurd hz0 hz
end Go.Proofs.YtjjbgbadkbomlaaDoor
namespace Go.Proofs.YtjjbgbadkbomlaaDoor
set_option linter.unusedVariables false
set_option linter.unusedSimpArgs false

theorem fitS_iff {α : Type} {s : List α × Bool} (h : fitS s = true) : s.2 = false ∧ s.1 = [] := by
  unfold fitS at h
  simp only [Bool.and_eq_true, Bool.not_eq_true', beq_iff_eq] at h
  exact ⟨h.1, List.eq_nil_of_length_eq_zero h.2⟩
theorem one_inv {α : Type} {p : α → Bool} {s : List α × Bool} (h : (cOne p s).2 = false) : s.2 = false ∧ ∃ a, p a = true ∧ s.1 = a :: (cOne p s).1 := by
  obtain ⟨l, b⟩ := s
  match l with
  | [] => simp [cOne, took] at h
  | a :: r =>
    simp only [cOne, took, Bool.or_eq_false_iff, Bool.not_eq_false'] at h
    refine ⟨h.1, a, h.2, ?_⟩
    simp [cOne, mayL, h.2]
theorem many_inv {α : Type} {p : α → Bool} {s : List α × Bool} (h : (cMany p s).2 = false) : s.2 = false ∧ ∃ xs, (∀ x ∈ xs, p x = true) ∧ s.1 = xs ++ (cMany p s).1 := by
  obtain ⟨l, b⟩ := s
  refine ⟨h, l.takeWhile p, fun x hx => ?_, ?_⟩
  · induction l with
    | nil => cases hx
    | cons a r ih =>
      rw [List.takeWhile_cons] at hx
      split at hx
      · rename_i ha
        rcases List.mem_cons.1 hx with rfl | hx
        · exact ha
        · exact ih h hx
      · cases hx
  · simp only [cMany]
    exact (List.takeWhile_append_dropWhile).symm
theorem may_inv {α : Type} {p : α → Bool} {s : List α × Bool} (h : (cMay p s).2 = false) : s.2 = false ∧ (s.1 = (cMay p s).1 ∨ ∃ a, p a = true ∧ s.1 = a :: (cMay p s).1) := by
  obtain ⟨l, b⟩ := s
  refine ⟨h, ?_⟩
  match l with
  | [] => exact .inl rfl
  | a :: r =>
    by_cases hp : p a = true
    · exact .inr ⟨a, hp, by simp [cMay, mayL, hp]⟩
    · exact .inl (by simp [cMay, mayL, hp])
theorem fit0 {α : Type} {ks : List α} (h : fitS (ks, false) = true) : ks = [] := (fitS_iff h).2
theorem fit1 {α : Type} {p : α → Bool} {ks : List α} (h : fitS (cOne p (ks, false)) = true) : ∃ a, p a = true ∧ ks = [a] := by
  obtain ⟨h1, h2⟩ := fitS_iff h
  obtain ⟨_, a, ha, e⟩ := one_inv h1
  rw [h2] at e
  exact ⟨a, ha, e⟩
theorem fit2 {α : Type} {p q : α → Bool} {ks : List α} (h : fitS (cOne q (cOne p (ks, false))) = true) : ∃ a b, p a = true ∧ q b = true ∧ ks = [a, b] := by
  obtain ⟨h1, h2⟩ := fitS_iff h
  obtain ⟨h3, b, hb, e⟩ := one_inv h1
  rw [h2] at e
  obtain ⟨_, a, ha, e2⟩ := one_inv h3
  rw [e] at e2
  exact ⟨a, b, ha, hb, e2⟩
theorem fit3 {α : Type} {p q r : α → Bool} {ks : List α} (h : fitS (cOne r (cOne q (cOne p (ks, false)))) = true) : ∃ a b c, p a = true ∧ q b = true ∧ r c = true ∧ ks = [a, b, c] := by
  obtain ⟨h1, h2⟩ := fitS_iff h
  obtain ⟨h3, c, hc, e⟩ := one_inv h1
  rw [h2] at e
  obtain ⟨h4, b, hb, e2⟩ := one_inv h3
  rw [e] at e2
  obtain ⟨_, a, ha, e3⟩ := one_inv h4
  rw [e2] at e3
  exact ⟨a, b, c, ha, hb, hc, e3⟩
theorem fitM {α : Type} {p : α → Bool} {ks : List α} (h : fitS (cMany p (ks, false)) = true) : ∀ x ∈ ks, p x = true := by
  obtain ⟨h1, h2⟩ := fitS_iff h
  obtain ⟨_, xs, hx, e⟩ := many_inv h1
  rw [h2, List.append_nil] at e
  simp only at e
  rw [e]
  exact hx
theorem fit1M {α : Type} {p q : α → Bool} {ks : List α} (h : fitS (cMany q (cOne p (ks, false))) = true) : ∃ a r, p a = true ∧ (∀ x ∈ r, q x = true) ∧ ks = a :: r := by
  obtain ⟨h1, h2⟩ := fitS_iff h
  obtain ⟨h3, xs, hx, e⟩ := many_inv h1
  rw [h2, List.append_nil] at e
  obtain ⟨_, a, ha, e2⟩ := one_inv h3
  rw [e] at e2
  exact ⟨a, xs, ha, hx, e2⟩
theorem fit2M {α : Type} {p q r : α → Bool} {ks : List α} (h : fitS (cMany r (cOne q (cOne p (ks, false)))) = true) : ∃ a b xs, p a = true ∧ q b = true ∧ (∀ x ∈ xs, r x = true) ∧ ks = a :: b :: xs := by
  obtain ⟨h1, h2⟩ := fitS_iff h
  obtain ⟨h3, xs, hx, e⟩ := many_inv h1
  rw [h2, List.append_nil] at e
  obtain ⟨h4, b, hb, e2⟩ := one_inv h3
  rw [e] at e2
  obtain ⟨_, a, ha, e3⟩ := one_inv h4
  rw [e2] at e3
  exact ⟨a, b, xs, ha, hb, hx, e3⟩
theorem fit0o {α : Type} {q : α → Bool} {ks : List α} (h : fitS (cMay q (ks, false)) = true) : ks = [] ∨ ∃ a, q a = true ∧ ks = [a] := by
  obtain ⟨h1, h2⟩ := fitS_iff h
  obtain ⟨_, e⟩ := may_inv h1
  rw [h2] at e
  exact e
theorem fit1o {α : Type} {p q : α → Bool} {ks : List α} (h : fitS (cMay q (cOne p (ks, false))) = true) : (∃ a, p a = true ∧ ks = [a]) ∨ ∃ a b, p a = true ∧ q b = true ∧ ks = [a, b] := by
  obtain ⟨h1, h2⟩ := fitS_iff h
  obtain ⟨h3, e⟩ := may_inv h1
  rw [h2] at e
  obtain ⟨_, a, ha, e2⟩ := one_inv h3
  rcases e with e | ⟨b, hb, e⟩
  · rw [e] at e2
    exact .inl ⟨a, ha, e2⟩
  · rw [e] at e2
    exact .inr ⟨a, b, ha, hb, e2⟩
theorem fit2o {α : Type} {p q r : α → Bool} {ks : List α} (h : fitS (cMay r (cOne q (cOne p (ks, false)))) = true) : (∃ a b, p a = true ∧ q b = true ∧ ks = [a, b]) ∨ ∃ a b c, p a = true ∧ q b = true ∧ r c = true ∧ ks = [a, b, c] := by
  obtain ⟨h1, h2⟩ := fitS_iff h
  obtain ⟨h3, e⟩ := may_inv h1
  rw [h2] at e
  obtain ⟨h4, b, hb, e2⟩ := one_inv h3
  obtain ⟨_, a, ha, e3⟩ := one_inv h4
  rcases e with e | ⟨c, hc, e⟩
  · rw [e] at e2
    rw [e2] at e3
    exact .inl ⟨a, b, ha, hb, e3⟩
  · rw [e] at e2
    rw [e2] at e3
    exact .inr ⟨a, b, c, ha, hb, hc, e3⟩
theorem fitM1 {α : Type} {p q : α → Bool} {ks : List α} (h : fitS (cOne q (cMany p (ks, false))) = true) : ∃ r z, (∀ x ∈ r, p x = true) ∧ q z = true ∧ ks = r ++ [z] := by
  obtain ⟨h1, h2⟩ := fitS_iff h
  obtain ⟨h3, z, hz, e⟩ := one_inv h1
  rw [h2] at e
  obtain ⟨_, xs, hx, e2⟩ := many_inv h3
  rw [e] at e2
  exact ⟨xs, z, hx, hz, e2⟩
theorem fitM2 {α : Type} {p q r : α → Bool} {ks : List α} (h : fitS (cOne r (cOne q (cMany p (ks, false)))) = true) : ∃ xs y z, (∀ x ∈ xs, p x = true) ∧ q y = true ∧ r z = true ∧ ks = xs ++ [y, z] := by
  obtain ⟨h1, h2⟩ := fitS_iff h
  obtain ⟨h3, z, hz, e⟩ := one_inv h1
  rw [h2] at e
  obtain ⟨h4, y, hy, e2⟩ := one_inv h3
  rw [e] at e2
  obtain ⟨_, xs, hx, e3⟩ := many_inv h4
  rw [e2] at e3
  exact ⟨xs, y, z, hx, hy, hz, e3⟩
theorem iter_inv {α : Type} {p : α → Bool} : ∀ (n : Nat) {s : List α × Bool}, (cIter p n s).2 = false → s.2 = false ∧ ∃ ts, ts.length = n ∧ (∀ x ∈ ts, p x = true) ∧ s.1 = ts ++ (cIter p n s).1
  | 0, s, h => ⟨h, [], rfl, (fun x hx => by cases hx), rfl⟩
  | n + 1, s, h => by
    rw [cIter] at h ⊢
    obtain ⟨h1, ts, h2, h3, h4⟩ := iter_inv n h
    obtain ⟨h5, a, ha, e⟩ := one_inv h1
    refine ⟨h5, a :: ts, by simp [h2], fun x hx => ?_, by rw [e, h4]; rfl⟩
    rcases List.mem_cons.1 hx with rfl | hx
    · exact ha
    · exact h3 x hx
theorem fitP {α : Type} {p q : α → Bool} {n : Nat} {ks : List α} (h : fitS (cMany q (cIter p n (ks, false))) = true) : ∃ ts ss, ts.length = n ∧ (∀ x ∈ ts, p x = true) ∧ (∀ x ∈ ss, q x = true) ∧ ks = ts ++ ss := by
  obtain ⟨h1, h2⟩ := fitS_iff h
  obtain ⟨h3, xs, hx, e⟩ := many_inv h1
  rw [h2, List.append_nil] at e
  obtain ⟨_, ts, h4, h5, h6⟩ := iter_inv n h3
  rw [e] at h6
  exact ⟨ts, xs, h4, h5, hx, h6⟩
end Go.Proofs.YtjjbgbadkbomlaaDoor
namespace Go.Proofs.YtjjbgbadkbomlaaDoor
set_option linter.unusedVariables false
set_option linter.unusedSimpArgs false

/-- a list that is well, as far as the walk leans on it -/
theorem lok_of {l : List Nd} (h : (checkAll l).2 = 0) : LOk l ∧ 0 < l.length ∧ kdN l (l.length - 1) = 46 ∧ ∀ f j, j < l.length → cntF l f j ≤ j + 1 := by
  obtain ⟨h1, h2, h3⟩ := ok_all h
  have hl : LOk l := by
    refine ⟨fun i k hi hk => ?_, fun i hi hk => ?_, fun i hi hk => ?_, fun i hi hk => ?_⟩
    · have n := h1 i hi
      refine ⟨k.toNat, ?_, n.low _ (List.mem_map_of_mem hk)⟩
      have hm := n.nat
      rw [← hm] at hk
      simp only [List.mem_map] at hk
      obtain ⟨a, _, rfl⟩ := hk
      simp
    · have n := (h1 i hi).fit
      change (ndN l i).kind = 20 at hk
      rw [hk] at n
      unfold kidsFitI at n
      have hlen : (ndN l i).kids.length = ((ndN l i).kids.map Int.toNat).length := by simp
      rw [hlen]
      by_cases e : (ndN l i).num = 1
      · rw [kidsRun_20y _ _ _ e] at n
        obtain ⟨xs, y, z, _, _, _, e2⟩ := fitM2 n
        rw [e2]; simp
      · rw [kidsRun_20n _ _ _ e] at n
        obtain ⟨xs, z, _, _, e2⟩ := fitM1 n
        rw [e2]; simp
    · have n := (h1 i hi).fit
      change (ndN l i).kind = 43 at hk
      rw [hk] at n
      unfold kidsFitI at n
      have hlen : (ndN l i).kids.length = ((ndN l i).kids.map Int.toNat).length := by simp
      rw [hlen]
      rw [kidsRun_43] at n
      obtain ⟨a, b, _, _, e2⟩ := fit2 n
      rw [e2]; simp
    · have n := (h1 i hi).fit
      have hlen : (ndN l i).kids.length = ((ndN l i).kids.map Int.toNat).length := by simp
      rw [hlen]
      unfold kidsFitI at n
      rcases hk with hk | hk | hk
      · change (ndN l i).kind = 33 at hk
        rw [hk, kidsRun_33] at n
        obtain ⟨a, b, _, _, e2⟩ := fit2 n
        rw [e2]; simp
      · change (ndN l i).kind = 24 at hk
        rw [hk, kidsRun_24] at n
        obtain ⟨a, b, _, _, e2⟩ := fit2 n
        rw [e2]; simp
      · change (ndN l i).kind = 25 at hk
        rw [hk, kidsRun_25] at n
        obtain ⟨a, _, e2⟩ := fit1 n
        rw [e2]; simp
  exact ⟨hl, h2, h3, cnt_go hl.prog hl.recv l.length [] (by simp) (fun i hi => by cases hi) (fun f j hj => by cases hj) h⟩
end Go.Proofs.YtjjbgbadkbomlaaDoor
