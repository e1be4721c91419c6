import Derived.Test.YtjjbgbadkbomlaaDoorCTChkP
import Derived.Test.YtjjbgbadkbomlaaDoorCSNm
namespace Go.Proofs.YtjjbgbadkbomlaaDoor
set_option linter.unusedVariables false
set_option linter.unusedSimpArgs false

/-- the roots of the nodes ahead of n, the last first -/
inductive Roots (fs : List Nat) : Nat → List Nat → Prop
  | nil : Roots fs 0 []
  | cons (m : Nat) (r : List Nat) : m < fs.length → Roots fs (fs.getD m 0) r → Roots fs (m + 1) (m :: r)

theorem Roots.lt {fs : List Nat} (hle : ∀ j, j < fs.length → fs.getD j 0 ≤ j) {n : Nat} {R : List Nat} (h : Roots fs n R) : ∀ m ∈ R, m < n := by
  induction h with
  | nil => intro m hm; cases hm
  | cons m r hm _ ih =>
    intro k hk
    rcases List.mem_cons.1 hk with rfl | hk
    · omega
    · have := ih k hk
      have := hle m hm
      omega
theorem Roots.nodup {fs : List Nat} (hle : ∀ j, j < fs.length → fs.getD j 0 ≤ j) {n : Nat} {R : List Nat} (h : Roots fs n R) : R.Nodup := by
  induction h with
  | nil => exact List.nodup_nil
  | cons m r hm hr ih =>
    refine List.nodup_cons.2 ⟨fun hk => ?_, ih⟩
    have := hr.lt hle m hk
    have := hle m hm
    omega
theorem Roots.more {fs : List Nat} {n : Nat} {R : List Nat} (h : Roots fs n R) (x : Nat) : Roots (fs ++ [x]) n R := by
  induction h with
  | nil => exact .nil
  | cons m r hm hr ih =>
    refine .cons m r (by simp; omega) ?_
    have e : (fs ++ [x]).getD m 0 = fs.getD m 0 := by
      simp only [List.getD_eq_getElem?_getD]
      rw [List.getElem?_append_left hm]
    rw [e]
    exact ih

def endOf (fs : List Nat) : Nat → List Int → Nat
  | n, [] => n
  | n, k :: r => endOf fs (fs.getD k.toNat 0) r
theorem endOf_last (fs : List Nat) (k : Int) : ∀ (ks : List Int) (n : Nat), endOf fs n (ks ++ [k]) = fs.getD k.toNat 0
  | [], n => rfl
  | x :: r, n => by
    rw [List.cons_append, endOf]
    exact endOf_last fs k r _
theorem firstOf_end (fs : List Nat) (n : Nd) (i : Nat) : firstOf fs n i = endOf fs i n.kids.reverse := by
  unfold firstOf
  match n.kids with
  | [] => rfl
  | k :: r => simp only [List.reverse_cons, endOf_last]

theorem Roots.split {fs : List Nat} : ∀ (ks : List Int) (n : Nat) (R : List Nat), Roots fs n R → orderGo fs n ks = true →
    ∃ R', R = ks.map Int.toNat ++ R' ∧ (∀ k ∈ ks, 0 ≤ k) ∧ Roots fs (endOf fs n ks) R'
  | [], n, R, h, _ => ⟨R, rfl, (fun k hk => by cases hk), h⟩
  | k :: r, n, R, h, ho => by
    rw [orderGo] at ho
    split at ho
    · rename_i hk
      cases h with
      | nil => omega
      | cons m R0 hm hr =>
        have e : k.toNat = m := by omega
        rw [e] at ho
        obtain ⟨R', h1, h2, h3⟩ := Roots.split r _ _ hr ho
        refine ⟨R', by rw [h1, List.map_cons, e]; rfl, ?_, ?_⟩
        · intro x hx
          rcases List.mem_cons.1 hx with rfl | hx
          · exact hk.2
          · exact h2 x hx
        · rw [endOf, e]
          exact h3
    · cases ho

/-- the kids of the nodes ahead of i, one after the other -/
def kidsTo (l : List Nd) (i : Nat) : List Int := (List.range i).flatMap fun j => (ndN l j).kids
theorem kidsTo_succ (l : List Nd) (i : Nat) : kidsTo l (i + 1) = kidsTo l i ++ (ndN l i).kids := by
  unfold kidsTo
  rw [List.range_succ, List.flatMap_append]
  simp
/-- the kids of node i stand ahead of it, and none was a kid before -/
def KidOk (l : List Nd) (i : Nat) : Prop :=
  ∀ p (hp : p < (ndN l i).kids.length), ∃ m : Nat, (ndN l i).kids[p] = (m : Int) ∧ m < i ∧ (m : Int) ∉ kidsTo l i ++ (ndN l i).kids.take p

structure KidS (l : List Nd) (fs : List Nat) (R : List Nat) : Prop where
  roots : Roots fs fs.length R
  le : ∀ j, j < fs.length → fs.getD j 0 ≤ j
  new : ∀ r ∈ R, (r : Int) ∉ kidsTo l fs.length
  many : (kidsTo l fs.length).length + R.length = fs.length
  low : ∀ k ∈ kidsTo l fs.length, k < fs.length
  ok : ∀ i, i < fs.length → KidOk l i

theorem KidS.next {l : List Nd} {fs R : List Nat} (h : KidS l fs R) (hz : checkNodeI l fs fs.length = 0) :
    ∃ R', KidS l (fs ++ [firstOf fs (ndN l fs.length) fs.length]) (fs.length :: R') := by
  obtain ⟨_, _, _, _, ho, _, _⟩ := node_zero hz
  have hfl := first_le h.le ho
  obtain ⟨R', hR, hnn, hr⟩ := Roots.split _ _ _ h.roots ho
  rw [← firstOf_end] at hr
  have hlt := h.roots.lt h.le
  have hnd := h.roots.nodup h.le
  generalize hks : (ndN l fs.length).kids = ks at *
  generalize hf : firstOf fs (ndN l fs.length) fs.length = f at *
  have hin : ∀ k ∈ ks, k.toNat ∈ R := fun k hk => by
    rw [hR]
    exact List.mem_append_left _ (List.mem_map.2 ⟨k, by simpa using hk, rfl⟩)
  have hnn' : ∀ k ∈ ks, 0 ≤ k := fun k hk => hnn k (by simpa using hk)
  rw [hR] at hnd
  obtain ⟨hnd1, hnd2, hnd3⟩ := List.nodup_append.1 hnd
  have hrev : (ks.map Int.toNat).Nodup := by
    rw [List.map_reverse] at hnd1
    exact (List.pairwise_reverse.1 hnd1).imp fun h => Ne.symm h
  have hlen : (fs ++ [f]).length = fs.length + 1 := by simp
  refine ⟨R', ?_, ?_, ?_, ?_, ?_, ?_⟩
  · rw [hlen]
    refine .cons _ _ (by rw [hlen]; omega) ?_
    have e : (fs ++ [f]).getD fs.length 0 = f := by simp [List.getD_eq_getElem?_getD]
    rw [e]
    exact hr.more f
  · intro j hj
    rw [hlen] at hj
    by_cases hj2 : j < fs.length
    · have := h.le j hj2
      simp only [List.getD_eq_getElem?_getD] at this ⊢
      rw [List.getElem?_append_left hj2]
      exact this
    · have : j = fs.length := by omega
      subst this
      simp [List.getD_eq_getElem?_getD]
      exact hfl
  · intro r hr2
    rw [hlen, kidsTo_succ, hks]
    intro hm
    rcases List.mem_cons.1 hr2 with rfl | hr2
    · rcases List.mem_append.1 hm with hm | hm
      · have := h.low _ hm
        omega
      · have := hlt _ (hin _ hm)
        simp at this
    · rcases List.mem_append.1 hm with hm | hm
      · exact h.new r (by rw [hR]; exact List.mem_append_right _ hr2) hm
      · exact hnd3 r (List.mem_map.2 ⟨(r : Int), by simpa using hm, by simp⟩) r hr2 rfl
  · rw [hlen, kidsTo_succ, hks]
    have h1 := h.many
    rw [hR] at h1
    simp at h1 ⊢
    omega
  · intro k hk
    rw [hlen]
    rw [hlen, kidsTo_succ, hks] at hk
    rcases List.mem_append.1 hk with hm | hm
    · have := h.low _ hm
      omega
    · have := hlt _ (hin _ hm)
      have := hnn' _ hm
      omega
  · intro i hi
    rw [hlen] at hi
    by_cases hi2 : i < fs.length
    · exact h.ok i hi2
    · have : i = fs.length := by omega
      subst this
      intro p hp
      simp only [hks] at hp ⊢
      have hmem : ks[p] ∈ ks := List.getElem_mem hp
      refine ⟨ks[p].toNat, ?_, hlt _ (hin _ hmem), ?_⟩
      · have := hnn' _ hmem
        omega
      · intro hm
        rcases List.mem_append.1 hm with hm | hm
        · exact h.new _ (hin _ hmem) hm
        · obtain ⟨q, hq, hqe⟩ := List.getElem_of_mem hm
          simp at hq hqe
          have e : (ks.map Int.toNat)[q]'(by simp; omega) = (ks.map Int.toNat)[p]'(by simpa using hp) := by
            simp [hqe]
            omega
          exact List.pairwise_iff_getElem.1 hrev q p (by simp; omega) (by simpa using hp) (by omega) e

theorem kids_go {l : List Nd} : ∀ (m : Nat) (fs R : List Nat), fs.length + m = l.length → KidS l fs R → (checkGo l m fs).2 = 0 →
    (∀ i, i < l.length → KidOk l i) ∧ (kidsTo l l.length).length + 1 = l.length
  | 0, fs, R, hm, h, hc => by
    rw [checkGo] at hc
    unfold rootI at hc
    split at hc
    · cases hc
    · rename_i hr
      have hm' : fs.length = l.length := hm
      refine ⟨fun i hi => h.ok i (by omega), ?_⟩
      have h1 := h.many
      have h2 := h.roots
      rw [hm'] at h1 h2
      have hr0 : ¬ l.length = 0 := fun e => hr (.inl e)
      have hr1 : fs.getD (l.length - 1) 0 = 0 := Classical.byContradiction fun e => hr (.inr (.inr e))
      generalize l.length = n at *
      cases h2 with
      | nil => exact absurd rfl hr0
      | cons q R0 hq hr2 =>
        simp only [Nat.add_sub_cancel] at hr1
        rw [hr1] at hr2
        cases hr2
        simpa using h1
  | m + 1, fs, R, hm, h, hc => by
    rw [checkGo] at hc
    split at hc
    · rename_i hz
      obtain ⟨R', h'⟩ := h.next hz
      exact kids_go m _ _ (by simp; omega) h' hc
    · rename_i hz
      exact absurd hc hz
/-- P2.2, read for the kids -/
theorem kids_all {l : List Nd} (h : (checkAll l).2 = 0) : (∀ i, i < l.length → KidOk l i) ∧ (kidsTo l l.length).length + 1 = l.length :=
  kids_go l.length [] [] (by simp) ⟨.nil, (fun j hj => by cases hj), (fun j hj => by cases hj), by simp [kidsTo], (fun j hj => by simp [kidsTo] at hj), fun j hj => by cases hj⟩ h

end Go.Proofs.YtjjbgbadkbomlaaDoor
namespace Go.Proofs.YtjjbgbadkbomlaaDoor
set_option linter.unusedVariables false
set_option linter.unusedSimpArgs false

/-- x stands in p -/
inductive In (l : List Nd) (p : Nat) : Nat → Prop
  | self : In l p p
  | kid {y : Nat} {k : Int} : In l p y → k ∈ (ndN l y).kids → In l p k.toNat
/-- whose kid is whose -/
structure KT (l : List Nd) : Prop where
  low : ∀ i k, k ∈ (ndN l i).kids → ∃ j : Nat, k = j ∧ j < i
  far : ∀ i k, k ∈ (ndN l i).kids → i < l.length
  one : ∀ i i' k, k ∈ (ndN l i).kids → k ∈ (ndN l i').kids → i = i'
  nd : ∀ i, (ndN l i).kids.Nodup
  all : ∀ j, j + 1 < l.length → ∃ i, (j : Int) ∈ (ndN l i).kids
section
variable {l : List Nd}
theorem mem_kidsTo {i j : Nat} {k : Int} (h : k ∈ (ndN l j).kids) (hj : j < i) : k ∈ kidsTo l i := by
  unfold kidsTo
  rw [List.mem_flatMap]
  exact ⟨j, List.mem_range.2 hj, h⟩
theorem kt_of (h : (checkAll l).2 = 0) : KT l := by
  obtain ⟨h1, h2⟩ := kids_all h
  have far : ∀ i k, k ∈ (ndN l i).kids → i < l.length := fun i k hk => by
    apply Classical.byContradiction
    intro hc
    rw [ndN_far (by omega)] at hk
    cases hk
  have low : ∀ i k, k ∈ (ndN l i).kids → ∃ j : Nat, k = j ∧ j < i := fun i k hk => by
    obtain ⟨p, hp, e⟩ := List.getElem_of_mem hk
    obtain ⟨m, e2, hm, _⟩ := h1 i (far i k hk) p hp
    exact ⟨m, by rw [← e, e2], hm⟩
  have lt : ∀ i i' k, k ∈ (ndN l i).kids → k ∈ (ndN l i').kids → ¬ i < i' := fun i i' k hk hk' hlt => by
    obtain ⟨p, hp, e⟩ := List.getElem_of_mem hk'
    obtain ⟨m, e2, hm, hn⟩ := h1 i' (far i' k hk') p hp
    refine hn (List.mem_append_left _ ?_)
    rw [← e2, e]
    exact mem_kidsTo hk hlt
  have nd : ∀ i, (ndN l i).kids.Nodup := fun i => by
    refine List.pairwise_iff_getElem.2 fun p q hp hq hpq e => ?_
    have hi := far i _ (List.getElem_mem hp)
    obtain ⟨m, e2, hm, hn⟩ := h1 i hi q hq
    refine hn (List.mem_append_right _ ?_)
    rw [← e2, ← e]
    rw [List.mem_take_iff_getElem]
    exact ⟨p, by omega, rfl⟩
  refine ⟨low, far, fun i i' k hk hk' => ?_, nd, ?_⟩
  · rcases Nat.lt_trichotomy i i' with q | q | q
    · exact absurd q (lt i i' k hk hk')
    · exact q
    · exact absurd q (lt i' i k hk' hk)
  · -- each but the last is a kid
    have knd : ∀ n, (kidsTo l n).Nodup := fun n => by
      induction n with
      | zero => simp [kidsTo]
      | succ n ih =>
        rw [kidsTo_succ]
        refine List.nodup_append.2 ⟨ih, nd n, fun a ha b hb e => ?_⟩
        subst e
        unfold kidsTo at ha
        rw [List.mem_flatMap] at ha
        obtain ⟨j, hj, hk⟩ := ha
        exact lt j n a hk hb (List.mem_range.1 hj)
    have kin : ∀ n k, k ∈ kidsTo l n → ∃ i, k ∈ (ndN l i).kids := fun n k hk => by
      unfold kidsTo at hk
      rw [List.mem_flatMap] at hk
      obtain ⟨j, _, hk⟩ := hk
      exact ⟨j, hk⟩
    intro j hj
    apply Classical.byContradiction
    intro hc
    -- the kids, and this one, are more than there is room for
    have hnd : (j :: (kidsTo l l.length).map Int.toNat).Nodup := by
      refine List.nodup_cons.2 ⟨fun hm => ?_, ?_⟩
      · rw [List.mem_map] at hm
        obtain ⟨k, hk, e⟩ := hm
        obtain ⟨i, hi⟩ := kin _ _ hk
        obtain ⟨q, e2, _⟩ := low i k hi
        exact hc ⟨i, by rw [← e, e2]; rw [e2] at hi; simpa using hi⟩
      · refine List.pairwise_map.2 ((knd l.length).imp_of_mem fun {a b} ha hb hne e => hne ?_)
        obtain ⟨i, hi⟩ := kin _ _ ha
        obtain ⟨i', hi'⟩ := kin _ _ hb
        obtain ⟨q, e2, _⟩ := low i a hi
        obtain ⟨q', e2', _⟩ := low i' b hi'
        rw [e2, e2'] at e
        have e : q = q' := e
        rw [e2, e2', e]
    have := pig (l.length - 1) _ hnd (fun x hx => by
      rcases List.mem_cons.1 hx with rfl | hx
      · omega
      · rw [List.mem_map] at hx
        obtain ⟨k, hk, e⟩ := hx
        obtain ⟨i, hi⟩ := kin _ _ hk
        obtain ⟨q, e2, hq⟩ := low i k hi
        have := far i k hi
        rw [← e, e2]
        show q < _
        omega)
    simp at this
    omega
theorem In.trans {p y x : Nat} (h : In l p y) (g : In l y x) : In l p x := by
  induction g with
  | self => exact h
  | kid _ hk ih => exact .kid ih hk
theorem KT.kid (T : KT l) {i : Nat} {k : Int} (h : k ∈ (ndN l i).kids) : k.toNat < i ∧ (k.toNat : Int) = k := by
  obtain ⟨j, e, hj⟩ := T.low i k h
  rw [e]
  exact ⟨hj, rfl⟩
theorem In.le (T : KT l) {p x : Nat} (h : In l p x) : x ≤ p := by
  induction h with
  | self => exact Nat.le_refl _
  | kid _ hk ih => have := (T.kid hk).1; omega
theorem KT.same (T : KT l) {i i' : Nat} {k k' : Int} (h : k ∈ (ndN l i).kids) (h' : k' ∈ (ndN l i').kids) (e : k.toNat = k'.toNat) : i = i' ∧ k = k' := by
  have a := (T.kid h).2
  have b := (T.kid h').2
  have : k = k' := by rw [← a, ← b, e]
  subst this
  exact ⟨T.one i i' k h h', rfl⟩
theorem In.up (T : KT l) {p x y : Nat} {k : Int} (h : In l p x) (hne : x ≠ p) (hk : k ∈ (ndN l y).kids) (e : k.toNat = x) : In l p y := by
  cases h with
  | self => exact absurd rfl hne
  | kid hy hk' =>
    rw [(T.same hk hk' e).1]
    exact hy
theorem In.two (T : KT l) {a b x : Nat} (h : In l a x) (g : In l b x) : In l a b ∨ In l b a := by
  induction h with
  | self => exact .inr g
  | @kid y k hy hk ih =>
    by_cases e : k.toNat = b
    · exact .inl (by rw [← e]; exact .kid hy hk)
    · exact ih (In.up T g e hk rfl)
theorem In.apart (T : KT l) {i : Nat} {k k' : Int} {x : Nat} (hk : k ∈ (ndN l i).kids) (hk' : k' ∈ (ndN l i).kids) (hne : k ≠ k') (h : In l k.toNat x) (g : In l k'.toNat x) : False := by
  have h1 := (T.kid hk)
  have h2 := (T.kid hk')
  have hn : k.toNat ≠ k'.toNat := fun e => hne (by rw [← h1.2, ← h2.2, e])
  rcases In.two T h g with q | q
  · have := In.le T (In.up T q (Ne.symm hn) hk' rfl); omega
  · have := In.le T (In.up T q hn hk rfl); omega
theorem In.root (T : KT l) {j : Nat} (hj : j < l.length) : In l (l.length - 1) j := by
  have : ∀ n j, j < l.length → l.length - 1 - j = n → In l (l.length - 1) j := by
    intro n
    induction n using Nat.strongRecOn with
    | ind n ih =>
      intro j hj e
      by_cases hl : j + 1 < l.length
      · obtain ⟨i, hi⟩ := T.all j hl
        have h1 := T.far i _ hi
        have h2 := (T.kid hi).1
        have h2 : j < i := h2
        have := In.kid (ih (l.length - 1 - i) (by omega) i h1 rfl) hi
        exact this
      · rw [show l.length - 1 = j by omega]
        exact .self
  exact this _ j hj rfl
end
end Go.Proofs.YtjjbgbadkbomlaaDoor
namespace Go.Proofs.YtjjbgbadkbomlaaDoor
set_option linter.unusedVariables false
set_option linter.unusedSimpArgs false

def rf (s : SSt) (j : Nat) : Int := s.ref.getD j (-1)
def frS (s : SSt) (p : Nat) : List Int := s.free.getD p []
def pr (s : SSt) (k : Nat) : Nat := (gatS s k).1
def tkn (s : SSt) (k : Nat) : List Nat := (gatS s k).2
def dcM (s : SSt) (m : Nat) : Int := (mnS s m).decl
/-- the name of what is declared there -/
def mname (l : List Nd) (d : Int) : ByteArray := if 0 ≤ d then (ndN l d.toNat).name else if d = -2 then inN else outN
/-- what the walk says so far is right -/
structure Sy (l : List Nd) (s : SSt) : Prop where
  wf : SWf l s
  ap : Apart s
  gk : ∀ k, k < s.gat.length → kdN l (pr s k) = 20
  fe : ∀ k, k < s.gat.length → frS s (pr s k) = (tkn s k).map (dcM s)
  di : ∀ m m', m < s.ms.length → m' < s.ms.length → dcM s m = dcM s m' → m = m'
  lv : ∀ m, Live s m → ∀ k, k < (mnS s m).lvl → ∃ d : Nat, dcM s m = d ∧ In l (pr s k) d
  lw : ∀ m, Live s m → ∀ k, (mnS s m).lvl ≤ k → k < s.gat.length → ∀ d : Nat, dcM s m = d → ¬ In l (pr s k) d
  nm : ∀ x m, s.sc x = some m → mname l (dcM s m) = x
  ou : ∀ m m', (mnS s m).outer = some m' → mname l (dcM s m') = mname l (dcM s m)
  fr : ∀ p d, d ∈ frS s p → kdN l p = 20 ∧ d ≠ -1 ∧ (∀ d' : Nat, d = d' → ¬ In l p d') ∧ isVarP l d = false ∧ ∃ i, rf s i = d ∧ In l p i
  nd : ∀ p, (frS s p).Nodup
  rr : ∀ j, rf s j ≠ -1 → kdN l j = 13 ∧ mname l (rf s j) = (ndN l j).name ∧ (rf s j = -2 ∨ rf s j = -3 ∨ ∃ d : Nat, rf s j = d ∧ d < l.length) ∧ ∀ p, kdN l p = 20 → In l p j → (∃ d : Nat, rf s j = d ∧ In l p d) ∨ rf s j ∈ frS s p
section
variable {l : List Nd} {s s' : SSt}
/-- other scopes, no other meanings -/
theorem Sy.agree (h : Sy l s) (wf : SWf l s') (e1 : s'.ref = s.ref) (e2 : s'.free = s.free) (e3 : s'.gat = s.gat) (e4 : s'.ms = s.ms) (e6 : ∀ m, Live s' m → Live s m) (e7 : ∀ x m, s'.sc x = some m → mname l (dcM s m) = x) : Sy l s' := by
  have hr : ∀ j, rf s' j = rf s j := fun j => by unfold rf; rw [e1]
  have hf : ∀ p, frS s' p = frS s p := fun p => by unfold frS; rw [e2]
  have hg : ∀ k, gatS s' k = gatS s k := fun k => by unfold gatS; rw [e3]
  have hp : ∀ k, pr s' k = pr s k := fun k => by unfold pr; rw [hg]
  have ht : ∀ k, tkn s' k = tkn s k := fun k => by unfold tkn; rw [hg]
  have hm : ∀ m, mnS s' m = mnS s m := fun m => by unfold mnS; rw [e4]
  have hd : dcM s' = dcM s := by funext m; unfold dcM; rw [hm]
  have hap : Apart s' := fun j j' h1 h2 => by rw [hg, hg]; exact h.ap j j' h1 (by rw [← e3]; exact h2)
  refine ⟨wf, hap, fun k hk => ?_, fun k hk => ?_, fun m m' => ?_, fun m hl k hk => ?_, fun m hl k h1 h2 => ?_, fun x m e => ?_, fun m m' e => ?_, fun p d hd' => ?_, fun p => ?_, fun j hj => ?_⟩
  · rw [hp]; exact h.gk k (by rw [← e3]; exact hk)
  · rw [hp, hf, ht, hd]; exact h.fe k (by rw [← e3]; exact hk)
  · rw [hd, e4]; exact h.di m m'
  · rw [hm] at hk; rw [hd, hp]; exact h.lv m (e6 m hl) k hk
  · rw [hm] at h1; rw [hd, hp]; exact h.lw m (e6 m hl) k h1 (by rw [← e3]; exact h2)
  · rw [hd]; exact e7 x m e
  · rw [hm] at e; rw [hd]; exact h.ou m m' e
  · rw [hf] at hd'
    obtain ⟨a, b, c, d1, i, q1, q2⟩ := h.fr p d hd'
    exact ⟨a, b, c, d1, i, by rw [hr]; exact q1, q2⟩
  · rw [hf]; exact h.nd p
  · rw [hr] at hj
    obtain ⟨a, b, c, d⟩ := h.rr j hj
    rw [hr]
    exact ⟨a, b, c, fun p q1 q2 => by rw [hf]; exact d p q1 q2⟩
theorem put_live (h : SWf l s) {nm : ByteArray} {i : Nat} {o : Option Nat} (ho : o = s.sc nm) {m : Nat} (hl : Live (putP nm i o s) m) : m = s.ms.length ∨ (m < s.ms.length ∧ Live s m) := by
  have hsc : ∀ x, (putP nm i o s).sc x = if x = nm then some s.ms.length else s.sc x := fun _ => rfl
  induction hl with
  | @top x m e =>
    rw [hsc] at e
    split at e
    · exact .inl (by cases e; rfl)
    · exact .inr ⟨h.tops _ _ e, .top e⟩
  | @out m m' _ e ih =>
    rcases ih with rfl | ⟨ih1, ih2⟩
    · rw [put_new] at e
      simp only [ho] at e
      exact .inr ⟨h.tops _ _ e, .top e⟩
    · rw [put_old ih1] at e
      exact .inr ⟨Nat.lt_trans (h.outs _ _ e) ih1, .out ih2 e⟩
theorem mname_nat (l : List Nd) (i : Nat) : mname l (i : Int) = (ndN l i).name := by
  unfold mname
  rw [if_pos (by omega)]
  rfl
theorem Sy.put (h : Sy l s) {i : Nat} (nm : ByteArray) (hnm : nm = (ndN l i).name) (o : Option Nat) (ho : o = s.sc nm) (wf : SWf l (putP nm i o s)) (fresh : ∀ m, m < s.ms.length → dcM s m ≠ (i : Int)) (und : ∀ k, k < s.gat.length → In l (pr s k) i) : Sy l (putP nm i o s) := by
  have hl : (putP nm i o s).ms.length = s.ms.length + 1 := by simp [putP]
  have old : ∀ m, m < s.ms.length → dcM (putP nm i o s) m = dcM s m := fun m hm => by unfold dcM; rw [put_old hm]
  have new : dcM (putP nm i o s) s.ms.length = i := by unfold dcM; rw [put_new]
  refine ⟨wf, h.ap, h.gk, fun k hk => ?_, fun m m' h1 h2 e => ?_, fun m hv k hk => ?_, fun m hv k h1 h2 d e => ?_, fun x m e => ?_, fun m m' e => ?_, h.fr, h.nd, h.rr⟩
  · refine (h.fe k hk).trans (List.map_congr_left fun m hm => ?_)
    exact (old m (h.wf.gids k m hm)).symm
  · rw [hl] at h1 h2
    by_cases e1 : m = s.ms.length
    · by_cases e2 : m' = s.ms.length
      · omega
      · rw [e1, new, old m' (by omega)] at e
        exact absurd e.symm (fresh m' (by omega))
    · by_cases e2 : m' = s.ms.length
      · rw [e2, new, old m (by omega)] at e
        exact absurd e (fresh m (by omega))
      · rw [old m (by omega), old m' (by omega)] at e
        exact h.di m m' (by omega) (by omega) e
  · rcases put_live h.wf ho hv with rfl | ⟨h1, h2⟩
    · rw [put_new] at hk
      exact ⟨i, new, und k hk⟩
    · rw [put_old h1] at hk
      rw [old m h1]
      exact h.lv m h2 k hk
  · rcases put_live h.wf ho hv with rfl | ⟨q1, q2⟩
    · rw [put_new] at h1
      have h2 : k < s.gat.length := h2
      have h1 : s.gat.length ≤ k := h1
      omega
    · rw [put_old q1] at h1
      rw [old m q1] at e
      exact h.lw m q2 k h1 h2 d e
  · have hsc : (putP nm i o s).sc x = if x = nm then some s.ms.length else s.sc x := rfl
    rw [hsc] at e
    split at e
    · rename_i hx
      cases e
      rw [new, mname_nat, hx, hnm]
    · rw [old m (h.wf.tops _ _ e)]
      exact h.nm x m e
  · rcases Nat.lt_trichotomy m s.ms.length with hm | rfl | hm
    · rw [put_old hm] at e
      rw [old m hm, old m' (Nat.lt_trans (h.wf.outs _ _ e) hm)]
      exact h.ou m m' e
    · rw [put_new] at e
      simp only [ho] at e
      rw [new, old m' (h.wf.tops _ _ e), mname_nat, ← hnm]
      exact h.nm nm m' e
    · rw [put_far hm] at e; cases e
theorem flt_refuse {i : Nat} {c : Int} (hc : c ≠ 0) : (refuseP l i c s).flt.2 ≠ 0 := by
  unfold refuseP
  split
  · exact hc
  · rename_i h; exact h
theorem Sy.decl (h : Sy l s) {i : Nat} (hi : i < l.length) (hok : (declP l i s).flt.2 = 0) (fresh : ∀ m, m < s.ms.length → dcM s m ≠ (i : Int)) (und : ∀ k, k < s.gat.length → In l (pr s k) i) :
    Sy l (declP l i s) ∧ (declP l i s).ref = s.ref ∧ (declP l i s).free = s.free ∧ (declP l i s).gat = s.gat ∧ s.flt.2 = 0 ∧ ∀ m, s.ms.length ≤ m → m < (declP l i s).ms.length → dcM (declP l i s) m = i := by
  have wf := (decl_ok h.wf i hi).1
  unfold declP at hok wf ⊢
  split
  · rename_i e
    rw [if_pos e] at hok
    exact ⟨h, rfl, rfl, rfl, hok, fun m h1 h2 => by omega⟩
  · rename_i e
    rw [if_neg e] at hok wf
    have fin : ∀ o, o = s.sc (ndN l i).name → SWf l (putP (ndN l i).name i o s) → (putP (ndN l i).name i o s).flt.2 = 0 → _ := fun o ho wf hok => (⟨h.put _ rfl o ho wf fresh und, rfl, rfl, rfl, hok, fun m h1 h2 => by
      have hl : (putP (ndN l i).name i o s).ms.length = s.ms.length + 1 := by simp [putP]
      have : m = s.ms.length := by omega
      rw [this]
      unfold dcM
      rw [put_new]⟩ : Sy l (putP (ndN l i).name i o s) ∧ (putP (ndN l i).name i o s).ref = s.ref ∧ (putP (ndN l i).name i o s).free = s.free ∧ (putP (ndN l i).name i o s).gat = s.gat ∧ s.flt.2 = 0 ∧ ∀ m, s.ms.length ≤ m → m < (putP (ndN l i).name i o s).ms.length → dcM (putP (ndN l i).name i o s) m = i)
    split
    · rename_i q
      rw [q] at hok wf
      exact fin none q.symm wf hok
    · rename_i m q
      rw [q] at hok wf
      simp only [] at hok wf
      split
      · rename_i hb
        rw [if_pos hb] at hok
        exact absurd hok (flt_refuse (by decide))
      · rename_i hb
        rw [if_neg hb] at hok wf
        exact fin (some m) q.symm wf hok
end
end Go.Proofs.YtjjbgbadkbomlaaDoor
