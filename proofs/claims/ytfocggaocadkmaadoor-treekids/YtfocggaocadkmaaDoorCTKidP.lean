import Derived.Test.YtfocggaocadkmaaDoorCTH
namespace Go.Proofs.YtfocggaocadkmaaDoor
set_option linter.unusedVariables false
set_option linter.unusedSimpArgs false

/-- the roots of the nodes ahead of n, the last first -/
inductive Roots (fs : List Nat) : Nat → List Nat → Prop
  | nil : Roots fs 0 []
  | cons (m : Nat) (r : List Nat) : m < fs.length → Roots fs (fs.getD m 0) r → Roots fs (m + 1) (m :: r)

theorem Roots.lt {fs : List Nat} (hle : ∀ j, j < fs.length → fs.getD j 0 ≤ j) {n : Nat} {R : List Nat} (h : Roots fs n R) : ∀ m ∈ R, m < n := by
  induction h with
  | nil => intro m hm; cases hm
  | cons m r hm _ ih =>
    intro k hk
    rcases List.mem_cons.1 hk with rfl | hk
    · omega
    · have := ih k hk
      have := hle m hm
      omega
theorem Roots.nodup {fs : List Nat} (hle : ∀ j, j < fs.length → fs.getD j 0 ≤ j) {n : Nat} {R : List Nat} (h : Roots fs n R) : R.Nodup := by
  induction h with
  | nil => exact List.nodup_nil
  | cons m r hm hr ih =>
    refine List.nodup_cons.2 ⟨fun hk => ?_, ih⟩
    have := hr.lt hle m hk
    have := hle m hm
    omega
theorem Roots.more {fs : List Nat} {n : Nat} {R : List Nat} (h : Roots fs n R) (x : Nat) : Roots (fs ++ [x]) n R := by
  induction h with
  | nil => exact .nil
  | cons m r hm hr ih =>
    refine .cons m r (by simp; omega) ?_
    have e : (fs ++ [x]).getD m 0 = fs.getD m 0 := by
      simp only [List.getD_eq_getElem?_getD]
      rw [List.getElem?_append_left hm]
    rw [e]
    exact ih

def endOf (fs : List Nat) : Nat → List Int → Nat
  | n, [] => n
  | n, k :: r => endOf fs (fs.getD k.toNat 0) r
theorem endOf_last (fs : List Nat) (k : Int) : ∀ (ks : List Int) (n : Nat), endOf fs n (ks ++ [k]) = fs.getD k.toNat 0
  | [], n => rfl
  | x :: r, n => by
    rw [List.cons_append, endOf]
    exact endOf_last fs k r _
theorem firstOf_end (fs : List Nat) (n : Nd) (i : Nat) : firstOf fs n i = endOf fs i n.kids.reverse := by
  unfold firstOf
  match n.kids with
  | [] => rfl
  | k :: r => simp only [List.reverse_cons, endOf_last]

theorem Roots.split {fs : List Nat} : ∀ (ks : List Int) (n : Nat) (R : List Nat), Roots fs n R → orderGo fs n ks = true →
    ∃ R', R = ks.map Int.toNat ++ R' ∧ (∀ k ∈ ks, 0 ≤ k) ∧ Roots fs (endOf fs n ks) R'
  | [], n, R, h, _ => ⟨R, rfl, (fun k hk => by cases hk), h⟩
  | k :: r, n, R, h, ho => by
    rw [orderGo] at ho
    split at ho
    · rename_i hk
      cases h with
      | nil => omega
      | cons m R0 hm hr =>
        have e : k.toNat = m := by omega
        rw [e] at ho
        obtain ⟨R', h1, h2, h3⟩ := Roots.split r _ _ hr ho
        refine ⟨R', by rw [h1, List.map_cons, e]; rfl, ?_, ?_⟩
        · intro x hx
          rcases List.mem_cons.1 hx with rfl | hx
          · exact hk.2
          · exact h2 x hx
        · rw [endOf, e]
          exact h3
    · cases ho

/-- the kids of the nodes ahead of i, one after the other -/
def kidsTo (l : List Nd) (i : Nat) : List Int := (List.range i).flatMap fun j => (ndN l j).kids
theorem kidsTo_succ (l : List Nd) (i : Nat) : kidsTo l (i + 1) = kidsTo l i ++ (ndN l i).kids := by
  unfold kidsTo
  rw [List.range_succ, List.flatMap_append]
  simp
/-- the kids of node i stand ahead of it, and none was a kid before -/
def KidOk (l : List Nd) (i : Nat) : Prop :=
  ∀ p (hp : p < (ndN l i).kids.length), ∃ m : Nat, (ndN l i).kids[p] = (m : Int) ∧ m < i ∧ (m : Int) ∉ kidsTo l i ++ (ndN l i).kids.take p

structure KidS (l : List Nd) (fs : List Nat) (R : List Nat) : Prop where
  roots : Roots fs fs.length R
  le : ∀ j, j < fs.length → fs.getD j 0 ≤ j
  new : ∀ r ∈ R, (r : Int) ∉ kidsTo l fs.length
  many : (kidsTo l fs.length).length + R.length = fs.length
  low : ∀ k ∈ kidsTo l fs.length, k < fs.length
  ok : ∀ i, i < fs.length → KidOk l i

theorem KidS.next {l : List Nd} {fs R : List Nat} (h : KidS l fs R) (hz : checkNodeI l fs fs.length = 0) :
    ∃ R', KidS l (fs ++ [firstOf fs (ndN l fs.length) fs.length]) (fs.length :: R') := by
  obtain ⟨_, _, _, _, ho, _, _⟩ := node_zero hz
  have hfl := first_le h.le ho
  obtain ⟨R', hR, hnn, hr⟩ := Roots.split _ _ _ h.roots ho
  rw [← firstOf_end] at hr
  have hlt := h.roots.lt h.le
  have hnd := h.roots.nodup h.le
  generalize hks : (ndN l fs.length).kids = ks at *
  generalize hf : firstOf fs (ndN l fs.length) fs.length = f at *
  have hin : ∀ k ∈ ks, k.toNat ∈ R := fun k hk => by
    rw [hR]
    exact List.mem_append_left _ (List.mem_map.2 ⟨k, by simpa using hk, rfl⟩)
  have hnn' : ∀ k ∈ ks, 0 ≤ k := fun k hk => hnn k (by simpa using hk)
  rw [hR] at hnd
  obtain ⟨hnd1, hnd2, hnd3⟩ := List.nodup_append.1 hnd
  have hrev : (ks.map Int.toNat).Nodup := by
    rw [List.map_reverse] at hnd1
    exact (List.pairwise_reverse.1 hnd1).imp fun h => Ne.symm h
  have hlen : (fs ++ [f]).length = fs.length + 1 := by simp
  refine ⟨R', ?_, ?_, ?_, ?_, ?_, ?_⟩
  · rw [hlen]
    refine .cons _ _ (by rw [hlen]; omega) ?_
    have e : (fs ++ [f]).getD fs.length 0 = f := by simp [List.getD_eq_getElem?_getD]
    rw [e]
    exact hr.more f
  · intro j hj
    rw [hlen] at hj
    by_cases hj2 : j < fs.length
    · have := h.le j hj2
      simp only [List.getD_eq_getElem?_getD] at this ⊢
      rw [List.getElem?_append_left hj2]
      exact this
    · have : j = fs.length := by omega
      subst this
      simp [List.getD_eq_getElem?_getD]
      exact hfl
  · intro r hr2
    rw [hlen, kidsTo_succ, hks]
    intro hm
    rcases List.mem_cons.1 hr2 with rfl | hr2
    · rcases List.mem_append.1 hm with hm | hm
      · have := h.low _ hm
        omega
      · have := hlt _ (hin _ hm)
        simp at this
    · rcases List.mem_append.1 hm with hm | hm
      · exact h.new r (by rw [hR]; exact List.mem_append_right _ hr2) hm
      · exact hnd3 r (List.mem_map.2 ⟨(r : Int), by simpa using hm, by simp⟩) r hr2 rfl
  · rw [hlen, kidsTo_succ, hks]
    have h1 := h.many
    rw [hR] at h1
    simp at h1 ⊢
    omega
  · intro k hk
    rw [hlen]
    rw [hlen, kidsTo_succ, hks] at hk
    rcases List.mem_append.1 hk with hm | hm
    · have := h.low _ hm
      omega
    · have := hlt _ (hin _ hm)
      have := hnn' _ hm
      omega
  · intro i hi
    rw [hlen] at hi
    by_cases hi2 : i < fs.length
    · exact h.ok i hi2
    · have : i = fs.length := by omega
      subst this
      intro p hp
      simp only [hks] at hp ⊢
      have hmem : ks[p] ∈ ks := List.getElem_mem hp
      refine ⟨ks[p].toNat, ?_, hlt _ (hin _ hmem), ?_⟩
      · have := hnn' _ hmem
        omega
      · intro hm
        rcases List.mem_append.1 hm with hm | hm
        · exact h.new _ (hin _ hmem) hm
        · obtain ⟨q, hq, hqe⟩ := List.getElem_of_mem hm
          simp at hq hqe
          have e : (ks.map Int.toNat)[q]'(by simp; omega) = (ks.map Int.toNat)[p]'(by simpa using hp) := by
            simp [hqe]
            omega
          exact List.pairwise_iff_getElem.1 hrev q p (by simp; omega) (by simpa using hp) (by omega) e

theorem kids_go {l : List Nd} : ∀ (m : Nat) (fs R : List Nat), fs.length + m = l.length → KidS l fs R → (checkGo l m fs).2 = 0 →
    (∀ i, i < l.length → KidOk l i) ∧ (kidsTo l l.length).length + 1 = l.length
  | 0, fs, R, hm, h, hc => by
    rw [checkGo] at hc
    unfold rootI at hc
    split at hc
    · cases hc
    · rename_i hr
      have hm' : fs.length = l.length := hm
      refine ⟨fun i hi => h.ok i (by omega), ?_⟩
      have h1 := h.many
      have h2 := h.roots
      rw [hm'] at h1 h2
      have hr0 : ¬ l.length = 0 := fun e => hr (.inl e)
      have hr1 : fs.getD (l.length - 1) 0 = 0 := Classical.byContradiction fun e => hr (.inr (.inr e))
      generalize l.length = n at *
      cases h2 with
      | nil => exact absurd rfl hr0
      | cons q R0 hq hr2 =>
        simp only [Nat.add_sub_cancel] at hr1
        rw [hr1] at hr2
        cases hr2
        simpa using h1
  | m + 1, fs, R, hm, h, hc => by
    rw [checkGo] at hc
    split at hc
    · rename_i hz
      obtain ⟨R', h'⟩ := h.next hz
      exact kids_go m _ _ (by simp; omega) h' hc
    · rename_i hz
      exact absurd hc hz
/-- P2.2, read for the kids -/
theorem kids_all {l : List Nd} (h : (checkAll l).2 = 0) : (∀ i, i < l.length → KidOk l i) ∧ (kidsTo l l.length).length + 1 = l.length :=
  kids_go l.length [] [] (by simp) ⟨.nil, (fun j hj => by cases hj), (fun j hj => by cases hj), by simp [kidsTo], (fun j hj => by simp [kidsTo] at hj), fun j hj => by cases hj⟩ h

theorem topGo_ge (hs : List Nat) : ∀ (ks : List Int) (t : Nat), t ≤ topGo hs ks t ∧ ∀ k ∈ ks, 0 ≤ k → k < hs.length → hs.getD k.toNat 0 ≤ topGo hs ks t
  | [], t => ⟨Nat.le_refl _, fun k hk => by cases hk⟩
  | k :: r, t => by
    rw [topGo]
    obtain ⟨h1, h2⟩ := topGo_ge hs r (if 0 ≤ k ∧ k < hs.length then max t (hs.getD k.toNat 0) else t)
    refine ⟨Nat.le_trans ?_ h1, fun x hx hx0 hx1 => ?_⟩
    · split <;> omega
    · rcases List.mem_cons.1 hx with rfl | hx
      · rw [if_pos ⟨hx0, hx1⟩] at h1 ⊢
        omega
      · exact h2 x hx hx0 hx1
theorem heightsGo_len (l : List Nd) : ∀ (m : Nat) (hs : List Nat), (heightsGo l m hs).length = hs.length + m
  | 0, hs => rfl
  | m + 1, hs => by
    rw [heightsGo, heightsGo_len l m]
    simp
    omega
theorem heightsGo_old (l : List Nd) : ∀ (m : Nat) (hs : List Nat) (j : Nat), j < hs.length → (heightsGo l m hs).getD j 0 = hs.getD j 0
  | 0, hs, j, hj => rfl
  | m + 1, hs, j, hj => by
    rw [heightsGo, heightsGo_old l m _ j (by simp; omega)]
    simp only [List.getD_eq_getElem?_getD]
    rw [List.getElem?_append_left hj]
theorem heightsGo_kid (l : List Nd) : ∀ (m : Nat) (hs : List Nat) (i : Nat), hs.length ≤ i → i < hs.length + m → ∀ k : Nat, (k : Int) ∈ (ndN l i).kids → k < i → (heightsGo l m hs).getD k 0 < (heightsGo l m hs).getD i 0
  | 0, hs, i, h1, h2, k, _, _ => by omega
  | m + 1, hs, i, h1, h2, k, hk, hki => by
    rw [heightsGo]
    by_cases e : i = hs.length
    · subst e
      rw [heightsGo_old l m _ k (by simp; omega), heightsGo_old l m _ hs.length (by simp)]
      have := (topGo_ge hs (ndN l hs.length).kids 0).2 _ hk (by omega) (by omega)
      simp only [List.getD_eq_getElem?_getD, Int.toNat_natCast] at this ⊢
      rw [List.getElem?_append_left hki, List.getElem?_append_right (Nat.le_refl _)]
      simp
      omega
    · exact heightsGo_kid l m _ i (by simp; omega) (by simp; omega) k hk hki
theorem heights_len (l : List Nd) : (heightsL l).length = l.length := by
  unfold heightsL
  rw [heightsGo_len]
  simp
/-- a kid is lower -/
theorem heights_kid {l : List Nd} {i k : Nat} (hi : i < l.length) (hk : (k : Int) ∈ (ndN l i).kids) (hki : k < i) : (heightsL l).getD k 0 < (heightsL l).getD i 0 :=
  heightsGo_kid l l.length [] i (by simp) (by simpa using hi) k hk hki
end Go.Proofs.YtfocggaocadkmaaDoor
