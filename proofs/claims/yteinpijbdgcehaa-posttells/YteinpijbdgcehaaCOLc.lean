import Derived.Test.YteinpijbdgcehaaCOLb
namespace Go.Proofs.Yteinpijbdgcehaa
open Go.RowKit Go.Shelf
set_option linter.unusedVariables false
set_option linter.unusedSimpArgs false

theorem ofm_len {α β : Type} (f : Nat → α → List β) (h : ∀ i a, (f i a).length ≤ 1) : ∀ (l : List α) (n : Nat), (ofm f n l).length ≤ l.length
  | [], n => Nat.le_refl _
  | a :: r, n => by
    rw [ofm, List.length_append, List.length_cons]
    have := h n a
    have := ofm_len f h r (n + 1)
    omega
theorem spots_len (pr : OArm → Bool) (l : List OWt) : (spotsP pr l).length ≤ tot l := by
  unfold spotsP
  split
  · have key : ∀ l : List OWt, (l.flatMap fun V => ofm (fun i a => if pr a then [(V.id, i, a.chan)] else []) 0 V.arms).length ≤ tot l := fun l => by
      induction l with
      | nil => simp [tot]
      | cons V r ih =>
        rw [List.flatMap_cons, List.length_append, tot]
        have := ofm_len (fun i a => if pr a then [(V.id, i, a.chan)] else []) (fun i a => by split <;> simp) V.arms 0
        omega
    exact key l
  · simp
theorem pf_len (rs : List (Int × Nat × Int)) (t : Int × Nat × Int) : (pf rs t).length ≤ rs.length := by
  unfold pf onCh
  rw [List.length_map]
  refine Nat.le_trans (List.length_filter_le _ _) ?_
  rw [List.length_map]
  exact List.length_filter_le _ _
theorem flat_len {α β : Type} (f : α → List β) (N : Nat) (h : ∀ a, (f a).length ≤ N) : ∀ l : List α, (l.flatMap f).length ≤ l.length * N
  | [] => by simp
  | a :: r => by
    rw [List.flatMap_cons, List.length_append, List.length_cons, Nat.succ_mul]
    have := h a
    have := flat_len f N h r
    omega
theorem opairs_len (l : List OWt) (h : tot l ≤ 4000) : (opairs l).length ≤ 20000000 := by
  rw [opairs_flat]
  have h1 := flat_len (pf (spotsP prR l)) (tot l) (fun t => Nat.le_trans (pf_len _ _) (spots_len prR l)) (spotsP prS l)
  have h2 := spots_len prS l
  have h3 : (spotsP prS l).length * tot l ≤ 4000 * 4000 := Nat.mul_le_mul (by omega) h
  omega
theorem right_lt {l : List OWt} (hr : oright l = true) : ∀ j k (hk : k < l.length) (h : j < k), (l[j]'(by omega)).id < l[k].id := by
  have key : ∀ (l : List OWt) (x : Int), orightFrom x l = true → ∀ j k (hk : k < l.length) (h : j < k), (l[j]'(by omega)).id < l[k].id := by
    intro l
    induction l with
    | nil => intro x _ j k hk; simp at hk
    | cons v r ih =>
      intro x hx j k hk h
      rw [orightFrom, Bool.and_eq_true, decide_eq_true_eq] at hx
      cases k with
      | zero => omega
      | succ k =>
        have hk' : k < r.length := by simpa using hk
        cases j with
        | zero => exact right_above r v.id hx.2 _ (List.getElem_mem hk')
        | succ j => exact ih v.id hx.2 j k hk' (by omega)
  exact key l (-1) hr
/-- who they are -/
structure Met (l : List OWt) (x : OPr) (kp kq : Nat) : Prop where
  hp : kp < l.length
  hq : kq < l.length
  ip : x.i < l[kp].arms.length
  jq : x.j < l[kq].arms.length
  idp : x.p = l[kp].id
  idq : x.q = l[kq].id
  ne : l[kp].id ≠ l[kq].id
  cp : l[kp].arms[x.i].chan = x.ch
  cq : l[kq].arms[x.j].chan = x.ch
  pos : 0 < x.ch
  sp : l[kp].arms[x.i].send = true
  sq : l[kq].arms[x.j].send = false
  up : ∀ j (h : j < l.length), j < kp → l[j].id ≠ l[kp].id
  uq : ∀ j (h : j < l.length), j < kq → l[j].id ≠ l[kq].id
theorem met_of {l : List OWt} {x : OPr} (h : x ∈ opairs l) : ∃ kp kq, Met l x kp kq := by
  unfold opairs at h
  split at h
  · rename_i hr
    obtain ⟨P, Q, a, b, m⟩ := (mem_oall l x).1 h
    obtain ⟨kp, hp, rfl⟩ := List.mem_iff_getElem.1 m.pin
    obtain ⟨kq, hq, rfl⟩ := List.mem_iff_getElem.1 m.qin
    obtain ⟨ip, ea⟩ := List.getElem?_eq_some_iff.1 m.pa
    obtain ⟨jq, eb⟩ := List.getElem?_eq_some_iff.1 m.qa
    have h1 := m.send
    have h2 := m.recv
    have h3 := m.pos
    have h4 := m.chan
    have h5 := m.xc
    exact ⟨kp, kq, hp, hq, ip, jq, m.xp, m.xq, fun e => m.ne e.symm, by rw [ea]; exact h5.symm, by rw [eb, h4]; exact h5.symm, by rw [h5]; exact h3, by rw [ea]; exact h1, by rw [eb]; exact h2, fun j hj hjk => by have := right_lt hr j kp hp hjk; omega, fun j hj hjk => by have := right_lt hr j kq hq hjk; omega⟩
  · cases h
theorem opairs_rise (l : List OWt) (i : Nat) (h : i + 1 < (opairs l).length) : orise ((opairs l)[i]'(by omega)) (opairs l)[i + 1] := by
  have hp : (opairs l).Pairwise orise := by
    unfold opairs
    split
    · rename_i hr; exact oall_rise l hr
    · exact List.Pairwise.nil
  exact List.pairwise_iff_getElem.1 hp i (i + 1) (by omega) h (by omega)
/-! ### turned round -/
def turnL (l : List OWt) : List OWt := l.map oturnW
theorem turn_tot (l : List OWt) : tot (turnL l) = tot l := by
  unfold turnL
  induction l with
  | nil => rfl
  | cons x r ih => rw [List.map_cons, tot, tot, ih]; simp [oturnW]
theorem turn_same_len (l : List OWt) : (opairs (turnL l)).length = (opairs l).length := by
  unfold opairs
  have e : oright (turnL l) = oright l := right_turn l (-1)
  rw [e]
  split
  · rename_i hr; exact turn_len l hr
  · rfl
theorem turn_mem (l : List OWt) {y : OPr} (h : y ∈ opairs (turnL l)) : oswap y ∈ opairs l := by
  unfold opairs at h ⊢
  have e : oright (turnL l) = oright l := right_turn l (-1)
  rw [e] at h
  split at h
  · rename_i hr; rw [if_pos hr]; exact (mem_turn l y).1 h
  · cases h
/-- the list lent, as it stands in memory -/
theorem Ln.ws {W : World} {ab : Nat} {B : Nat → Nat} {l m : List OWt} {f : Nat → List OArm} (h : Ln W ab B l f l.length) (hl : m.length = l.length) (hs : l.length ≤ 4000) (hm : ∀ j (h : j < l.length) (h' : j < m.length), m[j].id = l[j].id ∧ m[j].arms = f j ∧ I64 m[j].id ∧ (f j).length ≤ 4000 ∧ ∀ k (hk : k < (f j).length), I64 (f j)[k].chan) :
    WsIn W (fun b => b = ab ∨ ∃ j, j < l.length ∧ b = B j) (some ⟨ab, 0, none⟩) (l.length + 1) m ∧ ∀ b, (b = ab ∨ ∃ j, j < l.length ∧ b = B j) → ∃ o : Obj, W.heap[b]? = some o ∧ o.isCells = true := by
  obtain ⟨us, h1, h2, h3⟩ := h.us
  refine ⟨⟨by omega, by unfold maxLen; omega, fun i hi => ?_⟩, fun b hb => ?_⟩
  · have hil : i < l.length := by omega
    obtain ⟨m1, m2, m3, m4, m5⟩ := hm i hil hi
    obtain ⟨u1, u2⟩ := h3 i hil hil
    have hv := h.vs i hil
    refine ⟨ab, 0, some ⟨B i, 0, none⟩, (f i).length + 1, rfl, .inl rfl, ?_, ?_, ⟨by rw [m2]; omega, by unfold maxLen; omega, fun k hk => ?_⟩, m3⟩
    · rw [Nat.zero_add, m1]; exact cell_of h1 u1
    · rw [Nat.zero_add, m2]; exact cell_of h1 u2
    · have hk' : k < (f i).length := by rw [← m2]; exact hk
      have e : m[i].arms[k] = (f i)[k] := by simp only [m2]
      have key : ∀ q u, q < 5 → (armC (f i)[k])[q]? = some u → W.cell? ⟨B i, 0 + k * 5 + q, none⟩ = some u := fun q u hq hu => by
        rw [Nat.zero_add]
        refine cell_of hv ?_
        rw [List.getElem?_toArray, List.getElem?_append_left (by rw [armsC_len]; omega), armsC_at (f i) k hk' q hq]
        exact hu
      rw [e]
      exact ⟨B i, 0, rfl, .inr ⟨i, hil, rfl⟩, ⟨key 0 _ (by omega) rfl, key 1 _ (by omega) rfl, key 2 _ (by omega) rfl, key 3 _ (by omega) rfl, key 4 _ (by omega) rfl, m5 k hk'⟩⟩
  · rcases hb with rfl | ⟨j, hj, rfl⟩
    · exact ⟨_, h1, rfl⟩
    · exact ⟨_, h.vs j hj, rfl⟩
/-- an arm is turned in its place -/
theorem Ln.flip {W : World} {ab : Nat} {B : Nat → Nat} {l : List OWt} {f : Nat → List OArm} {n : Nat} (h : Ln W ab B l f n) {i k : Nat} (hi : i < n) (hk : k < (f i).length) :
    Ln (W.setCell ⟨B i, k * 5 + 1, none⟩ (.bool (!(f i)[k].send))) ab B l (fun j => if j = i then (f i).set k (oturnA (f i)[k]) else f j) n := by
  obtain ⟨us, h1, h2, h3⟩ := h.us
  have hab := h.lo i hi
  have hlen : ∀ j, (if j = i then (f i).set k (oturnA (f i)[k]) else f j).length = (f j).length := fun j => by
    by_cases e : j = i
    · rw [if_pos e, e]; simp
    · rw [if_neg e]
  have hset : (armsC (f i) ++ mkA).toArray.setIfInBounds (k * 5 + 1) (.bool (!(f i)[k].send)) = (armsC ((f i).set k (oturnA (f i)[k])) ++ mkA).toArray := by
    have hl : k * 5 + 1 < (armsC (f i)).length := by rw [armsC_len]; omega
    rw [List.setIfInBounds_toArray, List.set_append_left _ _ hl]
    congr 2
    apply List.ext_getElem?
    intro q
    by_cases hq : q < (f i).length * 5
    · have e1 : q = q / 5 * 5 + q % 5 := by omega
      have hq2 : q / 5 < ((f i).set k (oturnA (f i)[k])).length := by simp; omega
      rw [List.getElem?_set]
      have hR : (armsC ((f i).set k (oturnA (f i)[k])))[q]? = (armC (((f i).set k (oturnA (f i)[k]))[q / 5]))[q % 5]? := by
        conv => lhs; rw [e1]
        exact armsC_at _ _ hq2 _ (by omega)
      have hL : (armsC (f i))[q]? = (armC ((f i)[q / 5]'(by omega)))[q % 5]? := by
        conv => lhs; rw [e1]
        exact armsC_at _ _ (by omega) _ (by omega)
      rw [hR, hL, List.getElem_set]
      by_cases hkq : k = q / 5
      · subst hkq
        rw [if_pos rfl]
        by_cases h5 : q % 5 = 1
        · rw [if_pos (by omega), if_pos (by rw [armsC_len]; omega), h5]; rfl
        · rw [if_neg (by omega)]
          have h6 : q % 5 < 5 := by omega
          generalize q % 5 = z at *
          match z, h6, h5 with
          | 0, _, _ => rfl
          | 2, _, _ => rfl
          | 3, _, _ => rfl
          | 4, _, _ => rfl
      · rw [if_neg hkq, if_neg (by omega)]
    · rw [List.getElem?_eq_none (by simp [armsC_len]; omega), List.getElem?_eq_none (by simp [armsC_len]; omega)]
  refine ⟨⟨us, (Below.heap_setCell _ _ _ _ (by show ab ≠ B i; omega)).trans h1, h2, fun j hj hjn => ?_⟩, fun j hj => ?_, h.lo, h.ne, fun j hj => by rw [hlen]; exact h.ln j hj⟩
  · have := h3 j hj hjn
    rw [hlen]
    exact this
  · by_cases e : j = i
    · subst e
      rw [if_pos rfl, ← hset]
      exact blk_set (h.vs j hj) _ _
    · rw [if_neg e, Below.heap_setCell _ _ _ _ (by show B j ≠ B i; exact h.ne j i hj hi e)]
      exact h.vs j hj
end Go.Proofs.Yteinpijbdgcehaa
