import Derived.Test.YtadmpgegolmkgaaDoorCWkE
namespace Go.Proofs.YtadmpgegolmkgaaDoor
set_option linter.unusedVariables false
set_option linter.unusedSimpArgs false

/-! ### the walk through a prog's code, plainly -/
def needB (op : Int) : Bool := op == 4 || op == 6 || op == 16
def behB (op : Int) : Bool := !(op == 19 || op == 21 || op == 25 || op == 27)
structure Wst where
  P : Prs
  K : List Wy
  D : Nat → Bool
def abN (x : CIn) (p : Wy) : Nat := ((p.1 : Int) + (pushesI x - popsI x)).toNat
def goP (L i : Nat) (x : CIn) (p : Wy) (s : Wst) : Bool × List Wy × (Nat → Bool) := comeL (nextsI i x (abN x p, (past L s.P p.2 x.op x.a).2)) s.K s.D
/-- look -/
def lookP (n : Nat) (res : Bool) (L i : Nat) (x : CIn) (p : Wy) (s : Wst) : Int × Wst :=
  if (p.1 : Int) - 1 < popsI x then (94, s)
  else if x.op = 25 then (if (p.1 : Int) - 1 = (if res then 1 else 0) then 0 else 94, s)
  else if needB x.op = true ∧ den L s.P p.2 x.a.toNat = false then (93, s)
  else if behB x.op = true ∧ i + 1 = n then (96, s)
  else (if (goP L i x p s).1 then 0 else 95, ⟨(past L s.P p.2 x.op x.a).1, (goP L i x p s).2.1, (goP L i x p s).2.2⟩)
def leastD (n : Nat) (D : Nat → Bool) : Option Nat := (List.range n).find? D
def kA (K : List Wy) (i : Nat) : Wy := K[i]?.getD (0, 0)
def inA (code : List CIn) (i : Nat) : CIn := code[i]?.getD ⟨0, 0, 0, []⟩
/-- follow, behind its beginning -/
def runP (n : Nat) (res : Bool) (L : Nat) (code : List CIn) : Nat → Wst → Nat × Int × Wst
  | 0, s => (0, 0, s)
  | f + 1, s => match leastD n s.D with
    | none => (0, 0, s)
    | some i => if (lookP n res L i (inA code i) (kA s.K i) ⟨s.P, s.K, del i s.D⟩).1 = 0 then runP n res L code f (lookP n res L i (inA code i) (kA s.K i) ⟨s.P, s.K, del i s.D⟩).2 else (i, lookP n res L i (inA code i) (kA s.K i) ⟨s.P, s.K, del i s.D⟩)
theorem least_some {n i : Nat} {D : Nat → Bool} (h : leastD n D = some i) : i < n ∧ leastB D i := by
  unfold leastD at h
  obtain ⟨h1, h2⟩ := List.find?_eq_some_iff_append.1 h
  obtain ⟨l1, l2, h3, h4⟩ := h2
  have hi : i < n := by
    have : i ∈ List.range n := by rw [h3]; simp
    simpa using this
  refine ⟨hi, by simpa using h1, fun m hm => ?_⟩
  have hl : l1.length = i := by
    have h5 : (List.range n)[l1.length]? = some i := by rw [h3]; simp
    rw [List.getElem?_range (by have := congrArg List.length h3; simp at this; omega)] at h5
    simpa using h5
  have h6 : m ∈ l1 := by
    have h7 : (List.range n)[m]? = some m := List.getElem?_range (by omega)
    rw [h3, List.getElem?_append_left (by omega)] at h7
    exact List.mem_of_getElem? h7
  simpa using h4 m h6
theorem least_none {n : Nat} {D : Nat → Bool} (h : leastD n D = none) (hD : ∀ i, D i = true → i < n) : ∀ i, D i = false := by
  intro i
  unfold leastD at h
  rw [List.find?_eq_none] at h
  cases hi : D i with
  | false => rfl
  | true => exact absurd hi (h i (by simpa using hD i hi))
theorem comeK_len (K : List Wy) (i : Nat) (p : Wy) : (comeK K i p).length = K.length := by
  unfold comeK
  split
  · rw [List.length_set]
  · rfl
theorem comeL_len : ∀ (nx : List (Nat × Wy)) (K : List Wy) (D : Nat → Bool), (comeL nx K D).2.1.length = K.length
  | [], K, D => rfl
  | (i, p) :: r, K, D => by
    rw [comeL]
    split
    · rw [comeL_len r]; exact comeK_len K i p
    · exact comeK_len K i p
theorem kA_come {K : List Wy} {i : Nat} (p : Wy) (hi : i < K.length) (j : Nat) : kA (comeK K i p) j = if j = i ∧ (kA K i).1 = 0 then p else kA K j := by
  unfold comeK
  show kA (if (kA K i).1 = 0 then K.set i p else K) j = _
  by_cases hz : (kA K i).1 = 0
  · rw [if_pos hz]
    by_cases hj : j = i
    · subst hj
      rw [if_pos ⟨rfl, hz⟩]
      unfold kA
      rw [List.getElem?_set_self hi]
      rfl
    · rw [if_neg fun e => hj e.1]
      unfold kA
      rw [List.getElem?_set_ne (Ne.symm hj)]
  · rw [if_neg hz, if_neg fun e => hz e.2]
structure Kv (n L m : Nat) (P : Prs) (K : List Wy) (D : Nat → Bool) : Prop where
  kn : n ≤ K.length
  dn : ∀ i, D i = true → i < n ∧ (kA K i).1 ≠ 0
  vs : ∀ i, i < n → (kA K i).1 ≠ 0 → vsP L P (kA K i).2
  ab : ∀ i, i < n → (kA K i).1 ≤ m
theorem comeD_at (K : List Wy) (i : Nat) (D : Nat → Bool) (j : Nat) : comeD K i D j = if (kA K i).1 = 0 then (D j || j == i) else D j := by
  unfold comeD
  show (if (kA K i).1 = 0 then ins i D else D) j = _
  split <;> rfl
theorem Kv.come {n L m : Nat} {P : Prs} {K : List Wy} {D : Nat → Bool} (h : Kv n L m P K D) {i : Nat} {p : Wy} (hi : i < n) (hp : p.1 ≠ 0) (hv : vsP L P p.2) (hm : p.1 ≤ m) : Kv n L m P (comeK K i p) (comeD K i D) := by
  have hk := h.kn
  have hc := fun j => kA_come (K := K) (i := i) p (by omega) j
  refine ⟨by rw [comeK_len]; exact hk, fun j hj => ?_, fun j hj hz => ?_, fun j hj => ?_⟩
  · rw [comeD_at] at hj
    rw [hc]
    by_cases hz : (kA K i).1 = 0
    · rw [if_pos hz] at hj
      by_cases hji : j = i
      · subst hji
        rw [if_pos ⟨rfl, hz⟩]
        exact ⟨hi, hp⟩
      · rw [if_neg fun e => hji e.1]
        exact h.dn j (by simpa [hji] using hj)
    · rw [if_neg hz] at hj
      rw [if_neg fun e => hz e.2]
      exact h.dn j hj
  · rw [hc] at hz ⊢
    split at hz
    · rename_i e
      rw [if_pos e]
      exact hv
    · rename_i e
      rw [if_neg e]
      exact h.vs j hj hz
  · rw [hc]
    split
    · exact hm
    · exact h.ab j hj
theorem Kv.comeL {n L m : Nat} {P : Prs} : ∀ (nx : List (Nat × Wy)) {K : List Wy} {D : Nat → Bool}, Kv n L m P K D → (∀ q ∈ nx, q.1 < n ∧ q.2.1 ≠ 0 ∧ vsP L P q.2.2 ∧ q.2.1 ≤ m) → Kv n L m P (comeL nx K D).2.1 (comeL nx K D).2.2
  | [], K, D, h, _ => h
  | (i, p) :: r, K, D, h, hq => by
    obtain ⟨q1, q2, q3, q4⟩ := hq (i, p) List.mem_cons_self
    have h1 := h.come q1 q2 q3 q4
    rw [Go.Proofs.YtadmpgegolmkgaaDoor.comeL]
    split
    · exact Kv.comeL r h1 fun q hm => hq q (List.mem_cons_of_mem _ hm)
    · exact h1
theorem Kv.mono {n L m m' : Nat} {P P' : Prs} {K : List Wy} {D : Nat → Bool} (h : Kv n L m P K D) (hP : P <+: P') (hm : m ≤ m') : Kv n L m' P' K D :=
  ⟨h.kn, h.dn, fun i hi hz => (vs_mono hP (h.vs i hi hz)).1, fun i hi => Nat.le_trans (h.ab i hi) hm⟩
theorem Kv.del {n L m : Nat} {P : Prs} {K : List Wy} {D : Nat → Bool} (h : Kv n L m P K D) (i : Nat) : Kv n L m P K (del i D) :=
  ⟨h.kn, fun j hj => h.dn j (by unfold Go.Proofs.YtadmpgegolmkgaaDoor.del at hj; simp at hj; exact hj.1), h.vs, h.ab⟩
/-! the measure -/
theorem cnt_one {f g : Nat → Bool} {i : Nat} : ∀ {n : Nat}, i < n → f i = true → g i = false → (∀ j, j ≠ i → f j = g j) → (List.range n).countP f = (List.range n).countP g + 1
  | 0, h, _, _, _ => by omega
  | n + 1, h, hf, hg, he => by
    rw [List.range_succ, List.countP_append, List.countP_append]
    by_cases hi : i = n
    · subst hi
      have : (List.range i).countP f = (List.range i).countP g := List.countP_congr fun j hj => by
        have : j ≠ i := by have := List.mem_range.1 hj; omega
        rw [he j this]
      rw [this]
      simp [hf, hg]
    · have := cnt_one (n := n) (by omega) hf hg he
      rw [this]
      have e : f n = g n := he n (Ne.symm hi)
      simp [List.countP_cons, e]
      omega
theorem cnt_same {f g : Nat → Bool} {n : Nat} (he : ∀ j, f j = g j) : (List.range n).countP f = (List.range n).countP g := by rw [funext he]
def zerK (n : Nat) (K : List Wy) : Nat := (List.range n).countP fun i => (kA K i).1 == 0
def dueD (n : Nat) (D : Nat → Bool) : Nat := (List.range n).countP D
def mea (n : Nat) (K : List Wy) (D : Nat → Bool) : Nat := 2 * zerK n K + dueD n D
theorem mea_come {n : Nat} {K : List Wy} {D : Nat → Bool} {i : Nat} {p : Wy} (hi : i < n) (hk : n ≤ K.length) (hp : p.1 ≠ 0) : mea n (comeK K i p) (comeD K i D) ≤ mea n K D := by
  unfold mea
  have hc := fun j => kA_come (K := K) (i := i) p (by omega) j
  by_cases hz : (kA K i).1 = 0
  · have h1 : zerK n K = zerK n (comeK K i p) + 1 := by
      refine cnt_one hi (by simp [hz]) ?_ fun j hj => ?_
      · rw [hc, if_pos ⟨rfl, hz⟩]
        simpa using hp
      · rw [hc, if_neg fun e => hj e.1]
    have h2 : dueD n (comeD K i D) ≤ dueD n D + 1 := by
      unfold dueD
      cases hd : D i with
      | true =>
        have := cnt_same (n := n) (f := comeD K i D) (g := D) fun j => by
          rw [comeD_at, if_pos hz]
          by_cases hj : j = i
          · subst hj; simp [hd]
          · simp [hj]
        omega
      | false =>
        have := cnt_one (n := n) (f := comeD K i D) (g := D) hi (by rw [comeD_at, if_pos hz]; simp) hd fun j hj => by rw [comeD_at, if_pos hz]; simp [hj]
        omega
    omega
  · have e1 : comeK K i p = K := by unfold comeK; exact if_neg hz
    have e2 : comeD K i D = D := by unfold comeD; exact if_neg hz
    rw [e1, e2]
    exact Nat.le_refl _
theorem mea_comeL {n : Nat} : ∀ (nx : List (Nat × Wy)) {K : List Wy} {D : Nat → Bool}, n ≤ K.length → (∀ q ∈ nx, q.1 < n ∧ q.2.1 ≠ 0) → mea n (comeL nx K D).2.1 (comeL nx K D).2.2 ≤ mea n K D
  | [], K, D, _, _ => Nat.le_refl _
  | (i, p) :: r, K, D, hk, hq => by
    obtain ⟨q1, q2⟩ := hq (i, p) List.mem_cons_self
    have h1 := mea_come (D := D) (p := p) q1 hk q2
    rw [comeL]
    split
    · exact Nat.le_trans (mea_comeL r (by rw [comeK_len]; exact hk) fun q hm => hq q (List.mem_cons_of_mem _ hm)) h1
    · exact h1
theorem mea_del {n : Nat} {K : List Wy} {D : Nat → Bool} {i : Nat} (hi : i < n) (hd : D i = true) : mea n K (del i D) + 1 = mea n K D := by
  unfold mea dueD
  have := cnt_one (n := n) (f := D) (g := del i D) hi hd (by simp [del]) fun j hj => by simp [del, hj]
  omega
theorem mea_le {n : Nat} {K : List Wy} {D : Nat → Bool} : mea n K D ≤ 3 * n := by
  unfold mea zerK dueD
  have h1 := List.countP_le_length (p := fun i => (kA K i).1 == 0) (l := List.range n)
  have h2 := List.countP_le_length (p := D) (l := List.range n)
  simp at h1 h2
  omega
end Go.Proofs.YtadmpgegolmkgaaDoor
namespace Go.Proofs.YtadmpgegolmkgaaDoor
set_option linter.unusedVariables false
set_option linter.unusedSimpArgs false

/-- what is known of an instruction that is right on its own -/
structure LkX (n : Nat) (sl : Int) (i : Nat) (x : CIn) : Prop where
  a : x.op = 4 ∨ x.op = 5 ∨ x.op = 6 ∨ x.op = 16 → 0 ≤ x.a ∧ x.a < sl
  tg : x.op = 19 ∨ x.op = 20 ∨ x.op = 21 → 0 ≤ x.a ∧ x.a < n
  arms : x.op = 27 → x.list.length % 2 = 0 ∧ ∀ j (q : 2 * j + 1 < x.list.length), 0 ≤ x.list[2 * j + 1] ∧ x.list[2 * j + 1] < n
  pop : 0 ≤ popsI x
  push : 0 ≤ pushesI x ∧ pushesI x ≤ 1
theorem LkX.tgok {n : Nat} {sl : Int} {i : Nat} {x : CIn} (h : LkX n sl i x) (hi : i < n) (he : ¬ (behB x.op = true ∧ i + 1 = n)) : TgOk n i x := by
  refine ⟨h.tg, h.arms, fun h1 h2 h3 h4 => ?_⟩
  have : behB x.op = true := by simp [behB, h1, h2, h3, h4]
  have : ¬ i + 1 = n := fun e => he ⟨this, e⟩
  omega
theorem past_spec {L : Nat} {P : Prs} (hP : PrOk P) {s : Nat} (hs : vsP L P s) (op a : Int) : P <+: (past L P s op a).1 ∧ PrOk (past L P s op a).1 ∧ vsP L (past L P s op a).1 (past L P s op a).2 ∧ (past L P s op a).1.length ≤ P.length + L := by
  unfold past
  split
  · obtain ⟨h1, h2, h3, _, h5⟩ := chg_spec (slot := a.toNat) (to := 2 ^ (a.toNat % 64)) (.inr rfl) L hP hs
    exact ⟨h1, h2, h3, h5⟩
  · split
    · obtain ⟨h1, h2, h3, _, h5⟩ := chg_spec (slot := a.toNat) (to := 0) (.inl rfl) L hP hs
      exact ⟨h1, h2, h3, h5⟩
    · exact ⟨List.prefix_refl _, hP, hs, Nat.le_add_right _ _⟩
theorem arm_mem : ∀ {ks : List Int} {p : Wy} {q : Nat × Wy}, q ∈ armW ks p → ∃ j, ∃ (h : 2 * j + 1 < ks.length), q.1 = (ks[2 * j + 1]).toNat ∧ (q.2 = p ∨ q.2 = (p.1 + 1, p.2))
  | [], _, _, h => by simp [armW] at h
  | [_], _, _, h => by simp [armW] at h
  | k :: t :: r, p, q, h => by
    rw [armW] at h
    rcases List.mem_cons.1 h with h | h
    · subst h
      refine ⟨0, by simp, rfl, ?_⟩
      by_cases hk : k = 0
      · exact .inr (by simp [hk])
      · exact .inl (by simp [hk])
    · obtain ⟨j, hj, e1, e2⟩ := arm_mem h
      exact ⟨j + 1, by simp; omega, e1, e2⟩
theorem nexts_mem {n i : Nat} {x : CIn} {p : Wy} (ht : TgOk n i x) {q : Nat × Wy} (h : q ∈ nextsI i x p) : q.1 < n ∧ (q.2 = p ∨ x.op = 27 ∧ q.2 = (p.1 + 1, p.2)) := by
  unfold nextsI at h
  split at h
  · simp at h
  · split at h
    · rename_i h1 h2
      simp at h; subst h
      have := ht.a (by omega)
      exact ⟨by simp; omega, .inl rfl⟩
    · split at h
      · rename_i h1 h2 h3
        have := ht.a (by omega)
        have := ht.on (by omega) (by omega) (by omega) (by omega)
        simp at h
        rcases h with h | h
        · subst h; exact ⟨by simpa using this, .inl rfl⟩
        · subst h; exact ⟨by simp; omega, .inl rfl⟩
      · split at h
        · rename_i h1 h2 h3 h4
          obtain ⟨j, hj, e1, e2⟩ := arm_mem h
          have := (ht.arms h4).2 j hj
          refine ⟨by rw [e1]; omega, ?_⟩
          rcases e2 with e | e
          · exact .inl e
          · exact .inr ⟨h4, e⟩
        · rename_i h1 h2 h3 h4
          simp at h; subst h
          exact ⟨by simpa using ht.on (by omega) (by omega) (by omega) (by omega), .inl rfl⟩
structure LkR (n L m : Nat) (s s' : Wst) : Prop where
  pre : s.P <+: s'.P
  pr : PrOk s'.P
  kv : Kv n L (m + 2) s'.P s'.K s'.D
  len : s'.P.length ≤ s.P.length + L
  mea : mea n s'.K s'.D ≤ mea n s.K s.D
  kl : s'.K.length = s.K.length
theorem abN_eq {x : CIn} {p : Wy} (hl : ¬ (p.1 : Int) - 1 < popsI x) (h0 : 0 ≤ popsI x) (h : 0 ≤ pushesI x ∧ pushesI x ≤ 1) : (abN x p : Int) = (p.1 : Int) + (pushesI x - popsI x) ∧ abN x p ≠ 0 ∧ abN x p ≤ p.1 + 1 := by
  unfold abN
  omega
theorem look_kv {n L m i : Nat} {sl : Int} {res : Bool} {x : CIn} {p : Wy} {s : Wst} (hx : LkX n sl i x) (hi : i < n) (hP : PrOk s.P) (hk : Kv n L m s.P s.K s.D) (hv : vsP L s.P p.2) (hp : p.1 ≤ m) : LkR n L m s (lookP n res L i x p s).2 := by
  have hself : LkR n L m s s := ⟨List.prefix_refl _, hP, hk.mono (List.prefix_refl _) (by omega), by omega, Nat.le_refl _, rfl⟩
  unfold lookP
  split
  · exact hself
  · rename_i hl
    split
    · exact hself
    · split
      · exact hself
      · split
        · exact hself
        · rename_i h25 hne hb
          obtain ⟨p1, p2, p3, p4⟩ := past_spec hP hv x.op x.a
          obtain ⟨a1, a2, a3⟩ := abN_eq hl hx.pop hx.push
          have ht := hx.tgok hi hb
          have hq : ∀ q ∈ nextsI i x (abN x p, (past L s.P p.2 x.op x.a).2), q.1 < n ∧ q.2.1 ≠ 0 ∧ vsP L (past L s.P p.2 x.op x.a).1 q.2.2 ∧ q.2.1 ≤ m + 2 := by
            intro q hq
            obtain ⟨t1, t2⟩ := nexts_mem ht hq
            refine ⟨t1, ?_⟩
            rcases t2 with e | ⟨_, e⟩
            · rw [e]; exact ⟨a2, p3, by simp only; omega⟩
            · rw [e]; exact ⟨by simp, p3, by simp only; omega⟩
          have hk2 : Kv n L (m + 2) (past L s.P p.2 x.op x.a).1 s.K s.D := hk.mono p1 (by omega)
          exact ⟨p1, p2, Kv.comeL _ hk2 hq, p4, mea_comeL _ hk.kn fun q hm => ⟨(hq q hm).1, (hq q hm).2.1⟩, comeL_len _ _ _⟩
end Go.Proofs.YtadmpgegolmkgaaDoor
