import Derived.Test.YtadmpgegolmkgaaDoorCWlS
namespace Go.Proofs.YtadmpgegolmkgaaDoor
set_option linter.unusedVariables false
set_option linter.unusedSimpArgs false

/-! ### what holds of a prog whose ways are right -/
theorem come_true {K : List Wy} {i : Nat} {p : Wy} (hi : i < K.length) (h : comeB K i p = true) : kA (comeK K i p) i = p := by
  unfold comeB at h
  exact of_decide_eq_true h
theorem come_old {K : List Wy} {i : Nat} {p : Wy} (hi : i < K.length) {j : Nat} (hj : (kA K j).1 ≠ 0) : kA (comeK K i p) j = kA K j := by
  rw [kA_come p hi]
  split
  · rename_i e
    rw [e.1] at hj
    exact absurd e.2 hj
  · rfl
theorem come_due0 {K : List Wy} {i : Nat} {D : Nat → Bool} {j : Nat} (h : comeD K i D j = false) : D j = false ∧ ¬ (j = i ∧ (kA K i).1 = 0) := by
  rw [comeD_at] at h
  split at h
  · rename_i hz
    simp at h
    exact ⟨h.1, fun e => h.2 e.1⟩
  · rename_i hz
    exact ⟨h, fun e => hz e.2⟩
theorem comeL_spec : ∀ (nx : List (Nat × Wy)) {K : List Wy} {D : Nat → Bool}, (∀ q ∈ nx, q.1 < K.length ∧ q.2.1 ≠ 0) → (comeL nx K D).1 = true →
    (∀ q ∈ nx, kA (comeL nx K D).2.1 q.1 = q.2) ∧ (∀ j, (kA K j).1 ≠ 0 → kA (comeL nx K D).2.1 j = kA K j) ∧ (∀ j, (comeL nx K D).2.2 j = false → D j = false ∧ ((kA (comeL nx K D).2.1 j).1 ≠ 0 → (kA K j).1 ≠ 0))
  | [], K, D, _, _ => ⟨fun q hq => (by cases hq), fun j _ => rfl, fun j h => ⟨h, id⟩⟩
  | (i, p) :: r, K, D, hq, h => by
    rw [comeL] at h ⊢
    obtain ⟨q1, q2⟩ := hq (i, p) List.mem_cons_self
    split at h
    · rename_i hb
      rw [if_pos hb]
      have hlen : ∀ q ∈ r, q.1 < (comeK K i p).length ∧ q.2.1 ≠ 0 := fun q hm => by rw [comeK_len]; exact hq q (List.mem_cons_of_mem _ hm)
      obtain ⟨a1, a2, a3⟩ := comeL_spec r hlen h
      have hi := come_true q1 hb
      refine ⟨fun q hm => ?_, fun j hj => ?_, fun j hj => ?_⟩
      · rcases List.mem_cons.1 hm with e | e
        · subst e
          rw [a2 i (by rw [hi]; exact q2)]
          exact hi
        · exact a1 q e
      · rw [a2 j (by rw [come_old q1 hj]; exact hj), come_old q1 hj]
      · obtain ⟨b1, b2⟩ := a3 j hj
        obtain ⟨c1, c2⟩ := come_due0 b1
        refine ⟨c1, fun hz => ?_⟩
        have := b2 hz
        rw [kA_come p q1, if_neg c2] at this
        exact this
    · cases h
/-- the slots that have a value behind an instruction -/
def updB (L : Nat) (op a : Int) (f : Nat → Bool) (m : Nat) : Bool := if op = 5 then (if m % 2 ^ (6 + L) = a.toNat % 2 ^ (6 + L) then true else f m) else if op = 6 then (if m % 2 ^ (6 + L) = a.toNat % 2 ^ (6 + L) then false else f m) else f m
theorem past_den {L : Nat} {P : Prs} (hP : PrOk P) {s : Nat} (hs : vsP L P s) (op a : Int) (m : Nat) : den L (past L P s op a).1 (past L P s op a).2 m = updB L op a (den L P s) m := by
  unfold past updB
  split
  · obtain ⟨_, _, _, h4, _⟩ := chg_spec (slot := a.toNat) (to := 2 ^ (a.toNat % 64)) (.inr rfl) L hP hs
    rw [h4]
    have : (2 ^ (a.toNat % 64) : Nat) ≠ 0 := Nat.ne_of_gt (Nat.two_pow_pos _)
    simp [this]
  · split
    · obtain ⟨_, _, _, h4, _⟩ := chg_spec (slot := a.toNat) (to := 0) (.inl rfl) L hP hs
      rw [h4]
      simp
    · rfl
structure Fine (n : Nat) (res : Bool) (L : Nat) (x : CIn) (i : Nat) (P : Prs) (K : List Wy) : Prop where
  pops : popsI x ≤ ((kA K i).1 : Int) - 1
  ret : x.op = 25 → ((kA K i).1 : Int) - 1 = if res then 1 else 0
  need : x.op ≠ 25 → needB x.op = true → den L P (kA K i).2 x.a.toNat = true
  beh : x.op ≠ 25 → ¬ (behB x.op = true ∧ i + 1 = n)
  next : ∃ s, vsP L P s ∧ (∀ m, den L P s m = updB L x.op x.a (den L P (kA K i).2) m) ∧ ∀ q ∈ nextsI i x (abN x (kA K i), s), kA K q.1 = q.2
theorem Fine.mono {n : Nat} {res : Bool} {L : Nat} {x : CIn} {i : Nat} {P P' : Prs} {K K' : List Wy} (h : Fine n res L x i P K) (hP : P <+: P') (hv : vsP L P (kA K i).2) (hK : ∀ j, (kA K j).1 ≠ 0 → kA K' j = kA K j) (hi : (kA K i).1 ≠ 0) (hab : abN x (kA K i) ≠ 0) : Fine n res L x i P' K' := by
  have e := hK i hi
  have hd := (vs_mono hP hv).2
  obtain ⟨s, s1, s2, s3⟩ := h.next
  obtain ⟨t1, t2⟩ := vs_mono hP s1
  refine ⟨by rw [e]; exact h.pops, by rw [e]; exact h.ret, fun h1 h2 => by rw [e, hd]; exact h.need h1 h2, h.beh, s, t1, fun m => ?_, fun q hq => ?_⟩
  · rw [t2, s2, e]
    unfold updB
    rw [hd]
  · rw [e] at hq
    have h3 := s3 q hq
    have hne : (kA K q.1).1 ≠ 0 := by
      rw [h3]
      unfold nextsI at hq
      split at hq
      · simp at hq
      · split at hq
        · simp at hq; subst hq; exact hab
        · split at hq
          · simp at hq
            rcases hq with e | e <;> (subst e; exact hab)
          · split at hq
            · obtain ⟨j, hj, _, e2⟩ := arm_mem hq
              rcases e2 with e2 | e2
              · rw [e2]; exact hab
              · rw [e2]; simp
            · simp at hq; subst hq; exact hab
    rw [hK q.1 hne]
    exact h3
structure RunI (n : Nat) (res : Bool) (L : Nat) (code : List CIn) (s : Wst) : Prop where
  pr : PrOk s.P
  kv : ∃ m, Kv n L m s.P s.K s.D
  fine : ∀ i, i < n → (kA s.K i).1 ≠ 0 → s.D i = false → Fine n res L (inA code i) i s.P s.K
theorem Fine.ab {n : Nat} {sl : Int} {res : Bool} {L : Nat} {x : CIn} {i : Nat} {P : Prs} {K : List Wy} (h : Fine n res L x i P K) (hx : LkX n sl i x) : (abN x (kA K i) : Int) = ((kA K i).1 : Int) + (pushesI x - popsI x) ∧ abN x (kA K i) ≠ 0 := by
  have := abN_eq (p := kA K i) (by have := h.pops; omega) hx.pop hx.push
  exact ⟨this.1, this.2.1⟩
theorem look_fine {n L i : Nat} {sl : Int} {res : Bool} {code : List CIn} (hx : ∀ j, j < n → LkX n sl j (inA code j)) (hi : i < n) {s : Wst} (h : RunI n res L code s) (hd : s.D i = true) (hz : (lookP n res L i (inA code i) (kA s.K i) ⟨s.P, s.K, del i s.D⟩).1 = 0) :
    RunI n res L code (lookP n res L i (inA code i) (kA s.K i) ⟨s.P, s.K, del i s.D⟩).2 ∧ ∀ j, (kA s.K j).1 ≠ 0 → kA (lookP n res L i (inA code i) (kA s.K i) ⟨s.P, s.K, del i s.D⟩).2.K j = kA s.K j := by
  obtain ⟨m, hk⟩ := h.kv
  have hnz := (hk.dn i hd).2
  have hv := hk.vs i hi hnz
  have hl := look_kv (res := res) (s := ⟨s.P, s.K, del i s.D⟩) (hx i hi) hi h.pr (hk.del i) hv (hk.ab i hi)
  have hx1 := hx i hi
  generalize hxe : inA code i = x at *
  have hold : ∀ j, j ≠ i → del i s.D j = false → s.D j = false := fun j hj hq => by
    unfold del at hq
    simp at hq
    cases hs : s.D j with
    | false => rfl
    | true => exact absurd (hq hs) hj
  unfold lookP at hz hl ⊢
  split at hz
  · exact absurd hz (by simp)
  · rename_i h1
    simp only [if_neg h1] at hl ⊢
    split at hz
    · rename_i h25
      simp only [if_pos h25] at hl ⊢
      by_cases h2 : ((kA s.K i).1 : Int) - 1 = if res then 1 else 0
      · refine ⟨⟨h.pr, ⟨_, hl.kv⟩, fun j hj hn hq => ?_⟩, fun j _ => trivial⟩
        by_cases e : j = i
        · subst e
          rw [hxe]
          refine ⟨by show popsI x ≤ ((kA s.K j).1 : Int) - 1; omega, fun _ => h2, fun e => absurd h25 e, fun e => absurd h25 e, (kA s.K j).2, hv, fun m => ?_, fun q hq2 => ?_⟩
          · unfold updB
            rw [if_neg (by omega), if_neg (by omega)]
          · unfold nextsI at hq2
            rw [if_pos h25] at hq2
            cases hq2
        · exact h.fine j hj hn (hold j e hq)
      · simp only [if_neg h2] at hz
        exact absurd hz (by simp)
    · rename_i h25
      simp only [if_neg h25] at hl ⊢
      split at hz
      · exact absurd hz (by simp)
      · rename_i h3
        simp only [if_neg h3] at hl ⊢
        split at hz
        · exact absurd hz (by simp)
        · rename_i h4
          simp only [if_neg h4] at hl ⊢
          have hg : (goP L i x (kA s.K i) ⟨s.P, s.K, del i s.D⟩).1 = true := by
            cases hgg : (goP L i x (kA s.K i) ⟨s.P, s.K, del i s.D⟩).1 with
            | true => rfl
            | false => simp [hgg] at hz
          obtain ⟨p1, p2, p3, p4⟩ := past_spec h.pr hv x.op x.a
          have hpd := fun m => past_den h.pr hv x.op x.a m
          obtain ⟨a1, a2, a3⟩ := abN_eq h1 hx1.pop hx1.push
          have ht := hx1.tgok hi h4
          have hkn := hk.kn
          have hq : ∀ q ∈ nextsI i x (abN x (kA s.K i), (past L s.P (kA s.K i).2 x.op x.a).2), q.1 < s.K.length ∧ q.2.1 ≠ 0 := by
            intro q hq
            obtain ⟨t1, t2⟩ := nexts_mem ht hq
            refine ⟨by omega, ?_⟩
            rcases t2 with e | ⟨_, e⟩
            · rw [e]; exact a2
            · rw [e]; simp
          obtain ⟨c1, c2, c3⟩ := comeL_spec _ hq hg
          refine ⟨⟨hl.pr, ⟨_, hl.kv⟩, fun j hj hn hq2 => ?_⟩, c2⟩
          obtain ⟨d1, d2⟩ := c3 j hq2
          have hnj := d2 hn
          by_cases e : j = i
          · subst e
            rw [hxe]
            have e1 := c2 j hnz
            obtain ⟨v1, v2⟩ := vs_mono p1 hv
            refine ⟨by simp only; rw [show kA (goP L j x (kA s.K j) ⟨s.P, s.K, del j s.D⟩).2.1 j = kA s.K j from e1]; omega, fun e => absurd e h25, fun _ hne => ?_, fun _ => h4, (past L s.P (kA s.K j).2 x.op x.a).2, p3, fun m => ?_, fun q hq3 => ?_⟩
            · simp only
              rw [show kA (goP L j x (kA s.K j) ⟨s.P, s.K, del j s.D⟩).2.1 j = kA s.K j from e1, v2]
              cases hdn : den L s.P (kA s.K j).2 x.a.toNat with
              | true => rfl
              | false => exact absurd ⟨hne, hdn⟩ h3
            · simp only
              rw [show kA (goP L j x (kA s.K j) ⟨s.P, s.K, del j s.D⟩).2.1 j = kA s.K j from e1, hpd]
              unfold updB
              rw [v2]
            · simp only at hq3 ⊢
              rw [show kA (goP L j x (kA s.K j) ⟨s.P, s.K, del j s.D⟩).2.1 j = kA s.K j from e1] at hq3
              exact c1 q hq3
          · have hf := h.fine j hj hnj (hold j e d1)
            exact hf.mono p1 (hk.vs j hj hnj) c2 hnj (hf.ab (hx j hj)).2
theorem run_fine {n L : Nat} {sl : Int} {res : Bool} {code : List CIn} (hx : ∀ j, j < n → LkX n sl j (inA code j)) : ∀ (f : Nat) {s : Wst}, RunI n res L code s → mea n s.K s.D < f → (runP n res L code f s).2.1 = 0 → RunI n res L code (runP n res L code f s).2.2 ∧ (∀ j, (runP n res L code f s).2.2.D j = false) ∧ ∀ j, (kA s.K j).1 ≠ 0 → kA (runP n res L code f s).2.2.K j = kA s.K j
  | 0, s, h, hm, hz => by omega
  | f + 1, s, h, hm, hz => by
    rw [runP] at hz ⊢
    obtain ⟨m, hk⟩ := h.kv
    cases hi : leastD n s.D with
    | none => exact ⟨h, least_none hi fun j hj => (hk.dn j hj).1, fun j _ => rfl⟩
    | some i =>
      rw [hi] at hz
      simp only at hz ⊢
      obtain ⟨hin, hlb⟩ := least_some hi
      split at hz
      · rename_i h0
        rw [if_pos h0]
        obtain ⟨h1, h2⟩ := look_fine hx hin h hlb.1 h0
        have hl := look_kv (res := res) (s := ⟨s.P, s.K, del i s.D⟩) (hx i hin) hin h.pr (hk.del i) (hk.vs i hin (hk.dn i hlb.1).2) (hk.ab i hin)
        have hmm := mea_del (K := s.K) hin hlb.1
        have hlm := hl.mea
        obtain ⟨g1, g2, g3⟩ := run_fine hx f h1 (by simp only at hlm; omega) hz
        exact ⟨g1, g2, fun j hj => by rw [g3 j (by rw [h2 j hj]; exact hj), h2 j hj]⟩
      · rename_i h0
        exact absurd hz h0
/-- **WHAT HOLDS WHERE A PROG'S WAYS ARE RIGHT** -/
structure WayOk (p : CPg) (P : Prs) (K : List Wy) : Prop where
  pr : PrOk P
  vs : ∀ i, i < p.code.length → (kA K i).1 ≠ 0 → vsP (lvS p.slots.toNat) P (kA K i).2
  z1 : (kA K 0).1 = 1
  z2 : ∀ m, den (lvS p.slots.toNat) P (kA K 0).2 m = decide (m % 2 ^ (6 + lvS p.slots.toNat) < p.params.toNat % 2 ^ (6 + lvS p.slots.toNat))
  fine : ∀ i, i < p.code.length → (kA K i).1 ≠ 0 → Fine p.code.length p.res (lvS p.slots.toNat) (inA p.code i) i P K
theorem way_ok {p : CPg} (hp : PgOk p p.slots.toNat p.params.toNat) (hz : (way1 p).2.1 = 0) : WayOk p (way1 p).2.2.P (way1 p).2.2.K := by
  have hkr : p.code.length ≤ (List.replicate p.code.length ((0, 0) : Wy)).length := by simp
  obtain ⟨h1, h2⟩ := st0_kv hp hkr
  have hx : ∀ j, j < p.code.length → LkX p.code.length p.slots j (inA p.code j) := fun j hj => (hp.insA hj).1
  have hz0 : kA (clearK p.code.length (List.replicate p.code.length ((0, 0) : Wy))) 0 = (0, 0) := kA_clear hp.n0
  have hcl : (clearK p.code.length (List.replicate p.code.length ((0, 0) : Wy))).length = p.code.length := by rw [clearK_len hkr]; simp
  have hn0 := hp.n0
  have hk0 : ∀ j, kA (st0 p.code.length p.slots.toNat p.params.toNat (List.replicate p.code.length (0, 0))).K j = if j = 0 then (1, (firP p.params.toNat (lvS p.slots.toNat) [pz]).2.2) else kA (clearK p.code.length (List.replicate p.code.length ((0, 0) : Wy))) j := fun j => by
    show kA (comeK _ 0 _) j = _
    rw [kA_come _ (by omega), hz0]
    simp
  have hI : RunI p.code.length p.res (lvS p.slots.toNat) p.code (st0 p.code.length p.slots.toNat p.params.toNat (List.replicate p.code.length (0, 0))) := by
    refine ⟨h1, ⟨_, h2⟩, fun i hi hn hd => ?_⟩
    rw [hk0] at hn
    by_cases e : i = 0
    · subst e
      have : (st0 p.code.length p.slots.toNat p.params.toNat (List.replicate p.code.length (0, 0))).D 0 = true := by
        show comeD _ 0 _ 0 = true
        rw [comeD_at, hz0]
        simp
      rw [this] at hd
      cases hd
    · rw [if_neg e, kA_clear hi] at hn
      exact absurd rfl hn
  obtain ⟨r1, r2, r3⟩ := run_fine hx _ hI (Nat.lt_succ_of_le mea_le) hz
  have e0 := r3 0 (by rw [hk0]; simp)
  rw [hk0, if_pos rfl] at e0
  obtain ⟨f1, f2, f3, f4, f5, f6, f7⟩ := fir_spec p.params.toNat (lvS p.slots.toNat) begin_ok
  obtain ⟨_, _, hpre, _⟩ := run0_kv hp hkr
  obtain ⟨m, hk⟩ := r1.kv
  refine ⟨r1.pr, fun i hi hn => hk.vs i hi hn, ?_, fun m => ?_, fun i hi hn => r1.fine i hi hn (r2 i)⟩
  · exact congrArg Prod.fst e0
  · have e1 : kA (way1 p).2.2.K 0 = (1, (firP p.params.toNat (lvS p.slots.toNat) [pz]).2.2) := e0
    have hpre2 : (firP p.params.toNat (lvS p.slots.toNat) [pz]).1 <+: (way1 p).2.2.P := hpre
    rw [e1]
    simp only
    rw [(vs_mono hpre2 f4).2 m]
    exact f6 m
end Go.Proofs.YtadmpgegolmkgaaDoor
