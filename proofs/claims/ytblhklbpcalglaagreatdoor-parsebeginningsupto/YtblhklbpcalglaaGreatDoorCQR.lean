import Derived.Test.YtblhklbpcalglaaGreatDoorCQP
namespace Go.Proofs.YtblhklbpcalglaaGreatDoor
set_option linter.unusedVariables false
set_option linter.unusedSimpArgs false
structure Two (S T : List PTok) (L I J : List PTok → Prop) : Prop where
  hd_ : ∀ p, L p → hd (p ++ S) = hd (p ++ T)
  len : ∀ p, L p → ((p ++ S).length ≤ 1 ↔ (p ++ T).length ≤ 1)
  step : ∀ p, L p → kd (p ++ S) ≠ 0 → (∃ p', L p' ∧ tl (p ++ S) = p' ++ S ∧ tl (p ++ T) = p' ++ T) ∨ (I (tl (p ++ S)) ∧ J (tl (p ++ T)))
  hI : ∀ s, I s → kd s ≠ 0 → I (tl s)
  hJ : ∀ s, J s → kd s ≠ 0 → J (tl s)
def Rel (S T : List PTok) (L I J : List PTok → Prop) (x y : Res) : Prop :=
  x = .out ∨ (∃ a p, L p ∧ x = .ok a (p ++ S) ∧ y = .ok a (p ++ T)) ∨ (∃ p, L p ∧ x = .err (p ++ S) ∧ y = .err (p ++ T)) ∨ (ZR I x ∧ ZR J y)
section
variable {S T : List PTok} {L I J : List PTok → Prop} (h2 : Two S T L I J)
theorem rel_and {x y : Res} {k k' : List Tr → List PTok → Res} (h : Rel S T L I J x y) (hk : ∀ a p, L p → Rel S T L I J (k a (p ++ S)) (k' a (p ++ T))) (hz : ∀ a s, I s → ZR I (k a s)) (hz' : ∀ a s, J s → ZR J (k' a s)) : Rel S T L I J (andT x k) (andT y k') := by
  rcases h with rfl | ⟨a, p, hp, rfl, rfl⟩ | ⟨p, hp, rfl, rfl⟩ | ⟨h1, h2⟩
  · exact .inl rfl
  · exact hk a p hp
  · exact .inr (.inr (.inl ⟨p, hp, rfl, rfl⟩))
  · exact .inr (.inr (.inr ⟨zr_and h1 hz, zr_and h2 hz'⟩))
include h2
theorem two_kd {p : List PTok} (hp : L p) : kd (p ++ S) = kd (p ++ T) := by unfold kd; rw [h2.hd_ p hp]
theorem rel_want {c : Nat} {p : List PTok} {k k' : List PTok → Res} (hp : L p) (hc : c ≠ 0) (hk : ∀ p, L p → Rel S T L I J (k (p ++ S)) (k' (p ++ T))) (hz : ∀ s, I s → ZR I (k s)) (hz' : ∀ s, J s → ZR J (k' s)) : Rel S T L I J (want c (p ++ S) k) (want c (p ++ T) k') := by
  unfold want
  rw [← two_kd h2 hp]
  split
  · rename_i h
    rcases h2.step p hp (by omega) with ⟨p', hp', e1, e2⟩ | ⟨e1, e2⟩
    · rw [e1, e2]; exact hk p' hp'
    · exact .inr (.inr (.inr ⟨hz _ e1, hz' _ e2⟩))
  · exact .inr (.inr (.inl ⟨p, hp, rfl, rfl⟩))
theorem rel_name {p : List PTok} {k k' : List UInt8 → List PTok → Res} (hp : L p) (hk : ∀ n p, L p → Rel S T L I J (k n (p ++ S)) (k' n (p ++ T))) (hz : ∀ n s, I s → ZR I (k n s)) (hz' : ∀ n s, J s → ZR J (k' n s)) : Rel S T L I J (nameK (p ++ S) k) (nameK (p ++ T) k') := by
  unfold nameK
  rw [← two_kd h2 hp, ← h2.hd_ p hp]
  split
  · rename_i h
    rcases h2.step p hp (by omega) with ⟨p', hp', e1, e2⟩ | ⟨e1, e2⟩
    · rw [e1, e2]; exact hk _ p' hp'
    · exact .inr (.inr (.inr ⟨hz _ _ e1, hz' _ _ e2⟩))
  · exact .inr (.inr (.inl ⟨p, hp, rfl, rfl⟩))
theorem rel_num {p : List PTok} {k k' : Nat → List PTok → Res} (hp : L p) (hk : ∀ n p, L p → Rel S T L I J (k n (p ++ S)) (k' n (p ++ T))) (hz : ∀ n s, I s → ZR I (k n s)) (hz' : ∀ n s, J s → ZR J (k' n s)) : Rel S T L I J (numK (p ++ S) k) (numK (p ++ T) k') := by
  unfold numK
  rw [← two_kd h2 hp, ← h2.hd_ p hp]
  split
  · rename_i h
    rcases h2.step p hp (by omega) with ⟨p', hp', e1, e2⟩ | ⟨e1, e2⟩
    · rw [e1, e2]; exact hk _ p' hp'
    · exact .inr (.inr (.inr ⟨hz _ _ e1, hz' _ _ e2⟩))
  · exact .inr (.inr (.inl ⟨p, hp, rfl, rfl⟩))
omit h2 in
theorem rel_if {P Q : Prop} [Decidable P] [Decidable Q] {a b c d : Res} (h : P ↔ Q) (h1 : P → Rel S T L I J a c) (h0 : ¬ P → Rel S T L I J b d) : Rel S T L I J (if P then a else b) (if Q then c else d) := by
  by_cases hp : P
  · rw [if_pos hp, if_pos (h.1 hp)]; exact h1 hp
  · rw [if_neg hp, if_neg (fun hq => hp (h.2 hq))]; exact h0 hp
theorem rel_mk {kind num : Int} {p q : List PTok} {name : List UInt8} {kids : List Tr} (hp : L p) (hq : L q) : Rel S T L I J (mk1 kind (p ++ S) num name kids (q ++ S)) (mk1 kind (p ++ T) num name kids (q ++ T)) := by
  unfold mk1
  rw [← h2.hd_ p hp]
  exact .inr (.inl ⟨_, q, hq, rfl, rfl⟩)
theorem rel_okT {a : List Tr} {p : List PTok} (hp : L p) (h0 : kd (p ++ S) ≠ 0) : Rel S T L I J (.ok a (tl (p ++ S))) (.ok a (tl (p ++ T))) := by
  rcases h2.step p hp h0 with ⟨p', hp', e1, e2⟩ | ⟨e1, e2⟩
  · rw [e1, e2]; exact .inr (.inl ⟨_, p', hp', rfl, rfl⟩)
  · exact .inr (.inr (.inr ⟨e1, e2⟩))
theorem rel_mkT {kind num : Int} {p : List PTok} {name : List UInt8} {kids : List Tr} (hp : L p) (h0 : kd (p ++ S) ≠ 0) : Rel S T L I J (mk1 kind (p ++ S) num name kids (tl (p ++ S))) (mk1 kind (p ++ T) num name kids (tl (p ++ T))) := by
  unfold mk1
  rw [← h2.hd_ p hp]
  exact rel_okT h2 hp h0
omit h2 in
theorem rel_ok {a : List Tr} {p : List PTok} (hp : L p) : Rel S T L I J (.ok a (p ++ S)) (.ok a (p ++ T)) := .inr (.inl ⟨_, p, hp, rfl, rfl⟩)
theorem rel_tl {g : List PTok → Res} {p : List PTok} (H : ∀ p, L p → Rel S T L I J (g (p ++ S)) (g (p ++ T))) (HI : ∀ s, I s → ZR I (g s)) (HJ : ∀ s, J s → ZR J (g s)) (hp : L p) (h0 : kd (p ++ S) ≠ 0) : Rel S T L I J (g (tl (p ++ S))) (g (tl (p ++ T))) := by
  rcases h2.step p hp h0 with ⟨p', hp', e1, e2⟩ | ⟨e1, e2⟩
  · rw [e1, e2]; exact H p' hp'
  · exact .inr (.inr (.inr ⟨HI _ e1, HJ _ e2⟩))
end
section
variable {I : List PTok → Prop} (hI : ∀ s, I s → kd s ≠ 0 → I (tl s))
theorem prim_name : ∀ (f : Nat) (s : List PTok), kd s = 1 → I (tl s) → ZR I (pF f .primary s)
  | 0, s, _, _ => trivial
  | f + 1, s, h, hs => by
    show ZR I (body (pF f) .primary s)
    simp only [body]
    rw [if_neg (by omega), if_neg (by omega), if_neg (by omega), if_neg (by omega), if_neg (by omega), if_neg (by omega), if_neg (by omega), if_neg (by omega), if_neg (by omega)]
    unfold nameK
    rw [if_pos h]
    exact hs
include hI
theorem post_name : ∀ (f : Nat) (s : List PTok), kd s = 1 → I (tl s) → ZR I (pF f .postfix s)
  | 0, s, _, _ => trivial
  | f + 1, s, h, hs => zr_and (prim_name f s h hs) (fun a s1 h1 => pF_zr hI f _ s1 trivial h1)
theorem un_name : ∀ (f : Nat) (s : List PTok), kd s = 1 → I (tl s) → ZR I (pF f .unary s)
  | 0, s, _, _ => trivial
  | f + 1, s, h, hs => by
    show ZR I (body (pF f) .unary s)
    simp only [body]
    rw [if_neg (by omega), if_neg (by omega), if_neg (by omega)]
    exact post_name hI f s h hs
theorem op_name : ∀ (f : Nat) (s : List PTok), kd s = 1 → I (tl s) → ZR I (pF f (.operands 1) s)
  | 0, s, _, _ => trivial
  | f + 1, s, h, hs => zr_and (un_name hI f s h hs) (fun a s1 h1 => pF_zr hI f _ s1 (by simp [Wr]) h1)
end
section
variable {S T : List PTok} {L I J : List PTok → Prop} (h2 : Two S T L I J)
include h2
set_option maxHeartbeats 2000000 in
theorem body_rel {g : Rl → List PTok → Res} (H : ∀ r p, Wr r → L p → Rel S T L I J (g r (p ++ S)) (g r (p ++ T))) (HI : ∀ r s, Wr r → I s → ZR I (g r s)) (HJ : ∀ r s, Wr r → J s → ZR J (g r s))
    (NI : ∀ s, kd s = 1 → I (tl s) → ZR I (g (.operands 1) s)) (NJ : ∀ s, kd s = 1 → J (tl s) → ZR J (g (.operands 1) s)) (r : Rl) (p : List PTok) (hr : Wr r) (hp : L p) : Rel S T L I J (body g r (p ++ S)) (body g r (p ++ T)) := by
  have hI := h2.hI
  have hJ := h2.hJ
  have K : ∀ {q : List PTok}, L q → kd (q ++ S) = kd (q ++ T) := fun h => two_kd h2 h
  cases r
  case ops least left most =>
    have hl : 1 ≤ least := hr
    simp only [body]
    rw [← K hp, ← h2.hd_ p hp]
    refine rel_if Iff.rfl (fun _ => rel_ok hp) (fun h => ?_)
    have h0 : kd (p ++ S) ≠ 0 := betw_zero (by omega)
    have w1 : Wr (.operands (binLevelI (betw (kd (p ++ S))) + 1)) := by simp only [Wr]; omega
    refine rel_and (rel_tl h2 (fun q hq => H _ q w1 hq) (fun s hs => HI _ s w1 hs) (fun s hs => HJ _ s w1 hs) hp h0) (fun a q hq => H _ q (by simp only [Wr]; omega) hq) (fun a s hs => HI _ s (by simp only [Wr]; omega) hs) (fun a s hs => HJ _ s (by simp only [Wr]; omega) hs)
  case operands least =>
    simp only [body]
    exact rel_and (H _ p trivial hp) (fun a q hq => H _ q hr hq) (fun a s hs => HI _ s hr hs) (fun a s hs => HJ _ s hr hs)
  case arm =>
    simp only [body]
    refine rel_want h2 hp (by decide) (fun q hq => ?_) (fun s hs => ?_) (fun s hs => ?_)
    · refine rel_if (by rw [K hq]) (fun h65 => ?_) (fun h65 => ?_)
      · refine rel_want h2 hq (by decide) (fun q2 hq2 => ?_) (fun s hs => ?_) (fun s hs => ?_)
        · exact rel_and (H _ _ trivial hq2) (fun a q3 hq3 => rel_and (H _ _ trivial hq3) (fun b q4 hq4 => rel_mk h2 hp hq4) (fun b s hs => hs) (fun b s hs => hs)) (fun a s hs => zr_and (HI _ _ trivial hs) (fun b s h => h)) (fun a s hs => zr_and (HJ _ _ trivial hs) (fun b s h => h))
        · exact zr_and (HI _ _ trivial hs) (fun a s hs => zr_and (HI _ _ trivial hs) (fun b s h => h))
        · exact zr_and (HJ _ _ trivial hs) (fun a s hs => zr_and (HJ _ _ trivial hs) (fun b s h => h))
      · have A : Rel S T L I J (nameK (q ++ S) fun n s2 => want 50 s2 fun s3 => want 65 s3 fun s4 => andT (g .unary s4) fun a s5 => andT (g .block s5) fun b s6 => mk1 43 (p ++ S) 0 n (a ++ b) s6) (nameK (q ++ T) fun n s2 => want 50 s2 fun s3 => want 65 s3 fun s4 => andT (g .unary s4) fun a s5 => andT (g .block s5) fun b s6 => mk1 43 (p ++ T) 0 n (a ++ b) s6) := by
          refine rel_name h2 hq (fun n q2 hq2 => ?_) (fun n s hs => ?_) (fun n s hs => ?_)
          · refine rel_want h2 hq2 (by decide) (fun q3 hq3 => ?_) (fun s hs => ?_) (fun s hs => ?_)
            · refine rel_want h2 hq3 (by decide) (fun q4 hq4 => ?_) (fun s hs => ?_) (fun s hs => ?_)
              · exact rel_and (H _ _ trivial hq4) (fun a q5 hq5 => rel_and (H _ _ trivial hq5) (fun b q6 hq6 => rel_mk h2 hp hq6) (fun b s hs => hs) (fun b s hs => hs)) (fun a s hs => zr_and (HI _ _ trivial hs) (fun b s h => h)) (fun a s hs => zr_and (HJ _ _ trivial hs) (fun b s h => h))
              · exact zr_and (HI _ _ trivial hs) (fun a s hs => zr_and (HI _ _ trivial hs) (fun b s h => h))
              · exact zr_and (HJ _ _ trivial hs) (fun a s hs => zr_and (HJ _ _ trivial hs) (fun b s h => h))
            · exact zr_want hI hs (by decide) (fun s hs => zr_and (HI _ _ trivial hs) (fun a s hs => zr_and (HI _ _ trivial hs) (fun b s h => h)))
            · exact zr_want hJ hs (by decide) (fun s hs => zr_and (HJ _ _ trivial hs) (fun a s hs => zr_and (HJ _ _ trivial hs) (fun b s h => h)))
          · exact zr_want hI hs (by decide) (fun s hs => zr_want hI hs (by decide) (fun s hs => zr_and (HI _ _ trivial hs) (fun a s hs => zr_and (HI _ _ trivial hs) (fun b s h => h))))
          · exact zr_want hJ hs (by decide) (fun s hs => zr_want hJ hs (by decide) (fun s hs => zr_and (HJ _ _ trivial hs) (fun a s hs => zr_and (HJ _ _ trivial hs) (fun b s h => h))))
        have w1 : Wr (.operands 1) := by simp [Wr]
        have zi : ∀ (P : List PTok), ∀ a s, I s → ZR I (want 66 s fun s3 => andT (g (.operands 1) s3) fun b s4 => andT (g .block s4) fun c s5 => mk1 44 P 0 [] (a ++ (b ++ c)) s5) := fun P a s hs => zr_want hI hs (by decide) (fun s hs => zr_and (HI _ _ w1 hs) (fun b s hs => zr_and (HI _ _ trivial hs) (fun c s h => h)))
        have zj : ∀ (P : List PTok), ∀ a s, J s → ZR J (want 66 s fun s3 => andT (g (.operands 1) s3) fun b s4 => andT (g .block s4) fun c s5 => mk1 44 P 0 [] (a ++ (b ++ c)) s5) := fun P a s hs => zr_want hJ hs (by decide) (fun s hs => zr_and (HJ _ _ w1 hs) (fun b s hs => zr_and (HJ _ _ trivial hs) (fun c s h => h)))
        have B : Rel S T L I J (andT (g (.operands 1) (q ++ S)) fun a s2 => want 66 s2 fun s3 => andT (g (.operands 1) s3) fun b s4 => andT (g .block s4) fun c s5 => mk1 44 (p ++ S) 0 [] (a ++ (b ++ c)) s5) (andT (g (.operands 1) (q ++ T)) fun a s2 => want 66 s2 fun s3 => andT (g (.operands 1) s3) fun b s4 => andT (g .block s4) fun c s5 => mk1 44 (p ++ T) 0 [] (a ++ (b ++ c)) s5) := by
          refine rel_and (H _ _ w1 hq) (fun a q2 hq2 => ?_) (zi _) (zj _)
          refine rel_want h2 hq2 (by decide) (fun q3 hq3 => ?_) (fun s hs => zr_and (HI _ _ w1 hs) (fun b s hs => zr_and (HI _ _ trivial hs) (fun c s h => h))) (fun s hs => zr_and (HJ _ _ w1 hs) (fun b s hs => zr_and (HJ _ _ trivial hs) (fun c s h => h)))
          exact rel_and (H _ _ w1 hq3) (fun b q4 hq4 => rel_and (H _ _ trivial hq4) (fun c q5 hq5 => rel_mk h2 hp hq5) (fun c s hs => hs) (fun c s hs => hs)) (fun b s hs => zr_and (HI _ _ trivial hs) (fun c s h => h)) (fun b s hs => zr_and (HJ _ _ trivial hs) (fun c s h => h))
        by_cases h1 : kd (q ++ S) = 1
        · rcases h2.step q hq (by omega) with ⟨q', hq', e1, e2⟩ | ⟨e1, e2⟩
          · refine rel_if (by rw [K hq, e1, e2, K hq']) (fun _ => A) (fun _ => B)
          · have h1' : kd (q ++ T) = 1 := by rw [← K hq]; exact h1
            refine .inr (.inr (.inr ⟨zr_if (fun _ => ?_) (fun _ => ?_), zr_if (fun _ => ?_) (fun _ => ?_)⟩))
            · unfold nameK
              rw [if_pos h1]
              exact zr_want hI e1 (by decide) (fun s hs => zr_want hI hs (by decide) (fun s hs => zr_and (HI _ _ trivial hs) (fun a s hs => zr_and (HI _ _ trivial hs) (fun b s h => h))))
            · exact zr_and (NI _ h1 e1) (zi _)
            · unfold nameK
              rw [if_pos h1']
              exact zr_want hJ e2 (by decide) (fun s hs => zr_want hJ hs (by decide) (fun s hs => zr_and (HJ _ _ trivial hs) (fun a s hs => zr_and (HJ _ _ trivial hs) (fun b s h => h))))
            · exact zr_and (NJ _ h1' e2) (zj _)
        · rw [if_neg (fun h => h1 h.1), if_neg (fun h => h1 (by rw [K hq]; exact h.1))]
          exact B
    · refine zr_if (fun _ => zr_want hI hs (by decide) (fun s hs => zr_and (HI _ _ trivial hs) (fun a s hs => zr_and (HI _ _ trivial hs) (fun b s h => h)))) (fun _ => zr_if (fun _ => ?_) (fun _ => ?_))
      · exact zr_name hI hs (fun n s hs => zr_want hI hs (by decide) (fun s hs => zr_want hI hs (by decide) (fun s hs => zr_and (HI _ _ trivial hs) (fun a s hs => zr_and (HI _ _ trivial hs) (fun b s h => h)))))
      · exact zr_and (HI _ _ (by simp [Wr]) hs) (fun a s hs => zr_want hI hs (by decide) (fun s hs => zr_and (HI _ _ (by simp [Wr]) hs) (fun b s hs => zr_and (HI _ _ trivial hs) (fun c s h => h))))
    · refine zr_if (fun _ => zr_want hJ hs (by decide) (fun s hs => zr_and (HJ _ _ trivial hs) (fun a s hs => zr_and (HJ _ _ trivial hs) (fun b s h => h)))) (fun _ => zr_if (fun _ => ?_) (fun _ => ?_))
      · exact zr_name hJ hs (fun n s hs => zr_want hJ hs (by decide) (fun s hs => zr_want hJ hs (by decide) (fun s hs => zr_and (HJ _ _ trivial hs) (fun a s hs => zr_and (HJ _ _ trivial hs) (fun b s h => h)))))
      · exact zr_and (HJ _ _ (by simp [Wr]) hs) (fun a s hs => zr_want hJ hs (by decide) (fun s hs => zr_and (HJ _ _ (by simp [Wr]) hs) (fun b s hs => zr_and (HJ _ _ trivial hs) (fun c s h => h))))
  case tops =>
    simp only [body]
    refine rel_if (h2.len p hp) (fun _ => rel_ok hp) (fun _ => ?_)
    exact rel_and (H _ p trivial hp) (fun a q hq => rel_and (H _ q trivial hq) (fun b q2 hq2 => rel_ok hq2) (fun b s hs => hs) (fun b s hs => hs)) (fun a s hs => zr_and (HI _ s trivial hs) (fun b s h => h)) (fun a s hs => zr_and (HJ _ s trivial hs) (fun b s h => h))
  all_goals
    simp only [body]
    try rw [← h2.hd_ p hp]
    repeat' (first
      | assumption
      | exact H _ _ (by first | trivial | (simp only [Wr]; omega) | exact (wr_of _).1) (by assumption)
      | exact rel_tl h2 (fun q hq => H _ q trivial hq) (fun s hs => HI _ s trivial hs) (fun s hs => HJ _ s trivial hs) (by assumption) (by omega)
      | exact HI _ _ (by first | trivial | (simp only [Wr]; omega) | exact (wr_of _).1) (by first | assumption | (apply hI; assumption; omega))
      | exact HJ _ _ (by first | trivial | (simp only [Wr]; omega) | exact (wr_of _).1) (by first | assumption | (apply hJ; assumption; omega))
      | refine rel_and (H _ _ (by first | trivial | (simp only [Wr]; omega) | exact (wr_of _).1) (by assumption)) (fun _ _ _ => ?_) (fun _ _ _ => ?_) (fun _ _ _ => ?_)
      | refine rel_and (rel_tl h2 (g := g _) (fun q hq => H _ q (by first | trivial | (simp only [Wr]; omega) | exact (wr_of _).1) hq) (fun s hs => HI _ s (by first | trivial | (simp only [Wr]; omega) | exact (wr_of _).1) hs) (fun s hs => HJ _ s (by first | trivial | (simp only [Wr]; omega) | exact (wr_of _).1) hs) (by assumption) (by omega)) (fun _ _ _ => ?_) (fun _ _ _ => ?_) (fun _ _ _ => ?_)
      | refine rel_name h2 (by assumption) (fun _ _ _ => ?_) (fun _ _ _ => ?_) (fun _ _ _ => ?_)
      | refine rel_num h2 (by assumption) (fun _ _ _ => ?_) (fun _ _ _ => ?_) (fun _ _ _ => ?_)
      | refine rel_want h2 (by assumption) (by decide) (fun _ _ => ?_) (fun _ _ => ?_) (fun _ _ => ?_)
      | exact rel_mk h2 (by assumption) (by assumption)
      | exact rel_mkT h2 (by assumption) (by omega)
      | exact rel_ok (by assumption)
      | exact rel_okT h2 (by assumption) (by omega)
      | refine rel_if (by rw [K (by assumption)]) (fun _ => ?_) (fun _ => ?_)
      | refine zr_and (HI _ _ (by first | trivial | (simp only [Wr]; omega) | exact (wr_of _).1) (by first | assumption | (apply hI; assumption; omega))) (fun _ _ _ => ?_)
      | refine zr_and (HJ _ _ (by first | trivial | (simp only [Wr]; omega) | exact (wr_of _).1) (by first | assumption | (apply hJ; assumption; omega))) (fun _ _ _ => ?_)
      | refine zr_name hI (by assumption) (fun _ _ _ => ?_)
      | refine zr_name hJ (by assumption) (fun _ _ _ => ?_)
      | refine zr_num hI (by assumption) (fun _ _ _ => ?_)
      | refine zr_num hJ (by assumption) (fun _ _ _ => ?_)
      | refine zr_want hI (by assumption) (by decide) (fun _ _ => ?_)
      | refine zr_want hJ (by assumption) (by decide) (fun _ _ => ?_)
      | refine zr_if (fun _ => ?_) (fun _ => ?_)
      | (refine zr_mk ?_; first | assumption | (apply hI; assumption; omega) | (apply hJ; assumption; omega))
      | (refine zr_ok ?_; first | assumption | (apply hI; assumption; omega) | (apply hJ; assumption; omega)))
theorem pF_rel : ∀ (f : Nat) (r : Rl) (p : List PTok), Wr r → L p → Rel S T L I J (pF f r (p ++ S)) (pF f r (p ++ T))
  | 0, _, _, _, _ => .inl rfl
  | f + 1, r, p, hr, hp => body_rel h2 (pF_rel f) (fun r s hr hs => pF_zr h2.hI f r s hr hs) (fun r s hr hs => pF_zr h2.hJ f r s hr hs) (fun s h hs => op_name h2.hI f s h hs) (fun s h hs => op_name h2.hJ f s h hs) r p hr hp
end
end Go.Proofs.YtblhklbpcalglaaGreatDoor
