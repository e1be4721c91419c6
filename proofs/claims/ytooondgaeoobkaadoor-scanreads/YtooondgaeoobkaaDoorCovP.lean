import Derived.Test.YtooondgaeoobkaaDoorScan
import Derived.Test.YtooondgaeoobkaaDoorTextsW
namespace Go.Proofs.YtooondgaeoobkaaDoor
open Go.RowKit
set_option linter.unusedVariables false
set_option linter.unusedSimpArgs false

/-- are these bytes blanks and remarks alone? (true: inside a remark) -/
def passedL : Bool → List UInt8 → Bool
  | _, [] => true
  | m, c :: r => if !(m || (c.toNat : Int) == 35) && !blankI c.toNat then false else passedL ((m || (c.toNat : Int) == 35) && (c.toNat : Int) != 10) r

theorem passed_skip : ∀ (l : List UInt8) (m : Bool), passedL m (l.take (skipL m l)) = true
  | [], m => by cases m <;> rfl
  | c :: r, true => by
    have ih1 := passed_skip r true
    have ih2 := passed_skip r false
    simp only [skipL]
    cases h : remI (c.toNat : Int)
    · have e : ((c.toNat : Int) != 10) = false := h
      simp only [Bool.false_eq_true, if_false, List.take_succ_cons, passedL, Bool.true_or, Bool.not_true, Bool.false_and, e, Bool.and_false]
      exact ih2
    · have e : ((c.toNat : Int) != 10) = true := h
      simp only [if_true, List.take_succ_cons, passedL, Bool.true_or, Bool.not_true, Bool.false_and, e, Bool.and_true, Bool.false_eq_true, if_false]
      exact ih1
  | c :: r, false => by
    have ih1 := passed_skip r true
    have ih2 := passed_skip r false
    simp only [skipL]
    cases hb : blankI (c.toNat : Int)
    · cases h35 : ((c.toNat : Int) == 35)
      · simp [passedL]
      · have e : ((c.toNat : Int) != 10) = true := by rw [beq_iff_eq] at h35; rw [h35]; rfl
        simp only [Bool.false_eq_true, if_false, if_true, List.take_succ_cons, passedL, h35, Bool.or_true, Bool.not_true, Bool.false_and, e, Bool.and_true]
        exact ih1
    · have h35 : ((c.toNat : Int) == 35) = false := by
        cases h35 : ((c.toNat : Int) == 35)
        · rfl
        · rw [beq_iff_eq] at h35; rw [h35] at hb; cases hb
      simp only [if_true, List.take_succ_cons, passedL, h35, Bool.or_false, Bool.not_false, hb, Bool.not_true, Bool.and_false, Bool.false_and, Bool.false_eq_true, if_false]
      exact ih2

theorem skip_again : ∀ (l : List UInt8) (m : Bool), skipL false (l.drop (skipL m l)) = 0
  | [], m => by cases m <;> rfl
  | c :: r, true => by
    have ih1 := skip_again r true
    have ih2 := skip_again r false
    simp only [skipL]
    cases h : remI (c.toNat : Int)
    · simp only [Bool.false_eq_true, if_false, List.drop_succ_cons]; exact ih2
    · simp only [if_true, List.drop_succ_cons]; exact ih1
  | c :: r, false => by
    have ih1 := skip_again r true
    have ih2 := skip_again r false
    simp only [skipL]
    cases hb : blankI (c.toNat : Int)
    · cases h35 : ((c.toNat : Int) == 35)
      · simp [skipL, hb, h35]
      · simp only [Bool.false_eq_true, if_false, if_true, List.drop_succ_cons]; exact ih1
    · simp only [if_true, List.drop_succ_cons]; exact ih2

theorem skipTo_head (xs : List UInt8) (at_ k : Nat) (hk : skipTo xs at_ = k) (hl : k < xs.length) : blankI (xs[k].toNat : Int) = false ∧ ((xs[k].toNat : Int) == 35) = false := by
  have h := skip_again (xs.drop at_) false
  rw [List.drop_drop] at h
  have e : at_ + skipL false (xs.drop at_) = k := hk
  rw [e, drop_at xs k hl] at h
  simp only [skipL] at h
  cases hb : blankI (xs[k].toNat : Int)
  · cases h35 : ((xs[k].toNat : Int) == 35)
    · exact ⟨rfl, rfl⟩
    · rw [hb, h35] at h; simp at h
  · rw [hb] at h; simp at h

/-- what the tokens of a source are, one behind the other -/
def Covers (xs : List UInt8) : Nat → List Tok → Prop
  | k, [] => skipTo xs k = xs.length
  | k, t :: r => skipTo xs k = t.place ∧ t.place < xs.length ∧ nextR xs t.place = (t, 0) ∧ Covers xs (t.place + t.len) r

theorem nextR_place (xs : List UInt8) (k : Nat) (h : (nextR xs k).2 = 0) : (nextR xs k).1.place = k := by
  unfold nextR at h ⊢
  split at h
  · rename_i h1
    rw [if_pos h1]
    unfold wordR at h ⊢
    split at h
    · rename_i n1; rw [if_pos n1]
    · rename_i n1
      split at h
      · simp at h
      · rename_i n2; rw [if_neg n1, if_neg n2]
  · rename_i h1
    rw [if_neg h1]
    split at h
    · rename_i h2
      rw [if_pos h2]
      unfold numR at h ⊢
      split at h
      · simp at h
      · rename_i n1
        split at h
        · simp at h
        · rename_i n2
          split at h
          · rename_i n3; rw [if_neg n1, if_neg n2, if_pos n3]
          · simp at h
    · rename_i h2
      rw [if_neg h2]
      unfold signR at h ⊢
      split at h
      · simp at h
      · rename_i n1; rw [if_neg n1]

theorem scanGo_covers (xs : List UInt8) : ∀ (f k at_ : Nat) (acc l : List Tok) (a c : Nat), skipTo xs at_ = k → k ≤ xs.length → xs.length - k < f → scanGo f xs k acc = (l, a, c) →
    (c = 0 → ∃ r, l = acc ++ r ∧ Covers xs at_ r) ∧ (c ≠ 0 → l = [] ∧ a ≤ xs.length)
  | 0, k, at_, acc, l, a, c, _, _, hf, _ => absurd hf (Nat.not_lt_zero _)
  | f + 1, k, at_, acc, l, a, c, hk, hl, hf, h => by
    rw [scanGo] at h
    by_cases hlt : k < xs.length
    · rw [if_pos hlt] at h
      by_cases h0 : (nextR xs k).2 = 0
      · rw [if_pos h0] at h
        have hlen := nextR_len xs k hlt h0
        have hpl := nextR_place xs k h0
        have hs := skipTo_le xs (k + (nextR xs k).1.len) hlen.2
        obtain ⟨i1, i2⟩ := scanGo_covers xs f _ (k + (nextR xs k).1.len) _ l a c rfl hs.2 (by omega) h
        refine ⟨fun hc => ?_, i2⟩
        obtain ⟨r, e, hcov⟩ := i1 hc
        refine ⟨(nextR xs k).1 :: r, by rw [e]; simp, ?_⟩
        refine ⟨by rw [hpl]; exact hk, by rw [hpl]; exact hlt, ?_, by rw [hpl]; exact hcov⟩
        rw [hpl]
        exact Prod.ext rfl h0
      · rw [if_neg h0] at h
        have e1 := congrArg (·.1) h
        have e2 := congrArg (·.2.1) h
        have e3 := congrArg (·.2.2) h
        simp only at e1 e2 e3
        refine ⟨fun hc => absurd (e3.trans hc) h0, fun _ => ⟨e1.symm, by omega⟩⟩
    · rw [if_neg hlt] at h
      have e1 := congrArg (·.1) h
      have e3 := congrArg (·.2.2) h
      simp only at e1 e3
      refine ⟨fun _ => ⟨[], by simp [e1], ?_⟩, fun hc => absurd e3.symm hc⟩
      show skipTo xs at_ = xs.length
      omega

theorem scan_covers (xs : List UInt8) (h : (scanAll xs).2.2 = 0) : Covers xs 0 (scanAll xs).1 ∧ xs.length ≤ 65536 := by
  unfold scanAll at h ⊢
  by_cases hl : 65536 < xs.length
  · rw [if_pos hl] at h; simp at h
  · rw [if_neg hl] at h ⊢
    have hs := skipTo_le xs 0 (Nat.zero_le _)
    generalize hg : scanGo (xs.length + 1) xs (skipTo xs 0) [] = R at h ⊢
    obtain ⟨l, a, c⟩ := R
    obtain ⟨h1, _⟩ := scanGo_covers xs (xs.length + 1) (skipTo xs 0) 0 [] l a c rfl hs.2 (by omega) hg
    obtain ⟨r, e, hc⟩ := h1 h
    have e' : l = r := by simpa using e
    exact ⟨by rw [e']; exact hc, by omega⟩
theorem scan_fault (xs : List UInt8) (h : (scanAll xs).2.2 ≠ 0) : (scanAll xs).1 = [] ∧ (scanAll xs).2.1 ≤ xs.length := by
  unfold scanAll at h ⊢
  by_cases hl : 65536 < xs.length
  · rw [if_pos hl]; exact ⟨rfl, by simp only; omega⟩
  · rw [if_neg hl] at h ⊢
    have hs := skipTo_le xs 0 (Nat.zero_le _)
    generalize hg : scanGo (xs.length + 1) xs (skipTo xs 0) [] = R at h ⊢
    obtain ⟨l, a, c⟩ := R
    obtain ⟨_, h2⟩ := scanGo_covers xs (xs.length + 1) (skipTo xs 0) 0 [] l a c rfl hs.2 (by omega) hg
    exact h2 h

/-! ### a token alone -/
theorem spanL_all (p : Int → Bool) : ∀ l : List UInt8, spanL p (l.take (spanL p l)) = spanL p l
  | [] => rfl
  | c :: r => by
    by_cases h : p (c.toNat : Int) = true
    · simp [spanL, h, spanL_all p r]
    · simp [spanL, h]
theorem take_drop_zero (l : List UInt8) : l.drop 0 = l := rfl
theorem spanTo_alone (p : Int → Bool) (xs : List UInt8) (k : Nat) : spanTo p (cut xs k (spanTo p xs k)) 0 = spanTo p xs k - k := by
  unfold cut spanTo
  rw [Nat.add_sub_cancel_left, List.drop_zero, spanL_all, Nat.zero_add]
theorem cut_alone (xs : List UInt8) (k e : Nat) : cut (cut xs k e) 0 (e - k) = cut xs k e := by
  unfold cut
  rw [List.drop_zero, Nat.sub_zero, List.take_take, Nat.min_self]
theorem getD_cut (xs : List UInt8) (k e : Nat) (h : k < e) (hk : k < xs.length) : (cut xs k e).getD 0 0 = xs.getD k 0 := by
  unfold cut
  rw [drop_at xs k hk]
  obtain ⟨n, hn⟩ : ∃ n, e - k = n + 1 := ⟨e - k - 1, by omega⟩
  rw [hn]
  simp [List.getD, hk]

/-- what the best of a table is -/
theorem bestFrom_spec (l : List UInt8) : ∀ (T : List (List UInt8)) (n : Nat) (acc : Nat × Nat),
    acc.2 ≤ (bestFrom T n acc l).2 ∧ (∀ s ∈ T, s.isPrefixOf l = true → s.length ≤ (bestFrom T n acc l).2) ∧
    (bestFrom T n acc l = acc ∨ ∃ i, i < T.length ∧ (bestFrom T n acc l).1 = n + i ∧ (T.getD i []).isPrefixOf l = true ∧ (T.getD i []).length = (bestFrom T n acc l).2)
  | [], n, acc => by
    refine ⟨Nat.le_refl _, ?_, .inl rfl⟩
    intro s h
    exact absurd h (List.not_mem_nil)
  | s :: r, n, acc => by
    simp only [bestFrom]
    by_cases hc : acc.2 < s.length ∧ s.isPrefixOf l = true
    · rw [if_pos hc]
      obtain ⟨h1, h2, h3⟩ := bestFrom_spec l r (n + 1) (n, s.length)
      simp only at h1
      refine ⟨by omega, ?_, ?_⟩
      · intro s' hs' hp
        rcases List.mem_cons.1 hs' with rfl | hs'
        · exact h1
        · exact h2 s' hs' hp
      · right
        rcases h3 with h3 | ⟨i, a1, a2, a3, a4⟩
        · refine ⟨0, by simp, by rw [h3]; rfl, by simpa using hc.2, by rw [h3]; rfl⟩
        · exact ⟨i + 1, by simp; omega, by omega, by simpa using a3, by simpa using a4⟩
    · rw [if_neg hc]
      obtain ⟨h1, h2, h3⟩ := bestFrom_spec l r (n + 1) acc
      refine ⟨h1, ?_, ?_⟩
      · intro s' hs' hp
        rcases List.mem_cons.1 hs' with rfl | hs'
        · have : ¬ acc.2 < s'.length := fun h => hc ⟨h, hp⟩
          omega
        · exact h2 s' hs' hp
      · rcases h3 with h3 | ⟨i, a1, a2, a3, a4⟩
        · exact .inl h3
        · exact .inr ⟨i + 1, by simp; omega, by omega, by simpa using a3, by simpa using a4⟩
theorem bestFrom_congr (l l' : List UInt8) : ∀ (T : List (List UInt8)) (n : Nat) (acc : Nat × Nat), (∀ s ∈ T, s.isPrefixOf l = s.isPrefixOf l') → bestFrom T n acc l = bestFrom T n acc l'
  | [], n, acc, _ => rfl
  | s :: r, n, acc, h => by
    simp only [bestFrom]
    rw [h s (List.mem_cons_self), bestFrom_congr l l' r _ _ (fun s' hs' => h s' (List.mem_cons_of_mem _ hs'))]
theorem prefix_take (s l : List UInt8) (L : Nat) (h : s.isPrefixOf l = true → s.length ≤ L) : s.isPrefixOf (l.take L) = s.isPrefixOf l := by
  rw [Bool.eq_iff_iff, List.isPrefixOf_iff_prefix, List.isPrefixOf_iff_prefix]
  rw [List.isPrefixOf_iff_prefix] at h
  constructor
  · intro hp; exact hp.trans (List.take_prefix _ _)
  · intro hp
    have hle := h hp
    exact (List.prefix_take_iff).2 ⟨hp, hle⟩
theorem best_alone (l : List UInt8) : bestS (l.take (bestS l).2) = bestS l := by
  have h := (bestFrom_spec l signsT 40 (0, 0)).2.1
  exact bestFrom_congr _ _ signsT 40 (0, 0) (fun s hs => prefix_take s l _ (h s hs))
theorem best_text (l : List UInt8) (h : (bestS l).2 ≠ 0) : textK ((bestS l).1 : Int) = l.take (bestS l).2 ∧ 40 ≤ (bestS l).1 := by
  rcases (bestFrom_spec l signsT 40 (0, 0)).2.2 with h3 | ⟨i, a1, a2, a3, a4⟩
  · have : bestS l = (0, 0) := h3
    rw [this] at h; simp at h
  · have a1 : i < 27 := a1
    have e : (bestS l).1 = 40 + i := a2
    have a4' : (signsT.getD i []).length = (bestS l).2 := a4
    refine ⟨?_, by omega⟩
    rw [e, ← a4']
    unfold textK
    rw [if_neg (by omega), if_pos (by omega), show (((40 + i : Nat) : Int) - 40).toNat = i by omega]
    exact List.prefix_iff_eq_take.1 (List.isPrefixOf_iff_prefix.1 a3)

/-- THE TOKEN ALONE IS ITSELF, AND HAS ITS TEXT -/
theorem next_alone (xs : List UInt8) (k : Nat) (t : Tok) (hk : k < xs.length) (h : nextR xs k = (t, 0)) :
    nextR (cut xs k (k + t.len)) 0 = (⟨t.kind, 0, t.len, t.num⟩, 0) ∧ (10 ≤ t.kind → textK (t.kind : Int) = cut xs k (k + t.len)) ∧ (t.kind ≠ 2 → t.num = 0) := by
  have h2 : (nextR xs k).2 = 0 := by rw [h]
  have h1 : (nextR xs k).1 = t := by rw [h]
  have hlen := nextR_len xs k hk h2
  rw [h1] at hlen
  have hg : xs.getD k 0 = xs[k] := by simp [List.getD, hk]
  have hd0 := getD_cut xs k (k + t.len) (by omega) hk
  have hR : nextR xs k = if wsI ((xs.getD k 0).toNat : Int) = true then wordR xs k else if digI ((xs.getD k 0).toNat : Int) = true then numR xs k else signR xs k := rfl
  have hA : nextR (cut xs k (k + t.len)) 0 = if wsI ((xs.getD k 0).toNat : Int) = true then wordR (cut xs k (k + t.len)) 0 else if digI ((xs.getD k 0).toNat : Int) = true then numR (cut xs k (k + t.len)) 0 else signR (cut xs k (k + t.len)) 0 := by
    unfold nextR; rw [hd0]
  rw [hA]
  by_cases w1 : wsI ((xs.getD k 0).toNat : Int) = true
  · rw [if_pos w1] at hR ⊢
    rw [hR] at h
    have hs := spanTo_alone wbI xs k
    have hc := cut_alone xs k (spanTo wbI xs k)
    have hle := spanTo_le wbI xs k (by omega)
    unfold wordR at h
    split at h
    · rename_i n1
      have e := (Prod.mk.inj h).1
      subst e
      simp only at hs hc ⊢
      have e2 : k + (spanTo wbI xs k - k) = spanTo wbI xs k := by omega
      rw [e2]
      have n1' : wordK (cut xs k (spanTo wbI xs k)) ≠ 0 := n1
      refine ⟨?_, fun _ => ?_, fun _ => trivial⟩
      · unfold wordR
        rw [hs]
        have e3 : ((cut xs k (spanTo wbI xs k)).drop 0).take (spanTo wbI xs k - k - 0) = cut xs k (spanTo wbI xs k) := hc
        rw [e3, if_pos n1']
        rfl
      · have : kindK (cut xs k (spanTo wbI xs k)) = wordK (cut xs k (spanTo wbI xs k)) := by unfold kindK; rw [if_neg n1']
        have h3 := kind_text (cut xs k (spanTo wbI xs k)) (by rw [this]; exact n1')
        rw [this] at h3
        exact h3
    · rename_i n1
      split at h
      · simp at h
      · rename_i n2
        have e := (Prod.mk.inj h).1
        subst e
        simp only at hs hc ⊢
        have e2 : k + (spanTo wbI xs k - k) = spanTo wbI xs k := by omega
        rw [e2]
        refine ⟨?_, fun h => absurd h (by omega), fun _ => trivial⟩
        unfold wordR
        rw [hs]
        have e3 : ((cut xs k (spanTo wbI xs k)).drop 0).take (spanTo wbI xs k - k - 0) = cut xs k (spanTo wbI xs k) := hc
        have n1' : ¬ wordK (cut xs k (spanTo wbI xs k)) ≠ 0 := n1
        rw [e3, if_neg n1', if_neg (by omega)]
        rfl
  · rw [if_neg w1] at hR ⊢
    by_cases w2 : digI ((xs.getD k 0).toNat : Int) = true
    · rw [if_pos w2] at hR ⊢
      rw [hR] at h
      have hs := spanTo_alone digI xs k
      have hc := cut_alone xs k (spanTo digI xs k)
      have hle := spanTo_le digI xs k (by omega)
      have hcl := cut_len xs k (spanTo digI xs k) hle.2
      unfold numR at h
      split at h
      · simp at h
      · rename_i n1
        split at h
        · simp at h
        · rename_i n2
          split at h
          · rename_i n3
            have e := (Prod.mk.inj h).1
            subst e
            simp only at hs hc hd0 ⊢
            have e2 : k + (spanTo digI xs k - k) = spanTo digI xs k := by omega
            rw [e2] at hd0 ⊢
            refine ⟨?_, fun h => absurd h (by omega), fun h => absurd rfl h⟩
            unfold numR
            rw [hs, hd0, hcl, hc, if_neg (by omega), Nat.sub_zero, if_neg n2, if_pos n3]
          · simp at h
    · rw [if_neg w2] at hR ⊢
      rw [hR] at h
      unfold signR at h
      split at h
      · simp at h
      · rename_i n1
        have e := (Prod.mk.inj h).1
        subst e
        simp only
        have hb := best_alone (xs.drop k)
        have ht := best_text (xs.drop k) n1
        have e3 : cut xs k (k + (bestS (xs.drop k)).2) = (xs.drop k).take (bestS (xs.drop k)).2 := by unfold cut; rw [Nat.add_sub_cancel_left]
        rw [e3]
        refine ⟨?_, fun _ => ht.1, fun _ => trivial⟩
        unfold signR
        rw [List.drop_zero, hb, if_neg n1]

theorem scan_alone (xs : List UInt8) (at_ k : Nat) (t : Tok) (hs : skipTo xs at_ = k) (hk : k < xs.length) (hl : xs.length ≤ 65536) (h : nextR xs k = (t, 0)) :
    scanAll (cut xs k (k + t.len)) = ([⟨t.kind, 0, t.len, t.num⟩], 0, 0) := by
  have h2 : (nextR xs k).2 = 0 := by rw [h]
  have h1 : (nextR xs k).1 = t := by rw [h]
  have hlen := nextR_len xs k hk h2
  rw [h1] at hlen
  obtain ⟨hb, h35⟩ := skipTo_head xs at_ k hs hk
  have hN := (next_alone xs k t hk h).1
  have hd0 := getD_cut xs k (k + t.len) (by omega) hk
  have hcl : (cut xs k (k + t.len)).length = t.len := by rw [cut_len _ _ _ hlen.2]; omega
  generalize cut xs k (k + t.len) = s at *
  have hg : s[0]'(by omega) = xs[k] := by
    have e1 : s.getD 0 0 = s[0]'(by omega) := by rw [List.getD_eq_getElem?_getD, List.getElem?_eq_getElem (by omega), Option.getD_some]
    have e2 : xs.getD k 0 = xs[k] := by simp [List.getD, hk]
    rw [← e1, hd0, e2]
  have hsk : skipTo s 0 = 0 := skipTo_no s 0 (by omega) (by rw [hg]; exact hb) (by rw [hg]; exact h35)
  unfold scanAll
  rw [if_neg (by omega), hsk]
  rw [scanGo, if_pos (by omega), hN]
  simp only [if_true, Nat.zero_add, List.nil_append]
  rw [skipTo_end s t.len (by omega)]
  obtain ⟨m, hm⟩ : ∃ m, s.length = m + 1 := ⟨s.length - 1, by omega⟩
  rw [hm, scanGo, if_neg (by omega)]
end Go.Proofs.YtooondgaeoobkaaDoor
