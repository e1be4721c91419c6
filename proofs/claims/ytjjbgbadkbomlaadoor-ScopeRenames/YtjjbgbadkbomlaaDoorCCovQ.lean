import Derived.Test.YtjjbgbadkbomlaaDoorCNext
import Derived.Test.YtjjbgbadkbomlaaDoorCTName
namespace Go.Proofs.YtjjbgbadkbomlaaDoor
open Go.RowKit
set_option linter.unusedVariables false
set_option linter.unusedSimpArgs false

theorem skip_again : ∀ (l : List UInt8) (m : Bool), skipL false (l.drop (skipL m l)) = 0
  | [], m => by cases m <;> rfl
  | c :: r, true => by
    have ih1 := skip_again r true
    have ih2 := skip_again r false
    simp only [skipL]
    cases h : remI (c.toNat : Int)
    · simp only [Bool.false_eq_true, if_false, List.drop_succ_cons]; exact ih2
    · simp only [if_true, List.drop_succ_cons]; exact ih1
  | c :: r, false => by
    have ih1 := skip_again r true
    have ih2 := skip_again r false
    simp only [skipL]
    cases hb : blankI (c.toNat : Int)
    · cases h35 : ((c.toNat : Int) == 35)
      · simp [skipL, hb, h35]
      · simp only [Bool.false_eq_true, if_false, if_true, List.drop_succ_cons]; exact ih1
    · simp only [if_true, List.drop_succ_cons]; exact ih2
theorem skipTo_head (xs : List UInt8) (at_ k : Nat) (hk : skipTo xs at_ = k) (hl : k < xs.length) : blankI (xs[k].toNat : Int) = false ∧ ((xs[k].toNat : Int) == 35) = false := by
  have h := skip_again (xs.drop at_) false
  rw [List.drop_drop] at h
  have e : at_ + skipL false (xs.drop at_) = k := hk
  rw [e, drop_at xs k hl] at h
  simp only [skipL] at h
  cases hb : blankI (xs[k].toNat : Int)
  · cases h35 : ((xs[k].toNat : Int) == 35)
    · exact ⟨rfl, rfl⟩
    · rw [hb, h35] at h; simp at h
  · rw [hb] at h; simp at h
def Covers (xs : List UInt8) : Nat → List Tok → Prop
  | k, [] => skipTo xs k = xs.length
  | k, t :: r => skipTo xs k = t.place ∧ t.place < xs.length ∧ nextR xs t.place = (t, 0) ∧ Covers xs (t.place + t.len) r
theorem nextR_place (xs : List UInt8) (k : Nat) (h : (nextR xs k).2 = 0) : (nextR xs k).1.place = k := by
  unfold nextR at h ⊢
  split at h
  · rename_i h1
    rw [if_pos h1]
    unfold wordR at h ⊢
    split at h
    · rename_i n1; rw [if_pos n1]
    · rename_i n1
      split at h
      · simp at h
      · rename_i n2; rw [if_neg n1, if_neg n2]
  · rename_i h1
    rw [if_neg h1]
    split at h
    · rename_i h2
      rw [if_pos h2]
      unfold numR at h ⊢
      split at h
      · simp at h
      · rename_i n1
        split at h
        · simp at h
        · rename_i n2
          split at h
          · rename_i n3; rw [if_neg n1, if_neg n2, if_pos n3]
          · simp at h
    · rename_i h2
      rw [if_neg h2]
      unfold signR at h ⊢
      split at h
      · simp at h
      · rename_i n1; rw [if_neg n1]
theorem scanGo_covers (xs : List UInt8) : ∀ (f k at_ : Nat) (acc l : List Tok) (a c : Nat), skipTo xs at_ = k → k ≤ xs.length → xs.length - k < f → scanGo f xs k acc = (l, a, c) →
    (c = 0 → ∃ r, l = acc ++ r ∧ Covers xs at_ r) ∧ (c ≠ 0 → l = [] ∧ a ≤ xs.length)
  | 0, k, at_, acc, l, a, c, _, _, hf, _ => absurd hf (Nat.not_lt_zero _)
  | f + 1, k, at_, acc, l, a, c, hk, hl, hf, h => by
    rw [scanGo] at h
    by_cases hlt : k < xs.length
    · rw [if_pos hlt] at h
      by_cases h0 : (nextR xs k).2 = 0
      · rw [if_pos h0] at h
        have hlen := nextR_len xs k hlt h0
        have hpl := nextR_place xs k h0
        have hs := skipTo_le xs (k + (nextR xs k).1.len) hlen.2
        obtain ⟨i1, i2⟩ := scanGo_covers xs f _ (k + (nextR xs k).1.len) _ l a c rfl hs.2 (by omega) h
        refine ⟨fun hc => ?_, i2⟩
        obtain ⟨r, e, hcov⟩ := i1 hc
        refine ⟨(nextR xs k).1 :: r, by rw [e]; simp, ?_⟩
        refine ⟨by rw [hpl]; exact hk, by rw [hpl]; exact hlt, ?_, by rw [hpl]; exact hcov⟩
        rw [hpl]
        exact Prod.ext rfl h0
      · rw [if_neg h0] at h
        have e1 := congrArg (·.1) h
        have e2 := congrArg (·.2.1) h
        have e3 := congrArg (·.2.2) h
        simp only at e1 e2 e3
        refine ⟨fun hc => absurd (e3.trans hc) h0, fun _ => ⟨e1.symm, by omega⟩⟩
    · rw [if_neg hlt] at h
      have e1 := congrArg (·.1) h
      have e3 := congrArg (·.2.2) h
      simp only at e1 e3
      refine ⟨fun _ => ⟨[], by simp [e1], ?_⟩, fun hc => absurd e3.symm hc⟩
      show skipTo xs at_ = xs.length
      omega
theorem scan_covers (xs : List UInt8) (h : (scanAll xs).2.2 = 0) : Covers xs 0 (scanAll xs).1 ∧ xs.length ≤ 65536 := by
  unfold scanAll at h ⊢
  by_cases hl : 65536 < xs.length
  · rw [if_pos hl] at h; simp at h
  · rw [if_neg hl] at h ⊢
    have hs := skipTo_le xs 0 (Nat.zero_le _)
    generalize hg : scanGo (xs.length + 1) xs (skipTo xs 0) [] = R at h ⊢
    obtain ⟨l, a, c⟩ := R
    obtain ⟨h1, _⟩ := scanGo_covers xs (xs.length + 1) (skipTo xs 0) 0 [] l a c rfl hs.2 (by omega) hg
    obtain ⟨r, e, hc⟩ := h1 h
    have e' : l = r := by simpa using e
    exact ⟨by rw [e']; exact hc, by omega⟩
theorem scan_fault (xs : List UInt8) (h : (scanAll xs).2.2 ≠ 0) : (scanAll xs).1 = [] ∧ (scanAll xs).2.1 ≤ xs.length := by
  unfold scanAll at h ⊢
  by_cases hl : 65536 < xs.length
  · rw [if_pos hl]; exact ⟨rfl, by simp only; omega⟩
  · rw [if_neg hl] at h ⊢
    have hs := skipTo_le xs 0 (Nat.zero_le _)
    generalize hg : scanGo (xs.length + 1) xs (skipTo xs 0) [] = R at h ⊢
    obtain ⟨l, a, c⟩ := R
    obtain ⟨_, h2⟩ := scanGo_covers xs (xs.length + 1) (skipTo xs 0) 0 [] l a c rfl hs.2 (by omega) hg
    exact h2 h
theorem bestFrom_spec (l : List UInt8) : ∀ (T : List (List UInt8)) (n : Nat) (acc : Nat × Nat),
    acc.2 ≤ (bestFrom T n acc l).2 ∧ (∀ s ∈ T, s.isPrefixOf l = true → s.length ≤ (bestFrom T n acc l).2) ∧
    (bestFrom T n acc l = acc ∨ ∃ i, i < T.length ∧ (bestFrom T n acc l).1 = n + i ∧ (T.getD i []).isPrefixOf l = true ∧ (T.getD i []).length = (bestFrom T n acc l).2)
  | [], n, acc => by
    refine ⟨Nat.le_refl _, ?_, .inl rfl⟩
    intro s h
    exact absurd h (List.not_mem_nil)
  | s :: r, n, acc => by
    simp only [bestFrom]
    by_cases hc : acc.2 < s.length ∧ s.isPrefixOf l = true
    · rw [if_pos hc]
      obtain ⟨h1, h2, h3⟩ := bestFrom_spec l r (n + 1) (n, s.length)
      simp only at h1
      refine ⟨by omega, ?_, ?_⟩
      · intro s' hs' hp
        rcases List.mem_cons.1 hs' with rfl | hs'
        · exact h1
        · exact h2 s' hs' hp
      · right
        rcases h3 with h3 | ⟨i, a1, a2, a3, a4⟩
        · refine ⟨0, by simp, by rw [h3]; rfl, by simpa using hc.2, by rw [h3]; rfl⟩
        · exact ⟨i + 1, by simp; omega, by omega, by simpa using a3, by simpa using a4⟩
    · rw [if_neg hc]
      obtain ⟨h1, h2, h3⟩ := bestFrom_spec l r (n + 1) acc
      refine ⟨h1, ?_, ?_⟩
      · intro s' hs' hp
        rcases List.mem_cons.1 hs' with rfl | hs'
        · have : ¬ acc.2 < s'.length := fun h => hc ⟨h, hp⟩
          omega
        · exact h2 s' hs' hp
      · rcases h3 with h3 | ⟨i, a1, a2, a3, a4⟩
        · exact .inl h3
        · exact .inr ⟨i + 1, by simp; omega, by omega, by simpa using a3, by simpa using a4⟩
theorem bestFrom_congr (l l' : List UInt8) : ∀ (T : List (List UInt8)) (n : Nat) (acc : Nat × Nat), (∀ s ∈ T, s.isPrefixOf l = s.isPrefixOf l') → bestFrom T n acc l = bestFrom T n acc l'
  | [], n, acc, _ => rfl
  | s :: r, n, acc, h => by
    simp only [bestFrom]
    rw [h s (List.mem_cons_self), bestFrom_congr l l' r _ _ (fun s' hs' => h s' (List.mem_cons_of_mem _ hs'))]
theorem covers_scanGo (xs : List UInt8) : ∀ (l : List Tok) (at_ f : Nat) (acc : List Tok), at_ ≤ xs.length → Covers xs at_ l → xs.length - skipTo xs at_ < f → scanGo f xs (skipTo xs at_) acc = (acc ++ l, 0, 0)
  | [], at_, f, acc, ha, hc, hf => by
    obtain ⟨f, rfl⟩ : ∃ f', f = f' + 1 := ⟨f - 1, by omega⟩
    have hc : skipTo xs at_ = xs.length := hc
    rw [scanGo, if_neg (by omega)]
    simp
  | t :: r, at_, f, acc, ha, hc, hf => by
    obtain ⟨f, rfl⟩ : ∃ f', f = f' + 1 := ⟨f - 1, by omega⟩
    obtain ⟨q1, q2, q3, q4⟩ := hc
    have hlen := nextR_len xs t.place q2 (by rw [q3])
    rw [q3] at hlen
    simp only at hlen
    have hs := skipTo_le xs (t.place + t.len) hlen.2
    rw [q1] at hf ⊢
    rw [scanGo, if_pos q2, q3]
    simp only [if_true]
    rw [covers_scanGo xs r (t.place + t.len) f (acc ++ [t]) hlen.2 q4 (by omega)]
    simp
theorem covers_scan (xs : List UInt8) (l : List Tok) (h : Covers xs 0 l) (hl : xs.length ≤ 65536) : scanAll xs = (l, 0, 0) := by
  unfold scanAll
  rw [if_neg (by omega), covers_scanGo xs l 0 (xs.length + 1) [] (Nat.zero_le _) h (by omega)]
  simp
def Ends (c : UInt8) : Prop := wbI c.toNat = false ∧ digI c.toNat = false ∧ wsI c.toNat = false ∧ ∀ s ∈ signsT, c ∉ s
theorem spanL_ends (p : Int → Bool) (c : UInt8) (h : p c.toNat = false) (r : List UInt8) : ∀ l : List UInt8, spanL p (l ++ c :: r) = spanL p l
  | [] => by simp [spanL, h]
  | b :: l => by
    have ih := spanL_ends p c h r l
    simp only [List.cons_append, spanL]
    rw [ih]
theorem spanTo_ends (p : Int → Bool) (c : UInt8) (h : p c.toNat = false) (r xs : List UInt8) (k : Nat) (hk : k ≤ xs.length) : spanTo p (xs ++ c :: r) k = spanTo p xs k := by
  unfold spanTo
  rw [List.drop_append_of_le_length hk, spanL_ends p c h r]
theorem cut_ends (xs r : List UInt8) (k e : Nat) (hk : k ≤ e) (he : e ≤ xs.length) : cut (xs ++ r) k e = cut xs k e := by
  unfold cut
  rw [List.drop_append_of_le_length (by omega), List.take_append_of_le_length (by simp; omega)]
theorem getD_left (xs r : List UInt8) (k : Nat) (hk : k < xs.length) : (xs ++ r).getD k 0 = xs.getD k 0 := by
  simp [List.getD, List.getElem?_append, hk]
theorem getD_at (xs r : List UInt8) (c : UInt8) : (xs ++ c :: r).getD xs.length 0 = c := by
  simp [List.getD]
theorem prefix_ends (c : UInt8) (r : List UInt8) : ∀ (s l : List UInt8), c ∉ s → s.isPrefixOf (l ++ c :: r) = s.isPrefixOf l
  | [], l, _ => by simp [List.isPrefixOf]
  | a :: s, [], h => by
    have : a ≠ c := fun e => h (by simp [e])
    simp [List.isPrefixOf, this]
  | a :: s, b :: l, h => by
    have ih := prefix_ends c r s l (fun hm => h (List.mem_cons_of_mem _ hm))
    simp only [List.cons_append, List.isPrefixOf, ih]
theorem best_ends (c : UInt8) (hc : Ends c) (r l : List UInt8) : bestS (l ++ c :: r) = bestS l :=
  bestFrom_congr _ _ signsT 40 (0, 0) (fun s hs => prefix_ends c r s l (hc.2.2.2 s hs))
theorem next_ends (c : UInt8) (hc : Ends c) (r xs : List UInt8) (k : Nat) (hk : k < xs.length) : nextR (xs ++ c :: r) k = nextR xs k := by
  obtain ⟨c1, c2, c3, c4⟩ := hc
  unfold nextR
  rw [getD_left xs (c :: r) k hk]
  have hw : wordR (xs ++ c :: r) k = wordR xs k := by
    have hle := spanTo_le wbI xs k (by omega)
    have hcut : ((xs ++ c :: r).drop k).take (spanTo wbI xs k - k) = (xs.drop k).take (spanTo wbI xs k - k) := cut_ends xs (c :: r) k (spanTo wbI xs k) hle.1 hle.2
    unfold wordR
    rw [spanTo_ends wbI c c1 r xs k (by omega), hcut]
  have hn : numR (xs ++ c :: r) k = numR xs k := by
    have hle := spanTo_le digI xs k (by omega)
    unfold numR
    rw [spanTo_ends digI c c2 r xs k (by omega), getD_left xs (c :: r) k hk, cut_ends xs (c :: r) k _ hle.1 hle.2]
    by_cases he : spanTo digI xs k < xs.length
    · rw [getD_left xs (c :: r) _ he]
      have e : (spanTo digI xs k < (xs ++ c :: r).length ∧ wsI ((xs.getD (spanTo digI xs k) 0).toNat : Int) = true) ↔ (spanTo digI xs k < xs.length ∧ wsI ((xs.getD (spanTo digI xs k) 0).toNat : Int) = true) := by
        constructor
        · intro h; exact ⟨he, h.2⟩
        · intro h; exact ⟨by simp; omega, h.2⟩
      by_cases h1 : spanTo digI xs k < xs.length ∧ wsI ((xs.getD (spanTo digI xs k) 0).toNat : Int) = true
      · rw [if_pos h1, if_pos (e.2 h1)]
      · rw [if_neg h1, if_neg (fun h => h1 (e.1 h))]
    · have he' : spanTo digI xs k = xs.length := by omega
      rw [he', getD_at]
      have n1 : ¬ (xs.length < (xs ++ c :: r).length ∧ wsI (c.toNat : Int) = true) := fun h => by rw [c3] at h; exact absurd h.2 (by simp)
      have n2 : ¬ (xs.length < xs.length ∧ wsI ((xs.getD xs.length 0).toNat : Int) = true) := fun h => absurd h.1 (by omega)
      rw [if_neg n1, if_neg n2]
  have hsg : signR (xs ++ c :: r) k = signR xs k := by
    unfold signR
    rw [List.drop_append_of_le_length (by omega), best_ends c ⟨c1, c2, c3, c4⟩]
  rw [hw, hn, hsg]
def shiftT (n : Nat) (t : Tok) : Tok := ⟨t.kind, t.place + n, t.len, t.num⟩
theorem drop_pre (pre r : List UInt8) (k : Nat) : (pre ++ r).drop (pre.length + k) = r.drop k := by
  rw [List.drop_append]
  simp
theorem getD_pre (pre r : List UInt8) (k : Nat) : (pre ++ r).getD (pre.length + k) 0 = r.getD k 0 := by
  rw [List.getD_eq_getElem?_getD, List.getElem?_append_right (by omega), Nat.add_sub_cancel_left, List.getD_eq_getElem?_getD]
theorem spanTo_pre (p : Int → Bool) (pre r : List UInt8) (k : Nat) : spanTo p (pre ++ r) (pre.length + k) = pre.length + spanTo p r k := by
  unfold spanTo; rw [drop_pre]; omega
theorem skipTo_pre (pre r : List UInt8) (k : Nat) : skipTo (pre ++ r) (pre.length + k) = pre.length + skipTo r k := by
  unfold skipTo; rw [drop_pre]; omega
theorem next_pre (pre r : List UInt8) (k : Nat) (t : Tok) (h : nextR r k = (t, 0)) : nextR (pre ++ r) (pre.length + k) = (shiftT pre.length t, 0) := by
  have hR : nextR (pre ++ r) (pre.length + k) = if wsI ((r.getD k 0).toNat : Int) = true then wordR (pre ++ r) (pre.length + k) else if digI ((r.getD k 0).toNat : Int) = true then numR (pre ++ r) (pre.length + k) else signR (pre ++ r) (pre.length + k) := by
    unfold nextR; rw [getD_pre]
  rw [hR]
  unfold nextR at h
  have e0 : ∀ p, pre.length + spanTo p r k - (pre.length + k) = spanTo p r k - k := fun p => by omega
  by_cases h1 : wsI ((r.getD k 0).toNat : Int) = true
  · rw [if_pos h1] at h ⊢
    unfold wordR at h ⊢
    rw [spanTo_pre, drop_pre, e0]
    split at h
    · rename_i n1
      rw [if_pos n1]
      have e := (Prod.mk.inj h).1
      subst e
      simp [shiftT]; omega
    · rename_i n1
      split at h
      · simp at h
      · rename_i n2
        rw [if_neg n1, if_neg n2]
        have e := (Prod.mk.inj h).1
        subst e
        simp [shiftT]; omega
  · rw [if_neg h1] at h ⊢
    by_cases h2 : digI ((r.getD k 0).toNat : Int) = true
    · rw [if_pos h2] at h ⊢
      unfold numR at h ⊢
      have ec : cut (pre ++ r) (pre.length + k) (pre.length + spanTo digI r k) = cut r k (spanTo digI r k) := by unfold cut; rw [drop_pre, e0]
      rw [spanTo_pre, getD_pre, getD_pre, e0, ec]
      have el : (pre.length + spanTo digI r k < (pre ++ r).length) ↔ spanTo digI r k < r.length := by simp
      split at h
      · simp at h
      · rename_i n1
        rw [if_neg (fun hh => n1 ⟨el.1 hh.1, hh.2⟩)]
        split at h
        · simp at h
        · rename_i n2
          rw [if_neg n2]
          split at h
          · rename_i n3
            rw [if_pos n3]
            have e := (Prod.mk.inj h).1
            subst e
            simp [shiftT]; omega
          · simp at h
    · rw [if_neg h2] at h ⊢
      unfold signR at h ⊢
      rw [drop_pre]
      split at h
      · simp at h
      · rename_i n1
        rw [if_neg n1]
        have e := (Prod.mk.inj h).1
        subst e
        simp [shiftT]; omega
theorem covers_pre (pre r : List UInt8) : ∀ (l : List Tok) (k : Nat), Covers r k l → Covers (pre ++ r) (pre.length + k) (l.map (shiftT pre.length))
  | [], k, h => by
    have h : skipTo r k = r.length := h
    show skipTo (pre ++ r) (pre.length + k) = (pre ++ r).length
    rw [skipTo_pre, h]; simp
  | t :: l, k, h => by
    obtain ⟨q1, q2, q3, q4⟩ := h
    have ih := covers_pre pre r l _ q4
    refine ⟨?_, ?_, ?_, ?_⟩
    · rw [skipTo_pre, q1]; simp [shiftT]; omega
    · simp [shiftT]; omega
    · have := next_pre pre r t.place t q3
      have e : (shiftT pre.length t).place = pre.length + t.place := by simp [shiftT]; omega
      rw [e]; exact this
    · have e : (shiftT pre.length t).place + (shiftT pre.length t).len = pre.length + (t.place + t.len) := by simp [shiftT]; omega
      rw [e]; exact ih
end Go.Proofs.YtjjbgbadkbomlaaDoor
namespace Go.Proofs.YtjjbgbadkbomlaaDoor
open Go.RowKit
set_option linter.unusedVariables false
set_option linter.unusedSimpArgs false

theorem kindFrom_geR : ∀ (T : List (List UInt8)) (n : Nat) (t : List UInt8), kindFrom T n t ≠ 0 → n ≤ kindFrom T n t
  | [], n, t, h => absurd rfl h
  | x :: r, n, t, h => by
    simp only [kindFrom] at h ⊢
    split
    · omega
    · rename_i hx
      rw [if_neg hx] at h
      have := kindFrom_geR r (n + 1) t h
      omega
theorem wordK_geR (t : List UInt8) (h : wordK t ≠ 0) : 10 ≤ wordK t := kindFrom_geR _ _ _ h
theorem best_geR (l : List UInt8) (h : ¬ (bestS l).2 = 0) : 40 ≤ (bestS l).1 := by
  rcases (bestFrom_spec l signsT 40 (0, 0)).2.2 with h3 | ⟨i, a1, a2, a3, a4⟩
  · have : bestS l = (0, 0) := h3
    rw [this] at h
    simp at h
  · have e : (bestS l).1 = 40 + i := a2
    omega
theorem nameOk_nextR {xs : List UInt8} (h : nameOk xs = true) : nextR xs 0 = (⟨1, 0, xs.length, 0⟩, 0) ∧ xs.length ≤ 32 ∧ spanTo wbI xs 0 = xs.length ∧ 0 < xs.length ∧ wsI ((xs.getD 0 0).toNat : Int) = true ∧ wordK xs = 0 := by
  unfold nameOk at h
  have hc : (scanAll xs).2.2 = 0 := by
    by_cases e : (scanAll xs).2.2 = 0
    · exact e
    · rw [(scan_fault xs e).1] at h
      simp [nameToks] at h
  have hcov := (scan_covers xs hc).1
  match ht : (scanAll xs).1, h with
  | [t], h =>
    rw [ht] at hcov
    simp only [nameToks, Bool.and_eq_true, beq_iff_eq] at h
    obtain ⟨q1, q2, q3, _⟩ := hcov
    have hlen := nextR_len xs t.place q2 (by rw [q3])
    rw [q3] at hlen
    simp only at hlen
    have hp : t.place = 0 := by omega
    have hl : t.len = xs.length := by omega
    have hk : t.kind = 1 := by omega
    rw [hp] at q3
    have q4 := q3
    unfold nextR at q3
    split at q3
    · rename_i hw
      unfold wordR at q3
      split at q3
      · rename_i n1
        have e := (Prod.mk.inj q3).1
        have := wordK_geR _ n1
        rw [← e] at hk
        simp only at hk
        omega
      · rename_i n1
        split at q3
        · simp at q3
        · rename_i n2
          have e := (Prod.mk.inj q3).1
          rw [← e] at hl
          simp only [Nat.sub_zero] at hl
          rw [Nat.sub_zero] at n2
          refine ⟨?_, by omega, hl, by omega, hw, ?_⟩
          · rw [q4, ← e]
            simp [hl]
          · have n1' := Classical.not_not.1 n1
            rw [List.drop_zero, Nat.sub_zero, hl, List.take_length] at n1'
            exact n1'
    · split at q3
      · unfold numR at q3
        repeat' split at q3
        all_goals first
          | (simp at q3; done)
          | (have e := (Prod.mk.inj q3).1
             rw [← e] at hk
             simp at hk)
      · unfold signR at q3
        split at q3
        · simp at q3
        · rename_i n1
          have e := (Prod.mk.inj q3).1
          have := best_geR _ n1
          rw [← e] at hk
          simp only at hk
          omega
  | [], h => simp [nameToks] at h
  | _ :: _ :: _, h => simp [nameToks] at h
end Go.Proofs.YtjjbgbadkbomlaaDoor
