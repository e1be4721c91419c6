import Derived.Test.YtooondgaeoobkaaDoorCovX
namespace Go.Proofs.YtooondgaeoobkaaDoor
open Go.RowKit
set_option linter.unusedVariables false
set_option linter.unusedSimpArgs false

/-! ### the tokens say what is scanned -/
theorem covers_scanGo (xs : List UInt8) : ∀ (l : List Tok) (at_ f : Nat) (acc : List Tok), at_ ≤ xs.length → Covers xs at_ l → xs.length - skipTo xs at_ < f → scanGo f xs (skipTo xs at_) acc = (acc ++ l, 0, 0)
  | [], at_, f, acc, ha, hc, hf => by
    obtain ⟨f, rfl⟩ : ∃ f', f = f' + 1 := ⟨f - 1, by omega⟩
    have hc : skipTo xs at_ = xs.length := hc
    rw [scanGo, if_neg (by omega)]
    simp
  | t :: r, at_, f, acc, ha, hc, hf => by
    obtain ⟨f, rfl⟩ : ∃ f', f = f' + 1 := ⟨f - 1, by omega⟩
    obtain ⟨q1, q2, q3, q4⟩ := hc
    have hlen := nextR_len xs t.place q2 (by rw [q3])
    rw [q3] at hlen
    simp only at hlen
    have hs := skipTo_le xs (t.place + t.len) hlen.2
    rw [q1] at hf ⊢
    rw [scanGo, if_pos q2, q3]
    simp only [if_true]
    rw [covers_scanGo xs r (t.place + t.len) f (acc ++ [t]) hlen.2 q4 (by omega)]
    simp
theorem covers_scan (xs : List UInt8) (l : List Tok) (h : Covers xs 0 l) (hl : xs.length ≤ 65536) : scanAll xs = (l, 0, 0) := by
  unfold scanAll
  rw [if_neg (by omega), covers_scanGo xs l 0 (xs.length + 1) [] (Nat.zero_le _) h (by omega)]
  simp

/-! ### what stands behind a byte that ends every token -/
def Ends (c : UInt8) : Prop := wbI c.toNat = false ∧ digI c.toNat = false ∧ wsI c.toNat = false ∧ ∀ s ∈ signsT, c ∉ s
theorem ends9 : Ends 9 := ⟨rfl, rfl, rfl, by decide⟩
theorem ends10 : Ends 10 := ⟨rfl, rfl, rfl, by decide⟩
theorem spanL_ends (p : Int → Bool) (c : UInt8) (h : p c.toNat = false) (r : List UInt8) : ∀ l : List UInt8, spanL p (l ++ c :: r) = spanL p l
  | [] => by simp [spanL, h]
  | b :: l => by
    have ih := spanL_ends p c h r l
    simp only [List.cons_append, spanL]
    rw [ih]
theorem spanTo_ends (p : Int → Bool) (c : UInt8) (h : p c.toNat = false) (r xs : List UInt8) (k : Nat) (hk : k ≤ xs.length) : spanTo p (xs ++ c :: r) k = spanTo p xs k := by
  unfold spanTo
  rw [List.drop_append_of_le_length hk, spanL_ends p c h r]
theorem cut_ends (xs r : List UInt8) (k e : Nat) (hk : k ≤ e) (he : e ≤ xs.length) : cut (xs ++ r) k e = cut xs k e := by
  unfold cut
  rw [List.drop_append_of_le_length (by omega), List.take_append_of_le_length (by simp; omega)]
theorem getD_left (xs r : List UInt8) (k : Nat) (hk : k < xs.length) : (xs ++ r).getD k 0 = xs.getD k 0 := by
  simp [List.getD, List.getElem?_append, hk]
theorem getD_at (xs r : List UInt8) (c : UInt8) : (xs ++ c :: r).getD xs.length 0 = c := by
  simp [List.getD]
theorem prefix_ends (c : UInt8) (r : List UInt8) : ∀ (s l : List UInt8), c ∉ s → s.isPrefixOf (l ++ c :: r) = s.isPrefixOf l
  | [], l, _ => by simp [List.isPrefixOf]
  | a :: s, [], h => by
    have : a ≠ c := fun e => h (by simp [e])
    simp [List.isPrefixOf, this]
  | a :: s, b :: l, h => by
    have ih := prefix_ends c r s l (fun hm => h (List.mem_cons_of_mem _ hm))
    simp only [List.cons_append, List.isPrefixOf, ih]
theorem best_ends (c : UInt8) (hc : Ends c) (r l : List UInt8) : bestS (l ++ c :: r) = bestS l :=
  bestFrom_congr _ _ signsT 40 (0, 0) (fun s hs => prefix_ends c r s l (hc.2.2.2 s hs))

theorem next_ends (c : UInt8) (hc : Ends c) (r xs : List UInt8) (k : Nat) (hk : k < xs.length) : nextR (xs ++ c :: r) k = nextR xs k := by
  obtain ⟨c1, c2, c3, c4⟩ := hc
  unfold nextR
  rw [getD_left xs (c :: r) k hk]
  have hw : wordR (xs ++ c :: r) k = wordR xs k := by
    have hle := spanTo_le wbI xs k (by omega)
    have hcut : ((xs ++ c :: r).drop k).take (spanTo wbI xs k - k) = (xs.drop k).take (spanTo wbI xs k - k) := cut_ends xs (c :: r) k (spanTo wbI xs k) hle.1 hle.2
    unfold wordR
    rw [spanTo_ends wbI c c1 r xs k (by omega), hcut]
  have hn : numR (xs ++ c :: r) k = numR xs k := by
    have hle := spanTo_le digI xs k (by omega)
    unfold numR
    rw [spanTo_ends digI c c2 r xs k (by omega), getD_left xs (c :: r) k hk, cut_ends xs (c :: r) k _ hle.1 hle.2]
    by_cases he : spanTo digI xs k < xs.length
    · rw [getD_left xs (c :: r) _ he]
      have e : (spanTo digI xs k < (xs ++ c :: r).length ∧ wsI ((xs.getD (spanTo digI xs k) 0).toNat : Int) = true) ↔ (spanTo digI xs k < xs.length ∧ wsI ((xs.getD (spanTo digI xs k) 0).toNat : Int) = true) := by
        constructor
        · intro h; exact ⟨he, h.2⟩
        · intro h; exact ⟨by simp; omega, h.2⟩
      by_cases h1 : spanTo digI xs k < xs.length ∧ wsI ((xs.getD (spanTo digI xs k) 0).toNat : Int) = true
      · rw [if_pos h1, if_pos (e.2 h1)]
      · rw [if_neg h1, if_neg (fun h => h1 (e.1 h))]
    · have he' : spanTo digI xs k = xs.length := by omega
      rw [he', getD_at]
      have n1 : ¬ (xs.length < (xs ++ c :: r).length ∧ wsI (c.toNat : Int) = true) := fun h => by rw [c3] at h; exact absurd h.2 (by simp)
      have n2 : ¬ (xs.length < xs.length ∧ wsI ((xs.getD xs.length 0).toNat : Int) = true) := fun h => absurd h.1 (by omega)
      rw [if_neg n1, if_neg n2]
  have hsg : signR (xs ++ c :: r) k = signR xs k := by
    unfold signR
    rw [List.drop_append_of_le_length (by omega), best_ends c ⟨c1, c2, c3, c4⟩]
  rw [hw, hn, hsg]

theorem skip_ends (r : List UInt8) : ∀ (l : List UInt8) (m : Bool), (skipL m l = l.length → skipL m (l ++ 10 :: r) = l.length + 1 + skipL false r) ∧ (skipL m l ≠ l.length → skipL m (l ++ 10 :: r) = skipL m l)
  | [], true => by
    have e : skipL true ([] ++ 10 :: r) = skipL false r + 1 := rfl
    exact ⟨fun _ => by rw [e]; simp; omega, fun h => absurd rfl h⟩
  | [], false => by
    have e : skipL false ([] ++ 10 :: r) = skipL false r + 1 := rfl
    exact ⟨fun _ => by rw [e]; simp; omega, fun h => absurd rfl h⟩
  | b :: l, true => by
    have i1 := skip_ends r l true
    have i2 := skip_ends r l false
    by_cases h : remI (b.toNat : Int) = true
    · have s1 : skipL true (b :: l) = skipL true l + 1 := by simp [skipL, h]
      have s2 : skipL true (b :: l ++ 10 :: r) = skipL true (l ++ 10 :: r) + 1 := by simp [skipL, h]
      rw [s1, s2]
      refine ⟨fun e => ?_, fun e => ?_⟩
      · rw [i1.1 (by simp at e; omega)]; simp; omega
      · rw [i1.2 (by simp at e; omega)]
    · have s1 : skipL true (b :: l) = skipL false l + 1 := by simp [skipL, h]
      have s2 : skipL true (b :: l ++ 10 :: r) = skipL false (l ++ 10 :: r) + 1 := by simp [skipL, h]
      rw [s1, s2]
      refine ⟨fun e => ?_, fun e => ?_⟩
      · rw [i2.1 (by simp at e; omega)]; simp; omega
      · rw [i2.2 (by simp at e; omega)]
  | b :: l, false => by
    have i1 := skip_ends r l true
    have i2 := skip_ends r l false
    by_cases h : blankI (b.toNat : Int) = true
    · have s1 : skipL false (b :: l) = skipL false l + 1 := by simp [skipL, h]
      have s2 : skipL false (b :: l ++ 10 :: r) = skipL false (l ++ 10 :: r) + 1 := by simp [skipL, h]
      rw [s1, s2]
      refine ⟨fun e => ?_, fun e => ?_⟩
      · rw [i2.1 (by simp at e; omega)]; simp; omega
      · rw [i2.2 (by simp at e; omega)]
    · by_cases h35 : ((b.toNat : Int) == 35) = true
      · have s1 : skipL false (b :: l) = skipL true l + 1 := by simp only [skipL]; rw [if_neg h, if_pos h35]
        have s2 : skipL false (b :: l ++ 10 :: r) = skipL true (l ++ 10 :: r) + 1 := by simp only [List.cons_append, skipL]; rw [if_neg h, if_pos h35]
        rw [s1, s2]
        refine ⟨fun e => ?_, fun e => ?_⟩
        · rw [i1.1 (by simp at e; omega)]; simp; omega
        · rw [i1.2 (by simp at e; omega)]
      · have s1 : skipL false (b :: l) = 0 := by simp only [skipL]; rw [if_neg h, if_neg h35]
        have s2 : skipL false (b :: l ++ 10 :: r) = 0 := by simp only [List.cons_append, skipL]; rw [if_neg h, if_neg h35]
        rw [s1, s2]
        exact ⟨fun e => by simp at e, fun _ => rfl⟩
theorem skipTo_ends (xs r : List UInt8) (k : Nat) (hk : k ≤ xs.length) (h : skipTo xs k < xs.length) : skipTo (xs ++ 10 :: r) k = skipTo xs k := by
  unfold skipTo at h ⊢
  rw [List.drop_append_of_le_length hk, (skip_ends r _ _).2 (by simp; omega)]
theorem skipTo_over (xs r : List UInt8) (k : Nat) (hk : k ≤ xs.length) (h : skipTo xs k = xs.length) : skipTo (xs ++ 10 :: r) k = xs.length + 1 + skipL false r := by
  unfold skipTo at h ⊢
  rw [List.drop_append_of_le_length hk, (skip_ends r _ _).1 (by simp; omega)]
  simp
  omega
theorem skip_blanks (r : List UInt8) : ∀ m : Nat, skipL false (List.replicate m 32 ++ r) = m + skipL false r
  | 0 => by simp
  | m + 1 => by
    have ih := skip_blanks r m
    have hb : blankI ((32 : UInt8).toNat : Int) = true := rfl
    simp only [List.replicate_succ, List.cons_append, skipL, hb, if_true]
    rw [ih]; omega

/-! ### a source behind another -/
def shiftT (n : Nat) (t : Tok) : Tok := ⟨t.kind, t.place + n, t.len, t.num⟩
theorem drop_pre (pre r : List UInt8) (k : Nat) : (pre ++ r).drop (pre.length + k) = r.drop k := by
  rw [List.drop_append]
  simp
theorem getD_pre (pre r : List UInt8) (k : Nat) : (pre ++ r).getD (pre.length + k) 0 = r.getD k 0 := by
  rw [List.getD_eq_getElem?_getD, List.getElem?_append_right (by omega), Nat.add_sub_cancel_left, List.getD_eq_getElem?_getD]
theorem spanTo_pre (p : Int → Bool) (pre r : List UInt8) (k : Nat) : spanTo p (pre ++ r) (pre.length + k) = pre.length + spanTo p r k := by
  unfold spanTo; rw [drop_pre]; omega
theorem skipTo_pre (pre r : List UInt8) (k : Nat) : skipTo (pre ++ r) (pre.length + k) = pre.length + skipTo r k := by
  unfold skipTo; rw [drop_pre]; omega
theorem next_pre (pre r : List UInt8) (k : Nat) (t : Tok) (h : nextR r k = (t, 0)) : nextR (pre ++ r) (pre.length + k) = (shiftT pre.length t, 0) := by
  have hR : nextR (pre ++ r) (pre.length + k) = if wsI ((r.getD k 0).toNat : Int) = true then wordR (pre ++ r) (pre.length + k) else if digI ((r.getD k 0).toNat : Int) = true then numR (pre ++ r) (pre.length + k) else signR (pre ++ r) (pre.length + k) := by
    unfold nextR; rw [getD_pre]
  rw [hR]
  unfold nextR at h
  have e0 : ∀ p, pre.length + spanTo p r k - (pre.length + k) = spanTo p r k - k := fun p => by omega
  by_cases h1 : wsI ((r.getD k 0).toNat : Int) = true
  · rw [if_pos h1] at h ⊢
    unfold wordR at h ⊢
    rw [spanTo_pre, drop_pre, e0]
    split at h
    · rename_i n1
      rw [if_pos n1]
      have e := (Prod.mk.inj h).1
      subst e
      simp [shiftT]; omega
    · rename_i n1
      split at h
      · simp at h
      · rename_i n2
        rw [if_neg n1, if_neg n2]
        have e := (Prod.mk.inj h).1
        subst e
        simp [shiftT]; omega
  · rw [if_neg h1] at h ⊢
    by_cases h2 : digI ((r.getD k 0).toNat : Int) = true
    · rw [if_pos h2] at h ⊢
      unfold numR at h ⊢
      have ec : cut (pre ++ r) (pre.length + k) (pre.length + spanTo digI r k) = cut r k (spanTo digI r k) := by unfold cut; rw [drop_pre, e0]
      rw [spanTo_pre, getD_pre, getD_pre, e0, ec]
      have el : (pre.length + spanTo digI r k < (pre ++ r).length) ↔ spanTo digI r k < r.length := by simp
      split at h
      · simp at h
      · rename_i n1
        rw [if_neg (fun hh => n1 ⟨el.1 hh.1, hh.2⟩)]
        split at h
        · simp at h
        · rename_i n2
          rw [if_neg n2]
          split at h
          · rename_i n3
            rw [if_pos n3]
            have e := (Prod.mk.inj h).1
            subst e
            simp [shiftT]; omega
          · simp at h
    · rw [if_neg h2] at h ⊢
      unfold signR at h ⊢
      rw [drop_pre]
      split at h
      · simp at h
      · rename_i n1
        rw [if_neg n1]
        have e := (Prod.mk.inj h).1
        subst e
        simp [shiftT]; omega
theorem covers_pre (pre r : List UInt8) : ∀ (l : List Tok) (k : Nat), Covers r k l → Covers (pre ++ r) (pre.length + k) (l.map (shiftT pre.length))
  | [], k, h => by
    have h : skipTo r k = r.length := h
    show skipTo (pre ++ r) (pre.length + k) = (pre ++ r).length
    rw [skipTo_pre, h]; simp
  | t :: l, k, h => by
    obtain ⟨q1, q2, q3, q4⟩ := h
    have ih := covers_pre pre r l _ q4
    refine ⟨?_, ?_, ?_, ?_⟩
    · rw [skipTo_pre, q1]; simp [shiftT]; omega
    · simp [shiftT]; omega
    · have := next_pre pre r t.place t q3
      have e : (shiftT pre.length t).place = pre.length + t.place := by simp [shiftT]; omega
      rw [e]; exact this
    · have e : (shiftT pre.length t).place + (shiftT pre.length t).len = pre.length + (t.place + t.len) := by simp [shiftT]; omega
      rw [e]; exact ih

/-- ONE BEHIND THE OTHER -/
theorem covers_join (one two : List UInt8) (m : Nat) (b : List Tok) (hb : Covers two 0 b) : ∀ (a : List Tok) (k : Nat), k ≤ one.length → Covers one k a →
    Covers (one ++ 10 :: (List.replicate m 32 ++ two)) k (a ++ b.map (shiftT (one.length + 1 + m)))
  | [], k, hk, h => by
    have h : skipTo one k = one.length := h
    have hpre : one ++ 10 :: (List.replicate m 32 ++ two) = (one ++ 10 :: List.replicate m 32) ++ two := by simp
    have hlen : (one ++ 10 :: List.replicate m (32 : UInt8)).length = one.length + 1 + m := by simp; omega
    have hsk : skipTo (one ++ 10 :: (List.replicate m 32 ++ two)) k = one.length + 1 + m + skipTo two 0 := by
      rw [skipTo_over one _ k hk h, skip_blanks]
      unfold skipTo; simp; omega
    cases b with
    | nil =>
      have hb : skipTo two 0 = two.length := hb
      show skipTo _ k = _
      rw [hsk, hb]; simp; omega
    | cons t b =>
      obtain ⟨q1, q2, q3, q4⟩ := hb
      have hp := covers_pre (one ++ 10 :: List.replicate m 32) two b _ q4
      have hn := next_pre (one ++ 10 :: List.replicate m 32) two t.place t q3
      rw [hlen, ← hpre] at hp hn
      have e : (shiftT (one.length + 1 + m) t).place = one.length + 1 + m + t.place := by simp [shiftT]; omega
      refine ⟨by rw [hsk, q1, e], by rw [e]; simp; omega, by rw [e]; exact hn, ?_⟩
      have e2 : (shiftT (one.length + 1 + m) t).place + (shiftT (one.length + 1 + m) t).len = one.length + 1 + m + (t.place + t.len) := by simp [shiftT]; omega
      rw [e2]; exact hp
  | t :: a, k, hk, h => by
    obtain ⟨q1, q2, q3, q4⟩ := h
    have hlen := nextR_len one t.place q2 (by rw [q3])
    rw [q3] at hlen
    simp only at hlen
    refine ⟨?_, ?_, ?_, covers_join one two m b hb a _ hlen.2 q4⟩
    · rw [skipTo_ends one _ k hk (by omega)]; exact q1
    · simp; omega
    · rw [next_ends 10 ends10 _ one t.place q2]; exact q3

theorem scan_join (one two : List UInt8) (m : Nat) (h1 : (scanAll one).2.2 = 0) (h2 : (scanAll two).2.2 = 0) (hl : (one ++ 10 :: (List.replicate m 32 ++ two)).length ≤ 65536) :
    scanAll (one ++ 10 :: (List.replicate m 32 ++ two)) = ((scanAll one).1 ++ (scanAll two).1.map (shiftT (one.length + 1 + m)), 0, 0) :=
  covers_scan _ _ (covers_join one two m _ (scan_covers two h2).1 _ 0 (Nat.zero_le _) (scan_covers one h1).1) hl

/-! ### with other blanks between -/
def sepB : List UInt8 := [9, 35, 32, 59, 10]
def wideS (one : List UInt8) : List Tok → List UInt8
  | [] => []
  | t :: r => sepB ++ (cut one t.place (t.place + t.len) ++ wideS one r)
def wideT : Nat → List Tok → List Tok
  | _, [] => []
  | n, t :: r => ⟨t.kind, n + 5, t.len, t.num⟩ :: wideT (n + 5 + t.len) r
theorem wideT_len : ∀ (l : List Tok) (n : Nat), (wideT n l).length = l.length
  | [], n => rfl
  | t :: r, n => by simp [wideT, wideT_len r]
theorem wideT_at : ∀ (l : List Tok) (n j : Nat) (h : j < l.length) (h' : j < (wideT n l).length), (wideT n l)[j].kind = l[j].kind ∧ (wideT n l)[j].len = l[j].len ∧ (wideT n l)[j].num = l[j].num
  | t :: r, n, 0, h, h' => ⟨rfl, rfl, rfl⟩
  | t :: r, n, j + 1, h, h' => wideT_at r _ j (by simpa using h) (by rw [wideT_len]; simpa using h)
theorem skip_sep (z : List UInt8) : skipL false (sepB ++ z) = 5 + skipL false z := by
  have e : skipL false (sepB ++ z) = skipL false z + 1 + 1 + 1 + 1 + 1 := rfl
  rw [e]; omega
theorem wide_head (one : List UInt8) (l : List Tok) : wideS one l = [] ∨ ∃ z, wideS one l = 9 :: z := by
  cases l with
  | nil => exact .inl rfl
  | cons t r => exact .inr ⟨_, rfl⟩
theorem covers_wide (one : List UInt8) : ∀ (l : List Tok) (k : Nat), k ≤ one.length → Covers one k l → ∀ pre : List UInt8, Covers (pre ++ wideS one l) pre.length (wideT pre.length l)
  | [], k, hk, h, pre => by
    show skipTo (pre ++ wideS one []) pre.length = _
    rw [skipTo_end _ _ (by simp [wideS])]
    simp [wideS]
  | t :: r, k, hk, h, pre => by
    obtain ⟨q1, q2, q3, q4⟩ := h
    have hlen := nextR_len one t.place q2 (by rw [q3])
    rw [q3] at hlen
    simp only at hlen
    obtain ⟨hb, h35⟩ := skipTo_head one k t.place q1 q2
    have hN := (next_alone one t.place t q2 q3).1
    have hd0 := getD_cut one t.place (t.place + t.len) (by omega) q2
    have hcl : (cut one t.place (t.place + t.len)).length = t.len := by rw [cut_len _ _ _ hlen.2]; omega
    have ih := covers_wide one r (t.place + t.len) hlen.2 q4 (pre ++ sepB ++ cut one t.place (t.place + t.len))
    have hW : wideS one (t :: r) = sepB ++ (cut one t.place (t.place + t.len) ++ wideS one r) := rfl
    rw [hW]
    have hone : one.getD t.place 0 = one[t.place] := by simp [List.getD, q2]
    rw [hone] at hd0
    generalize cut one t.place (t.place + t.len) = s at *
    have hsk0 : skipL false (s ++ wideS one r) = 0 := by
      cases s with
      | nil => simp at hcl; omega
      | cons c s' =>
        have hc : c = one[t.place] := by simpa [List.getD] using hd0
        simp only [List.cons_append, skipL]
        rw [hc, if_neg (by rw [hb]; simp), if_neg (by rw [h35]; simp)]
    have hnx : nextR (s ++ wideS one r) 0 = (⟨t.kind, 0, t.len, t.num⟩, 0) := by
      rcases wide_head one r with e | ⟨z, e⟩
      · rw [e, List.append_nil]; exact hN
      · rw [e, next_ends 9 ends9 z s 0 (by omega)]; exact hN
    have e5 : (pre ++ sepB).length = pre.length + 5 := by simp [sepB]
    have eA : pre ++ (sepB ++ (s ++ wideS one r)) = (pre ++ sepB) ++ (s ++ wideS one r) := by simp
    have eB : pre ++ (sepB ++ (s ++ wideS one r)) = (pre ++ sepB ++ s) ++ wideS one r := by simp
    refine ⟨?_, ?_, ?_, ?_⟩
    · show skipTo _ _ = pre.length + 5
      have : skipTo (pre ++ (sepB ++ (s ++ wideS one r))) (pre.length + 0) = pre.length + skipTo (sepB ++ (s ++ wideS one r)) 0 := skipTo_pre _ _ _
      rw [Nat.add_zero] at this
      rw [this]
      unfold skipTo
      rw [List.drop_zero, skip_sep, hsk0]
    · show pre.length + 5 < _
      simp [sepB]; omega
    · show nextR _ (pre.length + 5) = _
      have := next_pre (pre ++ sepB) (s ++ wideS one r) 0 _ hnx
      rw [Nat.add_zero, e5] at this
      rw [eA, this]
      simp [shiftT]
    · show Covers _ (pre.length + 5 + t.len) (wideT (pre.length + 5 + t.len) r)
      rw [eB]
      have : (pre ++ sepB ++ s).length = pre.length + 5 + t.len := by simp [sepB]; omega
      rw [this] at ih
      exact ih
theorem scan_wide (one : List UInt8) (h1 : (scanAll one).2.2 = 0) (hl : (wideS one (scanAll one).1).length ≤ 65536) : scanAll (wideS one (scanAll one).1) = (wideT 0 (scanAll one).1, 0, 0) :=
  covers_scan _ _ (covers_wide one _ 0 (Nat.zero_le _) (scan_covers one h1).1 []) hl
end Go.Proofs.YtooondgaeoobkaaDoor
