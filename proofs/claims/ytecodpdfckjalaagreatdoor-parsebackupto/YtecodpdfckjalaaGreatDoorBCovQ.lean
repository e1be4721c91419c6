import Derived.Test.YtecodpdfckjalaaGreatDoorBSign
import Derived.Test.YtecodpdfckjalaaGreatDoorBPlain
set_option linter.unusedVariables false
set_option linter.unusedSimpArgs false
set_option maxHeartbeats 4000000
set_option maxRecDepth 100000
namespace Go.Proofs.YtecodpdfckjalaaGreatDoor
open Go.RowKit
def iT (xs : List UInt8) : Nat -> List Tok -> Prop
 | k, [] => bL xs k = xs.length
 | k, t :: r => bL xs k = t.place /\ t.place < xs.length /\ bR xs t.place = (t, 0) /\ iT xs (t.place + t.len) r
theorem wG (xs : List UInt8) (k : Nat) (h : (bR xs k).2 = 0) : (bR xs k).1.place = k := by
 unfold bR at h ⊢
 split at h
 ·rename_i h1
  rw [if_pos h1]
  unfold iZ at h ⊢
  split at h
  ·rename_i n1; rw [if_pos n1]
  ·rename_i n1
   split at h
   ·simp at h
   ·rename_i n2; rw [if_neg n1, if_neg n2]
 ·rename_i h1
  rw [if_neg h1]
  split at h
  ·rename_i h2
   rw [if_pos h2]
   unfold kJ at h ⊢
   split at h
   ·simp at h
   ·rename_i n1
    split at h
    ·simp at h
    ·rename_i n2
     split at h
     ·rename_i n3; rw [if_neg n1, if_neg n2, if_pos n3]
     ·simp at h
  ·rename_i h2
   rw [if_neg h2]
   unfold iq at h ⊢
   split at h
   ·simp at h
   ·rename_i n1; rw [if_neg n1]
theorem jB (xs : List UInt8) : ∀ (f k at_ : Nat) (acc l : List Tok) (a c : Nat), bL xs at_ = k -> k <= xs.length -> xs.length - k < f -> iH f xs k acc = (l, a, c) ->
  (c = 0 -> ∃ r, l = acc ++ r /\ iT xs at_ r) /\ (c ≠ 0 -> l = [] /\ a <= xs.length)
 | 0, k, at_, acc, l, a, c, _, _, hf, _ => absurd hf (Nat.not_lt_zero _)
 | f + 1, k, at_, acc, l, a, c, hk, hl, hf, h => by
  rw [iH] at h
  by_cases hlt : k < xs.length
  ·rw [if_pos hlt] at h
   by_cases h0 : (bR xs k).2 = 0
   ·rw [if_pos h0] at h
    have hlen := jg xs k hlt h0
    have hpl := wG xs k h0
    have hs := iG xs (k + (bR xs k).1.len) hlen.2
    obtain ⟨i1, i2⟩ := jB xs f _ (k + (bR xs k).1.len) _ l a c rfl hs.2 (by omega) h
    refine ⟨fun hc => ?_, i2⟩
    obtain ⟨r, e, hcov⟩ := i1 hc
    refine ⟨(bR xs k).1 :: r, by rw [e]; simp, ?_⟩
    refine ⟨by rw [hpl]; exact hk, by rw [hpl]; exact hlt, ?_, by rw [hpl]; exact hcov⟩
    rw [hpl]
    exact Prod.ext rfl h0
   ·rw [if_neg h0] at h
    have e1 := congrArg (·.1) h
    have e2 := congrArg (·.2.1) h
    have e3 := congrArg (·.2.2) h
    simp only at e1 e2 e3
    refine ⟨fun hc => absurd (e3.trans hc) h0, fun _ => ⟨e1.symm, by omega⟩⟩
  ·rw [if_neg hlt] at h
   have e1 := congrArg (·.1) h
   have e3 := congrArg (·.2.2) h
   simp only at e1 e3
   refine ⟨fun _ => ⟨[], by simp [e1], ?_⟩, fun hc => absurd e3.symm hc⟩
   show bL xs at_ = xs.length
   omega
theorem kM (xs : List UInt8) (h : (aB xs).2.2 = 0) : iT xs 0 (aB xs).1 /\ xs.length <= 65536 := by
 unfold aB at h ⊢
 by_cases hl : 65536 < xs.length
 ·rw [if_pos hl] at h; simp at h
 ·rw [if_neg hl] at h ⊢
  have hs := iG xs 0 (Nat.zero_le _)
  generalize hg : iH (xs.length + 1) xs (bL xs 0) [] = R at h ⊢
  obtain ⟨l, a, c⟩ := R
  obtain ⟨h1, _⟩ := jB xs (xs.length + 1) (bL xs 0) 0 [] l a c rfl hs.2 (by omega) hg
  obtain ⟨r, e, hc⟩ := h1 h
  have e' : l = r := by simpa using e
  exact ⟨by rw [e']; exact hc, by omega⟩
theorem yx (xs : List UInt8) (h : (aB xs).2.2 ≠ 0) : (aB xs).1 = [] /\ (aB xs).2.1 <= xs.length := by
 unfold aB at h ⊢
 by_cases hl : 65536 < xs.length
 ·rw [if_pos hl]; exact ⟨rfl, by simp only; omega⟩
 ·rw [if_neg hl] at h ⊢
  have hs := iG xs 0 (Nat.zero_le _)
  generalize hg : iH (xs.length + 1) xs (bL xs 0) [] = R at h ⊢
  obtain ⟨l, a, c⟩ := R
  obtain ⟨_, h2⟩ := jB xs (xs.length + 1) (bL xs 0) 0 [] l a c rfl hs.2 (by omega) hg
  exact h2 h
theorem iN (l : List UInt8) : ∀ (T : List (List UInt8)) (n : Nat) (acc : Nat × Nat),
  acc.2 <= (dh T n acc l).2 /\ (∀ s ∈ T, s.isPrefixOf l = true -> s.length <= (dh T n acc l).2) /\
  (dh T n acc l = acc ∨ ∃ i, i < T.length /\ (dh T n acc l).1 = n + i /\ (T.getD i []).isPrefixOf l = true /\ (T.getD i []).length = (dh T n acc l).2)
 | [], n, acc => by
  refine ⟨Nat.le_refl _, ?_, .inl rfl⟩
  intro s h
  exact absurd h (List.not_mem_nil)
 | s :: r, n, acc => by
  simp only [dh]
  by_cases hc : acc.2 < s.length /\ s.isPrefixOf l = true
  ·rw [if_pos hc]
   obtain ⟨h1, h2, h3⟩ := iN l r (n + 1) (n, s.length)
   simp only at h1
   refine ⟨by omega, ?_, ?_⟩
   ·intro s' hs' hp
    rcases List.mem_cons.1 hs' with rfl | hs'
    ·exact h1
    ·exact h2 s' hs' hp
   ·right
    rcases h3 with h3 | ⟨i, a1, a2, a3, a4⟩
    ·refine ⟨0, by simp, by rw [h3]; rfl, by simpa using hc.2, by rw [h3]; rfl⟩
    ·exact ⟨i + 1, by simp; omega, by omega, by simpa using a3, by simpa using a4⟩
  ·rw [if_neg hc]
   obtain ⟨h1, h2, h3⟩ := iN l r (n + 1) acc
   refine ⟨h1, ?_, ?_⟩
   ·intro s' hs' hp
    rcases List.mem_cons.1 hs' with rfl | hs'
    ·have : ¬ acc.2 < s'.length := fun h => hc ⟨h, hp⟩
     omega
    ·exact h2 s' hs' hp
   ·rcases h3 with h3 | ⟨i, a1, a2, a3, a4⟩
    ·exact .inl h3
    ·exact .inr ⟨i + 1, by simp; omega, by omega, by simpa using a3, by simpa using a4⟩
theorem kN (l l' : List UInt8) : ∀ (T : List (List UInt8)) (n : Nat) (acc : Nat × Nat), (∀ s ∈ T, s.isPrefixOf l = s.isPrefixOf l') -> dh T n acc l = dh T n acc l'
 | [], n, acc, _ => rfl
 | s :: r, n, acc, h => by
  simp only [dh]
  rw [h s (List.mem_cons_self), kN l l' r _ _ (fun s' hs' => h s' (List.mem_cons_of_mem _ hs'))]
theorem lU (xs : List UInt8) : ∀ (l : List Tok) (at_ f : Nat) (acc : List Tok), at_ <= xs.length -> iT xs at_ l -> xs.length - bL xs at_ < f -> iH f xs (bL xs at_) acc = (acc ++ l, 0, 0)
 | [], at_, f, acc, ha, hc, hf => by
  obtain ⟨f, rfl⟩ : ∃ f', f = f' + 1 := ⟨f - 1, by omega⟩
  have hc : bL xs at_ = xs.length := hc
  rw [iH, if_neg (by omega)]
  simp
 | t :: r, at_, f, acc, ha, hc, hf => by
  obtain ⟨f, rfl⟩ : ∃ f', f = f' + 1 := ⟨f - 1, by omega⟩
  obtain ⟨q1, q2, q3, q4⟩ := hc
  have hlen := jg xs t.place q2 (by rw [q3])
  rw [q3] at hlen
  simp only at hlen
  have hs := iG xs (t.place + t.len) hlen.2
  rw [q1] at hf ⊢
  rw [iH, if_pos q2, q3]
  simp only [if_true]
  rw [lU xs r (t.place + t.len) f (acc ++ [t]) hlen.2 q4 (by omega)]
  simp
theorem wH (xs : List UInt8) (l : List Tok) (h : iT xs 0 l) (hl : xs.length <= 65536) : aB xs = (l, 0, 0) := by
 unfold aB
 rw [if_neg (by omega), lU xs l 0 (xs.length + 1) [] (Nat.zero_le _) h (by omega)]
 simp
def Ends (c : UInt8) : Prop := wbI c.toNat = false /\ cO c.toNat = false /\ wsI c.toNat = false /\ ∀ s ∈ dL, c ∉ s
theorem p9 (p : Int -> Bool) (c : UInt8) (h : p c.toNat = false) (r : List UInt8) : ∀ l : List UInt8, gy p (l ++ c :: r) = gy p l
 | [] => by simp [gy, h]
 | b :: l => by
  have ih := p9 p c h r l
  simp only [List.cons_append, gy]
  rw [ih]
theorem oO (p : Int -> Bool) (c : UInt8) (h : p c.toNat = false) (r xs : List UInt8) (k : Nat) (hk : k <= xs.length) : aJ p (xs ++ c :: r) k = aJ p xs k := by
 unfold aJ
 rw [List.drop_append_of_le_length hk, p9 p c h r]
theorem wI (xs r : List UInt8) (k e : Nat) (hk : k <= e) (he : e <= xs.length) : cut (xs ++ r) k e = cut xs k e := by
 unfold cut
 rw [List.drop_append_of_le_length (by omega), List.take_append_of_le_length (by simp; omega)]
theorem oh (xs r : List UInt8) (k : Nat) (hk : k < xs.length) : (xs ++ r).getD k 0 = xs.getD k 0 := by
 simp [List.getD, List.getElem?_append, hk]
theorem getD_at (xs r : List UInt8) (c : UInt8) : (xs ++ c :: r).getD xs.length 0 = c := by
 simp [List.getD]
theorem oP (c : UInt8) (r : List UInt8) : ∀ (s l : List UInt8), c ∉ s -> s.isPrefixOf (l ++ c :: r) = s.isPrefixOf l
 | [], l, _ => by simp [List.isPrefixOf]
 | a :: s, [], h => by
  have : a ≠ c := fun e => h (by simp [e])
  simp [List.isPrefixOf, this]
 | a :: s, b :: l, h => by
  have ih := oP c r s l (fun hm => h (List.mem_cons_of_mem _ hm))
  simp only [List.cons_append, List.isPrefixOf, ih]
theorem BG (c : UInt8) (hc : Ends c) (r l : List UInt8) : jm (l ++ c :: r) = jm l :=
 kN _ _ dL 40 (0, 0) (fun s hs => oP c r s l (hc.2.2.2 s hs))
theorem BH (c : UInt8) (hc : Ends c) (r xs : List UInt8) (k : Nat) (hk : k < xs.length) : bR (xs ++ c :: r) k = bR xs k := by
 obtain ⟨c1, c2, c3, c4⟩ := hc
 unfold bR
 rw [oh xs (c :: r) k hk]
 have hw : iZ (xs ++ c :: r) k = iZ xs k := by
  have hle := eQ wbI xs k (by omega)
  have hcut : ((xs ++ c :: r).drop k).take (aJ wbI xs k - k) = (xs.drop k).take (aJ wbI xs k - k) := wI xs (c :: r) k (aJ wbI xs k) hle.1 hle.2
  unfold iZ
  rw [oO wbI c c1 r xs k (by omega), hcut]
 have hn : kJ (xs ++ c :: r) k = kJ xs k := by
  have hle := eQ cO xs k (by omega)
  unfold kJ
  rw [oO cO c c2 r xs k (by omega), oh xs (c :: r) k hk, wI xs (c :: r) k _ hle.1 hle.2]
  by_cases he : aJ cO xs k < xs.length
  ·rw [oh xs (c :: r) _ he]
   have e : (aJ cO xs k < (xs ++ c :: r).length /\ wsI ((xs.getD (aJ cO xs k) 0).toNat : Int) = true) ↔ (aJ cO xs k < xs.length /\ wsI ((xs.getD (aJ cO xs k) 0).toNat : Int) = true) := by
    constructor
    ·intro h; exact ⟨he, h.2⟩
    ·intro h; exact ⟨by simp; omega, h.2⟩
   by_cases h1 : aJ cO xs k < xs.length /\ wsI ((xs.getD (aJ cO xs k) 0).toNat : Int) = true
   ·rw [if_pos h1, if_pos (e.2 h1)]
   ·rw [if_neg h1, if_neg (fun h => h1 (e.1 h))]
  ·have he' : aJ cO xs k = xs.length := by omega
   rw [he', getD_at]
   have n1 : ¬ (xs.length < (xs ++ c :: r).length /\ wsI (c.toNat : Int) = true) := fun h => by rw [c3] at h; exact absurd h.2 (by simp)
   have n2 : ¬ (xs.length < xs.length /\ wsI ((xs.getD xs.length 0).toNat : Int) = true) := fun h => absurd h.1 (by omega)
   rw [if_neg n1, if_neg n2]
 have hsg : iq (xs ++ c :: r) k = iq xs k := by
  unfold iq
  rw [List.drop_append_of_le_length (by omega), BG c ⟨c1, c2, c3, c4⟩]
 rw [hw, hn, hsg]
def ol (n : Nat) (t : Tok) : Tok := ⟨t.kind, t.place + n, t.len, t.num⟩
theorem kP (pre r : List UInt8) (k : Nat) : (pre ++ r).drop (pre.length + k) = r.drop k := by
 rw [List.drop_append]
 simp
theorem qa (pre r : List UInt8) (k : Nat) : (pre ++ r).getD (pre.length + k) 0 = r.getD k 0 := by
 rw [List.getD_eq_getElem?_getD, List.getElem?_append_right (by omega), Nat.add_sub_cancel_left, List.getD_eq_getElem?_getD]
theorem qb (p : Int -> Bool) (pre r : List UInt8) (k : Nat) : aJ p (pre ++ r) (pre.length + k) = pre.length + aJ p r k := by
 unfold aJ; rw [kP]; omega
theorem yz (pre r : List UInt8) (k : Nat) : bL (pre ++ r) (pre.length + k) = pre.length + bL r k := by
 unfold bL; rw [kP]; omega
theorem DF (pre r : List UInt8) (k : Nat) (t : Tok) (h : bR r k = (t, 0)) : bR (pre ++ r) (pre.length + k) = (ol pre.length t, 0) := by
 have hR : bR (pre ++ r) (pre.length + k) = if wsI ((r.getD k 0).toNat : Int) = true then iZ (pre ++ r) (pre.length + k) else if cO ((r.getD k 0).toNat : Int) = true then kJ (pre ++ r) (pre.length + k) else iq (pre ++ r) (pre.length + k) := by
  unfold bR; rw [qa]
 rw [hR]
 unfold bR at h
 have e0 : ∀ p, pre.length + aJ p r k - (pre.length + k) = aJ p r k - k := fun p => by omega
 by_cases h1 : wsI ((r.getD k 0).toNat : Int) = true
 ·rw [if_pos h1] at h ⊢
  unfold iZ at h ⊢
  rw [qb, kP, e0]
  split at h
  ·rename_i n1
   rw [if_pos n1]
   have e := (Prod.mk.inj h).1
   subst e
   simp [ol]; omega
  ·rename_i n1
   split at h
   ·simp at h
   ·rename_i n2
    rw [if_neg n1, if_neg n2]
    have e := (Prod.mk.inj h).1
    subst e
    simp [ol]; omega
 ·rw [if_neg h1] at h ⊢
  by_cases h2 : cO ((r.getD k 0).toNat : Int) = true
  ·rw [if_pos h2] at h ⊢
   unfold kJ at h ⊢
   have ec : cut (pre ++ r) (pre.length + k) (pre.length + aJ cO r k) = cut r k (aJ cO r k) := by unfold cut; rw [kP, e0]
   rw [qb, qa, qa, e0, ec]
   have el : (pre.length + aJ cO r k < (pre ++ r).length) ↔ aJ cO r k < r.length := by simp
   split at h
   ·simp at h
   ·rename_i n1
    rw [if_neg (fun hh => n1 ⟨el.1 hh.1, hh.2⟩)]
    split at h
    ·simp at h
    ·rename_i n2
     rw [if_neg n2]
     split at h
     ·rename_i n3
      rw [if_pos n3]
      have e := (Prod.mk.inj h).1
      subst e
      simp [ol]; omega
     ·simp at h
  ·rw [if_neg h2] at h ⊢
   unfold iq at h ⊢
   rw [kP]
   split at h
   ·simp at h
   ·rename_i n1
    rw [if_neg n1]
    have e := (Prod.mk.inj h).1
    subst e
    simp [ol]; omega
theorem tQ (k : Int) (h : ax k ≠ []) : (Dq (ax k) : Int) = k := by
 have hw : ∀ i : Fin 21, Dq (fK.getD i []) = 10 + i := by decide
 have hs : ∀ i : Fin 27, Dq (dL.getD i []) = 40 + i := by decide
 unfold ax at h ⊢
 by_cases h1 : 10 <= k /\ k < 31
 ·rw [if_pos h1]
  have := hw ⟨(k - 10).toNat, by omega⟩
  simp only at this
  rw [this]
  omega
 ·rw [if_neg h1] at h ⊢
  by_cases h2 : 40 <= k /\ k < 67
  ·rw [if_pos h2]
   have := hs ⟨(k - 40).toNat, by omega⟩
   simp only at this
   rw [this]
   omega
  ·rw [if_neg h2] at h
   exact absurd rfl h
theorem wJ (k : Int) (w : World) (ht : TabAt w 1 fK) (hs : TabAt w 0 dL) :
  Calls Tryz.prog 83 #[.int .i64 k] w fun e w' => e = .returned (.string ⟨(ax k).toArray⟩) /\ w = w' := by
 by_cases h1 : 10 <= k /\ k < 31
 ·obtain ⟨j, rfl⟩ : ∃ j : Nat, k = 10 + (j : Int) := ⟨(k - 10).toNat, by omega⟩
  have hj : j < 21 := by omega
  have HK : Hid (ax (10 + (j : Int)) = fK.getD j []) := by
   unfold ax Hid; rw [if_pos h1, show (10 + (j : Int) - 10).toNat = j by omega]
  have hc := ht j hj
  obtain ⟨h2, h3⟩ := h1
  go_enter Tryz.func83, Tryz.ntmps83
  go_wp2
  go_ret
  exact ⟨by rw [HK.out]; rfl, rfl⟩
 ·by_cases h2 : 40 <= k /\ k < 67
  ·obtain ⟨j, rfl⟩ : ∃ j : Nat, k = 40 + (j : Int) := ⟨(k - 40).toNat, by omega⟩
   have hj : j < 27 := by omega
   have HK : Hid (ax (40 + (j : Int)) = dL.getD j []) := by
    unfold ax Hid; rw [if_neg h1, if_pos h2, show (40 + (j : Int) - 40).toNat = j by omega]
   have hc := hs j hj
   have h4 : decide (40 + (j : Int) < 31) = false := by simp; omega
   have h5 : (10 : Int) <= 40 + (j : Int) := by omega
   clear h1
   obtain ⟨h2, h3⟩ := h2
   go_enter Tryz.func83, Tryz.ntmps83
   go_wp2
   go_ret
   exact ⟨by rw [HK.out]; rfl, rfl⟩
  ·have HK : Hid (ax k = []) := by unfold ax Hid; rw [if_neg h1, if_neg h2]
   by_cases a1 : k < 10
   ·go_enter Tryz.func83, Tryz.ntmps83
    go_wp2
    go_ret
    exact ⟨by rw [HK.out]; rfl, rfl⟩
   ·by_cases a2 : k < 40
    ·have a3 : 31 <= k := by omega
     clear h1 h2
     go_enter Tryz.func83, Tryz.ntmps83
     go_wp2
     go_ret
     exact ⟨by rw [HK.out]; rfl, rfl⟩
    ·have a3 : 67 <= k := by omega
     clear h1 h2
     go_enter Tryz.func83, Tryz.ntmps83
     go_wp2
     go_ret
     exact ⟨by rw [HK.out]; rfl, rfl⟩

end Go.Proofs.YtecodpdfckjalaaGreatDoor
namespace Go.Proofs.YtecodpdfckjalaaGreatDoor
structure Nd where
 kind : Int
 pos : Int
 kids : List Int
 name : ByteArray
 num : Int
def nd0 : Nd := ⟨0, 0, [], ⟨#[]⟩, 0⟩
def fF (k : Int) : Bool := decide (1 <= k) && decide (k <= 7)
def bq (k : Int) : Bool := decide (11 <= k) && decide (k <= 25)
def gL (k : Int) : Bool := decide (31 <= k) && decide (k <= 41)
def gP (k : Int) : Bool := fF k || bq k || gL k || (decide (42 <= k) && decide (k <= 46))
def om (k : Int) : Bool := k == 43 || k == 44
def mV (k : Int) : Bool := k == 41 || k == 36
def dN (a k : Int) : Bool := k == a
def aP (op : Int) : Int :=
 if op = 11 then 1 else if op = 12 then 2 else if 21 <= op /\ op <= 26 then 3 else if op = 31 ∨ op = 32 then 4 else if 41 <= op /\ op <= 43 then 5 else 0
def bT (kind num : Int) : Int :=
 if kind = 22 then aP num else if kind = 21 then (if 1 <= num /\ num <= 3 then 6 else 0) else if 23 <= kind /\ kind <= 25 then 7 else if bq kind then 8 else 0
theorem mW (op : Int) : 0 <= aP op /\ aP op <= 5 := by
 unfold aP
 repeat' split
 all_goals omega
theorem oo (k n : Int) : 0 <= bT k n /\ bT k n <= 8 := by
 have := mW n
 unfold bT
 repeat' split
 all_goals omega
def lI {α : Type} (p : α -> Bool) : List α -> List α
 | [] => []
 | k :: r => if p k then r else k :: r
def took {α : Type} (p : α -> Bool) : List α -> Bool
 | [] => false
 | k :: _ => p k
def lJ {α : Type} (p : α -> Bool) (s : List α × Bool) : List α × Bool := (lI p s.1, s.2)
def bH {α : Type} (p : α -> Bool) (s : List α × Bool) : List α × Bool := (lI p s.1, s.2 || !took p s.1)
def dZ {α : Type} (p : α -> Bool) (s : List α × Bool) : List α × Bool := (s.1.dropWhile p, s.2)
def kC {α : Type} (p : α -> Bool) : Nat -> List α × Bool -> List α × Bool
 | 0, s => s
 | n + 1, s => kC p n (bH p s)
theorem qc {α : Type} (p : α -> Bool) : ∀ (n : Nat) (s : List α × Bool), kC p (n + 1) s = bH p (kC p n s)
 | 0, s => rfl
 | n + 1, s => by rw [kC, qc p n, ← kC]
def aH {α : Type} (f : α -> Int) (kind num : Int) (s : List α × Bool) : List α × Bool :=
 if kind = 5 then dZ (fF ∘ f) (bH (fF ∘ f) (bH (fF ∘ f) s))
 else if kind = 7 then dZ (fF ∘ f) s
 else if kind = 4 ∨ kind = 6 ∨ kind = 42 ∨ kind = 45 then bH (fF ∘ f) s
 else if kind = 15 then dZ (bq ∘ f) (bH (bq ∘ f) (bH (bq ∘ f) s))
 else if kind = 16 ∨ kind = 23 then dZ (bq ∘ f) (bH (bq ∘ f) s)
 else if kind = 17 ∨ kind = 22 ∨ kind = 24 ∨ kind = 33 ∨ kind = 34 then bH (bq ∘ f) (bH (bq ∘ f) s)
 else if kind = 14 ∨ kind = 18 ∨ kind = 21 ∨ kind = 25 ∨ kind = 31 ∨ kind = 35 ∨ kind = 39 then bH (bq ∘ f) s
 else if kind = 19 then bH (dN 6 ∘ f) s
 else if kind = 20 then bH (dN 41 ∘ f) (if num = 1 then bH (fF ∘ f) (dZ (dN 42 ∘ f) s) else dZ (dN 42 ∘ f) s)
 else if kind = 32 then lJ (bq ∘ f) (bH (fF ∘ f) s)
 else if kind = 38 then lJ (bq ∘ f) s
 else if kind = 44 then bH (dN 41 ∘ f) (bH (bq ∘ f) (bH (bq ∘ f) s))
 else if kind = 37 ∨ kind = 43 then bH (dN 41 ∘ f) (bH (bq ∘ f) s)
 else if kind = 36 then lJ (mV ∘ f) (bH (dN 41 ∘ f) (bH (bq ∘ f) s))
 else if kind = 40 then dZ (om ∘ f) s
 else if kind = 46 then dZ (gL ∘ f) (kC (dN 45 ∘ f) num.toNat s)
 else if kind = 41 then dZ (gL ∘ f) s
 else s
def iw {α : Type} (s : List α × Bool) : Bool := !s.2 && s.1.length == 0
def aA {α : Type} (f : α -> Int) (kind num : Int) (ks : List α) : Bool := iw (aH f kind num (ks, false))
def cu (kind num : Int) (n : Nat) : Bool :=
 if kind = 7 then num == 0 || (num == 1 && decide (0 < n))
 else if kind = 12 ∨ kind = 20 then num == 0 || num == 1
 else if kind = 11 ∨ kind = 25 then decide (0 <= num)
 else if kind = 21 ∨ kind = 22 then bT kind num != 0
 else if kind = 46 then decide (0 <= num) && decide (num <= n)
 else num == 0
def ndN (l : List Nd) (i : Nat) : Nd := l.getD i nd0
def sU (l : List Nd) (i : Int) : Nd := l.getD i.toNat nd0
def kdN (l : List Nd) (i : Nat) : Int := (ndN l i).kind
def gJ (kind num : Int) (place : Nat) : Int :=
 if kind = 22 then (if place = 0 /\ bT kind num ≠ 3 then bT kind num else bT kind num + 1)
 else if kind = 21 then 6
 else if 23 <= kind /\ kind <= 25 then (if place = 0 then 7 else 0)
 else if kind = 43 then (if place = 0 then 6 else 0)
 else 0
def gQ (l : List Nd) (n : Nd) : Nat -> List Int -> Bool
 | _, [] => true
 | p, k :: r => if bT (sU l k).kind (sU l k).num < gJ n.kind n.num p then false else gQ l n (p + 1) r
def df (l : List Nd) : Nat -> Int -> Bool
 | 0, _ => false
 | f + 1, k => if 22 <= (sU l k).kind /\ (sU l k).kind <= 25 then df l f ((sU l k).kids.getD 0 0) else (sU l k).kind == 21 && (sU l k).num == 3
def dY (l : List Nd) (n : Nd) : Bool :=
 gQ l n 0 n.kids && (n.kind != 44 || !df l (l.length + 1) (n.kids.getD 0 0))
def fM (fs : List Nat) : Int -> List Int -> Bool
 | _, [] => true
 | next, k :: r => if k = next - 1 /\ 0 <= k then fM fs (fs.getD k.toNat 0) r else false
def fV (fs : List Nat) (i : Nat) (kids : List Int) : Bool := fM fs i kids.reverse
structure ai where
 kind : Nat
 place : Nat
 num : Nat
 name : List UInt8
def pt0 : ai := ⟨0, 0, 0, []⟩
inductive Tr where
 | mk (kind : Int) (pos : Nat) (num : Int) (name : List UInt8) (kids : List Tr)
inductive Res where
 | ok (ts : List Tr) (s : List ai)
 | err (s : List ai)
 | out
def hd (s : List ai) : ai := s.headD pt0
def kd (s : List ai) : Nat := (hd s).kind
def tl (s : List ai) : List ai := s.tail
def aC (r : Res) (k : List Tr -> List ai -> Res) : Res :=
 match r with
 | .ok a s => k a s
 | .err s => .err s
 | .out => .out
def want (c : Nat) (s : List ai) (k : List ai -> Res) : Res := if kd s = c then k (tl s) else .err s
def dJ (s : List ai) (k : List UInt8 -> List ai -> Res) : Res := if kd s = 1 then k (hd s).name (tl s) else .err s
def gN (s : List ai) (k : Nat -> List ai -> Res) : Res := if kd s = 2 then k (hd s).num (tl s) else .err s
def mk1 (kind : Int) (s : List ai) (num : Int) (name : List UInt8) (kids : List Tr) (r : List ai) : Res := .ok [.mk kind (hd s).place num name kids] r
inductive One where
 | typ | expr | param
inductive Rl where
 | typ | chanT | parted (o : One) | listed (o : One) | result
 | operands (least : Int) | ops (least : Int) (left : List Tr) (most : Int) | unary | postfix | post (kid : List Tr) | primary | prog | param
 | block | stmts | stmt | branch | arms | arm | tyn | types | tops | program
def Rl.of : One -> Rl
 | .typ => .typ
 | .expr => .operands 1
 | .param => .param
def fe (k : Nat) : Int :=
 if k = 63 then 11 else if k = 62 then 12 else if k = 51 then 21 else if k = 52 then 22 else if k = 53 then 23 else if k = 54 then 24 else if k = 55 then 25 else if k = 56 then 26
 else if k = 57 then 31 else if k = 58 then 32 else if k = 59 then 41 else if k = 60 then 42 else if k = 61 then 43 else 0
def body (g : Rl -> List ai -> Res) : Rl -> List ai -> Res
 | .typ, s =>
  if kd s = 19 then mk1 1 s 0 [] [] (tl s)
  else if kd s = 12 then mk1 2 s 0 [] [] (tl s)
  else if kd s = 10 then want 10 s fun s1 => want 22 s1 fun s2 => aC (g .typ s2) fun a s3 => mk1 4 s 0 [] a s3
  else if kd s = 14 then g .chanT s
  else if kd s = 40 then want 40 s fun s1 => aC (g .typ s1) fun a s2 => want 46 s2 fun s3 => aC (g (.parted .typ) s3) fun b s4 => want 41 s4 fun s5 => mk1 5 s 0 [] (a ++ b) s5
  else if kd s = 23 then want 23 s fun s1 => aC (g (.listed .typ) s1) fun a s2 => aC (g .result s2) fun b s3 => mk1 7 s b.length [] (a ++ b) s3
  else dJ s fun n s1 => mk1 3 s 0 n [] s1
 | .chanT, s => want 14 s fun s1 => want 22 s1 fun s2 => aC (g .typ s2) fun a s3 => mk1 6 s 0 [] a s3
 | .parted o, s => aC (g (.of o) s) fun a s1 => if kd s1 = 46 then aC (g (.parted o) (tl s1)) fun b s2 => .ok (a ++ b) s2 else .ok a s1
 | .listed o, s => want 40 s fun s1 => if kd s1 = 41 then .ok [] (tl s1) else aC (g (.parted o) s1) fun a s2 => want 41 s2 fun s3 => .ok a s3
 | .result, s => if kd s = 48 then g .typ (tl s) else .ok [] s
 | .operands least, s => aC (g .unary s) fun a s1 => g (.ops least a 5) s1
 | .ops least left most, s =>
  if aP (fe (kd s)) < least ∨ most < aP (fe (kd s)) then .ok left s
  else aC (g (.operands (aP (fe (kd s)) + 1)) (tl s)) fun b s2 => g (.ops least [.mk 22 (hd s).place (fe (kd s)) [] (left ++ b)] (if aP (fe (kd s)) = 3 then 2 else aP (fe (kd s)))) s2
 | .unary, s =>
  if kd s = 58 then aC (g .unary (tl s)) fun a s1 => mk1 21 s 1 [] a s1
  else if kd s = 64 then aC (g .unary (tl s)) fun a s1 => mk1 21 s 2 [] a s1
  else if kd s = 65 then aC (g .unary (tl s)) fun a s1 => mk1 21 s 3 [] a s1
  else g .postfix s
 | .postfix, s => aC (g .primary s) fun a s1 => g (.post a) s1
 | .post kid, s =>
  if kd s = 40 then aC (g (.listed .expr) s) fun b s1 => g (.post [.mk 23 (hd s).place 0 [] (kid ++ b)]) s1
  else if kd s = 42 then want 42 s fun s1 => aC (g (.operands 1) s1) fun b s2 => want 43 s2 fun s3 => g (.post [.mk 24 (hd s).place 0 [] (kid ++ b)]) s3
  else if kd s = 49 then want 49 s fun s1 => gN s1 fun n s2 => g (.post [.mk 25 (hd s).place n [] kid]) s2
  else .ok kid s
 | .primary, s =>
  if kd s = 26 then mk1 12 s 1 [] [] (tl s)
  else if kd s = 16 then mk1 12 s 0 [] [] (tl s)
  else if kd s = 40 then want 40 s fun s1 => aC (g (.parted .expr) s1) fun a s2 => want 41 s2 fun s3 => mk1 (if a.length = 1 then 14 else 15) s 0 [] a s3
  else if kd s = 42 then want 42 s fun s1 => aC (g (.parted .expr) s1) fun a s2 => want 43 s2 fun s3 => mk1 16 s 0 [] a s3
  else if kd s = 17 then want 17 s fun s1 => want 40 s1 fun s2 => aC (g (.operands 1) s2) fun a s3 => want 46 s3 fun s4 => aC (g (.operands 1) s4) fun b s5 => want 41 s5 fun s6 => mk1 17 s 0 [] (a ++ b) s6
  else if kd s = 20 then want 20 s fun s1 => want 40 s1 fun s2 => aC (g (.operands 1) s2) fun a s3 => want 41 s3 fun s4 => mk1 18 s 0 [] a s4
  else if kd s = 21 then want 21 s fun s1 => aC (g .chanT s1) fun a s2 => mk1 19 s 0 [] a s2
  else if kd s = 23 then g .prog s
  else if kd s = 2 then gN s fun n s1 => mk1 11 s n [] [] s1
  else dJ s fun n s1 => mk1 13 s 0 n [] s1
 | .prog, s => want 23 s fun s1 =>
  if kd s1 = 1 then dJ s1 fun n s2 => aC (g (.listed .param) s2) fun a s3 => aC (g .result s3) fun b s4 => aC (g .block s4) fun c s5 => mk1 20 s b.length n (a ++ (b ++ c)) s5
  else aC (g (.listed .param) s1) fun a s3 => aC (g .result s3) fun b s4 => aC (g .block s4) fun c s5 => mk1 20 s b.length [] (a ++ (b ++ c)) s5
 | .param, s => dJ s fun n s1 => want 48 s1 fun s2 => aC (g .typ s2) fun a s3 => mk1 42 s 0 n a s3
 | .block, s => want 44 s fun s1 => aC (g .stmts s1) fun a s2 => mk1 41 s 0 [] a s2
 | .stmts, s => if kd s = 45 then .ok [] (tl s) else aC (g .stmt s) fun a s1 => aC (g .stmts s1) fun b s2 => .ok (a ++ b) s2
 | .stmt, s =>
  if kd s = 28 then want 28 s fun s1 => dJ s1 fun n s2 => want 50 s2 fun s3 => aC (g (.operands 1) s3) fun a s4 => want 47 s4 fun s5 => mk1 31 s 0 n a s5
  else if kd s = 29 then want 29 s fun s1 => dJ s1 fun n s2 => want 48 s2 fun s3 => aC (g .typ s3) fun a s4 =>
   if kd s4 = 50 then want 50 s4 fun s5 => aC (g (.operands 1) s5) fun b s6 => want 47 s6 fun s7 => mk1 32 s 0 n (a ++ b) s7 else want 47 s4 fun s5 => mk1 32 s 0 n a s5
  else if kd s = 18 then g .branch s
  else if kd s = 30 then want 30 s fun s1 => aC (g (.operands 1) s1) fun a s2 => aC (g .block s2) fun b s3 => mk1 37 s 0 [] (a ++ b) s3
  else if kd s = 24 then want 24 s fun s1 => if kd s1 = 47 then want 47 s1 fun s2 => mk1 38 s 0 [] [] s2 else aC (g (.operands 1) s1) fun a s2 => want 47 s2 fun s3 => mk1 38 s 0 [] a s3
  else if kd s = 11 then want 11 s fun s1 => aC (g (.operands 1) s1) fun a s2 => want 47 s2 fun s3 => mk1 39 s 0 [] a s3
  else if kd s = 25 then want 25 s fun s1 => want 44 s1 fun s2 => aC (g .arms s2) fun a s3 => mk1 40 s 0 [] a s3
  else if kd s = 44 then g .block s
  else aC (g (.operands 1) s) fun a s1 =>
   if kd s1 = 50 then want 50 s1 fun s2 => aC (g (.operands 1) s2) fun b s3 => want 47 s3 fun s4 => mk1 33 s1 0 [] (a ++ b) s4
   else if kd s1 = 66 then want 66 s1 fun s2 => aC (g (.operands 1) s2) fun b s3 => want 47 s3 fun s4 => mk1 34 s1 0 [] (a ++ b) s4
   else want 47 s1 fun s2 => mk1 35 s 0 [] a s2
 | .branch, s => want 18 s fun s1 => aC (g (.operands 1) s1) fun a s2 => aC (g .block s2) fun b s3 =>
  if kd s3 = 15 then want 15 s3 fun s4 => if kd s4 = 18 then aC (g .branch s4) fun c s5 => mk1 36 s 0 [] (a ++ (b ++ c)) s5 else aC (g .block s4) fun c s5 => mk1 36 s 0 [] (a ++ (b ++ c)) s5
  else mk1 36 s 0 [] (a ++ b) s3
 | .arms, s => if kd s = 45 then .ok [] (tl s) else aC (g .arm s) fun a s1 => aC (g .arms s1) fun b s2 => .ok (a ++ b) s2
 | .arm, s => want 13 s fun s1 =>
  if kd s1 = 65 then want 65 s1 fun s2 => aC (g .unary s2) fun a s3 => aC (g .block s3) fun b s4 => mk1 43 s 0 [] (a ++ b) s4
  else if kd s1 = 1 /\ kd (tl s1) = 50 then dJ s1 fun n s2 => want 50 s2 fun s3 => want 65 s3 fun s4 => aC (g .unary s4) fun a s5 => aC (g .block s5) fun b s6 => mk1 43 s 0 n (a ++ b) s6
  else aC (g (.operands 1) s1) fun a s2 => want 66 s2 fun s3 => aC (g (.operands 1) s3) fun b s4 => aC (g .block s4) fun c s5 => mk1 44 s 0 [] (a ++ (b ++ c)) s5
 | .tyn, s => want 27 s fun s1 => dJ s1 fun n s2 => want 50 s2 fun s3 => aC (g .typ s3) fun a s4 => want 47 s4 fun s5 => mk1 45 s 0 n a s5
 | .types, s => if kd s = 27 then aC (g .tyn s) fun a s1 => aC (g .types s1) fun b s2 => .ok (a ++ b) s2 else .ok [] s
 | .tops, s => if s.length <= 1 then .ok [] s else aC (g .stmt s) fun a s1 => aC (g .tops s1) fun b s2 => .ok (a ++ b) s2
 | .program, s => aC (g .types s) fun a s1 => aC (g .tops s1) fun b s2 => .ok [.mk 46 0 a.length [] (a ++ b)] s2
def pF : Nat -> Rl -> List ai -> Res
 | 0, _, _ => .out
 | f + 1, r, s => body (pF f) r s
def Le (a b : Res) : Prop := ∀ t s, a = .ok t s -> b = .ok t s
theorem le_refl (a : Res) : Le a a := fun _ _ h => h
theorem Jz (b : Res) : Le .out b := fun _ _ h => by cases h
theorem FT {a b : Res} {k l : List Tr -> List ai -> Res} (h : Le a b) (hk : ∀ t s, Le (k t s) (l t s)) : Le (aC a k) (aC b l) := by
 intro t s e
 match a, h, e with
 | .ok x y, h, e =>
  rw [h x y rfl]
  exact hk x y t s e
theorem FU {c : Nat} {s : List ai} {k l : List ai -> Res} (hk : ∀ s, Le (k s) (l s)) : Le (want c s k) (want c s l) := by
 unfold want
 split
 ·exact hk _
 ·exact le_refl _
theorem DI {s : List ai} {k l : List UInt8 -> List ai -> Res} (hk : ∀ n s, Le (k n s) (l n s)) : Le (dJ s k) (dJ s l) := by
 unfold dJ
 split
 ·exact hk _ _
 ·exact le_refl _
theorem FV {s : List ai} {k l : Nat -> List ai -> Res} (hk : ∀ n s, Le (k n s) (l n s)) : Le (gN s k) (gN s l) := by
 unfold gN
 split
 ·exact hk _ _
 ·exact le_refl _
theorem FW {p : Prop} [Decidable p] {a b c d : Res} (h1 : Le a c) (h2 : Le b d) : Le (if p then a else b) (if p then c else d) := by
 split
 ·exact h1
 ·exact h2
theorem FX {g h : Rl -> List ai -> Res} (H : ∀ r s, Le (g r s) (h r s)) (r : Rl) (s : List ai) : Le (body g r s) (body h r s) := by
 cases r <;> (unfold body; repeat' (first | exact le_refl _ | exact H _ _ | refine FW ?_ ?_ | refine FT (H _ _) (fun _ _ => ?_) | refine FU (fun _ => ?_) | refine DI (fun _ _ => ?_) | refine FV (fun _ _ => ?_)))
theorem Jh : ∀ (f : Nat) (r : Rl) (s : List ai), Le (pF f r s) (pF (f + 1) r s)
 | 0, r, s => Jz _
 | f + 1, r, s => FX (Jh f) r s
theorem AB {f f' : Nat} (h : f <= f') (r : Rl) (s : List ai) : Le (pF f r s) (pF f' r s) := by
 induction h with
 | refl => exact le_refl _
 | step _ ih => exact fun t s' e => Jh _ r s t s' (ih t s' e)
def P (r : Rl) (s : List ai) (ts : List Tr) (s' : List ai) : Prop := ∃ f, pF f r s = .ok ts s'
def Q (G : (Rl -> List ai -> Res) -> Res) (ts : List Tr) (s' : List ai) : Prop := ∃ f, ∀ f', f <= f' -> G (pF f') = .ok ts s'
theorem cB {r : Rl} {s s' : List ai} {ts : List Tr} (h : Q (fun g => body g r s) ts s') : P r s ts s' := by
 obtain ⟨f, h⟩ := h
 exact ⟨f + 1, h f (Nat.le_refl _)⟩
theorem Q_P {r : Rl} {s s' : List ai} {ts : List Tr} (h : P r s ts s') : Q (fun g => g r s) ts s' := by
 obtain ⟨f, h⟩ := h
 exact ⟨f, fun f' hf => AB hf r s _ _ h⟩
theorem lK (ts : List Tr) (s : List ai) : Q (fun _ => .ok ts s) ts s := ⟨0, fun _ _ => rfl⟩
theorem fA {kind : Int} {s : List ai} {num : Int} {name : List UInt8} {kids : List Tr} {r : List ai} : Q (fun _ => mk1 kind s num name kids r) [.mk kind (hd s).place num name kids] r := ⟨0, fun _ _ => rfl⟩
theorem bn {r : Rl} {s s1 s' : List ai} {a ts : List Tr} {K : (Rl -> List ai -> Res) -> List Tr -> List ai -> Res} (h : P r s a s1) (hk : Q (fun g => K g a s1) ts s') : Q (fun g => aC (g r s) (K g)) ts s' := by
 obtain ⟨f1, h1⟩ := h
 obtain ⟨f2, h2⟩ := hk
 refine ⟨f1 + f2, fun f' hf => ?_⟩
 show aC (pF f' r s) (K (pF f')) = _
 rw [AB (show f1 <= f' by omega) r s _ _ h1]
 exact h2 f' (by omega)
theorem aT {c : Nat} {t : ai} {s s' : List ai} {ts : List Tr} {K : (Rl -> List ai -> Res) -> List ai -> Res} (ht : t.kind = c) (hk : Q (fun g => K g s) ts s') : Q (fun g => want c (t :: s) (K g)) ts s' := by
 obtain ⟨f, h⟩ := hk
 refine ⟨f, fun f' hf => ?_⟩
 have e : kd (t :: s) = c := ht
 show want c (t :: s) (K (pF f')) = _
 unfold want
 rw [if_pos e]
 exact h f' hf
theorem jT {t : ai} {s s' : List ai} {ts : List Tr} {K : (Rl -> List ai -> Res) -> List UInt8 -> List ai -> Res} (ht : t.kind = 1) (hk : Q (fun g => K g t.name s) ts s') : Q (fun g => dJ (t :: s) (K g)) ts s' := by
 obtain ⟨f, h⟩ := hk
 refine ⟨f, fun f' hf => ?_⟩
 have e : kd (t :: s) = 1 := ht
 show dJ (t :: s) (K (pF f')) = _
 unfold dJ
 rw [if_pos e]
 exact h f' hf
theorem Ji {t : ai} {s s' : List ai} {ts : List Tr} {K : (Rl -> List ai -> Res) -> Nat -> List ai -> Res} (ht : t.kind = 2) (hk : Q (fun g => K g t.num s) ts s') : Q (fun g => gN (t :: s) (K g)) ts s' := by
 obtain ⟨f, h⟩ := hk
 refine ⟨f, fun f' hf => ?_⟩
 have e : kd (t :: s) = 2 := ht
 show gN (t :: s) (K (pF f')) = _
 unfold gN
 rw [if_pos e]
 exact h f' hf
theorem bW {p : Prop} [Decidable p] {s' : List ai} {ts : List Tr} {A B : (Rl -> List ai -> Res) -> Res} (hp : p) (h : Q A ts s') : Q (fun g => if p then A g else B g) ts s' := by
 obtain ⟨f, h⟩ := h
 refine ⟨f, fun f' hf => ?_⟩
 show (if p then A (pF f') else B (pF f')) = _
 rw [if_pos hp]
 exact h f' hf
theorem aM {p : Prop} [Decidable p] {s' : List ai} {ts : List Tr} {A B : (Rl -> List ai -> Res) -> Res} (hp : ¬ p) (h : Q B ts s') : Q (fun g => if p then A g else B g) ts s' := by
 obtain ⟨f, h⟩ := h
 refine ⟨f, fun f' hf => ?_⟩
 show (if p then A (pF f') else B (pF f')) = _
 rw [if_neg hp]
 exact h f' hf
def pS (t : ai) : ai := ⟨t.kind, 0, t.num, t.name⟩
mutual
def tS : Tr -> Tr
 | .mk k _ n m ks => .mk k 0 n m (tsS ks)
def tsS : List Tr -> List Tr
 | [] => []
 | t :: r => tS t :: tsS r
end
theorem jU : ∀ a b : List Tr, tsS (a ++ b) = tsS a ++ tsS b
 | [], b => by simp [tsS]
 | t :: r, b => by simp [tsS, jU r b]
theorem AC : ∀ a : List Tr, (tsS a).length = a.length
 | [] => rfl
 | t :: r => by simp [tsS, AC r]
def rS : Rl -> Rl
 | .ops n a m => .ops n (tsS a) m
 | .post k => .post (tsS k)
 | r => r
def jC : Res -> Res
 | .ok a s => .ok (tsS a) (s.map pS)
 | .err s => .err (s.map pS)
 | .out => .out
theorem wK (s : List ai) : kd (s.map pS) = kd s := by cases s <;> rfl
theorem wL (s : List ai) : tl (s.map pS) = (tl s).map pS := by cases s <;> rfl
theorem Li (s : List ai) : (hd (s.map pS)).name = (hd s).name := by cases s <;> rfl
theorem Lj (s : List ai) : (hd (s.map pS)).num = (hd s).num := by cases s <;> rfl
theorem BI (s : List ai) : (hd (s.map pS)).place = 0 := by cases s <;> rfl
theorem oQ {x y : Res} {k k' : List Tr -> List ai -> Res} (h : y = jC x) (hk : ∀ a s, k' (tsS a) (s.map pS) = jC (k a s)) : aC y k' = jC (aC x k) := by
 subst h
 cases x with
 | ok a s => exact hk a s
 | err s => rfl
 | out => rfl
theorem uU {c : Nat} {s : List ai} {k k' : List ai -> Res} (hk : ∀ s, k' (s.map pS) = jC (k s)) : want c (s.map pS) k' = jC (want c s k) := by
 unfold want
 rw [wK, wL]
 split
 ·exact hk _
 ·rfl
theorem JA {s : List ai} {k k' : List UInt8 -> List ai -> Res} (hk : ∀ n s, k' n (s.map pS) = jC (k n s)) : dJ (s.map pS) k' = jC (dJ s k) := by
 unfold dJ
 rw [wK, wL, Li]
 split
 ·exact hk _ _
 ·rfl
theorem Jj {s : List ai} {k k' : Nat -> List ai -> Res} (hk : ∀ n s, k' n (s.map pS) = jC (k n s)) : gN (s.map pS) k' = jC (gN s k) := by
 unfold gN
 rw [wK, wL, Lj]
 split
 ·exact hk _ _
 ·rfl
theorem MO {kind num : Int} {s r : List ai} {name : List UInt8} {kids kids' : List Tr} (h : kids' = tsS kids) : mk1 kind (s.map pS) num name kids' (r.map pS) = jC (mk1 kind s num name kids r) := by
 subst h
 unfold mk1
 rw [BI]
 rfl
theorem BJ {p q : Prop} [Decidable p] [Decidable q] {a b c d : Res} (h : p ↔ q) (h1 : a = jC c) (h2 : b = jC d) : (if p then a else b) = jC (if q then c else d) := by
 by_cases hq : q
 ·rw [if_pos (h.2 hq), if_pos hq]; exact h1
 ·rw [if_neg (fun e => hq (h.1 e)), if_neg hq]; exact h2
theorem DJ {a a' : List Tr} {s : List ai} (h : a' = tsS a) : Res.ok a' (s.map pS) = jC (.ok a s) := by subst h; rfl
theorem MP (o : One) : rS (.of o) = .of o := by cases o <;> rfl
theorem JB {g g' : Rl -> List ai -> Res} (H : ∀ r s, g' (rS r) (s.map pS) = jC (g r s)) (r : Rl) (s : List ai) : body g' (rS r) (s.map pS) = jC (body g r s) := by
 have len : ∀ s : List ai, (s.map pS).length = s.length := fun s => by simp
 have H' : ∀ r, rS r = r -> ∀ s, g' r (s.map pS) = jC (g r s) := fun r e s => by have := H r s; rw [e] at this; exact this
 have F : ∀ {c : Nat} {s : List ai}, (kd (s.map pS) = c ↔ kd s = c) := fun {c s} => by rw [wK]
 cases r
 case ops least left most =>
  simp only [rS, body, wK, wL]
  refine BJ Iff.rfl (DJ rfl) ?_
  refine oQ (H' (.operands _) rfl _) (fun a s1 => ?_)
  have := H (.ops least [.mk 22 (hd s).place (fe (kd s)) [] (left ++ a)] (if aP (fe (kd s)) = 3 then 2 else aP (fe (kd s)))) s1
  simp only [rS, tsS, tS, jU] at this
  rw [BI]
  exact this
 case post kid =>
  simp only [rS, body, wK, wL]
  refine BJ Iff.rfl ?_ (BJ Iff.rfl ?_ (BJ Iff.rfl ?_ (DJ rfl)))
  ·refine oQ (H' (.listed _) rfl _) (fun a s1 => ?_)
   have := H (.post [.mk 23 (hd s).place 0 [] (kid ++ a)]) s1
   simp only [rS, tsS, tS, jU] at this
   rw [BI]
   exact this
  ·refine uU (fun s1 => oQ (H' (.operands _) rfl _) (fun a s2 => uU (fun s3 => ?_)))
   have := H (.post [.mk 24 (hd s).place 0 [] (kid ++ a)]) s3
   simp only [rS, tsS, tS, jU] at this
   rw [BI]
   exact this
  ·refine uU (fun s1 => Jj (fun n s2 => ?_))
   have := H (.post [.mk 25 (hd s).place n [] kid]) s2
   simp only [rS, tsS, tS] at this
   rw [BI]
   exact this
 case operands least =>
  simp only [rS, body]
  exact oQ (H' .unary rfl _) (fun a s1 => H (.ops least a 5) s1)
 case «postfix» =>
  simp only [rS, body]
  exact oQ (H' .primary rfl _) (fun a s1 => H (.post a) s1)
 case parted o =>
  simp only [rS, body]
  refine oQ (H' _ (MP o) _) (fun a s1 => BJ F ?_ (DJ rfl))
  rw [wL]
  exact oQ (H' (.parted o) rfl _) (fun b s2 => DJ (jU a b).symm)
 all_goals
  simp only [rS, body]
  repeat' (first
   | exact H' _ rfl _
   | refine oQ (H' _ rfl _) (fun a s1 => ?_)
   | refine uU (fun s1 => ?_)
   | refine JA (fun n s1 => ?_)
   | refine Jj (fun n s1 => ?_)
   | refine MO ?_
   | refine DJ ?_
   | refine BJ ?_ ?_ ?_
   | rw [wL])
 all_goals
  first
  | rfl
  | exact F
  | (simp only [wK]; done)
  | (simp only [jU]; done)
  | (simp only [len]; done)
  | (simp [wK, wL, BI, Li, Lj, jC, tsS, tS, jU, AC]; done)
theorem JC : ∀ (f : Nat) (r : Rl) (s : List ai), pF f (rS r) (s.map pS) = jC (pF f r s)
 | 0, _, _ => rfl
 | f + 1, r, s => JB (JC f) r s
end Go.Proofs.YtecodpdfckjalaaGreatDoor
namespace Go.Proofs.YtecodpdfckjalaaGreatDoor
open Go.RowKit
structure jH (w : World) (a : Option Addr) (cap : Nat) (xs : List UInt8) : Prop where
 at_ : 0 < xs.length -> ∃ b o, a = some ⟨b, o, none⟩ /\ b < w.heap.size /\ Src w b o xs
 cap_ : xs.length <= cap
 max_ : xs.length <= maxLen
theorem jH.below {w w' : World} {a : Option Addr} {cap : Nat} {xs : List UInt8} (h : jH w a cap xs) (hb : Below w.heap.size w w') : jH w' a cap xs := by
 refine ⟨fun h0 => ?_, h.cap_, h.max_⟩
 obtain ⟨b, o, h1, h2, h3⟩ := h.at_ h0
 exact ⟨b, o, h1, by have := hb.size; omega, h3.below h2 hb⟩
theorem BK (a : Option Addr) (n cap : Nat) (w : World) (hn : 65536 < n) (hm : n <= maxLen) :
  Calls Tryz.prog 19 #[.slice a n cap] w fun e w' => e = .returned (.tuple #[.slice none 0 0, .agg #[.int .i64 65536, .int .i64 10]]) /\ Below w.heap.size w w' := by
 unfold maxLen at hm
 have h1 : (65536 : Int) < (n : Int) := by omega
 go_enter Tryz.func19, Tryz.ntmps19
 go_wp2
 refine bodyPost_ret (v := .tuple #[.slice none 0 0, .agg #[.int .i64 65536, .int .i64 10]]) (by simp [results, Tryz.results19, go_sem]) rfl ⟨rfl, ?_⟩
 exact (Below.refl _ _).alloc (Nat.le_refl _) _
theorem BL (a : Option Addr) (cap : Nat) (w : World) :
  Calls Tryz.prog 19 #[.slice a 0 cap] w fun e w' => e = .returned (.tuple #[.slice none 0 0, .agg #[.int .i64 0, .int .i64 0]]) /\ Below w.heap.size w w' := by
 go_enter Tryz.func19, Tryz.ntmps19
 go_wp2_with (first | (go_at_call 35; refine (skip_none _ _ _).mono ?_; rintro e w' ⟨rfl, rfl⟩))
 go_loopw [4, 5] (fun v i wr => v = .slice none 0 0 /\ i = .int .i64 0 /\ wr = w.alloc (.cells #[.int .i64 0, .int .i64 0] 30)) (fun _ _ _ => 0)
 case atStart => exact ⟨rfl, rfl, rfl⟩
 case round =>
  obtain ⟨rfl, rfl, rfl⟩ := hrel
  go_wp2
  refine bodyPost_ret (v := .tuple #[.slice none 0 0, .agg #[.int .i64 0, .int .i64 0]]) (by simp [results, Tryz.results19, go_sem]) rfl ⟨rfl, ?_⟩
  exact (Below.refl _ _).alloc (Nat.le_refl _) _
theorem kQ (a : Option Addr) (cap : Nat) (xs : List UInt8) (w : World) (hs : jH w a cap xs) (hL : Laid w) :
  Calls Tryz.prog 19 #[.slice a xs.length cap] w fun e w' => ∃ v, e = .returned (.tuple #[v, .agg #[.int .i64 (aB xs).2.1, .int .i64 (aB xs).2.2]]) /\ w'.ownsRow w.heap.size 62 4 v (aB xs).1.length (eZ (aB xs).1) /\ Below w.heap.size w w' := by
 by_cases h1 : 65536 < xs.length
 ·have hA : aB xs = ([], 65536, 10) := by unfold aB; rw [if_pos h1]
  rw [hA]
  refine (BK a xs.length cap w h1 hs.max_).mono ?_
  rintro e w' ⟨rfl, hb⟩
  exact ⟨.slice none 0 0, rfl, World.ownsRow_nil _ _ _ _, hb⟩
 ·by_cases h0 : 0 < xs.length
  ·obtain ⟨b, o, rfl, hb, hc⟩ := hs.at_ h0
   exact BF b o cap xs w hc hb (by omega) hs.cap_ hL
  ·have hx : xs = [] := List.eq_nil_of_length_eq_zero (by omega)
   subst hx
   have hA : aB [] = ([], 0, 0) := rfl
   rw [hA]
   refine (BL a cap w).mono ?_
   rintro e w' ⟨rfl, hb⟩
   exact ⟨.slice none 0 0, rfl, World.ownsRow_nil _ _ _ _, hb⟩
structure DK (w : World) (g : Nat) (l : List Tok) : Prop where
 lt : g < w.heap.size
 at_ : ∀ j (h : j < l.length), w.cell? ⟨g, j * 4, none⟩ = some (.int .i64 l[j].kind) /\ w.cell? ⟨g, j * 4 + 1, none⟩ = some (.int .i64 l[j].place) /\ w.cell? ⟨g, j * 4 + 2, none⟩ = some (.int .i64 l[j].len) /\ w.cell? ⟨g, j * 4 + 3, none⟩ = some (.int .i64 l[j].num)
theorem DK.later {w w' : World} {g : Nat} {l : List Tok} (h : DK w g l) (hb : Below w.heap.size w w') : DK w' g l := by
 refine ⟨by have := hb.size; have := h.lt; omega, fun j hj => ?_⟩
 obtain ⟨a, b, c, d⟩ := h.at_ j hj
 exact ⟨by rw [hb.cell h.lt]; exact a, by rw [hb.cell h.lt]; exact b, by rw [hb.cell h.lt]; exact c, by rw [hb.cell h.lt]; exact d⟩
structure Bx (p : Prop) : Prop where
  out : p
theorem ek {a b : Bool} (h : a = b) : Ending.returned (.bool a) = .returned (.bool b) := by rw [h]
theorem ah (w : World) (o : Obj) : Below w.heap.size w (w.alloc o) := (Below.refl _ _).alloc (Nat.le_refl _) _
def ndV (ka : Option Addr) (kc : Nat) (n : Nd) : Value := .agg #[.int .i64 n.kind, .int .i64 n.pos, .slice ka n.kids.length kc, .string n.name, .int .i64 n.num]
theorem iI (k : Int) (w : World) : Calls Tryz.prog 28 #[.int .i64 k] w fun e w' => e = .returned (.bool (fF k)) /\ w = w' := by
  unfold fF
  cases h1 : decide (1 <= k) <;>
    (go_enter Tryz.func28, Tryz.ntmps28
     go_wp2
     go_ret
     exact ⟨by simp, rfl⟩)
theorem gX (k : Int) (w : World) : Calls Tryz.prog 30 #[.int .i64 k] w fun e w' => e = .returned (.bool (bq k)) /\ w = w' := by
  unfold bq
  cases h1 : decide (11 <= k) <;>
    (go_enter Tryz.func30, Tryz.ntmps30
     go_wp2
     go_ret
     exact ⟨by simp, rfl⟩)
theorem eT (k : Int) (w : World) : Calls Tryz.prog 32 #[.int .i64 k] w fun e w' => e = .returned (.bool (gL k)) /\ w = w' := by
  unfold gL
  cases h1 : decide (31 <= k) <;>
    (go_enter Tryz.func32, Tryz.ntmps32
     go_wp2
     go_ret
     exact ⟨by simp, rfl⟩)
theorem gD (k : Int) (w : World) : Calls Tryz.prog 22 #[.int .i64 k] w fun e w' => e = .returned (.bool (gP k)) /\ w = w' := by
  unfold gP
  cases h1 : fF k <;> cases h2 : bq k <;> cases h3 : gL k <;> cases h4 : decide (42 <= k) <;>
    (go_enter Tryz.func22, Tryz.ntmps22
     go_wp2_with (first | (go_at_call 28; refine (iI _ _).mono ?_; rintro e w' ⟨rfl, rfl⟩) | (go_at_call 30; refine (gX _ _).mono ?_; rintro e w' ⟨rfl, rfl⟩) | (go_at_call 32; refine (eT _ _).mono ?_; rintro e w' ⟨rfl, rfl⟩))
     go_ret
     exact ⟨by simp, rfl⟩)
theorem BO (k : Int) (w : World) : Calls Tryz.prog 46 #[.int .i64 k] w fun e w' => e = .returned (.bool (om k)) /\ w = w' := by
  unfold om
  cases h1 : (k == 43) <;>
    (go_enter Tryz.func46, Tryz.ntmps46
     go_wp2
     go_ret
     exact ⟨by simp, rfl⟩)
theorem yA (k : Int) (w : World) : Calls Tryz.prog 45 #[.int .i64 k] w fun e w' => e = .returned (.bool (mV k)) /\ w = w' := by
  unfold mV
  cases h1 : (k == 41) <;>
    (go_enter Tryz.func45, Tryz.ntmps45
     go_wp2
     go_ret
     exact ⟨by simp, rfl⟩)
theorem uV (op : Int) (w : World) : Calls Tryz.prog 71 #[.int .i64 op] w fun e w' => e = .returned (.int .i64 (aP op)) /\ w = w' := by
  go_enter Tryz.func71, Tryz.ntmps71
  go_wp2
  all_goals
    go_ret
    refine ⟨gp ?_, rfl⟩
    simp at *
    unfold aP
    (repeat' split) <;> omega
theorem lu (ka : Option Addr) (kc : Nat) (n : Nd) (w : World) : Calls Tryz.prog 39 #[ndV ka kc n] w fun e w' => e = .returned (.int .i64 (bT n.kind n.num)) /\ Below w.heap.size w w' := by
  obtain ⟨k, p, ks, nm, num⟩ := n
  unfold ndV
  simp only
  have hx : ∀ j, bq j = (decide (11 <= j) && decide (j <= 25)) := fun _ => rfl
  go_enter Tryz.func39, Tryz.ntmps39
  go_wp2_with (first | (go_at_call 71; refine (uV _ _).mono ?_; rintro e w' ⟨rfl, rfl⟩) | (go_at_call 30; refine (gX _ _).mono ?_; rintro e w' ⟨rfl, rfl⟩))
  all_goals
    go_ret
    refine ⟨gp ?_, ah _ _⟩
    unfold bT bq at *
    simp at *
    (repeat' split) <;> first | rfl | omega
end Go.Proofs.YtecodpdfckjalaaGreatDoor
namespace Go.Proofs.YtecodpdfckjalaaGreatDoor
mutual
def Tr.size : Tr -> Nat
 | .mk _ _ _ _ ks => sizes ks + 1
def sizes : List Tr -> Nat
 | [] => 0
 | t :: r => t.size + sizes r
end
def ends : List Tr -> Nat -> List Int
 | [], _ => []
 | t :: r, o => ((o + t.size - 1 : Nat) : Int) :: ends r (o + t.size)
mutual
def flat : Tr -> Nat -> List Nd
 | .mk k p n nm ks, o => ag ks o ++ [⟨k, p, ends ks o, ⟨nm.toArray⟩, n⟩]
def ag : List Tr -> Nat -> List Nd
 | [], _ => []
 | t :: r, o => flat t o ++ ag r (o + t.size)
end
mutual
theorem mX : ∀ (t : Tr) (o : Nat), (flat t o).length = t.size
 | .mk k p n nm ks, o => by
  rw [flat, Tr.size, List.length_append, dU ks o]
  rfl
theorem dU : ∀ (ts : List Tr) (o : Nat), (ag ts o).length = sizes ts
 | [], o => rfl
 | t :: r, o => by
  rw [ag, sizes, List.length_append, mX t o, dU r]
end
theorem mY (t : Tr) : 1 <= t.size := by
 cases t
 rw [Tr.size]
 omega
theorem aI : ∀ (a b : List Tr), sizes (a ++ b) = sizes a + sizes b
 | [], b => by simp [sizes]
 | t :: r, b => by
  rw [List.cons_append, sizes, sizes, aI r b]
  omega
theorem qd (t : Tr) : ∀ (a : List Tr) (o : Nat), ag (a ++ [t]) o = ag a o ++ flat t (o + sizes a)
 | [], o => by simp [ag, sizes]
 | x :: r, o => by
  rw [List.cons_append, ag, ag, qd t r, sizes, List.append_assoc, Nat.add_assoc]
theorem tT (t : Tr) : ∀ (a : List Tr) (o : Nat), ends (a ++ [t]) o = ends a o ++ [((o + sizes a + t.size - 1 : Nat) : Int)]
 | [], o => by simp [ends, sizes]
 | x :: r, o => by
  rw [List.cons_append, ends, ends, tT t r, sizes, List.cons_append, Nat.add_assoc o]
end Go.Proofs.YtecodpdfckjalaaGreatDoor
