import Derived.Test.YtecodpdfckjalaaGreatDoorZQW
import Derived.Test.YtecodpdfckjalaaGreatDoorZPSg
import Derived.Test.YtecodpdfckjalaaGreatDoorZRRd2
import Derived.Test.YtecodpdfckjalaaGreatDoorZRPgm
import Derived.Test.YtecodpdfckjalaaGreatDoorZRShR
import Derived.Lib.AppendStr
import Derived.Deep.AppendLies
import Derived.Lib.BufferRead
import Derived.Test.YtecodpdfckjalaaGreatDoorZTB
import Derived.Test.YtecodpdfckjalaaGreatDoorZScan
import Derived.Test.YtecodpdfckjalaaGreatDoorZWord
import Derived.Test.YtecodpdfckjalaaGreatDoorZSignP
import Derived.WalkSmall
import Derived.Lib.LaidTab
set_option linter.unusedVariables false
set_option linter.unusedSimpArgs false
set_option maxHeartbeats 4000000
set_option maxRecDepth 100000
namespace Go.Proofs.YtecodpdfckjalaaGreatDoor
open Go.RowKit
theorem ui : ∀ (ts : List (List UInt8)) (pre : List UInt8), ((iQ (pre.length + 1) ts).map (oo (pre ++ dQ ts))).map pS = (ts.map xx).map pS
 | [], pre => rfl
 | t :: r, pre => by
  have ih := ui r (pre ++ 32 :: t)
  have hm := BH (pre ++ [32]) t (dQ r)
  have e1 : (pre ++ [(32 : UInt8)]).length = pre.length + 1 := by simp
  have e2 : (pre ++ 32 :: t).length + 1 = pre.length + 1 + t.length + 1 := by simp; omega
  have e3 : pre ++ dQ (t :: r) = (pre ++ [32]) ++ (t ++ dQ r) := by simp [dQ]
  have e4 : (pre ++ 32 :: t) ++ dQ r = (pre ++ [32]) ++ (t ++ dQ r) := by simp
  rw [e1] at hm
  rw [e2, e4] at ih
  rw [e3, show iQ (pre.length + 1) (t :: r) = rf (pre.length + 1) t :: iQ (pre.length + 1 + t.length + 1) r from rfl]
  simp only [List.map_cons]
  congr 1
  simp only [oo, pS, rf, xx, hm]
theorem FL : ∀ (ts : List (List UInt8)), gu ts -> ((iQ 0 ts).map (oo (fG [] ts))).map pS = (ts.map xx).map pS
 | [], _ => rfl
 | t :: r, h => by
  have hp := (all_cons.1 h).1.pos
  have ih := ui r t
  have hm := BH [] t (dQ r)
  simp only [List.nil_append, List.length_nil, Nat.zero_add] at hm
  rw [qZ t r hp, show iQ 0 (t :: r) = rf 0 t :: iQ (0 + t.length + 1) r from rfl, Nat.zero_add]
  simp only [List.map_cons]
  congr 1
  simp only [oo, pS, rf, xx, Nat.zero_add, hm]
theorem lW : ∀ (T : List (List UInt8)) (n : Nat) (t : List UInt8), 0 < n -> bT T n t ≠ 0 -> ∃ i, i < T.length /\ bT T n t = n + i /\ T.getD i [] = t
 | [], n, t, _, h => absurd rfl h
 | x :: r, n, t, h0, h => by
  rw [bT] at h ⊢
  split
  ·rename_i hx
   exact ⟨0, by simp, rfl, by simpa using hx⟩
  ·rename_i hx
   rw [if_neg hx] at h
   obtain ⟨i, h1, h2, h3⟩ := lW r (n + 1) t (by omega) h
   exact ⟨i + 1, by simpa using h1, by omega, by simpa using h3⟩
theorem yo (p : Int -> Bool) : ∀ l : List UInt8, eD p (l.take (eD p l)) = eD p l
 | [] => rfl
 | b :: r => by
  simp only [eD]
  split
  ·rename_i h
   rw [List.take_succ_cons, eD, if_pos h, yo p r]
  ·rfl
theorem uj {c : UInt8} (h : bF c.toNat = true) : 48 <= c.toNat /\ c.toNat <= 57 := by
 unfold bF at h
 simp only [Bool.and_eq_true, decide_eq_true_eq] at h
 omega
theorem rU : ∀ (a b : List UInt8), eG (a ++ b) = true -> eG a = true /\ eG b = true
 | [], b, h => ⟨rfl, h⟩
 | c :: r, b, h => by
  rw [List.cons_append, eG, Bool.and_eq_true] at h
  obtain ⟨h1, h2⟩ := rU r b h.2
  exact ⟨by rw [eG, h.1, h1]; rfl, h2⟩
theorem AR : ∀ (n : Nat) (l : List UInt8), l.length = n -> eG l = true -> l ≠ [] -> ((l.getD 0 0).toNat ≠ 48 ∨ l.length = 1) -> Lib.decDigits (cO l) = l := by
 intro n
 induction n with
 | zero =>
  intro l hl _ hne _
  exact absurd (List.eq_nil_of_length_eq_zero hl) hne
 | succ n ih =>
  intro l hl hd hne hz
  obtain ⟨a, c, rfl⟩ : ∃ a c, l = a ++ [c] := ⟨l.dropLast, l.getLast hne, (List.dropLast_concat_getLast hne).symm⟩
  obtain ⟨d1, d2⟩ := rU _ _ hd
  have hc : 48 <= c.toNat /\ c.toNat <= 57 := by
   simp only [eG, Bool.and_eq_true] at d2
   exact uj d2.1
  have ec : UInt8.ofNat (48 + (c.toNat - 48)) = c := by
   rw [show 48 + (c.toNat - 48) = c.toNat by omega]
   exact UInt8.ofNat_toNat
  have hv : cO (a ++ [c]) = cO a * 10 + (c.toNat - 48) := j3 c a 0
  by_cases ha : a = []
  ·subst ha
   rw [hv, show cO [] = 0 from rfl, Lib.decDigits_one (by omega), show 0 * 10 + (c.toNat - 48) = c.toNat - 48 by omega, ec]
   rfl
  ·have hlen : a.length = n := by simp at hl; exact hl
   have hp : 0 < a.length := List.length_pos_iff.2 ha
   have h48 : (a.getD 0 0).toNat ≠ 48 := by
    rcases hz with hz | hz
    ·rw [List.getD_eq_getElem?_getD, List.getElem?_append_left hp, ← List.getD_eq_getElem?_getD] at hz
     exact hz
    ·simp at hz
     exact absurd hz ha
   have hi := ih a hlen d1 ha (Or.inl h48)
   have hpos : 1 <= cO a := by
    match a, ha, h48, d1 with
    | x :: r, _, h48, d1 =>
     simp only [eG, Bool.and_eq_true] at d1
     have hx := uj d1.1
     have h48 : x.toNat ≠ 48 := h48
     have : 0 * 10 + (x.toNat - 48) <= cO (x :: r) := pR r (0 * 10 + (x.toNat - 48))
     omega
   rw [hv, pq (by omega), show (cO a * 10 + (c.toNat - 48)) / 10 = cO a by omega, show (cO a * 10 + (c.toNat - 48)) % 10 = c.toNat - 48 by omega, hi, ec]
theorem DR : ∀ i, i < 27 -> bW.getD i [] = [60, 45] -> i = 25 := by decide
theorem FM : ∀ i, i < 27 -> dA (40 + i) = bW.getD i [] := by decide
theorem FN : ∀ i, i < 21 -> dA (10 + i) = eF.getD i [] := by decide
theorem Hu {t : List UInt8} (hp : 0 < t.length) (hw : wsI ((t.getD 0 0).toNat : Int) = true) (hs : eD wbI t = t.length) (hl : t.length <= 32) (hk : fA t = 0) : bR t = true := by
 have hsp : aC wbI t 0 = t.length := by
  unfold aC
  rw [List.drop_zero, hs, Nat.zero_add]
 have hn : bG t 0 = (⟨1, 0, t.length, 0⟩, 0) := by
  unfold bG
  rw [if_pos hw]
  unfold il
  rw [hsp, List.drop_zero, Nat.sub_zero, List.take_length, if_neg (by rw [hk]; simp), if_neg (by omega)]
 have hsk : bB t 0 = 0 := by
  match t, hp, hw with
  | c :: r, _, h5 =>
   have h5 : wsI (c.toNat : Int) = true := h5
   have hb : gm (c.toNat : Int) = false := by
    unfold wsI at h5
    unfold gm
    simp only [Bool.or_eq_true, Bool.and_eq_true, decide_eq_true_eq, beq_iff_eq] at h5
    simp only [Bool.or_eq_false_iff, beq_eq_false_iff_ne]
    omega
   have hr : ((c.toNat : Int) == 35) = false := by
    unfold wsI at h5
    simp only [Bool.or_eq_true, Bool.and_eq_true, decide_eq_true_eq, beq_iff_eq] at h5
    rw [beq_eq_false_iff_ne]
    omega
   unfold bB
   simp only [List.drop_zero, fI]
   rw [if_neg (by rw [hb]; simp), if_neg (by rw [hr]; simp)]
 have hc : gY t 0 [⟨1, 0, t.length, 0⟩] := by
  refine ⟨hsk, hp, hn, ?_⟩
  show bB t (0 + t.length) = t.length
  rw [Nat.zero_add]
  unfold bB
  rw [List.drop_length]
  rfl
 unfold bR
 rw [kM t _ hc (by omega)]
 simp [iH]
theorem FO (xs : List UInt8) (k : Nat) (t : Tok) (hk : k < xs.length) (h : bG xs k = (t, 0)) : Gv (oo xs t) := by
 unfold bG at h
 by_cases w1 : wsI ((xs.getD k 0).toNat : Int) = true
 ·rw [if_pos w1] at h
  have hsl := dN wbI xs k (by omega)
  have hw0 : 0 < aC wbI xs k - k := by
   have e : xs.drop k = xs[k] :: xs.drop (k + 1) := List.drop_eq_getElem_cons hk
   have hb : wbI (xs[k].toNat : Int) = true := by
    rw [List.getD_eq_getElem?_getD, List.getElem?_eq_getElem hk, Option.getD_some] at w1
    unfold wsI at w1
    unfold wbI wsI
    simp only [Bool.or_eq_true] at w1 ⊢
    exact Or.inl w1
   unfold aC
   rw [e, eD, if_pos hb]
   omega
  have hcut : cut xs k (k + (aC wbI xs k - k)) = (xs.drop k).take (aC wbI xs k - k) := by unfold cut; rw [Nat.add_sub_cancel_left]
  have h0 : ((xs.drop k).take (aC wbI xs k - k)).getD 0 0 = xs.getD k 0 := by
   rw [List.getD_eq_getElem?_getD, List.getElem?_take_of_lt hw0, List.getElem?_drop, List.getD_eq_getElem?_getD, Nat.add_zero]
  unfold il at h
  split at h
  ·rename_i hne
   have e := (Prod.mk.inj h).1
   subst e
   obtain ⟨i, h1, h2, h3⟩ := lW eF 10 _ (by decide) hne
   have h2 : fA ((xs.drop k).take (aC wbI xs k - k)) = 10 + i := h2
   have hname : (oo xs ⟨fA ((xs.drop k).take (aC wbI xs k - k)), k, aC wbI xs k - k, 0⟩).name = eF.getD i [] := by
    show cut xs k (k + (aC wbI xs k - k)) = _
    rw [hcut, h3]
   refine ⟨fun _ => ?_, fun hh => ?_, fun hh => ?_, fun hh => ?_⟩
   ·rw [hname]
    show _ = dA (fA _)
    rw [h2, FN i h1]
   ·have hh : fA _ = 1 := hh
    omega
   ·have hh : fA _ = 2 := hh
    omega
   ·rw [hname, h3] at hh
    rw [hh] at hne
    exact absurd rfl hne
  ·rename_i hz
   split at h
   ·simp at h
   ·rename_i h32
    have e := (Prod.mk.inj h).1
    subst e
    have hz : fA ((xs.drop k).take (aC wbI xs k - k)) = 0 := by
     by_cases e : fA ((xs.drop k).take (aC wbI xs k - k)) = 0
     ·exact e
     ·exact absurd e hz
    have hlen : ((xs.drop k).take (aC wbI xs k - k)).length = aC wbI xs k - k := by
     rw [List.length_take, List.length_drop]
     omega
    refine ⟨fun hh => ?_, fun _ => ?_, fun hh => ?_, fun hh => ?_⟩
    ·have hh : 10 <= 1 := hh
     omega
    ·show bR (cut xs k (k + (aC wbI xs k - k))) = true
     rw [hcut]
     refine Hu (by omega) (by rw [h0]; exact w1) ?_ (by omega) hz
     rw [hlen]
     unfold aC
     rw [Nat.add_sub_cancel_left]
     exact yo wbI _
    ·have hh : 1 = 2 := hh
     omega
    ·have hh : cut xs k (k + (aC wbI xs k - k)) = [60, 45] := hh
     rw [hcut] at hh
     rw [hh] at h0
     rw [← h0] at w1
     exact absurd w1 (by decide)
 ·rw [if_neg w1] at h
  by_cases w2 : bF ((xs.getD k 0).toNat : Int) = true
  ·rw [if_pos w2] at h
   have hsl := dN bF xs k (by omega)
   have hw0 : 0 < aC bF xs k - k := by
    have e : xs.drop k = xs[k] :: xs.drop (k + 1) := List.drop_eq_getElem_cons hk
    rw [List.getD_eq_getElem?_getD, List.getElem?_eq_getElem hk, Option.getD_some] at w2
    unfold aC
    rw [e, eD, if_pos w2]
    omega
   have h0 : (cut xs k (aC bF xs k)).getD 0 0 = xs.getD k 0 := by
    unfold cut
    rw [List.getD_eq_getElem?_getD, List.getElem?_take_of_lt hw0, List.getElem?_drop, List.getD_eq_getElem?_getD, Nat.add_zero]
   have hlen : (cut xs k (aC bF xs k)).length = aC bF xs k - k := by
    unfold cut
    rw [List.length_take, List.length_drop]
    omega
   unfold kD at h
   split at h
   ·simp at h
   ·split at h
    ·simp at h
    ·rename_i n2
     split at h
     ·have e := (Prod.mk.inj h).1
      subst e
      have hdec := AR _ (cut xs k (aC bF xs k)) rfl (Ba xs k) (fun e => by rw [e] at hlen; simp at hlen; omega) (by
       rw [h0, hlen]
       by_cases h48 : (xs.getD k 0).toNat = 48
       ·right
        by_cases h1 : 1 < aC bF xs k - k
        ·exact absurd ⟨by omega, h1⟩ n2
        ·omega
       ·exact Or.inl h48)
      have hname : cut xs k (k + (aC bF xs k - k)) = cut xs k (aC bF xs k) := by rw [show k + (aC bF xs k - k) = aC bF xs k by omega]
      refine ⟨fun hh => ?_, fun hh => ?_, fun _ => ?_, fun hh => ?_⟩
      ·have hh : 10 <= 2 := hh
       omega
      ·have hh : 2 = 1 := hh
       omega
      ·show cut xs k (k + (aC bF xs k - k)) = Lib.itoa ((cO (cut xs k (aC bF xs k)) : Nat) : Int)
       rw [hname, Lib.itoa, if_neg (by omega), Int.toNat_natCast, hdec]
      ·have hh : cut xs k (k + (aC bF xs k - k)) = [60, 45] := hh
       rw [hname] at hh
       rw [hh] at h0
       rw [← h0] at w2
       exact absurd w2 (by decide)
     ·simp at h
  ·rw [if_neg w2] at h
   unfold gQ at h
   split at h
   ·simp at h
   ·rename_i n1
    have e := (Prod.mk.inj h).1
    subst e
    rcases (gB (xs.drop k) bW 40 (0, 0)).2.2 with h3 | ⟨i, a1, a2, a3, a4⟩
    ·exfalso
     apply n1
     unfold gP
     rw [h3]
    ·have a1 : i < 27 := a1
     have a2 : (gP (xs.drop k)).1 = 40 + i := a2
     have a4 : (bW.getD i []).length = (gP (xs.drop k)).2 := a4
     have hname : cut xs k (k + (gP (xs.drop k)).2) = bW.getD i [] := by
      unfold cut
      rw [Nat.add_sub_cancel_left, ← a4]
      exact (List.prefix_iff_eq_take.1 (List.isPrefixOf_iff_prefix.1 a3)).symm
     clear a3 n1 h
     generalize gP (xs.drop k) = b at *
     obtain ⟨b1, b2⟩ := b
     simp only at a2 a4 hname
     subst a2
     refine ⟨fun hh => ?_, fun hh => ?_, fun hh => ?_, fun hh => ?_⟩
     ·show cut xs k (k + b2) = dA (40 + i)
      rw [hname, FM i a1]
     ·have hh : 40 + i = 1 := hh
      omega
     ·have hh : 40 + i = 2 := hh
      omega
     ·have hh : cut xs k (k + b2) = [60, 45] := hh
      rw [hname] at hh
      show 40 + i = 65
      rw [DR i a1 hh]
theorem oZ (xs : List UInt8) : ∀ (l : List Tok) (k : Nat), gY xs k l -> ∀ t ∈ l, Gv (oo xs t)
 | [], k, _, t, h => by cases h
 | u :: r, k, hc, t, h => by
  obtain ⟨q1, q2, q3, q4⟩ := hc
  rcases List.mem_cons.1 h with rfl | h
  ·exact FO xs _ _ q2 q3
  ·exact oZ xs r _ q4 t h
theorem Jr (xs : List UInt8) (h : (aA xs).2.2 = 0) : GT (pts xs (aR (aA xs).1 xs.length) 0) := by
 obtain ⟨hc, hl⟩ := iF xs h
 intro t ht
 unfold pts at ht
 rw [List.drop_zero] at ht
 obtain ⟨u, hu, rfl⟩ := List.mem_map.1 ht
 unfold aR at hu
 rcases List.mem_append.1 hu with hu | hu
 ·exact oZ xs _ 0 hc u hu
 ·rw [List.mem_singleton.1 hu]
  refine ⟨fun hh => ?_, fun hh => ?_, fun hh => ?_, fun hh => ?_⟩
  ·have hh : 10 <= 0 := hh
   omega
  ·have hh : 0 = 1 := hh
   omega
  ·have hh : 0 = 2 := hh
   omega
  ·have hh : cut xs xs.length (xs.length + 0) = [60, 45] := hh
   unfold cut at hh
   simp at hh
end Go.Proofs.YtecodpdfckjalaaGreatDoor
namespace Go.Proofs.YtecodpdfckjalaaGreatDoor
def ZR (I : List ax -> Prop) : Res -> Prop
 | .ok _ s => I s
 | .err s => I s
 | .out => True
section
variable {I : List ax -> Prop} (hI : ∀ s, I s -> kd s ≠ 0 -> I (tl s))
theorem AU {x : Res} {k : List Tr -> List ax -> Res} (h : ZR I x) (hk : ∀ a s, I s -> ZR I (k a s)) : ZR I (aB x k) := by
 cases x with
 | ok a s => exact hk a s h
 | err s => exact h
 | out => trivial
include hI
theorem Hw {c : Nat} {s : List ax} {k : List ax -> Res} (hs : I s) (hc : c ≠ 0) (hk : ∀ s, I s -> ZR I (k s)) : ZR I (want c s k) := by
 unfold want
 split
 ·rename_i h
  exact hk _ (hI s hs (by omega))
 ·exact hs
theorem Hy {s : List ax} {k : List UInt8 -> List ax -> Res} (hs : I s) (hk : ∀ n s, I s -> ZR I (k n s)) : ZR I (eT s k) := by
 unfold eT
 split
 ·rename_i h
  exact hk _ _ (hI s hs (by omega))
 ·exact hs
theorem Js {s : List ax} {k : Nat -> List ax -> Res} (hs : I s) (hk : ∀ n s, I s -> ZR I (k n s)) : ZR I (iM s k) := by
 unfold iM
 split
 ·rename_i h
  exact hk _ _ (hI s hs (by omega))
 ·exact hs
omit hI in
theorem Ir {p : Prop} [Decidable p] {a b : Res} (h1 : p -> ZR I a) (h2 : ¬ p -> ZR I b) : ZR I (if p then a else b) := by
 split
 ·rename_i h; exact h1 h
 ·rename_i h; exact h2 h
omit hI in
theorem J7 {kind num : Int} {s r : List ax} {name : List UInt8} {kids : List Tr} (h : I r) : ZR I (mk1 kind s num name kids r) := h
omit hI in
theorem J8 {a : List Tr} {r : List ax} (h : I r) : ZR I (.ok a r) := h
theorem Hz {g : Rl -> List ax -> Res} (H : ∀ r s, Wr r -> I s -> ZR I (g r s)) (r : Rl) (s : List ax) (hr : Wr r) (hs : I s) : ZR I (body g r s) := by
 have T : ∀ {c : Nat} {s : List ax}, I s -> kd s = c -> c ≠ 0 -> I (tl s) := fun {c s} h1 h2 h3 => hI s h1 (by omega)
 cases r
 case ops least left most =>
  unfold body
  refine Ir (fun _ => hs) (fun h => ?_)
  have hl : 1 <= least := hr
  have h0 : kd s ≠ 0 := lC (by omega)
  refine AU (H _ _ (by simp only [Wr]; omega) (hI s hs h0)) (fun b s2 h2 => H _ _ (by simp only [Wr]; omega) h2)
 case operands least =>
  unfold body
  exact AU (H _ _ trivial hs) (fun a s1 h1 => H _ _ hr h1)
 all_goals
  unfold body
  repeat' (first
   | assumption
   | exact H _ _ (by first | trivial | (simp only [Wr]; omega) | exact (BA _).1) (by first | assumption | (apply hI; assumption; omega))
   | refine AU (H _ _ (by first | trivial | (simp only [Wr]; omega) | exact (BA _).1) (by first | assumption | (apply hI; assumption; omega))) (fun _ _ _ => ?_)
   | refine Hy hI (by assumption) (fun _ _ _ => ?_)
   | refine Js hI (by assumption) (fun _ _ _ => ?_)
   | refine Hw hI (by assumption) (by decide) (fun _ _ => ?_)
   | refine Ir (fun _ => ?_) (fun _ => ?_)
   | (refine J7 ?_; first | assumption | (apply hI; assumption; omega))
   | (refine J8 ?_; first | assumption | (apply hI; assumption; omega)))
theorem Iu : ∀ (f : Nat) (r : Rl) (s : List ax), Wr r -> I s -> ZR I (pF f r s)
 | 0, _, _, _, _ => trivial
 | f + 1, r, s, hr, hs => Hz hI (Iu f) r s hr hs
end
end Go.Proofs.YtecodpdfckjalaaGreatDoor
namespace Go.Proofs.YtecodpdfckjalaaGreatDoor
open Go.RowKit
theorem aQ.upP {w : World} {B C : Nat} {v : Value} {ks : List Int} (h : aQ w B v ks) (hB : B <= C) : aQ w C v ks := by
 obtain ⟨a, c, e, h1, h2, h3⟩ := h.ex
 refine ⟨a, c, e, h1, h2, fun h0 => ?_⟩
 obtain ⟨b, o, e1, e2, e3⟩ := h3 h0
 exact ⟨b, o, e1, by omega, e3⟩
theorem dh.upP {w : World} {B C cap : Nat} {a : Option Addr} {l : List Nd} (h : dh w B a cap l) (hB : B <= C) (hC : C <= w.heap.size) : dh w C a cap l := by
 refine ⟨fun h0 => ?_, hC⟩
 obtain ⟨nb, no, e, hn⟩ := h.at_ h0
 refine ⟨nb, no, e, fun j hj => ?_, hn.wf, by have := hn.lo; omega, hC, hn.max, hn.cap⟩
 obtain ⟨ka, kc, q⟩ := hn.at_ j hj
 exact ⟨ka, kc, q.c0, q.c1, q.c2, q.c3, q.c4, q.kids.upP hB⟩
theorem dh.later {w w' : World} {cap : Nat} {a : Option Addr} {l : List Nd} (h : dh w w.heap.size a cap l) (hb : Below w.heap.size w w') : dh w' w'.heap.size a cap l :=
 (h.below hb).upP hb.size (Nat.le_refl _)
structure NsS (w W : World) (b1 b2 : Nat) (na ma : Option Addr) (nc mc : Nat) (l m : List Nd) (fa fc ga gc : Int) : Prop where
 bel : Below w.heap.size w W
 f0 : W.cell? ⟨b1, 0, none⟩ = some (.int .i64 fa)
 f1 : W.cell? ⟨b1, 1, none⟩ = some (.int .i64 fc)
 g0 : W.cell? ⟨b2, 0, none⟩ = some (.int .i64 ga)
 g1 : W.cell? ⟨b2, 1, none⟩ = some (.int .i64 gc)
 nl : dh W W.heap.size na nc l
 nm : dh W W.heap.size ma mc m
theorem NsS.later {w W W' : World} {b1 b2 : Nat} {na ma : Option Addr} {nc mc : Nat} {l m : List Nd} {fa fc ga gc : Int} (h : NsS w W b1 b2 na ma nc mc l m fa fc ga gc) (hb : Below W.heap.size W W') : NsS w W' b1 b2 na ma nc mc l m fa fc ga gc := by
 have k1 := World.block_lt_of_cell? W _ h.f0
 have k2 := World.block_lt_of_cell? W _ h.g0
 exact ⟨h.bel.trans (hb.mono h.bel.size), by rw [hb.cell (p := ⟨b1, 0, none⟩) k1]; exact h.f0, by rw [hb.cell (p := ⟨b1, 1, none⟩) k1]; exact h.f1, by rw [hb.cell (p := ⟨b2, 0, none⟩) k2]; exact h.g0, by rw [hb.cell (p := ⟨b2, 1, none⟩) k2]; exact h.g1, h.nl.later hb, h.nm.later hb⟩
def H7 (w : World) (l : List Nd) (fa fc : Int) (e : Ending) (w' : World) : Prop :=
 ∃ a cap, e = .returned (.tuple #[.slice a l.length cap, .agg #[.int .i64 fa, .int .i64 fc]]) /\ Below w.heap.size w w' /\ dh w' w'.heap.size a cap l
theorem pJ {w W2 W3 : World} {o : Obj} (h : Below w.heap.size w W2) (e : W2.alloc o = W3) : Below w.heap.size w W3 := by
 rw [← e]
 exact h.trans ((ah _ _).mono h.size)
theorem app1 {e t : TypeId} {i0 : TypeInfo} {z : Value} {s bt : Nat} (ht : Tryz.prog.underlying t = some (.slice e)) (hi : Tryz.prog.info? e = some i0) (hz : i0.zero = some z) (hs : i0.size = s) (hb : i0.bytes = bt) (hzs : z.cells.size = s) (hs0 : 0 < s)
  (W : World) (B : Nat) (v : Value) (n : Nat) (xs : List Value) (ho : W.ownsRow B e s v n xs) (cs : Array Value) (hcs : cs.toList.length = s) (h1 : ∀ u ∈ cs.toList, u.oneCell' = true) (hn : n + 1 <= maxLen) (hby : (n + 1) * bt <= 140737488355328) (hB : B <= W.heap.size) :
  ∃ g c W3, (∀ ty, (Builtin.append_ #[t, t] ty #[v, .slice (some ⟨W.heap.size, 0, none⟩) 1 1]).run Tryz.prog (W.alloc (.cells cs e)) = .ok (.slice (some ⟨g, 0, none⟩) (n + 1) c) W3) /\ W3.ownsRow B e s (.slice (some ⟨g, 0, none⟩) (n + 1) c) (n + 1) (xs ++ cs.toList) /\ W.grownBy W3 v.ownBlock := by
 have ho' : (W.alloc (.cells cs e)).ownsRow B e s v n xs := ho.alloc _
 obtain ⟨g, c, W3, r1, r2, r3, r4, r5⟩ := run_append_lies (P := Tryz.prog) (W.alloc (.cells cs e)) t e B e i0 z s bt ht hi hz hs hb hzs hs0 v n xs ho' ⟨W.heap.size, 0, none⟩ 1 1 cs.toList (by omega) (World.news_of_block (heap_alloc_new W _)) h1 (by omega) hn hby (by simp; omega) _ rfl
 refine ⟨g, c, W3, fun ty => r1, r2, ⟨r3.os, r3.tape, r3.output, Nat.le_trans (by simp) r3.size, fun k hk hne => ?_⟩⟩
 rw [r3.block k (by simp; omega) hne, Below.heap_alloc W _ k hk]
theorem H8 {W : World} {B : Nat} {e : TypeId} {s : Nat} {v : Value} {n : Nat} {cs : List Value} (h : W.ownsRow B e s v n cs) {g : Nat} (hg : v.ownBlock = some g) : B <= g /\ g < W.heap.size := by
 rcases h.2 with ⟨rfl, _⟩ | ⟨g', cap, cur, rfl, hB, hgg, rest⟩
 ·cases hg
 ·simp only [Value.ownBlock, Option.some.injEq] at hg
  subst hg
  exact ⟨hB, (Array.getElem?_eq_some_iff.1 hgg).1⟩
def BO (w : World) (B : Nat) (v : Value) (bs : List UInt8) : Prop := w.ownsRow B 5 1 v bs.length (Lib.byteCells bs)
def SO (w : World) (B : Nat) (v : Value) (ws : List (List UInt8)) : Prop := w.ownsRow B 9 1 v ws.length (ws.map uo)
def NO (w : World) (B : Nat) (v : Value) (ks : List Int) : Prop := w.ownsRow B 3 1 v ks.length (ks.map (Value.int .i64))
theorem H9 : (Tryz.prog.info? 9).map (fun i => (i.zero, i.size, i.bytes)) = some (some (.string ⟨#[]⟩), 1, 16) := by kernel_rfl
theorem Ia (W : World) (B : Nat) (v : Value) (ws : List (List UInt8)) (ho : SO W B v ws) (x : List UInt8) (hB : B <= W.heap.size) (hl : ws.length <= 1000000) :
  ∃ v' W3, (∀ ty, (Builtin.append_ #[36, 36] ty #[v, .slice (some ⟨W.heap.size, 0, none⟩) 1 1]).run Tryz.prog (W.alloc (.cells #[uo x] 9)) = .ok v' W3) /\ SO W3 B v' (ws ++ [x]) /\ W.grownBy W3 v.ownBlock := by
 obtain ⟨i0, hi0, hz0, hz1, hz2⟩ := info_parts H9
 obtain ⟨g, c, W3, h1, h2, h3⟩ := app1 Tryz.underlying36 hi0 hz0 hz1 hz2 rfl (by decide) W B v ws.length _ ho #[uo x] rfl (by simp [uo, Value.oneCell']) (by unfold maxLen; omega) (by omega) hB
 refine ⟨_, W3, h1, ?_, h3⟩
 unfold SO
 rw [List.map_append, List.length_append]
 exact h2
theorem BO.src {w : World} {B : Nat} {v : Value} {bs : List UInt8} (h : BO w B v bs) (hm : bs.length <= maxLen) : ∃ a cap, v = .slice a bs.length cap /\ iG w a cap bs := by
 have h' : w.ownsRow B 5 1 v bs.length (Lib.byteCells bs) := h
 rcases h'.2 with ⟨rfl, hn⟩ | ⟨g, cap, cur, rfl, hB, hg, q1, q2, q3, q4⟩
 ·exact ⟨none, 0, by rw [hn], fun h => by omega, by omega, hm⟩
 ·refine ⟨_, cap, rfl, fun _ => ⟨g, 0, rfl, (Array.getElem?_eq_some_iff.1 hg).1, fun i hi => ?_⟩, by omega, hm⟩
  have e := congrArg (·[i]?) q4
  simp only [Lib.byteCells, List.getElem?_map] at e
  rw [List.getElem?_take_of_lt (by omega), Array.getElem?_toList, List.getElem?_eq_getElem hi] at e
  simp [World.cell?, hg, e, List.getD, hi]
theorem SO.at_ {w : World} {B : Nat} {v : Value} {ws : List (List UInt8)} (h : SO w B v ws) (h0 : 0 < ws.length) : ∃ g cap, v = .slice (some ⟨g, 0, none⟩) ws.length cap /\ B <= g /\ g < w.heap.size /\ ws.length <= cap /\ ∀ j (hj : j < ws.length), w.cell? ⟨g, j, none⟩ = some (uo ws[j]) := by
 have h' : w.ownsRow B 9 1 v ws.length (ws.map uo) := h
 rcases h'.2 with ⟨rfl, hn⟩ | ⟨g, cap, cur, rfl, hB, hg, q1, q2, q3, q4⟩
 ·omega
 ·refine ⟨g, cap, rfl, hB, (Array.getElem?_eq_some_iff.1 hg).1, by omega, fun j hj => ?_⟩
  have e := congrArg (·[j]?) q4
  simp only [List.getElem?_map] at e
  rw [List.getElem?_take_of_lt (by omega), Array.getElem?_toList, List.getElem?_eq_getElem hj] at e
  simp [World.cell?, hg, e]
def fq (xs : List UInt8) (l : List Tok) : List (List UInt8) := l.map fun t => cut xs t.place (t.place + t.len)
theorem AV (xs : List UInt8) (l : List Tok) (p : Nat) (h : p < l.length) : fq xs (l.take (p + 1)) = fq xs (l.take p) ++ [cut xs l[p].place (l[p].place + l[p].len)] := by
 unfold fq
 rw [List.take_succ_eq_append_getElem h, List.map_append]
 rfl
theorem AX (w : World) (a : Option Addr) (n cap : Nat) (HS : Bx (Calls Tryz.prog 19 #[.slice a n cap] w fun e w' => ∃ x c, e = .returned (.tuple #[.slice x 0 c, .agg #[.int .i64 0, .int .i64 0]]) /\ Below w.heap.size w w')) :
  Calls Tryz.prog 12 #[.slice a n cap] w fun e w' => ∃ v, e = .returned (.tuple #[v, .bool true]) /\ SO w' w.heap.size v [] /\ Below w.heap.size w w' := by
 go_enter Tryz.func12, Tryz.ntmps12
 go_wp2_with (first | (go_at_call 19; refine Calls.mono HS.out ?_; rintro e W2 ⟨x, c, rfl, hb⟩; have HB : Bx _ := ⟨hb⟩; clear hb HS))
 refine wp_loop_rounds 1 ?_
 rw [rounds_succ]
 go_wp2
 exact bodyPost_ret (v := .tuple #[.slice none 0 0, .bool true]) (by simp [results, Tryz.results12, go_sem]) rfl ⟨_, rfl, World.ownsRow_nil _ _ _ _, pJ HB.out rfl⟩
theorem AY (w : World) (b o cap : Nat) (xs : List UInt8) (toks : List Tok) (hs : Src w b o xs) (hb : b < w.heap.size) (hcap : xs.length <= cap) (hl : xs.length <= 65536) (h0 : 0 < toks.length) (hin : ∀ p (h : p < toks.length), 1 <= toks[p].len /\ toks[p].place + toks[p].len <= xs.length) (hfew : toks.length <= 65536)
  (HS : Bx (Calls Tryz.prog 19 #[.slice (some ⟨b, o, none⟩) xs.length cap] w fun e w' => ∃ g cp, e = .returned (.tuple #[.slice (some ⟨g, 0, none⟩) toks.length cp, .agg #[.int .i64 0, .int .i64 0]]) /\ Below w.heap.size w w' /\ toks.length <= cp /\ xK w' g toks)) :
  Calls Tryz.prog 12 #[.slice (some ⟨b, o, none⟩) xs.length cap] w fun e w' => ∃ v, e = .returned (.tuple #[v, .bool true]) /\ SO w' w.heap.size v (fq xs toks) /\ Below w.heap.size w w' := by
 have HSR : Bx (∀ W, Below w.heap.size w W -> Src W b o xs) := ⟨fun W hW => hs.below hb hW⟩
 have HIN : Bx _ := ⟨hin⟩
 clear hs hin
 go_enter Tryz.func12, Tryz.ntmps12
 go_wp2_with (first | (go_at_call 19; refine Calls.mono HS.out ?_; clear HS; rintro e W2 ⟨g, cp, rfl, hb2, hcp, hT⟩; obtain ⟨W3, hW3⟩ : ∃ W3, W2.alloc (.cells #[.int .i64 0, .int .i64 0] 30) = W3 := ⟨_, rfl⟩; have HB3 : Bx _ := ⟨pJ hb2 hW3⟩; have HT3 : Bx (xK W3 g toks) := ⟨hT.later (by rw [← hW3]; exact ah _ _)⟩; have HW3 : Bx _ := ⟨hW3⟩; clear hb2 hT hW3))
 rw [HW3.out]
 clear HW3
 go_loopw [19, 6] (fun x v wr => ∃ (p : Nat) (vv : Value), p <= toks.length /\ x = .int .i64 (p : Int) /\ vv = v /\ Bx (SO wr W3.heap.size vv (fq xs (toks.take p)) /\ Below W3.heap.size W3 wr)) (fun x _ _ => toks.length - (intOf x).toNat)
 case atStart => exact ⟨0, _, Nat.zero_le _, rfl, rfl, ⟨World.ownsRow_nil _ _ _ _, Below.refl _ _⟩⟩
 case round =>
  obtain ⟨p, vv, hp, rfl, rfl, HI⟩ := hrel
  by_cases hlt : p < toks.length
  ·have hz := HI.out.2.size
   obtain ⟨c0, c1, c2, c3⟩ := (HT3.out.later HI.out.2).at_ p hlt
   have hgl := (HT3.out.later HI.out.2).lt
   obtain ⟨hI1, hI⟩ := HIN.out p hlt
   have hwt := AV xs toks p hlt
   have hbw := HB3.out.trans (HI.out.2.mono HB3.out.size)
   generalize toks[p] = t at *
   obtain ⟨kd0, pl, ln, nu⟩ := t
   simp only at c0 c1 c2 c3 hI hI1 hwt
   obtain ⟨X1, hX1⟩ : ∃ X1, wr.alloc (.cells #[.int .i64 (kd0 : Int), .int .i64 (pl : Int), .int .i64 (ln : Int), .int .i64 (nu : Int)] 62) = X1 := ⟨_, rfl⟩
   have bX : Below wr.heap.size wr X1 := by rw [← hX1]; exact ah _ _
   have sX : SO X1 W3.heap.size vv (fq xs (toks.take p)) := jQ HI.out.1 bX
   have hsr := HSR.out X1 (hbw.trans (bX.mono hbw.size))
   have hsl : ∀ W1 : World, (Instr.slice 33 (.slice (some ⟨b, o, none⟩) xs.length cap) (some (.int .i64 (pl : Int))) (some (.int .i64 ((pl : Int) + (ln : Int)))) none).run Tryz.prog W1 = .ok (.slice (some ⟨b, o + pl, none⟩) ln (cap - pl)) W1 := fun W1 => by
    have h := Lib.run_slice_window (P := Tryz.prog) W1 33 5 Tryz.underlying33 sizeOf5 b o xs.length cap pl (pl + ln) (by omega) (by omega)
    rw [Nat.add_sub_cancel_left] at h
    exact h
   have hcv : (convert 33 9 (.slice (some ⟨b, o + pl, none⟩) ln (cap - pl))).run Tryz.prog X1 = .ok (.string ⟨(cut xs pl (pl + ln)).toArray⟩) X1 := by
    have := mP X1 b o (cap - pl) xs pl (pl + ln) hsr (by omega) hI
    rw [Nat.add_sub_cancel_left] at this
    exact this
   obtain ⟨v', W5, run, s5, g5⟩ := Ia X1 W3.heap.size vv _ sX (cut xs pl (pl + ln)) (by have := bX.size; omega) (by unfold fq; rw [List.length_map, List.length_take]; omega)
   have b5 : Below W3.heap.size W3 W5 := Below.grown (HI.out.2.trans (bX.mono hz)) g5 (by have := bX.size; omega) (fun k hk => (H8 sX hk).1)
   rw [← hwt] at s5
   have HX : Bx (SO W5 W3.heap.size v' (fq xs (toks.take (p + 1))) /\ Below W3.heap.size W3 W5) := ⟨s5, b5⟩
   have x1 : X1.cell? ⟨wr.heap.size, 1, none⟩ = some (.int .i64 (pl : Int)) := by rw [← hX1]; simp
   have x2 : X1.cell? ⟨wr.heap.size, 2, none⟩ = some (.int .i64 (ln : Int)) := by rw [← hX1]; simp
   clear sX s5 g5 b5 hsr HI bX hbw hwt
   unfold uo at run
   generalize cut xs pl (pl + ln) = st at *
   have q1 : ¬ ((pl : Int) < 0) := by omega
   have q2 : ¬ ((ln : Int) < 0) := by omega
   have q3 : ¬ ((xs.length : Int) < (pl : Int) + (ln : Int)) := by omega
   go_wp2_with (first | (at_builtin; refine ku rfl (.tmp 41) (.tmp 52) 36 rfl rfl rfl run ?_; clear run))
   go_roundw
   case rel => exact ⟨p + 1, _, hlt, by go_num, rfl, HX⟩
   case measure => simp [intOf]; omega
  ·obtain rfl : p = toks.length := by omega
   have HX : Bx (SO wr w.heap.size vv (fq xs toks) /\ Below w.heap.size w wr) := ⟨by
    have := HI.out.1
    rw [List.take_length] at this
    exact sI this HB3.out.size, HB3.out.trans (HI.out.2.mono HB3.out.size)⟩
   clear HI
   go_wp2
   exact bodyPost_ret (v := .tuple #[vv, .bool true]) (by simp [results, Tryz.results12, go_sem]) rfl ⟨_, rfl, HX.out.1, HX.out.2⟩
theorem yt (w : World) (a : Option Addr) (cap : Nat) (xs : List UInt8) (hs : iG w a cap xs) (hL : Laid w) (h0 : (aA xs).2.2 = 0) :
  Calls Tryz.prog 12 #[.slice a xs.length cap] w fun e w' => ∃ v, e = .returned (.tuple #[v, .bool true]) /\ SO w' w.heap.size v (fq xs (aA xs).1) /\ Below w.heap.size w w' := by
 obtain ⟨hc, hl⟩ := iF xs h0
 have hfew := (lF xs h0).2.2
 have HS := jH a cap xs w hs hL
 have hA : (aA xs).2.1 = 0 := by rw [kM xs _ hc hl]
 rw [h0, hA] at HS
 have hall := mI xs (aA xs).1 0 hc
 have hlen := kw xs (aA xs).1 0 (Nat.zero_le _) hc
 generalize (aA xs).1 = toks at *
 by_cases ht : toks.length = 0
 ·obtain rfl := List.eq_nil_of_length_eq_zero ht
  refine AX w a xs.length cap ⟨HS.mono ?_⟩
  rintro e w' ⟨v, rfl, hv, hb⟩
  obtain ⟨x, c, rfl⟩ := CY hv
  exact ⟨x, c, rfl, hb⟩
 ·obtain ⟨b, o, rfl, hb, hsrc⟩ := hs.at_ (by omega)
  refine AY w b o cap xs toks hsrc hb hs.cap_ hl (by omega) (fun p hp => (hall p hp).2) hfew ⟨HS.mono ?_⟩
  rintro e w' ⟨v, rfl, hv, hb⟩
  obtain ⟨g, cp, rfl, _, h2, h3⟩ := uP hv (by omega)
  exact ⟨g, cp, rfl, hb, h2, h3⟩
theorem yu : ∀ (f : Nat) (s : List ax) (ts : List Tr) (s' : List ax), pF f .tops s = .ok ts s' -> s'.length <= 1
 | 0, s, ts, s', h => by cases h
 | f + 1, s, ts, s', h => by
  have h : (if s.length <= 1 then Res.ok [] s else aB (pF f .stmt s) fun a s1 => aB (pF f .tops s1) fun b s2 => .ok (a ++ b) s2) = .ok ts s' := h
  split at h
  ·rename_i hl
   cases h
   exact hl
  ·cases h1 : pF f .stmt s with
   | ok a s1 =>
    rw [h1] at h
    simp only [aB] at h
    cases h2 : pF f .tops s1 with
    | ok b s2 =>
     rw [h2] at h
     simp only [Res.ok.injEq] at h
     rw [← h.2]
     exact yu f s1 b s2 h2
    | err s2 => rw [h2] at h; cases h
    | out => rw [h2] at h; cases h
   | err s1 => rw [h1] at h; cases h
   | out => rw [h1] at h; cases h
theorem FP (f : Nat) (s : List ax) (ts : List Tr) (s' : List ax) (h : pF f .program s = .ok ts s') : s'.length <= 1 := by
 cases f with
 | zero => cases h
 | succ f =>
  have h : (aB (pF f .types s) fun a s1 => aB (pF f .tops s1) fun b s2 => .ok [.mk 46 0 a.length [] (a ++ b)] s2) = .ok ts s' := h
  cases h1 : pF f .types s with
  | ok a s1 =>
   rw [h1] at h
   simp only [aB] at h
   cases h2 : pF f .tops s1 with
   | ok b s2 =>
    rw [h2] at h
    simp only [Res.ok.injEq] at h
    rw [← h.2]
    exact yu f s1 b s2 h2
   | err s2 => rw [h2] at h; cases h
   | out => rw [h2] at h; cases h
  | err s1 => rw [h1] at h; cases h
  | out => rw [h1] at h; cases h
theorem FQ (e : ax) (he : e.kind = 0) (f : Nat) (p : List ax) (ts : List Tr) (s' : List ax) (h : pF f .program (p ++ [e]) = .ok ts s') : s' = [e] := by
 have hI : ∀ s, (∃ a, s = a ++ [e]) -> kd s ≠ 0 -> ∃ a, tl s = a ++ [e] := by
  rintro s ⟨a, rfl⟩ hk
  cases a with
  | nil => exact absurd he hk
  | cons x r => exact ⟨r, rfl⟩
 have hz := Iu (I := fun s => ∃ a, s = a ++ [e]) hI f .program (p ++ [e]) trivial ⟨p, rfl⟩
 rw [h] at hz
 obtain ⟨a, rfl⟩ : ∃ a, s' = a ++ [e] := hz
 have hl := FP f _ ts _ h
 simp at hl
 rw [hl]
 rfl
theorem vH (xs : List UInt8) (h : (aA xs).2.2 = 0) (f : Nat) (ts : List Tr) (s' : List ax) (hp : pF f .program (pts xs (aR (aA xs).1 xs.length) 0) = .ok ts s') :
  bO (ag ts 0) = (0, 0) /\ gG (ag ts 0) ((ag ts 0).length - 1) = fq xs (aA xs).1 := by
 have hg := Jr xs h
 have hs := Im f .program _ trivial hg
 have e : pts xs (aR (aA xs).1 xs.length) 0 = (aA xs).1.map (oo xs) ++ [oo xs ⟨0, xs.length, 0, 0⟩] := by
  unfold pts aR
  rw [List.drop_zero, List.map_append]
  rfl
 rw [hp] at hs
 obtain ⟨x, h1, h2, h3, t, rfl, hk, rfl⟩ := hs
 rw [e] at hp h1
 have hs' := FQ _ rfl f _ _ _ hp
 rw [hs'] at h1
 unfold X at h1
 rw [List.map_append] at h1
 have hx := List.append_cancel_right h1
 have hf : ag [t] 0 = flat t 0 := by simp [ag]
 rw [hf, z8 t (og.1 h3) hk, CL, ← hx, List.map_map]
 exact ⟨rfl, rfl⟩
theorem DT (ts : List (List UInt8)) (h : gu ts) (hl : (fG [] ts).length <= 65536) : (aA (fG [] ts)).2.2 = 0 /\ fq (fG [] ts) (aA (fG [] ts)).1 = ts := by
 rw [EF h hl]
 refine ⟨rfl, ?_⟩
 have := congrArg (List.map ax.name) (FL ts h)
 simp only [List.map_map] at this
 have e1 : ∀ l : List Tok, fq (fG [] ts) l = l.map (ax.name ∘ pS ∘ oo (fG [] ts)) := fun l => rfl
 rw [e1, this]
 conv => rhs; rw [← List.map_id ts]
 exact List.map_congr_left (fun t _ => rfl)
end Go.Proofs.YtecodpdfckjalaaGreatDoor
namespace Go.Proofs.YtecodpdfckjalaaGreatDoor
open Go.RowKit Go.Sort
structure BxS (w0 : World) (B b : Nat) (lv : Value) (bs : List UInt8) (x : Nat) (k p num : Int) (v nm : Value) (W0 : World) (T : List (List UInt8)) (W : World) : Prop where
 st : PrS w0 B b lv bs T W
 box : W.heap[x]? = some (.cells #[.int .i64 k, .int .i64 p, v, nm, .int .i64 num] 44 (0, 0))
 keep : fe W0 W b
 xb : x ≠ b
def BxP (w0 : World) (B b : Nat) (lv : Value) (bs : List UInt8) (x : Nat) (k p num : Int) (v nm : Value) (W0 : World) (T : List (List UInt8)) (e : Ending) (W : World) : Prop :=
 e = .returned (.tuple #[]) /\ BxS w0 B b lv bs x k p num v nm W0 T W /\ W.cell? ⟨x, 0, none⟩ = some (.int .i64 k) /\ W.cell? ⟨x, 2, none⟩ = some v /\ W.cell? ⟨x, 3, none⟩ = some nm /\ W.cell? ⟨x, 4, none⟩ = some (.int .i64 num) /\ x < W.heap.size /\ b < W.heap.size
theorem BxS.post {w0 : World} {B b : Nat} {lv : Value} {bs : List UInt8} {x : Nat} {k p num : Int} {v nm : Value} {W0 : World} {T : List (List UInt8)} {W : World} (h : BxS w0 B b lv bs x k p num v nm W0 T W) : BxP w0 B b lv bs x k p num v nm W0 T (.returned (.tuple #[])) W := by
 obtain ⟨c0, c2, c3, c4, _, hx⟩ := dP h.box
 exact ⟨rfl, h, c0, c2, c3, c4, hx, h.st.pb.lt⟩
theorem s_call {w0 : World} {B b : Nat} {lv : Value} {bs : List UInt8} {x : Nat} {k p num : Int} {v nm : Value} {W0 : World} {T T2 : List (List UInt8)} {W : World} {N F : Nat} {args : Array Value} (hc : PrC w0 B b lv N F args T2) (h : BxS w0 B b lv bs x k p num v nm W0 T W) (hb : bs.length + cost (T ++ T2) <= N) :
  Calls Tryz.prog F args W (BxP w0 B b lv bs x k p num v nm W0 (T ++ T2)) := by
 refine (mZ hc h.st hb).mono ?_
 rintro e W' ⟨rfl, q1, q2, q3⟩
 exact BxS.post ⟨q1, q2 _ _ _ _ h.box (by decide) h.xb, h.keep.trans q2, h.xb⟩
theorem cB {w0 : World} {B b : Nat} {lv : Value} {bs : List UInt8} {x : Nat} {k p num : Int} {v nm : Value} {W0 : World} {T : List (List UInt8)} {W : World} {N : Nat} {C : Array Value} {n cap tb : Nat} (hN : N <= 140737488355328) (hn : C.size = n) (htb : W.heap.size = tb) (h : BxS w0 B b lv bs x k p num v nm W0 T W) (hok : bu C.toList) (h100 : n <= 100) (hb : bs.length + cost (T ++ ay C) <= N) :
  Calls Tryz.prog 49 #[.pointer (some ⟨b, 0, none⟩), .slice (some ⟨tb, 0, none⟩) n cap] (W.alloc (.cells C 9)) (BxP w0 B b lv bs x k p num v nm W0 (T ++ ay C)) := by
 subst htb
 refine (kS hN hn h.st hok h100 hb).mono ?_
 rintro e W' ⟨rfl, q1, q2, q3⟩
 exact BxS.post ⟨q1, q2 _ _ _ _ h.box (by decide) h.xb, h.keep.trans q2, h.xb⟩
theorem BxS.start {w0 : World} {B b : Nat} {lv : Value} {bs : List UInt8} {W : World} (h : PSt w0 B b lv W bs) (k p num : Int) (v nm : Value) : BxS w0 B b lv bs W.heap.size k p num v nm W [] (W.alloc (.cells #[.int .i64 k, .int .i64 p, v, nm, .int .i64 num] 44)) :=
 ⟨h.alloc _, heap_alloc_new W _, fe.alloc W _ b, by have := h.pb.lt; omega⟩
theorem bP {w0 : World} {B b : Nat} {lv : Value} {bs : List UInt8} {x : Nat} {k p num : Int} {v nm : Value} {W0 : World} {T T' : List (List UInt8)} {W : World} (h : BxS w0 B b lv bs x k p num v nm W0 T W) (hT : T = T') : Er w0 B b lv bs T' W0 (.returned (.tuple #[])) W := by
 subst hT
 exact ⟨rfl, h.st, h.keep, h.st.pb.lt⟩
def ndA (b : Nat) (ka : Option Addr) (kc nk : Nat) (k p num : Int) (nm : ByteArray) : Array Value := #[.pointer (some ⟨b, 0, none⟩), .agg #[.int .i64 k, .int .i64 p, .slice ka nk kc, .string nm, .int .i64 num]]
structure yw (w : World) (B : Nat) : Prop where
 laid : Laid w
 pow : Lib.TabIs Tryz.prog w "internal/strconv.uint64pow10" .u64 Lib.pow10Tab
 lo : 7 <= B
theorem FR {w w' : World} {B : Nat} {e : TypeId} {s : Nat} {v : Value} {n : Nat} {cs : List Value} (h : w.ownsRow B e s v n cs) (hb : Below w.heap.size w w') : w'.ownsRow B e s v n cs := by
 obtain ⟨h1, h2⟩ := h
 refine ⟨h1, ?_⟩
 rcases h2 with h2 | ⟨g, cap, cur, hv, hg, hh, r⟩
 ·exact .inl h2
 ·exact .inr ⟨g, cap, cur, hv, hg, by rw [hb.block g (iZ hh)]; exact hh, r⟩
theorem PSt.ext {w0 W W' : World} {B b : Nat} {lv : Value} {bs : List UInt8} (h : PSt w0 B b lv W bs) (hb : Below W.heap.size W W') : PSt w0 B b lv W' bs := by
 obtain ⟨p, v, hp, hbk, hown, hnil⟩ := h.pb.ex
 exact ⟨⟨⟨p, v, hp, by rw [hb.block b (iZ hbk)]; exact hbk, FR hown hb, hnil⟩, h.pb.lo, Nat.le_trans h.pb.hi hb.size⟩, h.bel.trans (hb.mono h.pb.hi)⟩
theorem fe.ext {w w' : World} (hb : Below w.heap.size w w') (b : Nat) : fe w w' b := fun k C T fz h1 h2 h3 => by rw [hb.block k (iZ h1)]; exact h1
theorem BxS.ext {w0 : World} {B b : Nat} {lv : Value} {bs : List UInt8} {x : Nat} {k p num : Int} {v nm : Value} {W0 : World} {T : List (List UInt8)} {W W' : World} (h : BxS w0 B b lv bs x k p num v nm W0 T W) (hb : Below W.heap.size W W') : BxS w0 B b lv bs x k p num v nm W0 T W' :=
 ⟨PSt.ext h.st hb, by rw [hb.block x (iZ h.box)]; exact h.box, h.keep.trans (fe.ext hb b), h.xb⟩
theorem FT (w : World) (k : Nat) (os : Array Obj) : Below w.heap.size w (grow (w.drewN k) os) := by
 refine ⟨rfl, rfl, rfl, by simp [grow], fun j hj => ?_⟩
 simp [grow, Array.getElem?_append_left hj]
theorem yx : Tryz.prog.globalNamed "internal/strconv.uint64pow10" = some 2 := by kernel_rfl
theorem BI (n : Int) : Lib.itoa n ≠ [] := by
 unfold Lib.itoa
 split
 ·simp
 ·intro e
  have := congrArg List.length e
  rw [Lib.decDigits] at this
  split at this <;> simp at this
theorem Ib : Lib.formatBool true = [116, 114, 117, 101] := by kernel_rfl
theorem FU : Lib.formatBool false = [102, 97, 108, 115, 101] := by kernel_rfl
theorem Ic (b : Bool) : Lib.formatBool b ≠ [] := by
 cases b
 ·rw [FU]; simp
 ·rw [Ib]; simp
theorem Jt {p : Prop} [Decidable p] {a b : List UInt8} (ha : a ≠ []) (hb : b ≠ []) : (if p then a else b) ≠ [] := by
 by_cases h : p
 ·rw [if_pos h]; exact ha
 ·rw [if_neg h]; exact hb
theorem Iw (n : Int) : opT n ≠ [] := by
 unfold opT
 repeat (refine Jt (by simp) ?_)
 simp
theorem uk {w0 : World} {B b : Nat} {lv : Value} {bs : List UInt8} {x : Nat} {k p num : Int} {v nm : Value} {W0 : World} {T : List (List UInt8)} {W : World} (HL : yw w0 B) (hi : I64 num) (h : BxS w0 B b lv bs x k p num v nm W0 T W) :
  Calls Tryz.prog 53 #[.int .i64 num] W fun e W' => e = .returned (.string ⟨(Lib.itoa num).toArray⟩) /\ BxS w0 B b lv bs x k p num v nm W0 T W' /\ W'.cell? ⟨x, 0, none⟩ = some (.int .i64 k) /\ W'.cell? ⟨x, 2, none⟩ = some v /\ W'.cell? ⟨x, 3, none⟩ = some nm /\ W'.cell? ⟨x, 4, none⟩ = some (.int .i64 num) /\ x < W'.heap.size /\ b < W'.heap.size := by
 have hpow : Lib.TabIs Tryz.prog W "internal/strconv.uint64pow10" .u64 Lib.pow10Tab := var?_below h.st.bel yx (by have := HL.lo; omega) HL.pow
 refine (Tryz.strconv_Itoa num hi.1 hi.2 W hpow).mono ?_
 rintro e W' ⟨rfl, j, os, rfl⟩
 exact ⟨rfl, (h.ext (FT W j os)).post.2⟩
end Go.Proofs.YtecodpdfckjalaaGreatDoor
