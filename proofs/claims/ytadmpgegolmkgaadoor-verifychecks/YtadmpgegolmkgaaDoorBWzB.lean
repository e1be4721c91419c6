import Derived.Test.YtadmpgegolmkgaaDoorBWyH
import Derived.Test.YtadmpgegolmkgaaDoorBWjD
import Derived.Test.YtadmpgegolmkgaaDoorBWmE
set_option linter.unusedVariables false
set_option linter.unusedSimpArgs false
set_option maxHeartbeats 4000000
set_option maxRecDepth 100000
namespace Go.Proofs.YtadmpgegolmkgaaDoor
open Go.RowKit
theorem aA (n l m : Int) (w : World) : Calls Tryd.prog 23 #[.int .i64 n, .int .i64 l, .int .i64 m] w fun e w' => e = .returned (.bool (decide (l <= n) && decide (n <= m))) /\ w = w' := by
 by_cases h0 : l <= n
 ·have hb : decide (l <= n) = true := decide_eq_true h0
  rw [hb]
  clear h0
  go_enter Tryd.func23, Tryd.ntmps23
  go_wp2
  go_ret
  exact ⟨aG (by simp), rfl⟩
 ·have hb : decide (l <= n) = false := decide_eq_false h0
  rw [hb]
  clear h0
  go_enter Tryd.func23, Tryd.ntmps23
  go_wp2
  go_ret
  exact ⟨aG (by simp), rfl⟩
def rfa (op : Int) : Bool := (vsI op).1 != 0
def rfb (op : Int) : Bool := (vsI op).2.1 != 0
def dC (op : Int) : Bool := (vsI op).2.2 != 0
theorem bu (op : Int) (w : World) (h1 : 1 <= op) (h2 : op <= 27) : Calls Tryd.prog 53 #[.int .i64 op] w fun e w' => e = .returned (.tuple #[.bool (rfa op), .bool (rfb op), .bool (dC op)]) /\ w = w' := by
 obtain ⟨k, rfl⟩ : ∃ k : Nat, op = (k : Int) := ⟨op.toNat, by omega⟩
 have hk : k < 28 := by omega
 have h0 : k ≠ 0 := by omega
 clear h1 h2
 by_cases c1 : k = 8 ∨ k = 9 ∨ k = 12 ∨ k = 13 ∨ k = 14 ∨ k = 25 ∨ k = 26
 ·rcases c1 with rfl | rfl | rfl | rfl | rfl | rfl | rfl
  all_goals
   go_enter Tryd.func53, Tryd.ntmps53
   go_wp2
   go_ret3
   exact ⟨rfl, rfl⟩
 by_cases c2 : k = 16 ∨ k = 22 ∨ k = 23 ∨ k = 27
 ·rcases c2 with rfl | rfl | rfl | rfl
  all_goals
   go_enter Tryd.func53, Tryd.ntmps53
   go_wp2
   go_ret3
   exact ⟨rfl, rfl⟩
 have e1 : rfa (k : Int) = true /\ rfb (k : Int) = false /\ dC (k : Int) = false := by
  have key : ∀ k, k < 28 -> (k == 0 || k == 8 || k == 9 || k == 12 || k == 13 || k == 14 || k == 25 || k == 26 || k == 16 || k == 22 || k == 23 || k == 27 || ((vsT.getD k (0, 0, 0)).1 != 0 && (vsT.getD k (0, 0, 0)).2.1 == 0 && (vsT.getD k (0, 0, 0)).2.2 == 0)) = true := by decide
  have := key k hk
  have e : ∀ n, k ≠ n -> (k == n) = false := fun n h => by simpa using h
  rw [e 0 h0, e 8 (by omega), e 9 (by omega), e 12 (by omega), e 13 (by omega), e 14 (by omega), e 25 (by omega), e 26 (by omega), e 16 (by omega), e 22 (by omega), e 23 (by omega), e 27 (by omega)] at this
  simp only [Bool.false_or, Bool.and_eq_true, bne_iff_ne, beq_iff_eq] at this
  unfold rfa rfb dC vsI
  rw [show ((k : Int)).toNat = k by omega]
  exact ⟨by simpa using this.1.1, by simpa using this.1.2, by simpa using this.2⟩
 rw [e1.1, e1.2.1, e1.2.2]
 have b8 : ((k : Int) == 8) = false := by simp; omega
 have b9 : ((k : Int) == 9) = false := by simp; omega
 have b12 : ((k : Int) == 12) = false := by simp; omega
 have b13 : ((k : Int) == 13) = false := by simp; omega
 have b14 : ((k : Int) == 14) = false := by simp; omega
 have b25 : ((k : Int) == 25) = false := by simp; omega
 have b26 : ((k : Int) == 26) = false := by simp; omega
 have b16 : ((k : Int) == 16) = false := by simp; omega
 have b22 : ((k : Int) == 22) = false := by simp; omega
 have b23 : ((k : Int) == 23) = false := by simp; omega
 have b27 : ((k : Int) == 27) = false := by simp; omega
 generalize (k : Int) = op at *
 clear e1 c1 c2
 go_enter Tryd.func53, Tryd.ntmps53
 go_wp2
 go_ret3
 exact ⟨rfl, rfl⟩
end Go.Proofs.YtadmpgegolmkgaaDoor
namespace Go.Proofs.YtadmpgegolmkgaaDoor
theorem xA {n L : Nat} {sl : Int} {res : Bool} {code : List CIn} (hx : ∀ i, i < n -> LkX n sl i (inA code i)) : ∀ (f : Nat) {s : Wst} {m : Nat}, eP s.P -> Kv n L m s.P s.K s.D -> eP (eO n res L code f s).2.2.P /\ Kv n L (m + 2 * f) (eO n res L code f s).2.2.P (eO n res L code f s).2.2.K (eO n res L code f s).2.2.D /\ s.P <+: (eO n res L code f s).2.2.P /\ (eO n res L code f s).2.2.K.length = s.K.length
 | 0, s, m, hP, hk => ⟨hP, hk, List.prefix_refl _, rfl⟩
 | f + 1, s, m, hP, hk => by
  rw [eO]
  cases hi : cB n s.D with
  | none => exact ⟨hP, hk.mono (List.prefix_refl _) (by omega), List.prefix_refl _, rfl⟩
  | some i =>
   simp only
   obtain ⟨hin, hlb⟩ := least_some hi
   have L := nk (res := res) (s := ⟨s.P, s.K, del i s.D⟩) (hx i hin) hin hP (hk.del i) (hk.vs i hin (hk.dn i hlb.1).2) (hk.ab i hin)
   split
   ·obtain ⟨h1, h2, h3, h4⟩ := xA hx f (m := m + 2) L.pr L.kv
    exact ⟨h1, h2.mono (List.prefix_refl _) (by omega), L.pre.trans h3, h4.trans L.kl⟩
   ·exact ⟨L.pr, L.kv.mono (List.prefix_refl _) (by omega), L.pre, L.kl⟩
theorem xB {pg : CPg} {sl pr : Nat} (hp : iK pg sl pr) {K : List Wy} (hk : pg.code.length <= K.length) : eP (st0 pg.code.length sl pr K).P /\ Kv pg.code.length (lvS sl) 1 (st0 pg.code.length sl pr K).P (st0 pg.code.length sl pr K).K (st0 pg.code.length sl pr K).D := by
 obtain ⟨f1, f2, f3, f4, f5, f6, f7⟩ := iw pr (lvS sl) kI
 have hk0 : Kv pg.code.length (lvS sl) 1 (bK pr (lvS sl) [pz]).1 (dw pg.code.length K) (fun _ => false) :=
  ⟨by rw [eY hk]; exact hk, fun i q => (by cases q), fun i hi hz => absurd (by rw [eQ hi]) hz, fun i hi => by rw [eQ hi]; exact Nat.zero_le _⟩
 exact ⟨f2, hk0.come (i := 0) (p := (1, _)) hp.n0 (by simp) f4 (by simp)⟩
theorem zO {pg : CPg} {sl pr : Nat} (hp : iK pg sl pr) {K : List Wy} (hk : pg.code.length <= K.length) : eP (gy sl pr pg.res pg.code K).2.2.P /\ Kv pg.code.length (lvS sl) 2147483647 (gy sl pr pg.res pg.code K).2.2.P (gy sl pr pg.res pg.code K).2.2.K (gy sl pr pg.res pg.code K).2.2.D /\ (st0 pg.code.length sl pr K).P <+: (gy sl pr pg.res pg.code K).2.2.P /\ (gy sl pr pg.res pg.code K).2.2.K.length = K.length := by
 obtain ⟨h1, h2⟩ := xB hp hk
 obtain ⟨a1, a2, a3, a4⟩ := xA (res := pg.res) (fun i hi => (hp.Bl hi).1) (3 * pg.code.length + 1) h1 h2
 have := hp.n1
 refine ⟨a1, a2.mono (List.prefix_refl _) (by omega), a3, a4.trans ?_⟩
 show (aI _ _ _).length = _
 rw [dR, eY hk]
theorem zP {p : CPg} (hp : iK p p.slots.toNat p.params.toNat) : (dB p).2.2.K.length = p.code.length /\ ∀ i, i < p.code.length -> (kA (dB p).2.2.K i).1 <= 2147483647 := by
 obtain ⟨_, h2, _, h4⟩ := zO hp (K := List.replicate p.code.length (0, 0)) (by simp)
 exact ⟨h4.trans (by simp), fun i hi => h2.ab i hi⟩
def uo (L : Nat) (op a : Int) (f : Nat -> Bool) (m : Nat) : Bool := if op = 5 then (if m % 2 ^ (6 + L) = a.toNat % 2 ^ (6 + L) then true else f m) else if op = 6 then (if m % 2 ^ (6 + L) = a.toNat % 2 ^ (6 + L) then false else f m) else f m
theorem xC {L : Nat} {P : Prs} (hP : eP P) {s : Nat} (hs : vsP L P s) (op a : Int) (m : Nat) : den L (past L P s op a).1 (past L P s op a).2 m = uo L op a (den L P s) m := by
 unfold past uo
 split
 ·obtain ⟨_, _, _, h4, _⟩ := fe (slot := a.toNat) (to := 2 ^ (a.toNat % 64)) (.inr rfl) L hP hs
  rw [h4]
  have : (2 ^ (a.toNat % 64) : Nat) ≠ 0 := Nat.ne_of_gt (Nat.two_pow_pos _)
  simp [this]
 ·split
  ·obtain ⟨_, _, _, h4, _⟩ := fe (slot := a.toNat) (to := 0) (.inl rfl) L hP hs
   rw [h4]
   simp
  ·rfl
structure xD (n : Nat) (res : Bool) (L : Nat) (x : CIn) (i : Nat) (P : Prs) (K : List Wy) : Prop where
 iT : ax x <= ((kA K i).1 : Int) - 1
 ret : x.op = 25 -> ((kA K i).1 : Int) - 1 = if res then 1 else 0
 need : x.op ≠ 25 -> iB x.op = true -> den L P (kA K i).2 x.a.toNat = true
 beh : x.op ≠ 25 -> ¬ (oL x.op = true /\ i + 1 = n)
 next : ∃ s, vsP L P s /\ (∀ m, den L P s m = uo L x.op x.a (den L P (kA K i).2) m) /\ ∀ q ∈ aQ i x (abN x (kA K i), s), kA K q.1 = q.2
theorem xD.mono {n : Nat} {res : Bool} {L : Nat} {x : CIn} {i : Nat} {P P' : Prs} {K K' : List Wy} (h : xD n res L x i P K) (hP : P <+: P') (hv : vsP L P (kA K i).2) (hK : ∀ j, (kA K j).1 ≠ 0 -> kA K' j = kA K j) (hi : (kA K i).1 ≠ 0) (hab : abN x (kA K i) ≠ 0) : xD n res L x i P' K' := by
 have e := hK i hi
 have hd := (dm hP hv).2
 obtain ⟨s, s1, s2, s3⟩ := h.next
 obtain ⟨t1, t2⟩ := dm hP s1
 refine ⟨by rw [e]; exact h.iT, by rw [e]; exact h.ret, fun h1 h2 => by rw [e, hd]; exact h.need h1 h2, h.beh, s, t1, fun m => ?_, fun q hq => ?_⟩
 ·rw [t2, s2, e]
  unfold uo
  rw [hd]
 ·rw [e] at hq
  have h3 := s3 q hq
  have hne : (kA K q.1).1 ≠ 0 := by
   rw [h3]
   unfold aQ at hq
   split at hq
   ·simp at hq
   ·split at hq
    ·simp at hq; subst hq; exact hab
    ·split at hq
     ·simp at hq
      rcases hq with e | e <;> (subst e; exact hab)
     ·split at hq
      ·obtain ⟨j, hj, _, e2⟩ := mZ hq
       rcases e2 with e2 | e2
       ·rw [e2]; exact hab
       ·rw [e2]; simp
      ·simp at hq; subst hq; exact hab
  rw [hK q.1 hne]
  exact h3
theorem xD.ab {n : Nat} {sl : Int} {res : Bool} {L : Nat} {x : CIn} {i : Nat} {P : Prs} {K : List Wy} (h : xD n res L x i P K) (hx : LkX n sl i x) : (abN x (kA K i) : Int) = ((kA K i).1 : Int) + (au x - ax x) /\ abN x (kA K i) ≠ 0 := by
 have := ni (p := kA K i) (by have := h.iT; omega) hx.pop hx.push
 exact ⟨this.1, this.2.1⟩
structure RSt where
 come : Bool
 seen : Bool
 height : Int
 frm : Int
 slot : Int
 given : Bool
def rs0 : RSt := ⟨false, false, 0, -1, -1, false⟩
def rsA (S : List RSt) (i : Nat) : RSt := S[i]?.getD rs0
theorem jl (S : List RSt) (i : Nat) (t : RSt) (hi : i < S.length) (j : Nat) : rsA (S.set i t) j = if j = i then t else rsA S j := by
 unfold rsA
 by_cases e : j = i
 ·subst e
  rw [if_pos rfl, List.getElem?_set_self hi]
  rfl
 ·rw [if_neg e, List.getElem?_set_ne (Ne.symm e)]
theorem dD {S : List RSt} {i : Nat} (h : i < S.length) : rsA S i = S[i] := by
 unfold rsA
 rw [List.getElem?_eq_getElem h]
 rfl
def Hv (pr : Int) (S : List RSt) (m : Int) : Nat -> Int -> Bool -> Prop
 | 0, i, b => i < 0 /\ b = decide (m < pr)
 | d + 1, i, b => (0 <= i /\ i < (S.length : Int) /\ (rsA S i.toNat).come = true) /\ if (rsA S i.toNat).slot = m then b = (rsA S i.toNat).given else Hv pr S m d (rsA S i.toNat).frm b
theorem Hv.same {pr : Int} {S S' : List RSt} {m : Int} (hl : S'.length = S.length) (h : ∀ i, (rsA S i).come = true -> (rsA S' i).come = true /\ (rsA S' i).slot = (rsA S i).slot /\ (rsA S' i).given = (rsA S i).given /\ (rsA S' i).frm = (rsA S i).frm) : ∀ {d : Nat} {i : Int} {b : Bool}, Hv pr S m d i b -> Hv pr S' m d i b
 | 0, i, b, q => q
 | d + 1, i, b, ⟨⟨q1, q2, q3⟩, q4⟩ => by
  obtain ⟨e1, e2, e3, e4⟩ := h i.toNat q3
  refine ⟨⟨q1, by rw [hl]; exact q2, e1⟩, ?_⟩
  rw [e2, e3, e4]
  split
  ·rename_i e
   rw [if_pos e] at q4
   exact q4
  ·rename_i e
   rw [if_neg e] at q4
   exact Hv.same hl h q4
theorem Hv.set {pr : Int} {S : List RSt} {m : Int} {j : Nat} {t : RSt} (hj : j < S.length) (hc : (rsA S j).come = false) {d : Nat} {i : Int} {b : Bool} (q : Hv pr S m d i b) : Hv pr (S.set j t) m d i b :=
 q.same (by simp) fun i hi => by
  have : i ≠ j := fun e => by rw [e, hc] at hi; cases hi
  rw [jl _ _ _ hj, if_neg this]
  exact ⟨hi, rfl, rfl, rfl⟩
structure Rel (n L sl : Nat) (pr : Int) (S : List RSt) (s : Wst) : Prop where
 len : S.length = n
 kn : n <= s.K.length
 ok : eP s.P
 come : ∀ i, i < n -> (rsA S i).come = decide ((kA s.K i).1 ≠ 0)
 high : ∀ i, i < n -> (kA s.K i).1 ≠ 0 -> (rsA S i).height = ((kA s.K i).1 : Int) - 1
 due : ∀ i, i < n -> s.D i = ((rsA S i).come && !(rsA S i).seen)
 dn : ∀ i, s.D i = true -> i < n
 vs : ∀ i, i < n -> (kA s.K i).1 ≠ 0 -> vsP L s.P (kA s.K i).2
 low : ∀ i, i < n -> (kA s.K i).1 ≠ 0 -> ∀ m, sl <= m % 2 ^ (6 + L) -> den L s.P (kA s.K i).2 m = false
 hv : ∀ i, i < n -> (kA s.K i).1 ≠ 0 -> ∀ m, m < sl -> ∃ d, Hv pr S m d i (den L s.P (kA s.K i).2 m)
structure di (n L sl : Nat) (pr : Int) (S : List RSt) (P : Prs) (t : RSt) (p : Wy) : Prop where
 come : t.come = true
 seen : t.seen = false
 nz : p.1 ≠ 0
 high : t.height = (p.1 : Int) - 1
 vs : vsP L P p.2
 low : ∀ m, sl <= m % 2 ^ (6 + L) -> den L P p.2 m = false
 hv : ∀ m, m < sl -> (t.slot = m -> t.given = den L P p.2 m) /\ (t.slot ≠ m -> ∃ d, Hv pr S m d t.frm (den L P p.2 m))
 frm : 0 <= t.frm /\ t.frm < n /\ (rsA S t.frm.toNat).come = true
theorem di.set {n L sl : Nat} {pr : Int} {S : List RSt} {P : Prs} {t t' : RSt} {p : Wy} (h : di n L sl pr S P t p) {j : Nat} (hj : j < S.length) (hc : (rsA S j).come = false) : di n L sl pr (S.set j t') P t p :=
 ⟨h.come, h.seen, h.nz, h.high, h.vs, h.low, fun m hm => ⟨(h.hv m hm).1, fun q => by
  obtain ⟨d, hd⟩ := (h.hv m hm).2 q
  exact ⟨d, hd.set hj hc⟩⟩, h.frm.1, h.frm.2.1, by
  rw [jl _ _ _ hj]
  split
  ·rename_i e
   have := h.frm.2.2
   rw [e, hc] at this
   cases this
  ·exact h.frm.2.2⟩
theorem Rel.mono {n L sl : Nat} {pr : Int} {S : List RSt} {s : Wst} (h : Rel n L sl pr S s) {P : Prs} (hP : s.P <+: P) (hk : eP P) : Rel n L sl pr S ⟨P, s.K, s.D⟩ :=
 ⟨h.len, h.kn, hk, h.come, h.high, h.due, h.dn, fun i hi hz => (dm hP (h.vs i hi hz)).1, fun i hi hz m hm => by
  show den L P _ m = false
  rw [(dm hP (h.vs i hi hz)).2]; exact h.low i hi hz m hm, fun i hi hz m hm => by
  show ∃ d, Hv pr S m d i (den L P _ m)
  rw [(dm hP (h.vs i hi hz)).2]; exact h.hv i hi hz m hm⟩
theorem xE {n L sl : Nat} {pr : Int} {S : List RSt} {s : Wst} (h : Rel n L sl pr S s) {t : RSt} {p : Wy} (ht : di n L sl pr S s.P t p) {i : Nat} (hi : i < n) (hz : (kA s.K i).1 = 0) : bI s.K i p = true /\ Rel n L sl pr (S.set i t) ⟨s.P, aI s.K i p, aP s.K i s.D⟩ /\ (rsA S i).come = false := by
 have hkn := h.kn
 have hlen := h.len
 have hc : (rsA S i).come = false := by rw [h.come i hi]; simp [hz]
 have hk : ∀ j, kA (aI s.K i p) j = if j = i then p else kA s.K j := fun j => by
  rw [iH p (by omega), hz]
  simp
 have hs : ∀ j, rsA (S.set i t) j = if j = i then t else rsA S j := fun j => jl S i t (by omega) j
 refine ⟨?_, ⟨by simpa using hlen, by simp only [dR]; exact hkn, h.ok, fun j hj => ?_, fun j hj hn => ?_, fun j hj => ?_, fun j hj => ?_, fun j hj hn => ?_, fun j hj hn => ?_, fun j hj hn m hm => ?_⟩, hc⟩
 ·unfold bI
  have := hk i
  rw [if_pos rfl] at this
  unfold kA at this
  rw [this]
  simp
 ·show _ = decide ((kA (aI s.K i p) j).1 ≠ 0)
  rw [hk, hs]
  by_cases e : j = i
  ·rw [if_pos e, if_pos e, ht.come, decide_eq_true ht.nz]
  ·rw [if_neg e, if_neg e]; exact h.come j hj
 ·show (rsA (S.set i t) j).height = ((kA (aI s.K i p) j).1 : Int) - 1
  replace hn : (kA (aI s.K i p) j).1 ≠ 0 := hn
  rw [hk] at hn ⊢
  rw [hs]
  by_cases e : j = i
  ·rw [if_pos e, if_pos e]; exact ht.high
  ·rw [if_neg e] at hn ⊢
   rw [if_neg e]; exact h.high j hj hn
 ·show aP s.K i s.D j = _
  rw [dX, if_pos hz, hs]
  by_cases e : j = i
  ·rw [if_pos e, ht.come, ht.seen]; simp [e]
  ·rw [if_neg e, h.due j hj]; simp [e]
 ·replace hj : aP s.K i s.D j = true := hj
  rw [dX, if_pos hz] at hj
  by_cases e : j = i
  ·omega
  ·exact h.dn j (by simpa [e] using hj)
 ·show vsP L s.P (kA (aI s.K i p) j).2
  replace hn : (kA (aI s.K i p) j).1 ≠ 0 := hn
  rw [hk] at hn ⊢
  by_cases e : j = i
  ·rw [if_pos e]; exact ht.vs
  ·rw [if_neg e] at hn ⊢; exact h.vs j hj hn
 ·show ∀ m, _ -> den L s.P (kA (aI s.K i p) j).2 m = false
  replace hn : (kA (aI s.K i p) j).1 ≠ 0 := hn
  rw [hk] at hn ⊢
  by_cases e : j = i
  ·rw [if_pos e]; exact ht.low
  ·rw [if_neg e] at hn ⊢; exact h.low j hj hn
 ·show ∃ d, Hv pr (S.set i t) m d j (den L s.P (kA (aI s.K i p) j).2 m)
  replace hn : (kA (aI s.K i p) j).1 ≠ 0 := hn
  rw [hk] at hn ⊢
  by_cases e : j = i
  ·rw [if_pos e]
   obtain ⟨q1, q2⟩ := ht.hv m hm
   have e3 : rsA (S.set i t) ((j : Int)).toNat = t := by rw [hs, if_pos (by omega)]
   by_cases e2 : t.slot = (m : Int)
   ·refine ⟨1, ⟨by omega, by simp; omega, ?_⟩, ?_⟩
    ·rw [e3]; exact ht.come
    ·rw [e3, if_pos e2]; exact (q1 e2).symm
   ·obtain ⟨d, hd⟩ := q2 e2
    refine ⟨d + 1, ⟨by omega, by simp; omega, ?_⟩, ?_⟩
    ·rw [e3]; exact ht.come
    ·rw [e3, if_neg e2]; exact hd.set (by omega) hc
  ·rw [if_neg e] at hn ⊢
   obtain ⟨d, hd⟩ := h.hv j hj hn m hm
   exact ⟨d, hd.set (by omega) hc⟩
theorem xF {n L sl : Nat} {pr : Int} {S : List RSt} {s : Wst} (h : Rel n L sl pr S s) (hsl : sl <= 2 ^ (6 + L)) {t : RSt} {p : Wy} (ht : di n L sl pr S s.P t p) {i : Nat} (hi : i < n) (hz : (kA s.K i).1 ≠ 0) : aI s.K i p = s.K /\ aP s.K i s.D = s.D /\ bI s.K i p = decide ((rsA S i).height = t.height /\ ∀ m, m < sl -> den L s.P (kA s.K i).2 m = den L s.P p.2 m) := by
 have hK : aI s.K i p = s.K := by unfold aI; exact if_neg hz
 refine ⟨hK, by unfold aP; exact if_neg hz, ?_⟩
 unfold bI
 rw [hK]
 refine decide_eq_decide.2 ⟨fun e => ?_, fun ⟨e1, e2⟩ => ?_⟩
 ·have e' : kA s.K i = p := e
  rw [h.high i hi hz, ht.high, e']
  exact ⟨rfl, fun _ _ => rfl⟩
 ·rw [h.high i hi hz, ht.high] at e1
  have h2 : (kA s.K i).2 = p.2 := by
   refine mM h.ok (h.vs i hi hz) ht.vs fun m => ?_
   have em : den L s.P (kA s.K i).2 m = den L s.P (kA s.K i).2 (m % 2 ^ (6 + L)) := gL (Nat.mod_mod _ _).symm
   have em2 : den L s.P p.2 m = den L s.P p.2 (m % 2 ^ (6 + L)) := gL (Nat.mod_mod _ _).symm
   by_cases hm : m % 2 ^ (6 + L) < sl
   ·rw [em, em2]; exact e2 _ hm
   ·rw [h.low i hi hz m (by omega), ht.low m (by omega)]
  have h1 : (kA s.K i).1 = p.1 := by omega
  exact Prod.ext h1 h2
theorem Rel.see {n L sl : Nat} {pr : Int} {S : List RSt} {s : Wst} (h : Rel n L sl pr S s) {i : Nat} (hi : i < n) (hc : (rsA S i).come = true) : Rel n L sl pr (S.set i { rsA S i with seen := true }) ⟨s.P, s.K, del i s.D⟩ := by
 have hlen := h.len
 have hs : ∀ j, rsA (S.set i { rsA S i with seen := true }) j = if j = i then { rsA S i with seen := true } else rsA S j := fun j => jl S i _ (by omega) j
 have hsm : ∀ j, (rsA (S.set i { rsA S i with seen := true }) j).come = (rsA S j).come /\ (rsA (S.set i { rsA S i with seen := true }) j).slot = (rsA S j).slot /\ (rsA (S.set i { rsA S i with seen := true }) j).given = (rsA S j).given /\ (rsA (S.set i { rsA S i with seen := true }) j).frm = (rsA S j).frm /\ (rsA (S.set i { rsA S i with seen := true }) j).height = (rsA S j).height := fun j => by
  rw [hs]
  by_cases e : j = i
  ·subst e; simp
  ·rw [if_neg e]; exact ⟨rfl, rfl, rfl, rfl, rfl⟩
 refine ⟨by simpa using hlen, h.kn, h.ok, fun j hj => by rw [(hsm j).1]; exact h.come j hj, fun j hj hn => by rw [(hsm j).2.2.2.2]; exact h.high j hj hn, fun j hj => ?_, fun j hj => ?_, h.vs, h.low, fun j hj hn m hm => ?_⟩
 ·show del i s.D j = _
  unfold del
  rw [hs]
  by_cases e : j = i
  ·subst e; simp
  ·rw [if_neg e, h.due j hj]; simp [e]
 ·replace hj : del i s.D j = true := hj
  unfold del at hj
  simp at hj
  exact h.dn j hj.1
 ·obtain ⟨d, hd⟩ := h.hv j hj hn m hm
  exact ⟨d, hd.same (by simp) fun k hk => by rw [(hsm k).1, (hsm k).2.1, (hsm k).2.2.1, (hsm k).2.2.2.1]; exact ⟨hk, rfl, rfl, rfl⟩⟩
end Go.Proofs.YtadmpgegolmkgaaDoor
