import Derived.Test.YtadmpgegolmkgaaDoorBWzB
import Derived.Test.YtadmpgegolmkgaaDoorBWvV
import Derived.Test.YtadmpgegolmkgaaDoorBWmE
import Derived.Test.YtadmpgegolmkgaaDoorBWfN
set_option linter.unusedVariables false
set_option linter.unusedSimpArgs false
set_option maxHeartbeats 4000000
set_option maxRecDepth 100000
namespace Go.Proofs.YtadmpgegolmkgaaDoor
def toS (S : List RSt) (i : Nat) (x : CIn) : RSt := ⟨true, false, (rsA S i).height - ax x + au x, i, if x.op = 5 ∨ x.op = 6 then x.a else -1, decide (x.op = 5)⟩
theorem Rel.goes {n L sl : Nat} {pr : Int} {S : List RSt} {s : Wst} (h : Rel n L sl pr S s) (hsl : sl <= 2 ^ (6 + L)) {i : Nat} (hi : i < n) (hz : (kA s.K i).1 ≠ 0) {x : CIn} (hx : LkX n sl i x) (hl : ¬ ((kA s.K i).1 : Int) - 1 < ax x) :
  Rel n L sl pr S ⟨(past L s.P (kA s.K i).2 x.op x.a).1, s.K, s.D⟩ /\ di n L sl pr S (past L s.P (kA s.K i).2 x.op x.a).1 (toS S i x) (abN x (kA s.K i), (past L s.P (kA s.K i).2 x.op x.a).2) /\ di n L sl pr S (past L s.P (kA s.K i).2 x.op x.a).1 { toS S i x with height := (toS S i x).height + 1 } (abN x (kA s.K i) + 1, (past L s.P (kA s.K i).2 x.op x.a).2) := by
 have hv := h.vs i hi hz
 obtain ⟨p1, p2, p3, p4⟩ := mh h.ok hv x.op x.a
 have hpd := fun m => xC h.ok hv x.op x.a m
 obtain ⟨a1, a2, a3⟩ := ni hl hx.pop hx.push
 have hm := h.mono p1 p2
 have hhi := h.high i hi hz
 have hci : (rsA S i).come = true := by rw [h.come i hi]; simpa using hz
 have hlow : ∀ m, sl <= m % 2 ^ (6 + L) -> den L (past L s.P (kA s.K i).2 x.op x.a).1 (past L s.P (kA s.K i).2 x.op x.a).2 m = false := fun m hm => by
  rw [hpd]
  unfold uo
  have h0 := h.low i hi hz m hm
  have ha := hx.a
  split
  ·rename_i e
   have := ha (.inr (.inl e))
   have e2 : x.a.toNat % 2 ^ (6 + L) = x.a.toNat := Nat.mod_eq_of_lt (by omega)
   rw [if_neg (by omega)]
   exact h0
  ·split
   ·rw [h0]; simp
   ·exact h0
 have hhv : ∀ m, m < sl -> ((toS S i x).slot = m -> (toS S i x).given = den L (past L s.P (kA s.K i).2 x.op x.a).1 (past L s.P (kA s.K i).2 x.op x.a).2 m) /\ ((toS S i x).slot ≠ m -> ∃ d, Hv pr S m d (toS S i x).frm (den L (past L s.P (kA s.K i).2 x.op x.a).1 (past L s.P (kA s.K i).2 x.op x.a).2 m)) := fun m hm => by
  rw [hpd]
  have e1 : m % 2 ^ (6 + L) = m := Nat.mod_eq_of_lt (by omega)
  obtain ⟨d, hd⟩ := h.hv i hi hz m hm
  unfold toS uo
  simp only
  by_cases e5 : x.op = 5
  ·have := hx.a (.inr (.inl e5))
   have e2 : x.a.toNat % 2 ^ (6 + L) = x.a.toNat := Nat.mod_eq_of_lt (by omega)
   rw [if_pos (.inl e5), if_pos e5, e1, e2, decide_eq_true e5]
   refine ⟨fun q => by rw [if_pos (by omega)], fun q => ⟨d, ?_⟩⟩
   rw [if_neg (by omega)]
   exact hd
  ·rw [if_neg e5, decide_eq_false e5]
   by_cases e6 : x.op = 6
   ·have := hx.a (.inr (.inr (.inl e6)))
    have e2 : x.a.toNat % 2 ^ (6 + L) = x.a.toNat := Nat.mod_eq_of_lt (by omega)
    rw [if_pos (.inr e6), if_pos e6, e1, e2]
    refine ⟨fun q => by rw [if_pos (by omega)], fun q => ⟨d, ?_⟩⟩
    rw [if_neg (by omega)]
    exact hd
   ·rw [if_neg (by omega), if_neg e6]
    exact ⟨fun q => by omega, fun q => ⟨d, hd⟩⟩
 have hfr : 0 <= (toS S i x).frm /\ (toS S i x).frm < n /\ (rsA S (toS S i x).frm.toNat).come = true := ⟨by show (0 : Int) <= i; omega, by show (i : Int) < n; omega, by show (rsA S ((i : Int)).toNat).come = true; rw [show ((i : Int)).toNat = i by omega]; exact hci⟩
 refine ⟨hm, ⟨rfl, rfl, a2, ?_, p3, hlow, hhv, hfr⟩, ⟨rfl, rfl, by simp, ?_, p3, hlow, hhv, hfr⟩⟩
 ·show (rsA S i).height - ax x + au x = _
  rw [hhi]; simp only; omega
 ·show (rsA S i).height - ax x + au x + 1 = _
  rw [hhi]; simp only; omega
theorem uq {p : CPg} (hp : iK p p.slots.toNat p.params.toNat) {K : List Wy} (hk : p.code.length <= K.length) : Rel p.code.length (lvS p.slots.toNat) p.slots.toNat p.params ((List.replicate p.code.length rs0).set 0 { rs0 with come := true }) (st0 p.code.length p.slots.toNat p.params.toNat K) := by
 have hn0 := hp.n0
 have hcl : (dw p.code.length K).length = K.length := eY hk
 have hsl1 := hp.sl1
 have hpr1 := hp.pr1
 have hlt := vU (many := p.slots.toNat) (by omega)
 have hz0 : kA (dw p.code.length K) 0 = (0, 0) := eQ hn0
 obtain ⟨f1, f2, f3, f4, f5, f6, f7⟩ := iw p.params.toNat (lvS p.slots.toNat) kI
 have hk0 : ∀ j, kA (st0 p.code.length p.slots.toNat p.params.toNat K).K j = if j = 0 then (1, (bK p.params.toNat (lvS p.slots.toNat) [pz]).2.2) else kA (dw p.code.length K) j := fun j => by
  show kA (aI _ 0 _) j = _
  rw [iH _ (by omega), hz0]
  simp
 have hr : ∀ j, j < p.code.length -> rsA (List.replicate p.code.length rs0) j = rs0 := fun j hj => by
  unfold rsA
  rw [List.getElem?_replicate, if_pos hj]
  rfl
 have hs : ∀ j, rsA ((List.replicate p.code.length rs0).set 0 { rs0 with come := true }) j = if j = 0 then { rs0 with come := true } else rsA (List.replicate p.code.length rs0) j := fun j => jl _ 0 _ (by simpa using hn0) j
 have hnz : ∀ j, j < p.code.length -> (kA (st0 p.code.length p.slots.toNat p.params.toNat K).K j).1 ≠ 0 -> j = 0 := fun j hj hn => by
  rw [hk0] at hn
  by_cases e : j = 0
  ·exact e
  ·rw [if_neg e, eQ hj] at hn
   exact absurd rfl hn
 refine ⟨by simp, ?_, f2, fun j hj => ?_, fun j hj hn => ?_, fun j hj => ?_, fun j hj => ?_, fun j hj hn => ?_, fun j hj hn m hm => ?_, fun j hj hn m hm => ?_⟩
 ·show p.code.length <= (aI _ 0 _).length
  rw [dR, hcl]; exact hk
 ·rw [hs, hk0]
  by_cases e : j = 0
  ·rw [if_pos e, if_pos e]; rfl
  ·rw [if_neg e, if_neg e, hr j hj, eQ hj]; rfl
 ·obtain rfl := hnz j hj hn
  rw [hs, hk0]; rfl
 ·show aP _ 0 _ j = _
  rw [dX, hz0, hs]
  by_cases e : j = 0
  ·rw [if_pos e]; simp [e, rs0]
  ·rw [if_neg e, hr j hj]; simp [e, rs0]
 ·replace hj : aP (dw p.code.length K) 0 (fun _ => false) j = true := hj
  rw [dX, hz0] at hj
  simp at hj
  omega
 ·obtain rfl := hnz j hj hn
  rw [hk0]; exact f4
 ·obtain rfl := hnz j hj hn
  rw [hk0, if_pos rfl]
  refine (f6 m).trans ?_
  have : p.params.toNat % 2 ^ (6 + lvS p.slots.toNat) <= p.params.toNat := Nat.mod_le _ _
  exact decide_eq_false (by omega)
 ·obtain rfl := hnz j hj hn
  rw [hk0, if_pos rfl]
  have e1 : m % 2 ^ (6 + lvS p.slots.toNat) = m := Nat.mod_eq_of_lt (by omega)
  have e2 : p.params.toNat % 2 ^ (6 + lvS p.slots.toNat) = p.params.toNat := Nat.mod_eq_of_lt (by omega)
  have hd : den (lvS p.slots.toNat) (st0 p.code.length p.slots.toNat p.params.toNat K).P (1, (bK p.params.toNat (lvS p.slots.toNat) [pz]).2.2).2 m = decide ((m : Int) < p.params) := by
   refine (f6 m).trans ?_
   rw [e1, e2]
   have := hp.ep
   exact decide_eq_decide.2 (by omega)
  rw [hd]
  refine ⟨1, ⟨by decide, by simpa using hn0, ?_⟩, ?_⟩
  ·rw [hs]; rfl
  ·have e3 : rsA ((List.replicate p.code.length rs0).set 0 { rs0 with come := true }) (((0 : Nat) : Int)).toNat = { rs0 with come := true } := by rw [hs]; rfl
   rw [e3]
   show if (-1 : Int) = m then _ else Hv p.params _ m 0 (-1) _
   rw [if_neg (by omega)]
   exact ⟨by decide, rfl⟩
end Go.Proofs.YtadmpgegolmkgaaDoor
namespace Go.Proofs.YtadmpgegolmkgaaDoor
open Go.RowKit
def gT (p : CPg) : Bool := inI p.params p.slots && (inI p.slots 65536 && (inI p.caps 65536 && decide (0 < p.code.length)))
def jm (p : CPg) : Bool := p.params == 0 && (p.caps == 2 && !p.res)
theorem xG {p : CPg} (h : gT p = true) (hl : p.code.length <= 268435456) : PgB p := by
 simp [gT, inI] at h
 exact ⟨by omega, by omega, by omega, by omega, hl⟩
theorem kW (w : World) (p : CPg) (ca : Option Addr) (cc : Nat) : Calls Tryd.prog 33 #[.agg (pgC p ca cc)] w fun e w' => e = .returned (.bool (gT p)) /\ Bx (Below w.heap.size w w') := by
 have HW : Bx (∀ n m X, _) := ⟨fun n m X => fH n m X⟩
 have hb : Bx (∀ o1, Below w.heap.size w (w.alloc o1)) := ⟨fun o1 => ak w o1⟩
 unfold gT pgC
 generalize p.params = a at *
 generalize p.slots = b at *
 generalize p.caps = c at *
 generalize p.code.length = n at *
 cases e1 : inI a b with
 | false =>
  go_enter Tryd.func33, Tryd.ntmps33
  go_wp2_with (first
   | (go_at_call 49; refine (HW.out _ _ _).mono ?_; rintro e w1 ⟨rfl, rfl⟩))
  go_ret
  exact ⟨aG (by simp), ⟨hb.out _⟩⟩
 | true =>
  cases e2 : inI b 65536 with
  | false =>
   go_enter Tryd.func33, Tryd.ntmps33
   go_wp2_with (first
    | (go_at_call 49; refine (HW.out _ _ _).mono ?_; rintro e w1 ⟨rfl, rfl⟩))
   go_ret
   exact ⟨aG (by simp), ⟨hb.out _⟩⟩
  | true =>
   cases e3 : inI c 65536 with
   | false =>
    go_enter Tryd.func33, Tryd.ntmps33
    go_wp2_with (first
     | (go_at_call 49; refine (HW.out _ _ _).mono ?_; rintro e w1 ⟨rfl, rfl⟩))
    go_ret
    exact ⟨aG (by simp), ⟨hb.out _⟩⟩
   | true =>
    go_enter Tryd.func33, Tryd.ntmps33
    go_wp2_with (first
     | (go_at_call 49; refine (HW.out _ _ _).mono ?_; rintro e w1 ⟨rfl, rfl⟩))
    go_ret
    exact ⟨aG (by simp), ⟨hb.out _⟩⟩
theorem lT (w : World) (p : CPg) (ca : Option Addr) (cc : Nat) : Calls Tryd.prog 34 #[.agg (pgC p ca cc)] w fun e w' => e = .returned (.bool (jm p)) /\ Bx (Below w.heap.size w w') := by
 have hb : Bx (∀ o1, Below w.heap.size w (w.alloc o1)) := ⟨fun o1 => ak w o1⟩
 unfold jm pgC
 generalize p.params = a at *
 generalize p.caps = c at *
 cases e1 : (a == 0) with
 | false =>
  go_enter Tryd.func34, Tryd.ntmps34
  go_wp2
  go_ret
  exact ⟨aG (by simp), ⟨hb.out _⟩⟩
 | true =>
  cases e2 : (c == 2) with
  | false =>
   go_enter Tryd.func34, Tryd.ntmps34
   go_wp2
   go_ret
   exact ⟨aG (by simp), ⟨hb.out _⟩⟩
  | true =>
   go_enter Tryd.func34, Tryd.ntmps34
   go_wp2
   go_ret
   exact ⟨aG (by simp), ⟨hb.out _⟩⟩
def dJ : List CPg -> Nat -> Bool
 | [], _ => false
 | p :: r, n => if n < p.code.length then true else dJ r (n - p.code.length)
theorem ut {l : List CPg} {k n : Nat} (h : k < l.length) : dJ (l.drop k) n = if n < l[k].code.length then true else dJ (l.drop (k + 1)) (n - l[k].code.length) := by
 rw [List.drop_eq_getElem_cons h, dJ]
theorem mr : ∀ {l : List CPg} {n : Nat}, dJ l n = false -> ∀ p ∈ l, p.code.length <= n
 | [], _, _, p, hp => by cases hp
 | q :: r, n, h, p, hp => by
  rw [dJ] at h
  split at h
  ·cases h
  ·rcases List.mem_cons.1 hp with e | e
   ·subst e; omega
   ·have := mr h p e; omega
theorem o8 (w : World) (B : Nat) (hB : B <= w.heap.size) (pa : Option Addr) (pc : Nat) (l : List CPg) (hr : Row (mR w B) B 5 pa pc l) : Calls Tryd.prog 32 #[.slice pa l.length pc] w fun e w' => e = .returned (.bool (dJ l 268435456)) /\ Bx (Below w.heap.size w w') := by
 have hcap := hr.cap
 have hmx := hr.max
 unfold maxLen at hmx
 have HT : Bx (∀ k (hk : k < l.length), _) := ⟨fun k hk => bR hr hk⟩
 generalize hRR : dJ l 268435456 = R
 have HR : Bx (dJ (l.drop 0) 268435456 = R) := ⟨by rw [List.drop_zero]; exact hRR⟩
 clear hr hRR
 go_enter Tryd.func32, Tryd.ntmps32
 go_wp2
 go_loopg [3, 8] (l.length + 1) (fun f v3 v8 wr => ∃ k n : Nat, f = l.length + 1 - k /\ k <= l.length /\ n <= 268435456 /\ v3 = .int .i64 n /\ v8 = .int .i64 k /\ Bx (dJ (l.drop k) n = R) /\ Bx (Below w.heap.size w wr))
 case atStart => exact ⟨0, 268435456, by simp, Nat.zero_le _, by omega, rfl, rfl, HR, ⟨Below.refl _ _⟩⟩
 case round =>
  obtain ⟨k, n, hf, hk, hn, rfl, rfl, HW, HB⟩ := hrel
  by_cases hlt : k < l.length
  ·obtain ⟨b, o, ca, cc, rfl, hb, hci, HC⟩ := HT.out k hlt
   have hs := HB.out.size
   obtain ⟨c0, c1, c2, c3, c4⟩ := HC.out wr (HB.out.mono hB)
   have hbl : b < wr.heap.size := by omega
   have hkI : (k : Int) < (l.length : Int) := by omega
   have HW2 : Bx _ := ⟨(ut hlt).symm.trans HW.out⟩
   have hccap := hci.cap
   have hcmx := hci.max
   unfold maxLen at hcmx
   have HB2 : Bx (∀ oo, Below w.heap.size w (wr.alloc oo)) := ⟨fun oo => HB.out.alloc hs oo⟩
   clear HC hs HB HW HT hci
   generalize l[k] = p at *
   generalize p.code.length = m at *
   by_cases hg : n < m
   ·have hr := HW2.out
    rw [if_pos hg] at hr
    subst hr
    have hgb : decide (n < m) = true := decide_eq_true (by omega)
    clear HW2 hg
    go_wp2
    go_ret
    exact ⟨rfl, ⟨HB2.out _⟩⟩
   ·have hr := HW2.out
    rw [if_neg hg] at hr
    have HW3 : Bx _ := ⟨hr⟩
    have hgb : decide (n < m) = false := decide_eq_false (by omega)
    have hwr : IntKind.i64.wrap ((n : Int) - (m : Int)) = ((n - m : Nat) : Int) := by rw [IntKind.wrap_i64]; omega
    clear HW2 hr
    go_wp2
    go_roundg (l.length + 1 - (k + 1))
    case measure => omega
    case rel => exact ⟨k + 1, n - m, rfl, by omega, by omega, rfl, by simp, HW3, ⟨HB2.out _⟩⟩
  ·obtain rfl : k = l.length := by omega
   have hr := HW.out
   rw [List.drop_length] at hr
   subst hr
   clear HW HT
   go_wp2
   go_ret
   exact ⟨rfl, HB⟩
def jo (p : CPg) (k : Nat) : Bool := !gT p || (k == 0 && !jm p)
def fD : List CPg -> Nat -> Nat × Bool
 | [], _ => (0, false)
 | p :: r, k => if jo p k = true then (k, true) else fD r (k + 1)
theorem o9 {l : List CPg} {k : Nat} (h : k < l.length) : fD (l.drop k) k = if jo l[k] k = true then (k, true) else fD (l.drop (k + 1)) (k + 1) := by
 rw [List.drop_eq_getElem_cons h, fD]
def dx (u : CUn) : Nat × Bool := if u.ae.length = 0 ∨ dO u.types = false ∨ dJ u.ae 268435456 = true then (0, true) else fD u.ae 0
theorem lU (w : World) (u : CUn) (pa ta : Option Addr) (pc tc : Nat) (hu : dL w w.heap.size pa pc ta tc u) :
  Calls Tryd.prog 19 #[unV u pa pc ta tc] w fun e w' => e = .returned (.tuple #[.int .i64 ((dx u).1 : Int), .bool (dx u).2]) /\ Bx (Below w.heap.size w w') := by
 obtain ⟨H, hH⟩ : ∃ H, w.heap.size = H := ⟨_, rfl⟩
 have hrow := hu.ae
 have hcap := hrow.cap
 have hmx := hrow.max
 unfold maxLen at hmx
 obtain ⟨w1, hw1⟩ : ∃ w1, w.alloc (.cells #[.slice pa u.ae.length pc, .slice ta u.types.length tc] 25) = w1 := ⟨_, rfl⟩
 have b1 : Below w.heap.size w w1 := by rw [← hw1]; exact ak w _
 have q1 : w1.heap[H]? = some (.cells #[.slice pa u.ae.length pc, .slice ta u.types.length tc] 25 (0, 0)) := by rw [← hw1]; exact aj _ _ _ hH
 have s1 : w1.heap.size = H + 1 := by rw [← hw1]; simp [hH]
 have HU : Bx (∀ X, Below (H + 1) w1 X -> X.cell? ⟨H, 0, none⟩ = some (.slice pa u.ae.length pc) /\ X.cell? ⟨H, 1, none⟩ = some (.slice ta u.types.length tc)) := ⟨fun X hX => ⟨aa ((hX.block H (by omega)).trans q1) rfl, aa ((hX.block H (by omega)).trans q1) rfl⟩⟩
 have HB1 : Bx (Below w.heap.size w w1) := ⟨b1⟩
 have HPC : Bx (∀ k (hk : k < u.ae.length), _) := ⟨fun k hk => bR hrow hk⟩
 obtain ⟨hu0, hu1⟩ := HU.out w1 (Below.refl _ _)
 have HVA : Bx (Calls Tryd.prog 31 #[.slice ta u.types.length tc] w1 fun e w' => e = .returned (.bool (dO u.types)) /\ w'.cell? ⟨H, 0, none⟩ = some (.slice pa u.ae.length pc) /\ Bx (Below (H + 1) w1 w' /\ Below w.heap.size w w')) := ⟨(uk w1 w.heap.size b1.size ta tc u.types (hu.types.mono fun b o x hb he => he.below b1 (Nat.le_refl _) hb)).mono fun e w' q => ⟨q.1, (HU.out _ (by rw [← s1]; exact q.2.out)).1, ⟨by rw [← s1]; exact q.2.out, b1.trans (q.2.out.mono b1.size)⟩⟩⟩
 have HTL : Bx (∀ X, Below (H + 1) w1 X -> Calls Tryd.prog 32 #[.slice pa u.ae.length pc] X fun e w' => e = .returned (.bool (dJ u.ae 268435456)) /\ w'.cell? ⟨H, 0, none⟩ = some (.slice pa u.ae.length pc) /\ Bx (Below w.heap.size w w')) := ⟨fun X hX => by
  have hx := hX.size
  have hwX : Below w.heap.size w X := b1.trans (hX.mono (by omega))
  refine (o8 X w.heap.size hwX.size pa pc u.ae (hrow.mono fun b o x hb he => he.below hwX (Nat.le_refl _) hb)).mono ?_
  rintro e w' ⟨he, hq⟩
  exact ⟨he, (HU.out _ (hX.trans (hq.out.mono (by omega)))).1, ⟨hwX.trans (hq.out.mono hwX.size)⟩⟩⟩
 unfold dx unV
 clear hu hrow q1 b1
 by_cases h0 : u.ae.length = 0
 ·rw [if_pos (.inl h0)]
  have hb0 : ((u.ae.length : Int) == 0) = true := by simp [h0]
  clear HVA HTL HPC h0
  go_enter Tryd.func19, Tryd.ntmps19
  go_wp2
  go_returns
  exact ⟨rfl, ⟨by first | exact HB1.out | (rw [← hH]; exact HB1.out)⟩⟩
 have hb0 : ((u.ae.length : Int) == 0) = false := by simpa using h0
 cases hv : dO u.types with
 | false =>
  rw [if_pos (.inr (.inl rfl))]
  rw [hv] at HVA
  clear HTL HPC hv
  go_enter Tryd.func19, Tryd.ntmps19
  go_wp2_with (first
   | (go_at_call 31; refine HVA.out.mono ?_; rintro e w2 ⟨rfl, y0, HB2⟩))
  go_returns
  exact ⟨rfl, ⟨by first | exact HB2.out.2 | (rw [← hH]; exact HB2.out.2)⟩⟩
 | true =>
  rw [hv] at HVA
  cases htl : dJ u.ae 268435456 with
  | true =>
   rw [if_pos (.inr (.inr rfl))]
   rw [htl] at HTL
   clear HPC hv htl
   go_enter Tryd.func19, Tryd.ntmps19
   go_wp2_with (first
    | (go_at_call 31; refine HVA.out.mono ?_; rintro e w2 ⟨rfl, y0, HB2⟩)
    | (go_at_call 32; refine (HTL.out _ HB2.out.1).mono ?_; rintro e w3 ⟨rfl, y1, HB3⟩))
   go_returns
   exact ⟨rfl, ⟨by first | exact HB3.out | (rw [← hH]; exact HB3.out)⟩⟩
  | false =>
   rw [if_neg (by simp [h0])]
   rw [htl] at HTL
   generalize hRR : fD u.ae 0 = R
   have HR : Bx (fD (u.ae.drop 0) 0 = R) := ⟨by rw [List.drop_zero]; exact hRR⟩
   clear hv htl hRR
   go_enter Tryd.func19, Tryd.ntmps19
   go_wp2_with (first
    | (go_at_call 31; refine HVA.out.mono ?_; rintro e w2 ⟨rfl, y0, HB2⟩)
    | (go_at_call 32; refine (HTL.out _ HB2.out.1).mono ?_; rintro e w3 ⟨rfl, y1, HB3⟩))
   clear y0 y1 hu0 hu1 HVA HTL
   go_loopg [24] (u.ae.length + 1) (fun f v24 wr => ∃ k : Nat, f = u.ae.length + 1 - k /\ k <= u.ae.length /\ v24 = .int .i64 k /\ Bx (fD (u.ae.drop k) k = R) /\ Bx (Below w.heap.size w wr))
   case atStart => exact ⟨0, by simp, Nat.zero_le _, rfl, HR, HB3⟩
   case round =>
    obtain ⟨k, hf, hk, rfl, HW, HB⟩ := hrel
    by_cases hlt : k < u.ae.length
    ·obtain ⟨b, o, ca, cc, rfl, hb, hci, HC⟩ := HPC.out k hlt
     have hs := HB.out.size
     obtain ⟨c0, c1, c2, c3, c4⟩ := HC.out wr HB.out
     have hbl : b < wr.heap.size := by omega
     have hkI : (k : Int) < (u.ae.length : Int) := by omega
     have HW2 : Bx _ := ⟨(o9 hlt).symm.trans HW.out⟩
     obtain ⟨W1, hW1⟩ : ∃ W1, wr.alloc (.cells (pgC u.ae[k] ca cc) 40) = W1 := ⟨_, rfl⟩
     have b1 : Below wr.heap.size wr W1 := by rw [← hW1]; exact ak wr _
     have q1 : W1.heap[wr.heap.size]? = some (.cells (pgC u.ae[k] ca cc) 40 (0, 0)) := by rw [← hW1]; exact aj _ _ _ rfl
     have HFB : Bx (Calls Tryd.prog 33 #[.agg (pgC u.ae[k] ca cc)] W1 fun e w' => e = .returned (.bool (gT u.ae[k])) /\ (w'.cell? ⟨wr.heap.size, 0, none⟩ = some (.int .i64 u.ae[k].params) /\ w'.cell? ⟨wr.heap.size, 1, none⟩ = some (.int .i64 u.ae[k].slots) /\ w'.cell? ⟨wr.heap.size, 2, none⟩ = some (.int .i64 u.ae[k].caps) /\ w'.cell? ⟨wr.heap.size, 3, none⟩ = some (.bool u.ae[k].res) /\ w'.cell? ⟨wr.heap.size, 4, none⟩ = some (.slice ca u.ae[k].code.length cc)) /\ Bx (Below w.heap.size w w')) := ⟨(kW W1 _ ca cc).mono fun e w' q => by
      have hq := (q.2.out.block _ (ah q1)).trans q1
      exact ⟨q.1, ⟨aa hq rfl, aa hq rfl, aa hq rfl, aa hq rfl, aa hq rfl⟩, ⟨HB.out.trans ((b1.trans (q.2.out.mono b1.size)).mono hs)⟩⟩⟩
     have HFF : Bx (∀ X, Below w.heap.size w X -> Calls Tryd.prog 34 #[.agg (pgC u.ae[k] ca cc)] X fun e w' => e = .returned (.bool (jm u.ae[k])) /\ Bx (Below w.heap.size w w')) := ⟨fun X hX => (lT X _ ca cc).mono fun e w' q => ⟨q.1, ⟨hX.trans (q.2.out.mono hX.size)⟩⟩⟩
     have HW1 : Bx _ := ⟨hW1⟩
     unfold jo at HW2
     unfold pgC at HFB HFF HW1
     clear HC hs HB HW HPC hci q1 b1 hW1
     generalize u.ae[k] = p at *
     cases hbo : gT p with
     | false =>
      rw [hbo] at HFB HW2
      have hr := HW2.out
      simp only [Bool.not_false, Bool.true_or, if_true] at hr
      subst hr
      clear HW2 hbo
      go_wp2_with (first
       | (go_at_call 33; rw [HW1.out]; refine HFB.out.mono ?_; rintro e w4 ⟨rfl, ⟨d0, d1, d2, d3, d4⟩, HB4⟩))
      go_returns
      exact ⟨rfl, ⟨by first | exact HB4.out | (rw [← hH]; exact HB4.out)⟩⟩
     | true =>
      rw [hbo] at HFB HW2
      simp only [Bool.not_true, Bool.false_or] at HW2
      clear hbo
      by_cases hk0 : k = 0
      ·have hkb : ((k : Int) == 0) = true := by simp [hk0]
       have hkn : (k == 0) = true := by simp [hk0]
       rw [hkn] at HW2
       simp only [Bool.true_and] at HW2
       cases hfi : jm p with
       | false =>
        rw [hfi] at HFF HW2
        have hr := HW2.out
        simp only [Bool.not_false, if_true] at hr
        subst hr
        clear HW2 hfi hk0 hkn
        go_wp2_with (first
         | (go_at_call 33; rw [HW1.out]; refine HFB.out.mono ?_; rintro e w4 ⟨rfl, ⟨d0, d1, d2, d3, d4⟩, HB4⟩)
         | (go_at_call 34; refine (HFF.out _ HB4.out).mono ?_; rintro e w5 ⟨rfl, HB5⟩))
        go_returns
        exact ⟨rfl, ⟨by first | exact HB5.out | (rw [← hH]; exact HB5.out)⟩⟩
       | true =>
        rw [hfi] at HFF HW2
        have hr := HW2.out
        simp only [Bool.not_true, Bool.false_eq_true, if_false] at hr
        have HW3 : Bx _ := ⟨hr⟩
        clear HW2 hfi hk0 hkn hr
        go_wp2_with (first
         | (go_at_call 33; rw [HW1.out]; refine HFB.out.mono ?_; rintro e w4 ⟨rfl, ⟨d0, d1, d2, d3, d4⟩, HB4⟩)
         | (go_at_call 34; refine (HFF.out _ HB4.out).mono ?_; rintro e w5 ⟨rfl, HB5⟩))
        go_roundg (u.ae.length + 1 - (k + 1))
        case measure => omega
        case rel => exact ⟨k + 1, rfl, by omega, by simp, HW3, HB5⟩
      ·have hkb : ((k : Int) == 0) = false := by simp; omega
       have hkn : (k == 0) = false := by simp [hk0]
       rw [hkn] at HW2
       have hr := HW2.out
       simp only [Bool.false_and, Bool.false_eq_true, if_false] at hr
       have HW3 : Bx _ := ⟨hr⟩
       clear HW2 hk0 hkn hr
       go_wp2_with (first
        | (go_at_call 33; rw [HW1.out]; refine HFB.out.mono ?_; rintro e w4 ⟨rfl, ⟨d0, d1, d2, d3, d4⟩, HB4⟩))
       go_roundg (u.ae.length + 1 - (k + 1))
       case measure => omega
       case rel => exact ⟨k + 1, rfl, by omega, by simp, HW3, HB4⟩
    ·obtain rfl : k = u.ae.length := by omega
     have hr := HW.out
     rw [List.drop_length] at hr
     subst hr
     clear HW HPC
     go_wp2
     go_returns
     exact ⟨rfl, ⟨by first | exact HB.out | (rw [← hH]; exact HB.out)⟩⟩
theorem uu : ∀ k, k < 28 -> 0 <= (aS.getD k aT).2.2.1 /\ 0 <= (aS.getD k aT).2.2.2 /\ (aS.getD k aT).2.2.2 <= 1 := by decide
theorem kX (op : Int) : 0 <= (aX op).2.2.1 /\ 0 <= (aX op).2.2.2 /\ (aX op).2.2.2 <= 1 := by
 unfold aX
 split
 ·exact ⟨by decide, by decide, by decide⟩
 ·exact uu op.toNat (by omega)
theorem xH (x : CIn) : 0 <= cZ x := by
 unfold cZ
 split
 ·omega
 ·split
  ·omega
  ·split
   ·omega
   ·split <;> omega
theorem xI (x : CIn) : 0 <= ax x := by
 unfold ax
 have h1 := xH x
 have h2 := (kX x.op).1
 split <;> omega
theorem qJ (x : CIn) : 0 <= au x /\ au x <= 1 := by
 unfold au
 have h2 := (kX x.op).2
 split
 ·omega
 ·exact h2
theorem pm {cl : Nat} {i : Int} : ∀ {l : List Int}, fT cl i l = true -> ∀ j (q : 2 * j + 1 < l.length), i < l[2 * j + 1] /\ l[2 * j + 1] < cl
 | [], _, j, q => by simp at q
 | [_], _, j, q => by simp at q
 | k :: t :: r, h, j, q => by
  rw [fT, Bool.and_eq_true] at h
  cases j with
  | zero => simpa [ek] using h.1
  | succ j =>
   have := pm h.2 j (by simp at q; omega)
   exact this
theorem kY {u : CUn} {dfs : List Bool} {pg : CPg} {i : Nat} {x : CIn} (h : dI u dfs pg i x = 0) : 1 <= x.op /\ x.op <= 27 /\ aO u dfs (vsI x.op) x = true /\ eF pg (vsI x.op).1 x.a = true /\ bq pg.code.length (vsI x.op) i x = true := by
 unfold dI at h
 split at h
 ·omega
 ·rename_i h1
  split at h
  ·omega
  ·rename_i h2
   split at h
   ·omega
   ·rename_i h3
    split at h
    ·omega
    ·rename_i h4
     exact ⟨by omega, by omega, by simpa using h2, by simpa using h3, by simpa using h4⟩
theorem dW {op : Int} (k : Nat) (h : op = k) : vsI op = vsT.getD k (0, 0, 0) := by unfold vsI; rw [h]; rfl
theorem Br {u : CUn} {dfs : List Bool} {pg : CPg} {i : Nat} {x : CIn} (h : dI u dfs pg i x = 0) (hi : i < pg.code.length) : LkX pg.code.length pg.slots i x := by
 obtain ⟨h1, h2, h3, h4, h5⟩ := kY h
 refine ⟨fun e => ?_, fun e => ?_, fun e => ?_, xI x, qJ x⟩
 ·have hv : (vsI x.op).1 = 12 := by
   rcases e with e | e | e | e <;> rw [dW _ e] <;> rfl
  rw [hv] at h4
  simp [eF, inI] at h4
  omega
 ·rcases e with e | e | e
  ·have hv : (vsI x.op).1 = 14 := by rw [dW _ e]; rfl
   simp [bq, hv, ek] at h5
   omega
  ·have hv : (vsI x.op).1 = 14 := by rw [dW _ e]; rfl
   simp [bq, hv, ek] at h5
   omega
  ·have hv : (vsI x.op).1 = 15 := by rw [dW _ e]; rfl
   simp [bq, hv, inI] at h5
   omega
 ·have hv : vsI x.op = (0, 0, 11) := by rw [dW _ e]; rfl
  rw [hv] at h3 h5
  simp only [aO, iO, Bool.and_eq_true] at h3
  simp only [bq] at h5
  have h6 := h3.2.1
  simp at h6 h5
  refine ⟨h6.2, fun j q => ?_⟩
  have := pm h5 j q
  omega
theorem gU {u : CUn} {dfs : List Bool} {pg : CPg} : ∀ {l : List CIn} {k : Nat}, (bN u dfs pg l k).2 = 0 -> ∀ j x, l[j]? = some x -> dI u dfs pg (k + j) x = 0
 | [], _, _, j, x, hx => by simp at hx
 | y :: r, k, h, j, x, hx => by
  rw [bN] at h
  split at h
  ·rename_i h0
   cases j with
   | zero => simp at hx; subst hx; exact h0
   | succ j =>
    have := gU h j x (by simpa using hx)
    rw [show k + (j + 1) = k + 1 + j by omega]
    exact this
  ·rename_i h0
   exact absurd h h0
theorem iD {u : CUn} {dfs : List Bool} : ∀ {l : List CPg} {k : Nat}, (bH u dfs l k).2.2 = 0 -> ∀ p ∈ l, (bN u dfs p p.code 0).2 = 0
 | [], _, _, p, hp => by cases hp
 | q :: r, k, h, p, hp => by
  rw [bH] at h
  split at h
  ·rename_i h0
   rcases List.mem_cons.1 hp with e | e
   ·subst e; exact h0
   ·exact iD h p e
  ·rename_i h0
   exact absurd h h0
theorem pq : ∀ {l : List CPg} {k : Nat}, (fD l k).2 = false -> ∀ j p, l[j]? = some p -> jo p (k + j) = false
 | [], _, _, j, p, hp => by simp at hp
 | q :: r, k, h, j, p, hp => by
  rw [fD] at h
  split at h
  ·cases h
  ·rename_i h0
   cases j with
   | zero => simp at hp; subst hp; simpa using h0
   | succ j =>
    have := pq h j p (by simpa using hp)
    rw [show k + (j + 1) = k + 1 + j by omega]
    exact this
theorem nI {u : CUn} (h : (dx u).2 = false) : 0 < u.ae.length /\ dO u.types = true /\ dJ u.ae 268435456 = false /\ ∀ j p, u.ae[j]? = some p -> jo p j = false := by
 unfold dx at h
 split at h
 ·cases h
 ·rename_i h0
  refine ⟨?_, ?_, ?_, fun j p hp => ?_⟩
  ·rcases Nat.eq_zero_or_pos u.ae.length with e | e
   ·exact absurd (.inl e) h0
   ·exact e
  ·cases hv : dO u.types with
   | true => rfl
   | false => exact absurd (.inr (.inl hv)) h0
  ·cases hv : dJ u.ae 268435456 with
   | false => rfl
   | true => exact absurd (.inr (.inr hv)) h0
  ·have := pq h j p hp
   rwa [Nat.zero_add] at this
theorem sw {u : CUn} (h : (dx u).2 = false) : ∀ p ∈ u.ae, PgB p := by
 obtain ⟨h1, h2, h3, h4⟩ := nI h
 intro p hp
 obtain ⟨j, hj⟩ := List.getElem?_of_mem hp
 have := h4 j p hj
 unfold jo at this
 simp at this
 exact xG this.1 (mr h3 p hp)
structure UnW (u : CUn) : Prop where
 wf : ∀ p ∈ u.ae, ∀ x ∈ p.code, x.Wf
 ls : UnB u
 tl : u.types.length <= 2147483648
 sk : dU u.types <= 4294967296
theorem nJ {u : CUn} (hw : UnW u) (h : (dx u).2 = false) (ha : (bH u (dfL u.types) u.ae 0).2.2 = 0) : ∀ p ∈ u.ae, PgF p := by
 intro p hp
 have hb := sw h p hp
 have hz := iD ha p hp
 have e1 := hb.sl
 have e2 := hb.pr
 refine ⟨by omega, by omega, by omega, by omega, hb.cl.1, hb.cl.2, fun i x hx => ?_⟩
 obtain ⟨hi, he⟩ := List.getElem?_eq_some_iff.1 hx
 have hm : x ∈ p.code := he ▸ List.getElem_mem hi
 have := gU hz i x hx
 rw [Nat.zero_add] at this
 exact ⟨Br this hi, hw.wf p hp x hm, hw.ls p hp x hm⟩
theorem xJ {ts : List CTy} (h : dO ts = true) : TsV ts := by
 refine ⟨fun r k hk => ?_⟩
 rcases Nat.lt_or_ge r ts.length with e | e
 ·rw [gP e] at hk
  unfold dO gz at h
  rw [List.all_eq_true] at h
  have := h _ (List.getElem_mem e)
  unfold kOk at this
  rw [Bool.and_eq_true, List.all_eq_true] at this
  have := this.2 k hk
  simpa [bJ] using this
 ·unfold tyA at hk
  rw [List.getD_eq_getElem?_getD, List.getElem?_eq_none e] at hk
  simp [tyD] at hk
def aB (u : CUn) : Nat × Nat × Int := if (dx u).2 = true then ((dx u).1, 0, 90) else if (bH u (dfL u.types) u.ae 0).2.2 = 0 then fU u.ae 0 else bH u (dfL u.types) u.ae 0
theorem dE {w X : World} {pa ta : Option Addr} {pc tc : Nat} {u : CUn} (hu : dL w w.heap.size pa pc ta tc u) (hb : Below w.heap.size w X) : dL X X.heap.size pa pc ta tc u := hu.below hb hb.size
theorem mD (w : World) (hV : VW w) (u : CUn) (pa ta : Option Addr) (pc tc : Nat) (hu : dL w w.heap.size pa pc ta tc u) (hw : UnW u) :
  Calls Tryd.prog 9 #[unV u pa pc ta tc] w fun e w' => e = .returned (.tuple #[.int .i64 ((aB u).1 : Int), .int .i64 ((aB u).2.1 : Int), .int .i64 (aB u).2.2]) /\ Bx (Below w.heap.size w w') := by
 obtain ⟨H, hH⟩ : ∃ H, w.heap.size = H := ⟨_, rfl⟩
 obtain ⟨w1, hw1⟩ : ∃ w1, w.alloc (.cells #[.slice pa u.ae.length pc, .slice ta u.types.length tc] 25) = w1 := ⟨_, rfl⟩
 have b1 : Below w.heap.size w w1 := by rw [← hw1]; exact ak w _
 have q1 : w1.heap[H]? = some (.cells #[.slice pa u.ae.length pc, .slice ta u.types.length tc] 25 (0, 0)) := by rw [← hw1]; exact aj _ _ _ hH
 have s1 : w1.heap.size = H + 1 := by rw [← hw1]; simp [hH]
 have HU : Bx (∀ X, Below (H + 1) w1 X -> X.cell? ⟨H, 0, none⟩ = some (.slice pa u.ae.length pc) /\ X.cell? ⟨H, 1, none⟩ = some (.slice ta u.types.length tc)) := ⟨fun X hX => ⟨aa ((hX.block H (by omega)).trans q1) rfl, aa ((hX.block H (by omega)).trans q1) rfl⟩⟩
 have hXb : ∀ X, Below (H + 1) w1 X -> Below w.heap.size w X := fun X hX => b1.trans (hX.mono (by omega))
 have HXB : Bx (∀ X, Below (H + 1) w1 X -> Below w.heap.size w X) := ⟨hXb⟩
 have HPR : Bx (∀ X, Below (H + 1) w1 X -> Calls Tryd.prog 19 #[.agg #[.slice pa u.ae.length pc, .slice ta u.types.length tc]] X fun e w' => e = .returned (.tuple #[.int .i64 ((dx u).1 : Int), .bool (dx u).2]) /\ Bx (Below (H + 1) w1 w')) := ⟨fun X hX => (lU X u pa ta pc tc (dE hu (hXb X hX))).mono fun e w' q => ⟨q.1, ⟨hX.trans (q.2.out.mono (by have := hX.size; omega))⟩⟩⟩
 have HAL : Bx ((dx u).2 = false -> ∀ X, Below (H + 1) w1 X -> Calls Tryd.prog 20 #[.agg #[.slice pa u.ae.length pc, .slice ta u.types.length tc]] X fun e w' => e = .returned (.tuple #[.int .i64 ((bH u (dfL u.types) u.ae 0).1 : Int), .int .i64 ((bH u (dfL u.types) u.ae 0).2.1 : Int), .int .i64 (bH u (dfL u.types) u.ae 0).2.2]) /\ Bx (Below (H + 1) w1 w')) := ⟨fun hp X hX => by
  have hX2 := hXb X hX
  refine (kR X (hV.below hX2) u pa ta pc tc (dE hu hX2) (sw hp) hw.ls (dfL u.types) fun Y hY => ?_).mono fun e w' q => ⟨q.1, ⟨hX.trans (q.2.out.mono (by have := hX.size; omega))⟩⟩
  exact nG Y Y.heap.size (Nat.le_refl _) ta tc u.types (dE hu (hX2.trans (hY.mono hX2.size))).types (xJ (nI hp).2.1) hw.tl hw.sk⟩
 have HWY : Bx ((dx u).2 = false -> (bH u (dfL u.types) u.ae 0).2.2 = 0 -> ∀ X, Below (H + 1) w1 X -> Calls Tryd.prog 21 #[.agg #[.slice pa u.ae.length pc, .slice ta u.types.length tc]] X fun e w' => e = .returned (.tuple #[.int .i64 ((fU u.ae 0).1 : Int), .int .i64 ((fU u.ae 0).2.1 : Int), .int .i64 (fU u.ae 0).2.2]) /\ Bx (Below (H + 1) w1 w')) := ⟨fun hp ha X hX => by
  have hX2 := hXb X hX
  exact (nD X (hV.below hX2) u pa ta pc tc (dE hu hX2) (nJ hw hp ha) (nI hp).1).mono fun e w' q => ⟨q.1, ⟨hX.trans (q.2.out.mono (by have := hX.size; omega))⟩⟩⟩
 have HB0 : Bx (Below (H + 1) w1 w1) := ⟨Below.refl _ _⟩
 obtain ⟨hu0, hu1⟩ := HU.out w1 (Below.refl _ _)
 unfold aB unV
 clear hV hu hw b1 q1 hXb
 generalize dx u = PR at *
 generalize bH u (dfL u.types) u.ae 0 = AR at *
 generalize fU u.ae 0 = WR at *
 cases hp : PR.2 with
 | true =>
  rw [hp] at HPR
  simp only [if_true]
  clear HAL HWY hp
  go_enter Tryd.func9, Tryd.ntmps9
  go_wp2_with (first
   | (go_at_call 19; refine (HPR.out _ HB0.out).mono ?_; rintro e w2 ⟨rfl, HB2⟩))
  go_returns
  exact ⟨rfl, ⟨by first | exact HXB.out _ HB2.out | (rw [← hH]; exact HXB.out _ HB2.out)⟩⟩
 | false =>
  rw [hp] at HPR
  have HAL2 : Bx _ := ⟨HAL.out hp⟩
  simp only [Bool.false_eq_true, if_false]
  by_cases ha : AR.2.2 = 0
  ·have HWY2 : Bx _ := ⟨HWY.out hp ha⟩
   have hab : ((AR.2.2 : Int) != 0) = false := by simp [ha]
   simp only [if_pos ha]
   clear HAL HWY hp ha
   go_enter Tryd.func9, Tryd.ntmps9
   go_wp2_with (first
    | (go_at_call 19; refine (HPR.out _ HB0.out).mono ?_; rintro e w2 ⟨rfl, HB2⟩; obtain ⟨k0, k1⟩ := HU.out _ HB2.out)
    | (go_at_call 20; refine (HAL2.out _ HB2.out).mono ?_; rintro e w3 ⟨rfl, HB3⟩; obtain ⟨k2, k3⟩ := HU.out _ HB3.out)
    | (go_at_call 21; refine (HWY2.out _ HB3.out).mono ?_; rintro e w4 ⟨rfl, HB4⟩))
   go_returns
   exact ⟨rfl, ⟨by first | exact HXB.out _ HB4.out | (rw [← hH]; exact HXB.out _ HB4.out)⟩⟩
  ·have hab : ((AR.2.2 : Int) != 0) = true := by simp [ha]
   simp only [if_neg ha]
   clear HAL HWY hp ha
   go_enter Tryd.func9, Tryd.ntmps9
   go_wp2_with (first
    | (go_at_call 19; refine (HPR.out _ HB0.out).mono ?_; rintro e w2 ⟨rfl, HB2⟩; obtain ⟨k0, k1⟩ := HU.out _ HB2.out)
    | (go_at_call 20; refine (HAL2.out _ HB2.out).mono ?_; rintro e w3 ⟨rfl, HB3⟩; obtain ⟨k2, k3⟩ := HU.out _ HB3.out))
   go_returns
   exact ⟨rfl, ⟨by first | exact HXB.out _ HB3.out | (rw [← hH]; exact HXB.out _ HB3.out)⟩⟩
end Go.Proofs.YtadmpgegolmkgaaDoor
