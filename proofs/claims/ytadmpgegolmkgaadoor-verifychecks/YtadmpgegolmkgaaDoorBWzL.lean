import Derived.Test.YtadmpgegolmkgaaDoorBWzK
import Derived.Test.YtadmpgegolmkgaaDoorBWzTd
import Derived.Test.YtadmpgegolmkgaaDoorBWvV
import Derived.Deep.MidRow
import Derived.Test.YtadmpgegolmkgaaDoorBWcC
import Derived.Test.YtadmpgegolmkgaaDoorBWzA
import Derived.Test.YtadmpgegolmkgaaDoorBDP
import Derived.Deep.RegionHeld
import Derived.Deep.QuietTactic
import Derived.BigQuiet
set_option linter.unusedVariables false
set_option linter.unusedSimpArgs false
set_option maxHeartbeats 4000000
set_option maxRecDepth 100000
namespace Go.Proofs.YtadmpgegolmkgaaDoor
open Go.RowKit
def rf (w w' : World) (a : Option Addr) (c : Nat) (l : List Int) : Prop := ∀ X : World, w'.heap.size <= X.heap.size -> (∀ y, w.heap.size <= y -> y < w'.heap.size -> X.heap[y]? = w'.heap[y]?) -> aF X X.heap.size a c l
theorem mG {W : World} {B n c : Nat} {a : Option Addr} {S : List Int} (h : W.ownsRow B 3 1 (.slice a n c) n (bn S)) : aF W W.heap.size a c S := (jk h).1
theorem nP (w : World) (u : CUn) (pa ta : Option Addr) (pc tc : Nat) (hu : dL w w.heap.size pa pc ta tc u) (hw : UnW u) (hK : K2 u) (k : Int) :
  Calls Tryd.prog 12 #[unV u pa pc ta tc, .int .i64 k] w fun e w' => ∃ a c, e = .returned (.slice a (fP u k).length c) /\ Bx (rf w w' a c (fP u k) /\ Below w.heap.size w w') := by
 obtain ⟨H, hH⟩ : ∃ H, w.heap.size = H := ⟨_, rfl⟩
 obtain ⟨w1, hw1⟩ : ∃ w1, w.alloc (.cells #[.slice pa u.ae.length pc, .slice ta u.types.length tc] 25) = w1 := ⟨_, rfl⟩
 have b1 : Below w.heap.size w w1 := by rw [← hw1]; exact ak w _
 have q1 : w1.heap[H]? = some (.cells #[.slice pa u.ae.length pc, .slice ta u.types.length tc] 25 (0, 0)) := by rw [← hw1]; exact aj _ _ _ hH
 have s1 : w1.heap.size = H + 1 := by rw [← hw1]; simp [hH]
 have HU : Bx (∀ X, Below (H + 1) w1 X -> X.cell? ⟨H, 0, none⟩ = some (.slice pa u.ae.length pc) /\ X.cell? ⟨H, 1, none⟩ = some (.slice ta u.types.length tc) /\ H < X.heap.size) := ⟨fun X hX => ⟨aa ((hX.block H (by omega)).trans q1) rfl, aa ((hX.block H (by omega)).trans q1) rfl, by have := hX.size; omega⟩⟩
 have hXb : ∀ X, Below (H + 1) w1 X -> Below w.heap.size w X := fun X hX => b1.trans (hX.mono (by omega))
 have hBw : Bx (∀ X, Below (H + 1) w1 X -> Below w.heap.size w X) := ⟨hXb⟩
 have HSZ : Bx (w.heap.size <= H + 1) := ⟨by omega⟩
 have HCK : Bx (∀ X, Below (H + 1) w1 X -> Calls Tryd.prog 10 #[.agg #[.slice pa u.ae.length pc, .slice ta u.types.length tc]] X fun e w' => e = .returned (.tuple #[.int .i64 ((aB u).1 : Int), .int .i64 ((aB u).2.1 : Int), .int .i64 (aB u).2.2]) /\ Bx (Below (H + 1) w1 w')) := ⟨fun X hX => (lD X u pa ta pc tc (dE hu (hXb X hX)) hw hK).mono fun e w' q => ⟨q.1, ⟨hX.trans (q.2.out.mono (by have := hX.size; omega))⟩⟩⟩
 have HFL : Bx ((aB u).2.2 = 0 -> ∀ X, Below (H + 1) w1 X -> ∀ k (hk : k < u.ae.length), Calls Tryd.prog 25 #[.agg #[.slice pa u.ae.length pc, .slice ta u.types.length tc], .int .i64 (k : Nat)] X fun e w' => ∃ v S, e = .returned (.tuple #[v, .int .i64 ((dB u.ae[k]).1 : Nat), .int .i64 0]) /\ Bx (Below (H + 1) w1 w' /\ StO w' (H + 1) v S /\ S.length = u.ae[k].code.length /\ S.length <= 268435456 /\ ∀ i (hi : i < S.length), (if S[i].come then S[i].height else -1) = ((kA (dB u.ae[k]).2.2.K i).1 : Int) - 1)) := ⟨fun hz X hX k hk => by
  have hX2 := hXb X hX
  obtain ⟨c1, c2, c3⟩ := kZ hz
  have hm : u.ae[k] ∈ u.ae := List.getElem_mem hk
  have hrp := sF hw c1 c2 _ hm
  have hwz := jI c3 _ hm
  refine (mF X u pa ta pc tc (dE hu hX2) k hk hrp).mono ?_
  rintro e w' ⟨v, S, rfl, q⟩
  obtain ⟨q1, q2, q3, q4⟩ := q.out
  have hrel := q4 hwz
  rw [hwz]
  have hs := hX.size
  refine ⟨v, S, rfl, ⟨hX.trans (q1.mono (by omega)), rE q2 (by omega), q3, by rw [q3]; exact hrp.ok.n1, fun i hi => ?_⟩⟩
  have hi2 : i < u.ae[k].code.length := by omega
  have hc := hrel.come i hi2
  rw [dD hi] at hc
  by_cases hz0 : (kA (dB u.ae[k]).2.2.K i).1 = 0
  ·rw [hc, hz0]
   rfl
  ·have hh := hrel.high i hi2 hz0
   rw [dD hi] at hh
   rw [hc, if_pos (by simpa using hz0)]
   exact hh⟩
 have HB0 : Bx (Below (H + 1) w1 w1) := ⟨Below.refl _ _⟩
 obtain ⟨hu0, hu1, hu2⟩ := HU.out w1 (Below.refl _ _)
 have hpcap := hu.ae.cap
 unfold K2 at hK
 have hpl : u.ae.length <= 2147483647 := by omega
 have HWH : Bx (w.heap.size = H /\ w1.heap.size = H + 1) := ⟨hH, s1⟩
 unfold unV
 clear hu hw b1 q1 hXb hK
 by_cases hok : 0 <= k /\ k < u.ae.length /\ (aB u).2.2 = 0
 ·obtain ⟨hk0, hk1, hz⟩ := hok
  obtain ⟨kn, rfl⟩ : ∃ n : Nat, k = (n : Int) := ⟨k.toNat, by omega⟩
  have hkn : kn < u.ae.length := by omega
  have hh : fP u (kn : Int) = fO u.ae[kn] := by
   unfold fP
   rw [if_pos ⟨hk0, hk1, hz⟩, show ((kn : Int)).toNat = kn by omega, List.getD_eq_getElem?_getD, List.getElem?_eq_getElem hkn]
   rfl
  rw [hh]
  have HF2 : Bx (∀ X, Below (H + 1) w1 X -> _) := ⟨fun X hX => HFL.out hz X hX kn hkn⟩
  have hlen := jJ u.ae[kn]
  have hat : ∀ i (hi : i < (fO u.ae[kn]).length), (fO u.ae[kn])[i] = ((kA (dB u.ae[kn]).2.2.K i).1 : Int) - 1 := fun i hi => by simp [fO]
  have HAT : Bx _ := ⟨hat⟩
  have g1 : ((aB u).2.2 != 0) = false := by rw [hz]; rfl
  have g2 : decide ((kn : Int) < 0) = false := decide_eq_false (by omega)
  have g3 : decide ((u.ae.length : Int) <= (kn : Int)) = false := decide_eq_false (by omega)
  generalize fO u.ae[kn] = HS at *
  generalize (dB u.ae[kn]).1 = wi at *
  generalize (dB u.ae[kn]).2.2.K = WK at *
  generalize (aB u).1 = ca at *
  generalize (aB u).2.1 = cb at *
  generalize (aB u).2.2 = cc at *
  obtain ⟨n, hn⟩ : ∃ n, u.ae[kn].code.length = n := ⟨_, rfl⟩
  rw [hn] at hlen HF2
  clear HFL hz hh hat hn
  go_enter Tryd.func12, Tryd.ntmps12
  go_wp2_with (first
   | (go_at_call 10; refine (HCK.out _ HB0.out).mono ?_; rintro e w2 ⟨rfl, HB2⟩; obtain ⟨k0, k1, k2⟩ := HU.out _ HB2.out)
   | (go_at_call 25; refine (HF2.out _ HB2.out).mono ?_; rintro e w3 ⟨v, S, rfl, HX3⟩; obtain ⟨vb, vc, rfl⟩ := aN HX3.out.2.1)
   | fail)
  have hSn : S.length = n := HX3.out.2.2.1
  have hSl : S.length <= 268435456 := HX3.out.2.2.2.1
  have HST : Bx (StO w3 (H + 1) (.slice vb S.length vc) S /\ w3.ownsRow (H + 1) 3 1 (.slice none 0 0) 0 (bn (HS.take 0)) /\ Below (H + 1) w1 w3) := ⟨HX3.out.2.1, ⟨by simp [bn], .inl ⟨rfl, rfl⟩⟩, HX3.out.1⟩
  have HSH : Bx (∀ i (hi : i < S.length), (if S[i].come then S[i].height else -1) = ((kA WK i).1 : Int) - 1) := ⟨HX3.out.2.2.2.2⟩
  have HSN : Bx (S.length = n /\ HS.length = n) := ⟨hSn, hlen⟩
  clear HX3 HF2 HCK HB0 hSn hlen HB2 hu0 hu1 hu2 k0 k1 k2
  go_wp2
  go_loopg [11, 43] (S.length + 1) (fun f v11 v43 wr => ∃ (j : Nat) (vo : Value), f = S.length + 1 - j /\ j <= S.length /\ v43 = .int .i64 j /\ vo = v11 /\ Bx (StO wr (H + 1) (.slice vb S.length vc) S /\ wr.ownsRow (H + 1) 3 1 vo j (bn (HS.take j)) /\ Below (H + 1) w1 wr))
  case atStart => exact ⟨0, _, by simp, Nat.zero_le _, rfl, rfl, HST⟩
  case round =>
   clear HST
   obtain ⟨j, vo, hf, hj, rfl, rfl, HR⟩ := hrel
   by_cases hlt : j < S.length
   ·have hjS : j < S.length := hlt
    have hO : StO wr (H + 1) (.slice vb S.length vc) S := HR.out.1
    obtain ⟨g, c, e, hcl, hcm, _, hgl, _⟩ := hO.ex hjS
    simp only [Value.slice.injEq] at e
    obtain ⟨e1, _, e2⟩ := e
    subst e1
    subst e2
    obtain ⟨s0, s1', s2, s3, s4, s5⟩ := hO.cells hjS
    have hjI : (j : Int) < (S.length : Int) := by omega
    unfold maxLen at hcm
    obtain ⟨t, ht⟩ : ∃ t, S[j] = t := ⟨_, rfl⟩
    rw [ht] at s0 s1' s2 s3 s4 s5
    have hval := HSH.out j hjS
    rw [ht, ← HAT.out j (by have := HSN.out.2; have := HSN.out.1; omega)] at hval
    obtain ⟨w5, hw5⟩ : ∃ w5, wr.alloc (.cells #[.bool t.come, .bool t.seen, .int .i64 t.height, .int .i64 t.frm, .int .i64 t.slot, .bool t.given] 77) = w5 := ⟨_, rfl⟩
    have hb5 : Below wr.heap.size wr w5 := by rw [← hw5]; exact ak _ _
    have hq5 : w5.heap[wr.heap.size]? = some (.cells #[.bool t.come, .bool t.seen, .int .i64 t.height, .int .i64 t.frm, .int .i64 t.slot, .bool t.given] 77 (0, 0)) := by rw [← hw5]; exact aj _ _ _ rfl
    have t0 := aa (i := 0) hq5 rfl
    have t2 := aa (i := 2) hq5 rfl
    have hl5 : wr.heap.size < w5.heap.size := ah hq5
    obtain ⟨nv, hnv⟩ : ∃ nv : Int, HS[j]'(by have := HSN.out.2; have := HSN.out.1; omega) = nv := ⟨_, rfl⟩
    rw [hnv] at hval
    obtain ⟨i0, hi0, iz0, iz1, iz2⟩ := info_parts gQ
    have hsz : H + 1 <= w5.heap.size := by have := HR.out.2.2.size; have := hb5.size; have := HWH.out.2; omega
    have hown5 := aZ HR.out.2.1 hb5
    obtain ⟨gg, cg, W6, r6, o6, gr6, _, _⟩ := app1 Tryd.underlying32 hi0 iz0 iz1 iz2 rfl (by decide) w5 (H + 1) vo j _ hown5 #[.int .i64 nv] rfl (by simp [Value.oneCell']) (by unfold maxLen; omega) (by omega) hsz
    have HNX : Bx (StO W6 (H + 1) (.slice (some ⟨g, 0, none⟩) S.length vc) S /\ W6.ownsRow (H + 1) 3 1 (.slice (some ⟨gg, 0, none⟩) (j + 1) cg) (j + 1) (bn (HS.take (j + 1))) /\ Below (H + 1) w1 W6) := ⟨kH (aZ HR.out.1 hb5) gr6 (by decide) (bM hown5), by
     have hjH : j < HS.length := by have := HSN.out.2; have := HSN.out.1; omega
     rw [List.take_succ_eq_append_getElem hjH, hnv]
     have e : bn (HS.take j ++ [nv]) = bn (HS.take j) ++ (#[.int .i64 nv] : Array Value).toList := by simp [bn]
     rw [e]
     exact o6, (HR.out.2.2.trans (hb5.mono (by have := HR.out.2.2.size; have := HWH.out.2; omega))).trans ((Below.refl (H + 1) w5).grown gr6 hsz fun z hz => (aD hown5 hz).1)⟩
    clear HR hO o6 gr6 hown5 hb5 hq5 HSH HAT hnv
    cases hcm2 : t.come with
    | true =>
     rw [hcm2] at s0 t0 hval hw5
     have hv2 : t.height = nv := by simpa using hval
     rw [hv2] at s2 t2 hw5
     clear hval hv2
     go_wp2_with (first
      | (at_builtin; refine aJ rfl (.tmp 51) (.tmp 53) 32 rfl rfl rfl r6 ?_)
      | fail)
     go_roundg (S.length + 1 - (j + 1))
     case measure => omega
     case rel => exact ⟨j + 1, _, rfl, by omega, by go_num, rfl, HNX⟩
    | false =>
     rw [hcm2] at s0 t0 hval hw5
     have hv2 : nv = -1 := by simpa using hval.symm
     subst hv2
     clear hval
     go_wp2_with (first
      | (at_builtin; refine aJ rfl (.tmp 51) (.tmp 53) 32 rfl rfl rfl r6 ?_)
      | fail)
     go_roundg (S.length + 1 - (j + 1))
     case measure => omega
     case rel => exact ⟨j + 1, _, rfl, by omega, by go_num, rfl, HNX⟩
   ·have hjN : j = S.length := by omega
    have HFN : Bx (wr.ownsRow (H + 1) 3 1 vo HS.length (bn HS) /\ Below (H + 1) w1 wr) := ⟨by
     have := HR.out.2.1
     have e : HS.length = j := by have := HSN.out.2; have := HSN.out.1; omega
     rw [List.take_of_length_le (by omega)] at this
     rw [e]
     exact this, HR.out.2.2⟩
    obtain ⟨va, vcc, rfl⟩ := aN HFN.out.1
    have hHB : Bx (rf w wr va vcc HS) := ⟨fun X hs hX => mG (cO HFN.out.1 fun y hy hy2 => hX y (Nat.le_trans HSZ.out hy) hy2)⟩
    clear HR HSH HAT
    subst hjN
    go_wp2
    go_ret
    exact ⟨va, vcc, rfl, ⟨hHB.out, by first | exact hBw.out _ HFN.out.2 | (rw [← hH]; exact hBw.out _ HFN.out.2)⟩⟩
 ·have hh : fP u k = [] := by unfold fP; rw [if_neg hok]
  rw [hh]
  have hnil : ∀ X : World, aF X X.heap.size none 0 [] := fun X => iF _ _ _ _
  have HNL : Bx _ := ⟨hnil⟩
  by_cases hz : (aB u).2.2 = 0
  ·have g1 : ((aB u).2.2 != 0) = false := by rw [hz]; rfl
   by_cases hk0 : 0 <= k
   ·have g2 : decide (k < 0) = false := decide_eq_false (by omega)
    have g3 : decide ((u.ae.length : Int) <= k) = true := decide_eq_true (by
     rcases Int.lt_or_le k (u.ae.length : Int) with e | e
     ·exact absurd ⟨hk0, e, hz⟩ hok
     ·exact e)
    generalize (aB u).1 = ca at *
    generalize (aB u).2.1 = cb at *
    generalize (aB u).2.2 = cc at *
    clear HFL hz hh hnil hok hk0
    go_enter Tryd.func12, Tryd.ntmps12
    go_wp2_with (first
     | (go_at_call 10; refine (HCK.out _ HB0.out).mono ?_; rintro e w2 ⟨rfl, HB2⟩; obtain ⟨k0, k1, k2⟩ := HU.out _ HB2.out)
     | fail)
    go_ret
    exact ⟨none, 0, rfl, ⟨fun X _ _ => HNL.out X, by first | exact hBw.out _ HB2.out | (rw [← hH]; exact hBw.out _ HB2.out)⟩⟩
   ·have g2 : decide (k < 0) = true := decide_eq_true (by omega)
    generalize (aB u).1 = ca at *
    generalize (aB u).2.1 = cb at *
    generalize (aB u).2.2 = cc at *
    clear HFL hz hh hnil hok hk0
    go_enter Tryd.func12, Tryd.ntmps12
    go_wp2_with (first
     | (go_at_call 10; refine (HCK.out _ HB0.out).mono ?_; rintro e w2 ⟨rfl, HB2⟩; obtain ⟨k0, k1, k2⟩ := HU.out _ HB2.out)
     | fail)
    go_ret
    exact ⟨none, 0, rfl, ⟨fun X _ _ => HNL.out X, by first | exact hBw.out _ HB2.out | (rw [← hH]; exact hBw.out _ HB2.out)⟩⟩
  ·have g1 : ((aB u).2.2 != 0) = true := by simpa using hz
   generalize (aB u).1 = ca at *
   generalize (aB u).2.1 = cb at *
   generalize (aB u).2.2 = cc at *
   clear HFL hz hh hnil hok
   go_enter Tryd.func12, Tryd.ntmps12
   go_wp2_with (first
    | (go_at_call 10; refine (HCK.out _ HB0.out).mono ?_; rintro e w2 ⟨rfl, HB2⟩; obtain ⟨k0, k1, k2⟩ := HU.out _ HB2.out)
    | fail)
   go_ret
   exact ⟨none, 0, rfl, ⟨fun X _ _ => HNL.out X, by first | exact hBw.out _ HB2.out | (rw [← hH]; exact hBw.out _ HB2.out)⟩⟩
structure MkG (w0 : World) (cv : Nat -> Option Value) (ai st : Nat) (ty : TypeId) (fin : Array Value) (u : aV) (w : World) : Prop where
 bel : Below w0.heap.size w0 w
 pur : ∀ k v, u k = some v -> ∀ c, cv k = some c -> v = c
 al : ∀ v, u ai = some v -> ∃ q cs, v = .pointer (some ⟨q, 0, none⟩) /\ w0.heap.size <= q /\ w.heap[q]? = some (.cells cs ty (0, 0)) /\ cs.size = fin.size /\ ∀ z, u st = some z -> cs = fin
 d : ∀ z, u st = some z -> ∃ v, u ai = some v
theorem MkG.get {w0 : World} {cv : Nat -> Option Value} {ai st : Nat} {ty : TypeId} {fin : Array Value} {u : aV} {w : World} (h : MkG w0 cv ai st ty fin u w) {k : Nat} (hk : ∃ v, u k = some v) {c : Value} (hc : cv k = some c) : u k = some c := by
 obtain ⟨v, hv⟩ := hk
 rw [hv, h.pur k v hv c hc]
theorem MkG.pure {w0 : World} {cv : Nat -> Option Value} {ai st : Nat} {ty : TypeId} {fin : Array Value} {u : aV} {w : World} (h : MkG w0 cv ai st ty fin u w) {k : Nat} (h1 : k ≠ ai) (h2 : k ≠ st) {c : Value} (hc : cv k = some c) : MkG w0 cv ai st ty fin (u.put k c) w := by
 refine ⟨h.bel, fun j v hj c' hc' => ?_, fun v hv => ?_, fun z hz => ?_⟩
 ·by_cases e : j = k
  ·subst e
   rw [aV.bU] at hj
   rw [hc] at hc'
   cases hj; cases hc'; rfl
  ·rw [aV.bf _ _ e] at hj
   exact h.pur j v hj c' hc'
 ·rw [aV.bf _ _ (Ne.symm h1)] at hv
  rw [aV.bf _ _ (Ne.symm h2)]
  exact h.al v hv
 ·rw [aV.bf _ _ (Ne.symm h2)] at hz
  rw [aV.bf _ _ (Ne.symm h1)]
  exact h.d z hz
theorem MkG.alloc {w0 : World} {cv : Nat -> Option Value} {ai st : Nat} {ty : TypeId} {fin : Array Value} {u : aV} {w : World} (h : MkG w0 cv ai st ty fin u w) (hn : u ai = none) (hne : st ≠ ai) (hc : cv ai = none) {cs : Array Value} (hcs : cs.size = fin.size) : MkG w0 cv ai st ty fin (u.put ai (.pointer (some ⟨w.heap.size, 0, none⟩))) (w.alloc (.cells cs ty)) := by
 have hb := ak w (.cells cs ty)
 have hz := h.bel.size
 refine ⟨h.bel.trans (hb.mono hz), fun j v hj c' hc' => ?_, fun v hv => ?_, fun z hz => ⟨_, aV.bU _ _ _⟩⟩
 ·by_cases e : j = ai
  ·subst e; rw [hc] at hc'; cases hc'
  ·rw [aV.bf _ _ e] at hj
   exact h.pur j v hj c' hc'
 ·rw [aV.bU] at hv
  cases hv
  refine ⟨w.heap.size, cs, rfl, hz, aj _ _ _ rfl, hcs, fun z hz2 => ?_⟩
  rw [aV.bf _ _ hne] at hz2
  obtain ⟨v', hv'⟩ := h.d z hz2
  rw [hn] at hv'; cases hv'
theorem pR {n q : Nat} (hq : n <= q) : ∀ (vs : List Value) (o : Nat) (w : World), Below n w (w.setCells q o vs) /\ ∀ y, y ≠ q -> (w.setCells q o vs).heap[y]? = w.heap[y]?
 | [], o, w => ⟨Below.refl _ _, fun _ _ => rfl⟩
 | v :: r, o, w => by
  obtain ⟨h1, h2⟩ := pR hq r (o + 1) (w.setCell ⟨q, o, none⟩ v)
  exact ⟨((Below.refl n w).setCell (p := ⟨q, o, none⟩) hq v).trans h1, fun y hy => (h2 y hy).trans (Below.heap_setCell w ⟨q, o, none⟩ v y hy)⟩
theorem yz {w : World} {q : Nat} {cs fin : Array Value} {ty : TypeId} (hq : w.heap[q]? = some (.cells cs ty (0, 0))) (hs : cs.size = fin.size) : (w.setCells q 0 fin.toList).heap[q]? = some (.cells fin ty (0, 0)) := by
 have hb := dS q ty fin.toList 0 w cs hq
 refine hb.trans ?_
 have key : jX cs 0 fin.toList = fin := ?_
 ·rw [key]
 apply Array.ext_getElem?
 intro j
 rw [ji _ _ _ _ (by simp; omega)]
 by_cases hj : j < fin.size
 ·rw [if_pos (by simp; omega), Nat.sub_zero, Array.getElem?_toList]
 ·rw [if_neg (by simp; omega), Array.getElem?_eq_none (by omega), Array.getElem?_eq_none (by omega)]
theorem MkG.store {w0 : World} {cv : Nat -> Option Value} {ai st : Nat} {ty : TypeId} {fin : Array Value} {u : aV} {w : World} (h : MkG w0 cv ai st ty fin u w) (hne : st ≠ ai) (hc : cv st = none) {q : Nat} (hq : u ai = some (.pointer (some ⟨q, 0, none⟩))) (z0 : Value) : MkG w0 cv ai st ty fin (u.put st z0) (w.setCells q 0 fin.toList) := by
 obtain ⟨q', cs, e1, e2, e3, e4, _⟩ := h.al _ hq
 simp only [Value.pointer.injEq, Option.some.injEq, Addr.mk.injEq, and_true] at e1
 subst e1
 refine ⟨h.bel.trans (pR e2 _ 0 w).1, fun j v hj c' hc' => ?_, fun v hv => ?_, fun z hz => ?_⟩
 ·by_cases e : j = st
  ·subst e; rw [hc] at hc'; cases hc'
  ·rw [aV.bf _ _ e] at hj
   exact h.pur j v hj c' hc'
 ·rw [aV.bf _ _ (Ne.symm hne), hq] at hv
  cases hv
  exact ⟨q, _, rfl, e2, yz e3 e4, rfl, fun _ _ => rfl⟩
 ·rw [aV.bf _ _ (Ne.symm hne)]
  exact ⟨_, hq⟩
structure LtU (W : World) (B : Nat) (pa ta : Option Addr) (pc tc : Nat) (u : CUn) (G : List (Nat × Nat)) (C : List PG) : Prop where
 tlen : G.length = u.types.length
 tall : W.ownsRow B 49 3 (.slice ta u.types.length tc) u.types.length (tyC u.types G)
 tkid : ∀ i (h1 : i < u.types.length) (h2 : i < G.length), dz W B G[i].1 G[i].2 u.types[i].kids
 len : C.length = u.ae.length
 all : W.ownsRow B 40 5 (.slice pa u.ae.length pc) u.ae.length (pgL u.ae C)
 cod : ∀ i (h1 : i < u.ae.length) (h2 : i < C.length), cK W B C[i].1.1 C[i].1.2 u.ae[i].code C[i].2
 ord : ∀ i j (hi : i < C.length) (hj : j < C.length), i < j -> C[i].1.1 < C[j].1.1
theorem LtU.later {W W' : World} {B : Nat} {pa ta : Option Addr} {pc tc : Nat} {u : CUn} {G : List (Nat × Nat)} {C : List PG} (h : LtU W B pa ta pc tc u G C) (hb : ∀ y, B <= y -> y < W.heap.size -> W'.heap[y]? = W.heap[y]?) : LtU W' B pa ta pc tc u G C :=
 ⟨h.tlen, cO h.tall hb, fun i h1 h2 => (h.tkid i h1 h2).later (hb _ (h.tkid i h1 h2).base (h.tkid i h1 h2).lt) (Nat.le_refl _), h.len, cO h.all hb, fun i h1 h2 => (h.cod i h1 h2).later (fun y cs t _ hy hq => hb y hy (ah hq)) (Nat.le_refl _), h.ord⟩
def yA (w : World) (u : CUn) (e : Ending) (w' : World) : Prop := ∃ pa ta pc tc, e = .returned (unV u pa pc ta tc) /\ Bx (Below w.heap.size w w' /\ ∃ B G C, w.heap.size <= B /\ LtU w' B pa ta pc tc u G C)
theorem yB (w : World) (u : CUn) (pa ta : Option Addr) (pc tc : Nat) (hu : dL w w.heap.size pa pc ta tc u) (hk : UnK u) (hpn : u.ae.length <= 2147483647) (hcn : ∀ p ∈ u.ae, p.code.length <= 2147483647) :
  Calls Tryd.prog 8 #[unV u pa pc ta tc] w (yA w u) := by
 obtain ⟨Q, hQ⟩ : ∃ Q, Q = yA w u := ⟨_, rfl⟩
 have HQ : Bx (∀ e w' pa ta pc tc, e = .returned (.agg #[.slice pa u.ae.length pc, .slice ta u.types.length tc]) -> Below w.heap.size w w' -> (∃ B G C, w.heap.size <= B /\ LtU w' B pa ta pc tc u G C) -> Q e w') := ⟨fun e w' pa ta pc tc h1 h2 h3 => by rw [hQ]; exact ⟨pa, ta, pc, tc, h1, ⟨h2, h3⟩⟩⟩
 rw [← hQ]
 clear hQ
 obtain ⟨H, hH⟩ : ∃ H, w.heap.size = H := ⟨_, rfl⟩
 obtain ⟨w1, hw1⟩ : ∃ w1, w.alloc (.cells #[.slice pa u.ae.length pc, .slice ta u.types.length tc] 25) = w1 := ⟨_, rfl⟩
 have b1 : Below H w w1 := by rw [← hw1, ← hH]; exact ak w _
 have q1 : w1.heap[H]? = some (.cells #[.slice pa u.ae.length pc, .slice ta u.types.length tc] 25 (0, 0)) := by rw [← hw1]; exact aj _ _ _ hH
 have s1 : w1.heap.size = H + 1 := by rw [← hw1]; simp [hH]
 obtain ⟨w2, hw2⟩ : ∃ w2, w1.alloc (.cells #[.slice none 0 0, .slice none 0 0] 25) = w2 := ⟨_, rfl⟩
 have b2 : Below (H + 1) w1 w2 := by rw [← hw2, ← s1]; exact ak w1 _
 have s2 : w2.heap.size = H + 2 := by rw [← hw2]; simp [s1]
 obtain ⟨w3, hw3⟩ : ∃ w3, w2.alloc (.cells #[.slice none 0 0, .slice none 0 0] 25) = w3 := ⟨_, rfl⟩
 have b3 : Below (H + 2) w2 w3 := by rw [← hw3, ← s2]; exact ak w2 _
 have s3 : w3.heap.size = H + 3 := by rw [← hw3]; simp [s2]
 have q3 : w3.heap[H + 2]? = some (.cells #[.slice none 0 0, .slice none 0 0] 25 (0, 0)) := by rw [← hw3]; exact aj _ _ _ s2
 have hb3 : Below H w w3 := b1.trans ((b2.mono (by omega)).trans (b3.mono (by omega)))
 have u0 : w1.cell? ⟨H, 0, none⟩ = some (.slice pa u.ae.length pc) := aa q1 rfl
 have u1 : w1.cell? ⟨H, 1, none⟩ = some (.slice ta u.types.length tc) := aa q1 rfl
 have qh3 := (b3.block H (by omega)).trans ((b2.block H (by omega)).trans q1)
 have u2 : w3.cell? ⟨H, 0, none⟩ = some (.slice pa u.ae.length pc) := aa qh3 rfl
 have u3 : w3.cell? ⟨H, 1, none⟩ = some (.slice ta u.types.length tc) := aa qh3 rfl
 have hb13 : Below w2.heap.size w2 w3 := by rw [s2]; exact b3
 have qh2 : w2.heap[H + 1]? = some (.cells #[.slice none 0 0, .slice none 0 0] 25 (0, 0)) := by rw [← hw2]; exact aj _ _ _ s1
 have HU : Bx (∀ X, Below w2.heap.size w2 X -> X.cell? ⟨H, 0, none⟩ = some (.slice pa u.ae.length pc) /\ X.cell? ⟨H, 1, none⟩ = some (.slice ta u.types.length tc) /\ H < X.heap.size /\ Below w.heap.size w X /\ X.heap[H + 1]? = some (.cells #[.slice none 0 0, .slice none 0 0] 25 (0, 0))) := ⟨fun X hX => by
  have hq := (hX.block H (by omega)).trans ((b2.block H (by omega)).trans q1)
  exact ⟨aa hq rfl, aa hq rfl, ah hq, by rw [hH]; exact b1.trans ((b2.mono (by omega)).trans (hX.mono (by omega))), (hX.block _ (by omega)).trans qh2⟩⟩
 have HT0 : Bx (∃ G, TsM w2 w3 (H + 2) (H + 3) (.slice none 0 0) (.slice none 0 0) (u.types.take 0) G) := ⟨[], ⟨hb13, q3, ⟨by omega, by omega, by omega⟩, by simp, ⟨by simp [tyC], .inl ⟨rfl, by simp⟩⟩, fun i h1 h2 => by simp at h2⟩⟩
 have HTC : Bx (∀ k (hk : k < u.types.length), _) := ⟨fun k hk => fq hu.types hk⟩
 have HPC : Bx (∀ k (hk : k < u.ae.length), _) := ⟨fun k hk => bR hu.ae hk⟩
 have HKB : Bx (∀ k (h : k < u.types.length), u.types[k].kids.length <= 2147483647) := ⟨fun k h => by
  have := nE (l := u.types) h
  have h2 : dU (u.types.drop k) <= dU u.types := by
   unfold dU
   conv => rhs; rw [← List.take_append_drop k u.types]
   rw [List.map_append, List.sum_append]
   omega
  have := hk.ty
  omega⟩
 have htl : u.types.length <= 2147483647 := by have := hk.ty; omega
 have htcap := hu.types.cap
 have hpcap := hu.ae.cap
 have HKK : Bx (UnK u) := ⟨hk⟩
 have HCI : Bx (∀ (cl : List CIn) (ca : Option Addr) (cc : Nat), Row (cu w w.heap.size) w.heap.size 4 ca cc cl -> ∀ i (hi : i < cl.length), _) := ⟨fun cl ca cc hci i hi => bF hci hi⟩
 clear hu hk b1 q1 b2 b3 q3 hb3 qh3 hb13 qh2
 unfold unV
 go_enter Tryd.func8, Tryd.ntmps8
 go_wp2
 obtain ⟨O, hO⟩ : ∃ O, H + 2 = O := ⟨_, rfl⟩
 obtain ⟨B, hB⟩ : ∃ B, H + 3 = B := ⟨_, rfl⟩
 rw [hO, hB] at HT0
 rw [hO]
 go_loopg [16] (u.types.length + 1) (fun f v16 wr => ∃ (k : Nat) (va : Value), f = u.types.length + 1 - k /\ k <= u.types.length /\ v16 = .int .i64 k /\ Bx (∃ G, TsM w2 wr O B (.slice none 0 0) va (u.types.take k) G))
 case atStart => exact ⟨0, _, by simp, Nat.zero_le _, rfl, HT0⟩
 case round =>
  clear HT0
  obtain ⟨k, va, hf, hkl, rfl, HI⟩ := hrel
  obtain ⟨G, hI⟩ := HI.out
  clear HI
  by_cases hlt : k < u.types.length
  ·obtain ⟨b, o, ka, kc, rfl, hb, hks, HC⟩ := HTC.out k hlt
   obtain ⟨uc0, uc1, hHl, hbw, _⟩ := HU.out wr hI.bel
   obtain ⟨c0, c1, c2⟩ := HC.out wr hbw
   have htake : u.types.take (k + 1) = u.types.take k ++ [u.types[k]] := List.take_succ_eq_append_getElem hlt
   have hkb := HKB.out k hlt
   have hbl : b < wr.heap.size := by have := hbw.size; omega
   obtain ⟨W2, W3, W4, W5, gv, cv, v2, g, c, RA⟩ := hI.push wr.heap.size rfl u.types[k] ka kc ((hks.below hbw).up (by omega)) hkb (by rw [List.length_take]; omega)
   rw [show (u.types.take k).length = k by rw [List.length_take]; omega] at RA
   obtain ⟨d1, l1, r2, r3, cp, d3, f3, l3, w4, e4, o4, r5, o5, st⟩ := RA
   obtain ⟨p0, p1, p2⟩ : W4.cell? ⟨wr.heap.size, 0, none⟩ = some (.int .i64 u.types[k].kind) /\ W4.cell? ⟨wr.heap.size, 1, none⟩ = some (.slice (some ⟨g, 0, none⟩) u.types[k].kids.length c) /\ W4.cell? ⟨wr.heap.size, 2, none⟩ = some (.bool u.types[k].res) := ⟨aa e4 rfl, aa e4 rfl, aa e4 rfl⟩
   have m4 : W4.cell? ⟨O, 1, none⟩ = some va := aa o4 rfl
   have m5 : W5.cell? ⟨O, 1, none⟩ = some va := aa o5 rfl
   have n5 : W5.frozen? ⟨O, 1, none⟩ = false := aL o5
   have z4 : wr.heap.size < W4.heap.size := ah e4
   have z5 : O < W4.heap.size := ah o4
   have z6 : O < W5.heap.size := ah o5
   have HN : Bx (∃ G, TsM w2 (W5.setCell ⟨O, 1, none⟩ (.slice (some ⟨gv, 0, none⟩) (k + 1) cv)) O B (.slice none 0 0) (.slice (some ⟨gv, 0, none⟩) (k + 1) cv) (u.types.take (k + 1)) G) := ⟨_, by rw [htake]; exact st⟩
   have hkI : (k : Int) < (u.types.length : Int) := by omega
   clear hI HC htake st o4 o5 e4 HTC HKB hks
   generalize u.types[k] = t at *
   go_wp2_with (first
    | (at_builtin; refine aJ rfl (.const (.slice none 0 0)) (.tmp 21) 32 rfl rfl rfl r2 ?_)
    | (at_builtin; refine aJ rfl (.tmp 22) (.tmp 23) 32 rfl rfl rfl r3 ?_)
    | (at_builtin; refine aJ rfl (.tmp 32) (.tmp 34) 23 rfl rfl rfl r5 ?_))
   go_roundg (u.types.length + 1 - (k + 1))
   case measure => omega
   case rel => exact ⟨k + 1, _, rfl, by omega, by go_num, HN⟩
  ·obtain rfl : k = u.types.length := by omega
   obtain ⟨uc0, uc1, hHl, hbw, _⟩ := HU.out wr hI.bel
   rw [List.take_of_length_le (Nat.le_refl _)] at hI
   have HP0 : Bx (∃ C, PgM w2 wr O B (.slice none 0 0) va u.types G (u.ae.take 0) C) := ⟨[], hI.ae⟩
   clear hI HTC HKB
   go_wp2
   obtain ⟨wA, rfl⟩ : ∃ X, X = wr := ⟨_, rfl⟩
   go_loopg [41] (u.ae.length + 1) (fun f v41 wr => ∃ (k : Nat) (vp : Value), f = u.ae.length + 1 - k /\ k <= u.ae.length /\ v41 = .int .i64 k /\ Bx (∃ C, PgM w2 wr O B vp va u.types G (u.ae.take k) C))
   case atStart => exact ⟨0, _, by simp, Nat.zero_le _, rfl, HP0⟩
   case round =>
    clear HP0
    obtain ⟨k, vp, hf2, hkl2, rfl, HI⟩ := hrel
    obtain ⟨C, hI⟩ := HI.out
    clear HI
    by_cases hlt2 : k < u.ae.length
    ·obtain ⟨b, o, ca, cc, rfl, hb, hci, HC⟩ := HPC.out k hlt2
     obtain ⟨uc0, uc1, hHl, hbw, _⟩ := HU.out wr hI.bel
     obtain ⟨c0, c1, c2, c3, c4⟩ := HC.out wr hbw
     have htake : u.ae.take (k + 1) = u.ae.take k ++ [u.ae[k]] := List.take_succ_eq_append_getElem hlt2
     have hbl : b < wr.heap.size := by have := hbw.size; omega
     have hkI : (k : Int) < (u.ae.length : Int) := by omega
     have hpm := List.getElem_mem hlt2
     have hcl := hcn _ hpm
     have HLS : Bx (∀ x ∈ u.ae[k].code, x.list.length <= 2147483647) := ⟨HKK.out.ls _ hpm⟩
     have HIN := HCI.out u.ae[k].code ca cc hci
     obtain ⟨W1, hW1⟩ : ∃ W1, wr.alloc (.cells #[.int .i64 u.ae[k].params, .int .i64 u.ae[k].slots, .int .i64 u.ae[k].caps, .bool u.ae[k].res, .slice ca u.ae[k].code.length cc] 40) = W1 := ⟨_, rfl⟩
     have HIM : Bx (PgM w2 wr O B vp va u.types G (u.ae.take k) C /\ u.ae.take (k + 1) = u.ae.take k ++ [u.ae[k]] /\ wr.alloc (.cells #[.int .i64 u.ae[k].params, .int .i64 u.ae[k].slots, .int .i64 u.ae[k].caps, .bool u.ae[k].res, .slice ca u.ae[k].code.length cc] 40) = W1) := ⟨hI, htake, hW1⟩
     have q1 : W1.heap[wr.heap.size]? = some (.cells #[.int .i64 u.ae[k].params, .int .i64 u.ae[k].slots, .int .i64 u.ae[k].caps, .bool u.ae[k].res, .slice ca u.ae[k].code.length cc] 40 (0, 0)) := by rw [← hW1]; exact aj _ _ _ rfl
     have d4 : W1.cell? ⟨wr.heap.size, 4, none⟩ = some (.slice ca u.ae[k].code.length cc) := aa q1 rfl
     have hW1s : W1.heap.size = wr.heap.size + 1 := by rw [← hW1]; simp
     have hbw1 : Bx (Below w.heap.size w W1) := ⟨by rw [← hW1]; exact hbw.trans ((ak wr _).mono (by have := hbw.size; omega))⟩
     have HIB : Bx _ := ⟨HIN⟩
     have hccap := hci.cap
     have HK0 : Bx (∃ K, CdM W1 W1 (.slice none 0 0) (u.ae[k].code.take 0) K) := ⟨[], ⟨Below.refl _ _, rfl, ⟨by simp [inC], .inl ⟨rfl, by simp⟩⟩, fun i h1 => by simp at h1⟩⟩
     clear hI htake HC hci HIN q1 hpm
     generalize u.ae[k] = p at *
     go_wp2
     obtain ⟨wB, rfl⟩ : ∃ X, X = wr := ⟨_, rfl⟩
     go_loopg [9, 48] (p.code.length + 1) (fun f v9 v48 wr => ∃ (i : Nat), f = p.code.length + 1 - i /\ i <= p.code.length /\ v48 = .int .i64 i /\ Bx (∃ K, CdM W1 wr v9 (p.code.take i) K))
     case atStart => exact ⟨0, by simp, Nat.zero_le _, rfl, HK0⟩
     case round =>
      clear HK0
      obtain ⟨i, hf3, hil, rfl, HJ⟩ := hrel
      obtain ⟨K, hJ⟩ := HJ.out
      clear HJ
      have hbw3 := hbw1.out.trans (hJ.bel.mono hbw1.out.size)
      by_cases hlt3 : i < p.code.length
      ·obtain ⟨b', o', ka, kc, rfl, hb', hks, HC⟩ := HIB.out i hlt3
       obtain ⟨e0, e1, e2, e3⟩ := HC.out wr hbw3
       have htake : p.code.take (i + 1) = p.code.take i ++ [p.code[i]] := List.take_succ_eq_append_getElem hlt3
       have hbl' : b' < wr.heap.size := by have := hbw3.size; omega
       have hiI : (i : Int) < (p.code.length : Int) := by omega
       have hxl := HLS.out _ (List.getElem_mem hlt3)
       obtain ⟨W2, W3, W4, W5, gv, cv, v2, g, c, RA⟩ := hJ.push wr.heap.size rfl p.code[i] ka kc ((hks.below hbw3).up hbw1.out.size) hxl (by rw [List.length_take]; omega)
       rw [show (p.code.take i).length = i by rw [List.length_take]; omega] at RA
       obtain ⟨k1, l1, r2, r3, cp, k3, f3, l3, w4, e4, r5, st⟩ := RA
       obtain ⟨p0, p1, p2, p3⟩ : W4.cell? ⟨wr.heap.size, 0, none⟩ = some (.int .i64 p.code[i].op) /\ W4.cell? ⟨wr.heap.size, 1, none⟩ = some (.int .i64 p.code[i].a) /\ W4.cell? ⟨wr.heap.size, 2, none⟩ = some (.int .i64 p.code[i].b) /\ W4.cell? ⟨wr.heap.size, 3, none⟩ = some (.slice (some ⟨g, 0, none⟩) p.code[i].list.length c) := ⟨aa e4 rfl, aa e4 rfl, aa e4 rfl, aa e4 rfl⟩
       have z4 : wr.heap.size < W4.heap.size := ah e4
       have HN : Bx (∃ K, CdM W1 W5 (.slice (some ⟨gv, 0, none⟩) (i + 1) cv) (p.code.take (i + 1)) K) := ⟨_, by rw [htake]; exact st⟩
       clear hJ HC htake st e4 hks HIB HIM HLS hbw3
       generalize p.code[i] = x at *
       go_wp2_with (first
        | (at_builtin; refine aJ rfl (.const (.slice none 0 0)) (.tmp 53) 32 rfl rfl rfl r2 ?_)
        | (at_builtin; refine aJ rfl (.tmp 54) (.tmp 55) 32 rfl rfl rfl r3 ?_)
        | (at_builtin; refine aJ rfl (.tmp 63) (.tmp 65) 38 rfl rfl rfl r5 ?_))
       go_roundg (p.code.length + 1 - (i + 1))
       case measure => omega
       case rel => exact ⟨i + 1, rfl, by omega, by go_num, HN⟩
      ·obtain rfl : i = p.code.length := by omega
       rw [List.take_of_length_le (Nat.le_refl _)] at hJ
       obtain ⟨gv, cv, W5, r5, hcp, hb5, hCo⟩ := hJ.last hcl
       obtain ⟨hI, htake, hW1⟩ := HIM.out
       obtain ⟨W6, W7, gp, cp, RA⟩ := hI.push wB.heap.size rfl p ca cc gv cv K hW1 hb5 hCo (by rw [List.length_take]; omega)
       rw [show (u.ae.take k).length = k by rw [List.length_take]; omega] at RA
       obtain ⟨m4, m5, l5, w6, e6, o6, r7, o7, st⟩ := RA
       obtain ⟨p0, p1, p2, p3, p4⟩ : W6.cell? ⟨wB.heap.size, 0, none⟩ = some (.int .i64 p.params) /\ W6.cell? ⟨wB.heap.size, 1, none⟩ = some (.int .i64 p.slots) /\ W6.cell? ⟨wB.heap.size, 2, none⟩ = some (.int .i64 p.caps) /\ W6.cell? ⟨wB.heap.size, 3, none⟩ = some (.bool p.res) /\ W6.cell? ⟨wB.heap.size, 4, none⟩ = some (.slice (some ⟨gv, 0, none⟩) p.code.length cv) := ⟨aa e6 rfl, aa e6 rfl, aa e6 rfl, aa e6 rfl, aa e6 rfl⟩
       have n6 : W6.cell? ⟨O, 0, none⟩ = some vp := aa o6 rfl
       have n7 : W7.cell? ⟨O, 0, none⟩ = some vp := aa o7 rfl
       have n8 : W7.frozen? ⟨O, 0, none⟩ = false := aL o7
       have z4 : wB.heap.size < W6.heap.size := ah e6
       have z5 : O < W6.heap.size := ah o6
       have z6 : O < W7.heap.size := ah o7
       have HN : Bx (∃ C, PgM w2 (W7.setCell ⟨O, 0, none⟩ (.slice (some ⟨gp, 0, none⟩) (k + 1) cp)) O B (.slice (some ⟨gp, 0, none⟩) (k + 1) cp) va u.types G (u.ae.take (k + 1)) C) := ⟨_, by rw [htake]; exact st⟩
       clear hJ hb5 hCo hI htake hW1 st e6 o6 o7 HIB HIM HLS hbw3
       go_wp2_with (first
        | (at_builtin; refine aJ rfl (.tmp 68) (.tmp 70) 38 rfl rfl rfl r5 ?_)
        | (at_builtin; refine aJ rfl (.tmp 79) (.tmp 81) 22 rfl rfl rfl r7 ?_))
       go_roundg (u.ae.length + 1 - (k + 1))
       case measure => omega
       case rel => exact ⟨k + 1, _, rfl, by omega, by go_num, HN⟩
    ·obtain rfl : k = u.ae.length := by omega
     obtain ⟨_, _, _, hbw, hh1⟩ := HU.out wr hI.bel
     have n0 : wr.cell? ⟨O, 0, none⟩ = some vp := aa hI.out rfl
     have n1 : wr.cell? ⟨O, 1, none⟩ = some va := aa hI.out rfl
     have n2 : wr.cell? ⟨H + 1, 0, none⟩ = some (.slice none 0 0) := aa hh1 rfl
     have n3 : wr.cell? ⟨H + 1, 1, none⟩ = some (.slice none 0 0) := aa hh1 rfl
     have z5 : O < wr.heap.size := ah hI.out
     have z6 : H + 1 < wr.heap.size := ah hh1
     have n4 : ∀ i, wr.frozen? ⟨H + 1, i, none⟩ = false := fun i => aL hh1
     obtain ⟨pa', pc', rfl⟩ := aN hI.all
     obtain ⟨ta', tc', rfl⟩ := aN hI.tall
     rw [List.take_of_length_le (Nat.le_refl _)] at hI
     have hBX : Bx (Below w.heap.size w ((wr.setCell ⟨H + 1, 0, none⟩ (.slice pa' u.ae.length pc')).setCell ⟨H + 1, 1, none⟩ (.slice ta' u.types.length tc'))) := ⟨(hbw.setCell (p := ⟨H + 1, 0, none⟩) (by show w.heap.size <= H + 1; omega) _).setCell (p := ⟨H + 1, 1, none⟩) (by show w.heap.size <= H + 1; omega) _⟩
     have hLT : Bx (∃ B G C, w.heap.size <= B /\ LtU ((wr.setCell ⟨H + 1, 0, none⟩ (.slice pa' u.ae.length pc')).setCell ⟨H + 1, 1, none⟩ (.slice ta' u.types.length tc')) B pa' ta' pc' tc' u G C) := ⟨B, G, C, by omega, LtU.later (W := wr) ⟨hI.tlen, hI.tall, hI.tkid, hI.len, hI.all, hI.cod, hI.ord⟩ fun y hy _ => by
      rw [Below.heap_setCell _ ⟨H + 1, 1, none⟩ _ y (by show y ≠ H + 1; omega), Below.heap_setCell _ ⟨H + 1, 0, none⟩ _ y (by show y ≠ H + 1; omega)]⟩
     have kb : ((wr.setCell ⟨H + 1, 0, none⟩ (.slice pa' u.ae.length pc')).setCell ⟨H + 1, 1, none⟩ (.slice ta' u.types.length tc')).heap[H + 1]? = some (.cells #[.slice pa' u.ae.length pc', .slice ta' u.types.length tc'] 25 (0, 0)) := by
      have a1 := Lib.heap_setCell_same (i := 0) hh1 (.slice pa' u.ae.length pc')
      have a2 := Lib.heap_setCell_same (i := 1) a1 (.slice ta' u.types.length tc')
      simpa using a2
     clear hI hh1
     go_wp2
     try simp only [Exit.inBlock, Exit.then]
     refine bodyPost_ret (results_cell_row rfl _ _ (H + 1) 25 _ (0, 0) _ rfl kb Tryd.underlying25 rfl (by kernel_rfl)) rfl ?_
     exact HQ.out _ _ _ _ _ _ rfl hBX.out hLT.out
theorem nQ {α : Type} {W : World} {B s n c : Nat} {t : TypeId} {a : Option Addr} {cs : List Value} (h : W.ownsRow B t s (.slice a n c) n cs) {E : Nat -> Nat -> α -> Prop} (l : List α) (hl : l.length = n) (hE : ∀ g, a = some ⟨g, 0, none⟩ -> g < W.heap.size -> ∀ j (hj : j < l.length), E g (j * s) l[j]) : Row E W.heap.size s a c l := by
 rcases h.2 with ⟨e, hn⟩ | ⟨g, cap, cur, e, hB, hg, q1, q2, q3, q4⟩
 ·subst hn
  exact ⟨by omega, by omega, fun h0 => by omega⟩
 ·simp only [Value.slice.injEq, true_and] at e
  obtain ⟨e1, e2⟩ := e
  subst e1 e2
  exact ⟨by omega, by omega, fun h0 => ⟨g, 0, rfl, ah hg, fun j hj => by rw [Nat.zero_add]; exact hE g rfl (ah hg) j hj⟩⟩
theorem cK.read {W : World} {B g c : Nat} {s : List CIn} {G : List (Nat × Nat)} (h : cK W B g c s G) : Row (cu W W.heap.size) W.heap.size 4 (some ⟨g, 0, none⟩) c s := by
 have hcap := h.cap
 have hmax := h.max
 refine ⟨by omega, by omega, fun h0 => ⟨g, 0, rfl, h.lt, fun j hj => ?_⟩⟩
 have hj2 : j < G.length := by have := h.len; omega
 have k := fun i hi => h.at_ j hj hj2 i hi
 rw [Nat.zero_add]
 exact ⟨some ⟨G[j].1, 0, none⟩, G[j].2, k 0 (by omega), k 1 (by omega), k 2 (by omega), k 3 (by omega), (h.kid j hj hj2).ints⟩
theorem LtU.read {W : World} {B : Nat} {pa ta : Option Addr} {pc tc : Nat} {u : CUn} {G : List (Nat × Nat)} {C : List PG} (h : LtU W B pa ta pc tc u G C) : dL W W.heap.size pa pc ta tc u := by
 have htl := h.tall.1
 have hpl := h.all.1
 refine ⟨nQ h.all u.ae rfl fun g e hg j hj => ?_, nQ h.tall u.types rfl fun g e hg j hj => ?_⟩
 ·have hj2 : j < C.length := by have := h.len; omega
  have hall := h.all
  rw [e] at hall
  have k : ∀ i, i < 5 -> W.cell? ⟨g, j * 5 + i, none⟩ = (nM u.ae[j] C[j])[i]? := fun i hi => by
   rw [hall.cellAt (j * 5 + i) (by omega)]
   exact lq _ _ j hj hj2 i hi
  exact ⟨some ⟨C[j].1.1, 0, none⟩, C[j].1.2, k 0 (by omega), k 1 (by omega), k 2 (by omega), k 3 (by omega), k 4 (by omega), (h.cod j hj hj2).read⟩
 ·have hj2 : j < G.length := by have := h.tlen; omega
  have hall := h.tall
  rw [e] at hall
  have k : ∀ i, i < 3 -> W.cell? ⟨g, j * 3 + i, none⟩ = (nK u.types[j] G[j])[i]? := fun i hi => by
   rw [hall.cellAt (j * 3 + i) (by omega)]
   exact nL _ _ j hj hj2 i hi
  exact ⟨some ⟨G[j].1, 0, none⟩, G[j].2, k 0 (by omega), k 1 (by omega), k 2 (by omega), (h.tkid j hj hj2).ints⟩
theorem yC {α : Type} {xs ys : List α} {p : Nat} (h : xs.take p = ys.take p) (h1 : p < xs.length) (h2 : p < ys.length) (he : xs[p] = ys[p]) : xs.take (p + 1) = ys.take (p + 1) := by
 rw [List.take_succ_eq_append_getElem h1, List.take_succ_eq_append_getElem h2, h, he]
theorem lF (w : World) (B : Nat) (a1 a2 : Option Addr) (c1 c2 : Nat) (xs ys : List Int) (h1 : aF w B a1 c1 xs) (h2 : aF w B a2 c2 ys) :
  Calls Tryd.prog 13 #[.slice a1 xs.length c1, .slice a2 ys.length c2] w fun e w' => e = .returned (.bool (decide (xs = ys))) /\ ∃ k, w' = w.drewN k := by
 have hl1 := h1.max
 have hl2 := h2.max
 unfold maxLen at hl1 hl2
 by_cases hlen : xs.length = ys.length
 ·have HX : Bx _ := ⟨h1⟩
  have HY : Bx _ := ⟨h2⟩
  clear h1 h2
  generalize hn : xs.length = n at *
  have HN : Bx (xs.length = n /\ ys.length = n) := ⟨hn, hlen.symm⟩
  rw [← hlen] at hl2
  rw [← hlen]
  clear hn hlen
  go_enter Tryd.func13, Tryd.ntmps13
  go_wp2
  go_loopw [13] (fun x wr => ∃ p k : Nat, p <= n /\ x = .int .i64 p /\ wr = w.drewN k /\ Bx (xs.take p = ys.take p)) (fun x _ => n - (intOf x).toNat)
  case atStart => exact ⟨0, 0, Nat.zero_le _, rfl, rfl, ⟨rfl⟩⟩
  case round =>
   obtain ⟨p, k, hp, rfl, rfl, HR⟩ := hrel
   by_cases hlt : p < n
   ·have hp1 : p < xs.length := by rw [HN.out.1]; exact hlt
    have hp2 : p < ys.length := by rw [HN.out.2]; exact hlt
    obtain ⟨b1, o1, rfl, hb1, hcell1⟩ := HX.out.at_ (by omega)
    have hc1 := HX.out.cap
    rw [HN.out.1] at hc1
    obtain ⟨b2, o2, rfl, hb2, hcell2⟩ := HY.out.at_ (by omega)
    have hc2 := HY.out.cap
    rw [HN.out.2] at hc2
    have k1 := hcell1 p hp1
    have k2 := hcell2 p hp2
    by_cases he : xs[p] = ys[p]
    ·have HT : Bx _ := ⟨yC HR.out hp1 hp2 he⟩
     rw [← he] at k2
     generalize xs[p] = z at *
     clear hcell1 hcell2 HR HX HY
     go_wp2
     go_quiet (fail)
     go_wp2
     go_roundw
     case rel => exact ⟨p + 1, k + nq, by omega, by go_num, by first | rfl | rw [World.drewN_drewN], HT⟩
     case measure => simp [intOf]; omega
    ·have hf : Bx (decide (xs = ys) = false) := ⟨decide_eq_false (fun e => he (by subst e; rfl))⟩
     have hz : (xs[p] != ys[p]) = true := by simpa using he
     generalize xs[p] = z at *
     generalize ys[p] = z2 at *
     clear hcell1 hcell2 HR HX HY
     go_wp2
     go_quiet (fail)
     go_wp2
     go_ret
     exact ⟨aG hf.out.symm, k + nq, by first | rfl | rw [World.drewN_drewN]⟩
   ·have hf : Bx (decide (xs = ys) = true) := ⟨decide_eq_true (by
     have := HR.out
     rw [List.take_of_length_le (by rw [HN.out.1]; omega), List.take_of_length_le (by rw [HN.out.2]; omega)] at this
     exact this)⟩
    clear HR HX HY HN
    go_wp2
    go_ret
    exact ⟨aG hf.out.symm, k, rfl⟩
 ·have hne : decide (xs = ys) = false := decide_eq_false (fun e => hlen (by rw [e]))
  rw [hne]
  have hne2 : ((xs.length : Int) != (ys.length : Int)) = true := by simp; omega
  clear h1 h2 hlen hne
  generalize xs.length = n1 at *
  generalize ys.length = n2 at *
  go_enter Tryd.func13, Tryd.ntmps13
  go_wp2
  go_ret
  exact ⟨rfl, 0, rfl⟩
end Go.Proofs.YtadmpgegolmkgaaDoor
