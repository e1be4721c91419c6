import Derived.Test.YtadmpgegolmkgaaDoorBDP
import Derived.Laws.BitsLemmas
import Derived.DeepKeys4
import Derived.WideKeyEntry
set_option linter.unusedVariables false
set_option linter.unusedSimpArgs false
set_option maxHeartbeats 4000000
set_option maxRecDepth 100000
namespace Go.Proofs.YtadmpgegolmkgaaDoor
open Go.RowKit
theorem Ba (slot level : Nat) (hs : slot <= 2147483648) : (bits BinOp.and IntKind.i64 ((slot : Int) / 64 / 2 ^ level) 1 == 1) = (slot / 64).testBit level := by
 have e : ((slot : Int) / 64 / 2 ^ level) = ((slot / 64 / 2 ^ level : Nat) : Int) := by
  rw [Int.natCast_ediv, Int.natCast_ediv, Int.natCast_pow]; rfl
 have hle : slot / 64 / 2 ^ level <= 2147483648 := Nat.le_trans (Nat.div_le_self _ _) (by omega)
 have h := bits_mask .i64 62 (by decide) (fun n h0 h1 => by rw [IntKind.wrap_i64]; omega) 1 (by omega) ((slot / 64 / 2 ^ level : Nat) : Int) (Int.natCast_nonneg _) (by
  have : ((slot / 64 / 2 ^ level : Nat) : Int) <= 2147483648 := by omega
  omega)
 rw [show ((2 : Int) ^ 1 - 1) = 1 from rfl, show ((2 : Int) ^ 1) = 2 from rfl] at h
 rw [e, h, Nat.testBit_eq_decide_div_mod_eq]
 generalize slot / 64 / 2 ^ level = z at *
 rcases Nat.mod_two_eq_zero_or_one z with q | q
 ·rw [decide_eq_false (by omega)]
  simp
  omega
 ·rw [decide_eq_true q]
  simp
  omega
theorem iR (slot level : Nat) (hs : slot <= 2147483648) (hl : level < 64) (w : World) : Calls Tryd.prog 61 #[.int .i64 (slot : Int), .int .i64 ((level : Int) + 1)] w fun e w' => e = .returned (.bool ((slot / 64).testBit level)) /\ w = w' := by
 have e1 : (level : Int) + 1 - 1 = (level : Int) := by omega
 have hb := Ba slot level hs
 go_enter Tryd.func61, Tryd.ntmps61
 go_wp2_with (simp only [e1])
 go_ret
 exact ⟨rfl, rfl⟩
theorem jB (slot : Nat) (hs : slot <= 2147483648) (w : World) : Calls Tryd.prog 81 #[.int .i64 (slot : Int)] w fun e w' => e = .returned (.int .u64 ((2 ^ (slot % 64) : Nat) : Int)) /\ w = w' := by
 have hb := kg (slot % 64) (Nat.mod_lt _ (by decide))
 go_enter Tryd.func81, Tryd.ntmps81
 go_wp2
 go_ret
 exact ⟨congrArg (fun z => Ending.returned (.int .u64 z)) hb, rfl⟩
end Go.Proofs.YtadmpgegolmkgaaDoor
namespace Go.Proofs.YtadmpgegolmkgaaDoor
open Go.RowKit Go.MapKept Go.ChangeMaps Go.WideShapes
def Rwp (v : Value) : Option (DataW Value × List MemPlace) := some (.held v, [])
def prV (p : Nat × Nat) : Value := .agg #[.int .u64 (p.1 : Int), .int .u64 (p.2 : Int)]
def mO (p : Nat × Nat) : Prop := p.1 < 18446744073709551616 /\ p.2 < 18446744073709551616
theorem vM : laidOutB Tryd.prog = true := by kernel_rfl
theorem BF : WideMaps.KeyLaw Tryd.prog 120 := deep_law_laid vM (m := 4) (by omega) (by decide +kernel) (by kernel_rfl) (by kernel_rfl)
theorem iZ : Maps.Keyed Tryd.prog 120 := Maps.Keyed.of_law BF
theorem Bb : ∃ m, Tryd.prog.types.size = m + 1 := ⟨Tryd.prog.types.size - 1, by kernel_rfl⟩
theorem Bc : Tryd.prog.keyType 120 = true := by kernel_rfl
theorem zi : Tryd.prog.cellsOf 120 = 2 := by kernel_rfl
theorem zm : Tryd.prog.cellsOf 64 = 1 := by kernel_rfl
theorem wf_u64 {x : Nat} (h : x < 18446744073709551616) : (Lit.int .u64 (x : Int)).wf = true := by
 have := WalkArith.wf_u64 (n := (x : Int)) (by omega)
 exact this
theorem Aw (p : Nat × Nat) (h : mO p) : ∃ kl, keyOf Tryd.prog 120 (prV p) = some kl := by
 obtain ⟨a, b⟩ := p
 obtain ⟨m, hm⟩ := Bb
 have w1 := wf_u64 h.1
 have w2 := wf_u64 h.2
 simp only at w1 w2
 unfold keyOf
 rw [Tryd.underlying120]
 simp only [Bc, Bool.true_and, prV]
 rw [hm]
 simp [Program.keyLits, Tryd.underlying120, Tryd.underlying64, zi, zm, w1, w2, Value.cells, Value.formed]
theorem zn {p q : Nat × Nat} (e : prV p = prV q) : p = q := by
 obtain ⟨a, b⟩ := p
 obtain ⟨c, d⟩ := q
 simp [prV] at e
 obtain ⟨h1, h2⟩ := e
 have e1 : a = c := by omega
 have e2 : b = d := by omega
 rw [e1, e2]
theorem om {s t : Nat × Nat} {k l : Lit} (hk : keyOf Tryd.prog 120 (prV s) = some k) (hl : keyOf Tryd.prog 120 (prV t) = some l) (h : s ≠ t) : k ≠ l := fun e => h (zn (iZ.inj hk (e ▸ hl)))
def nmV (o : Option Nat) : Value := .int .u64 ((o.getD 0 : Nat) : Int)
structure MpP (W : World) (mb n : Nat) (N : Nat × Nat -> Option Nat) : Prop where
 ex : ∃ D, W.ownsMap Tryd.prog 120 Rwp mb n D /\ ∀ p, mO p -> ∀ kl, keyOf Tryd.prog 120 (prV p) = some kl -> D.atKey kl (.held (.int .u64 0)) = .held (nmV (N p)) /\ Maps.has D kl = (N p).isSome
theorem Bd (W : World) : MpP (W.alloc (.map #[] 0)) W.heap.size 0 (fun _ => none) := ⟨_, World.ownsMap_made W Tryd.prog 120 Rwp, fun p _ kl _ => ⟨rfl, rfl⟩⟩
theorem MpP.same {W W' : World} {mb n : Nat} {N : Nat × Nat -> Option Nat} (h : MpP W mb n N) (hg : W'.heap[mb]? = W.heap[mb]?) : MpP W' mb n N := by
 obtain ⟨D, ⟨es, clock, h0, h3⟩, h2⟩ := h.ex
 exact ⟨D, ⟨es, clock, hg.trans h0, h3⟩, h2⟩
theorem MpP.obj {W : World} {mb n : Nat} {N : Nat × Nat -> Option Nat} (h : MpP W mb n N) : ∃ es clock, W.heap[mb]? = some (.map es clock) := by
 obtain ⟨D, ⟨es, clock, h0, _⟩, _⟩ := h.ex
 exact ⟨es, clock, h0⟩
theorem MpP.look {W : World} {mb n : Nat} {N : Nat × Nat -> Option Nat} (h : MpP W mb n N) (p : Nat × Nat) (hp : mO p) : (Instr.lookup 71 (.map (some mb)) (prV p) true).run Tryd.prog W = .ok (.tuple #[nmV (N p), .bool (N p).isSome]) W := by
 obtain ⟨D, h1, h2⟩ := h.ex
 obtain ⟨kl, hkl⟩ := Aw p hp
 obtain ⟨v, ps, hr, hv⟩ := h1.look_ok iZ Tryd.underlying71 (Tryd.zeroValue64 W) (zd := .held (.int .u64 0)) (zp := []) rfl hkl
 rw [(h2 p hp kl hkl).1] at hv
 rw [(h2 p hp kl hkl).2] at hr
 have hv2 : v = nmV (N p) := by
  have h3 := congrArg Prod.fst (Option.some.inj (show some ((DataW.held v : DataW Value), ([] : List MemPlace)) = some (DataW.held (nmV (N p)), ps) from hv))
  exact DataW.held.inj h3
 rw [hr, hv2]
theorem MpP.put {W : World} {mb n : Nat} {N : Nat × Nat -> Option Nat} (h : MpP W mb n N) (p : Nat × Nat) (hp : mO p) (hn : n < maxLen) (x : Nat) :
  ∃ w', (Instr.mapUpdate 71 (.map (some mb)) (prV p) (.int .u64 (x : Int))).run Tryd.prog W = .ok () w' /\ MpP w' mb (n + 1) (fun q => if q = p then some x else N q) /\ W.grownBy w' (some mb) := by
 obtain ⟨D, h1, h2⟩ := h.ex
 obtain ⟨kc, hkc⟩ := Aw p hp
 obtain ⟨w', hr, h4, h5⟩ := h1.update iZ Tryd.underlying71 hn (val := .int .u64 (x : Int)) (d := .held (.int .u64 (x : Int))) (ps := []) hkc rfl
 refine ⟨w', hr, ⟨_, h4, fun d hd kl hkl => ?_⟩, h5⟩
 by_cases e : d = p
 ·subst e
  rw [hkc] at hkl
  cases hkl
  rw [if_pos rfl, Maps.atKey_put_same h1.isMap (iZ.key hkc), Maps.has_put_same h1.isMap (iZ.key hkc)]
  exact ⟨rfl, rfl⟩
 ·rw [if_neg e, Maps.atKey_put_other (om hkl hkc e), Maps.has_put_other (om hkl hkc e)]
  exact h2 d hd kl hkl
theorem MpP.clear {W : World} {mb n : Nat} {N : Nat × Nat -> Option Nat} (h : MpP W mb n N) : ∃ w', (∀ ty, (Builtin.clear_ #[71] ty #[.map (some mb)]).run Tryd.prog W = .ok (.tuple #[]) w') /\ MpP w' mb 0 (fun _ => none) /\ W.grownBy w' (some mb) := by
 obtain ⟨D, ⟨es, clock, hb, _⟩, _⟩ := h.ex
 have hl := (Array.getElem?_eq_some_iff.1 hb).1
 refine ⟨setBlock W mb (.map #[] clock), fun ty => ?_, ⟨.map [], ⟨#[], clock, heap_setBlock_same hb _, ⟨by simp, stamped_empty clock, by simp⟩, Nat.le_refl _, rfl⟩, fun p _ kl _ => ⟨rfl, rfl⟩⟩, ⟨rfl, rfl, rfl, by simp [setBlock], fun i _ hi => heap_setBlock_other hb _ (fun e => hi (by rw [e]))⟩⟩
 have hu : Tryd.prog.underlying 71 = some (.map 120 64) := Tryd.underlying71
 have hg : (getObj mb).run Tryd.prog W = .ok (.map es clock) W := by simp [getObj, Sem.run, hb]
 have hs : (setObj mb (.map #[] clock)).run Tryd.prog W = .ok () (setBlock W mb (.map #[] clock)) := by simp [setObj, Sem.run, hb, setBlock]
 simp [Builtin.clear_, run_underlying hu, hg, hs, Result.andThen]
end Go.Proofs.YtadmpgegolmkgaaDoor
namespace Go.Proofs.YtadmpgegolmkgaaDoor
open Go.RowKit
def inI (n m : Int) : Bool := decide (0 <= n) && decide (n <= m)
theorem fH (n m : Int) (w : World) : Calls Tryd.prog 49 #[.int .i64 n, .int .i64 m] w fun e w' => e = .returned (.bool (inI n m)) /\ w = w' := by
 unfold inI
 by_cases h0 : 0 <= n
 ·have hb : decide (0 <= n) = true := decide_eq_true h0
  rw [hb]
  go_enter Tryd.func49, Tryd.ntmps49
  go_wp2
  go_ret
  exact ⟨aG (by simp), rfl⟩
 ·have hb : decide (0 <= n) = false := decide_eq_false h0
  rw [hb]
  go_enter Tryd.func49, Tryd.ntmps49
  go_wp2
  go_ret
  exact ⟨aG (by simp), rfl⟩
def qi (n : Int) : Bool := n == 21 || (n == 22 || (n == 23 || (n == 24 || (n == 25 || (n == 26 || (n == 31 || (n == 32 || (n == 41 || (n == 42 || n == 43)))))))))
theorem mP (n : Int) (w : World) : Calls Tryd.prog 85 #[.int .i64 n] w fun e w' => e = .returned (.bool (qi n)) /\ w = w' := by
 unfold qi
 by_cases h1 : n = 21
 ·subst h1
  go_enter Tryd.func85, Tryd.ntmps85
  go_wp2
  go_ret
  exact ⟨rfl, rfl⟩
 by_cases h2 : n = 22
 ·subst h2
  go_enter Tryd.func85, Tryd.ntmps85
  go_wp2
  go_ret
  exact ⟨rfl, rfl⟩
 by_cases h3 : n = 23
 ·subst h3
  go_enter Tryd.func85, Tryd.ntmps85
  go_wp2
  go_ret
  exact ⟨rfl, rfl⟩
 by_cases h4 : n = 24
 ·subst h4
  go_enter Tryd.func85, Tryd.ntmps85
  go_wp2
  go_ret
  exact ⟨rfl, rfl⟩
 by_cases h5 : n = 25
 ·subst h5
  go_enter Tryd.func85, Tryd.ntmps85
  go_wp2
  go_ret
  exact ⟨rfl, rfl⟩
 by_cases h6 : n = 26
 ·subst h6
  go_enter Tryd.func85, Tryd.ntmps85
  go_wp2
  go_ret
  exact ⟨rfl, rfl⟩
 by_cases h7 : n = 31
 ·subst h7
  go_enter Tryd.func85, Tryd.ntmps85
  go_wp2
  go_ret
  exact ⟨rfl, rfl⟩
 by_cases h8 : n = 32
 ·subst h8
  go_enter Tryd.func85, Tryd.ntmps85
  go_wp2
  go_ret
  exact ⟨rfl, rfl⟩
 by_cases h9 : n = 41
 ·subst h9
  go_enter Tryd.func85, Tryd.ntmps85
  go_wp2
  go_ret
  exact ⟨rfl, rfl⟩
 by_cases h10 : n = 42
 ·subst h10
  go_enter Tryd.func85, Tryd.ntmps85
  go_wp2
  go_ret
  exact ⟨rfl, rfl⟩
 by_cases h11 : n = 43
 ·subst h11
  go_enter Tryd.func85, Tryd.ntmps85
  go_wp2
  go_ret
  exact ⟨rfl, rfl⟩
 have b1 : (n == 21) = false := by simp [h1]
 have b2 : (n == 22) = false := by simp [h2]
 have b3 : (n == 23) = false := by simp [h3]
 have b4 : (n == 24) = false := by simp [h4]
 have b5 : (n == 25) = false := by simp [h5]
 have b6 : (n == 26) = false := by simp [h6]
 have b7 : (n == 31) = false := by simp [h7]
 have b8 : (n == 32) = false := by simp [h8]
 have b9 : (n == 41) = false := by simp [h9]
 have b10 : (n == 42) = false := by simp [h10]
 have b11 : (n == 43) = false := by simp [h11]
 rw [b1, b2, b3, b4, b5, b6, b7, b8, b9, b10, b11]
 clear h1 h2 h3 h4 h5 h6 h7 h8 h9 h10 h11
 go_enter Tryd.func85, Tryd.ntmps85
 go_wp2
 go_ret
 exact ⟨rfl, rfl⟩
def dN (l : List Int) : Bool := l.all fun x => decide (-1 <= x)
theorem lY {l : List Int} {k : Nat} (h : k < l.length) : dN (l.drop k) = (decide (-1 <= l[k]) && dN (l.drop (k + 1))) := by
 unfold dN
 rw [List.drop_eq_getElem_cons h, List.all_cons]
theorem qj (w : World) (B : Nat) (a : Option Addr) (cp : Nat) (ks : List Int) (hk : aF w B a cp ks) (hlen : ks.length <= 281474976710656) : Calls Tryd.prog 86 #[.slice a ks.length cp] w fun e w' => e = .returned (.bool (dN ks && decide (0 < ks.length))) /\ w = w' := by
 have HG : Bx (dN (ks.drop 0) = dN ks) := ⟨by rw [List.drop_zero]⟩
 have HK : Bx _ := ⟨hk⟩
 have hcp := hk.cap
 clear hk
 generalize dN ks = r at *
 go_enter Tryd.func86, Tryd.ntmps86
 go_wp2
 go_loopg [7] (ks.length + 1) (fun f v7 wr => ∃ k : Nat, f = ks.length + 1 - k /\ k <= ks.length /\ v7 = .int .i64 k /\ Bx (dN (ks.drop k) = r) /\ w = wr)
 case atStart => exact ⟨0, by simp, Nat.zero_le _, rfl, HG, rfl⟩
 case round =>
  obtain ⟨k, hf, hk, rfl, HR, rfl⟩ := hrel
  by_cases hlt : k < ks.length
  ·obtain ⟨b, o, rfl, hb, hc⟩ := HK.out.at_ (by omega)
   have c0 := hc k hlt
   have HR2 : Bx _ := ⟨(lY hlt).symm.trans HR.out⟩
   have hkI : (k : Int) < (ks.length : Int) := by omega
   clear hc HR HK
   generalize ks[k] = y at *
   by_cases hy : -1 <= y
   ·have hyb : decide (y < -1) = false := decide_eq_false (by omega)
    have hr := HR2.out
    rw [decide_eq_true hy, Bool.true_and] at hr
    have HR3 : Bx _ := ⟨hr⟩
    clear hr HR2
    go_wp2
    go_roundg (ks.length + 1 - (k + 1))
    case measure => omega
    case rel => exact ⟨k + 1, rfl, by omega, by simp, HR3, rfl⟩
   ·have hyb : decide (y < -1) = true := decide_eq_true (by omega)
    have hr := HR2.out
    rw [decide_eq_false hy, Bool.false_and] at hr
    subst hr
    clear HR2
    go_wp2
    go_ret
    exact ⟨rfl, rfl⟩
  ·obtain rfl : k = ks.length := by omega
   have hr := HR.out
   rw [List.drop_length] at hr
   subst hr
   clear HR HK
   go_wp2
   go_ret
   exact ⟨aG (by simp [dN]), rfl⟩
def bC : List Int -> Bool
 | [] => true
 | [k] => inI k 1
 | k :: _ :: r => inI k 1 && bC r
theorem jC {l : List Int} {k : Nat} (h : k < l.length) : bC (l.drop k) = (inI l[k] 1 && bC (l.drop (k + 2))) := by
 rw [List.drop_eq_getElem_cons h]
 by_cases h2 : k + 1 < l.length
 ·rw [List.drop_eq_getElem_cons h2, bC]
 ·rw [List.drop_eq_nil_of_le (by omega), List.drop_eq_nil_of_le (by omega), bC, bC, Bool.and_true]
theorem oq (w : World) (B : Nat) (a : Option Addr) (cp : Nat) (ks : List Int) (hk : aF w B a cp ks) (hlen : ks.length <= 281474976710656) : Calls Tryd.prog 87 #[.slice a ks.length cp] w fun e w' => e = .returned (.bool (bC ks && ks.length % 2 == 0)) /\ w = w' := by
 have HG : Bx (bC (ks.drop 0) = bC ks) := ⟨by rw [List.drop_zero]⟩
 have HK : Bx _ := ⟨hk⟩
 have hcp := hk.cap
 have HW : Bx (∀ y, _) := ⟨fun y => fH y 1 w⟩
 clear hk
 generalize bC ks = r at *
 go_enter Tryd.func87, Tryd.ntmps87
 go_wp2
 go_loopg [3] (ks.length + 2) (fun f v3 wr => ∃ k : Nat, f = ks.length + 2 - k /\ k <= ks.length + 1 /\ v3 = .int .i64 k /\ Bx (bC (ks.drop k) = r) /\ w = wr)
 case atStart => exact ⟨0, by simp, Nat.zero_le _, rfl, HG, rfl⟩
 case round =>
  obtain ⟨k, hf, hk, rfl, HR, rfl⟩ := hrel
  by_cases hlt : k < ks.length
  ·obtain ⟨b, o, rfl, hb, hc⟩ := HK.out.at_ (by omega)
   have c0 := hc k hlt
   have HR2 : Bx _ := ⟨(jC hlt).symm.trans HR.out⟩
   have hkI : (k : Int) < (ks.length : Int) := by omega
   clear hc HR HK
   generalize ks[k] = y at *
   cases hy : inI y 1 with
   | true =>
    have hr := HR2.out
    rw [hy, Bool.true_and] at hr
    have HR3 : Bx _ := ⟨hr⟩
    have HWY := HW.out y
    rw [hy] at HWY
    clear hr HR2 hy HW
    go_wp2_with (first
     | (go_at_call 49; refine HWY.mono ?_; rintro e w1 ⟨rfl, rfl⟩))
    go_roundg (ks.length + 2 - (k + 2))
    case measure => omega
    case rel => exact ⟨k + 2, rfl, by omega, by simp, HR3, rfl⟩
   | false =>
    have hr := HR2.out
    rw [hy, Bool.false_and] at hr
    subst hr
    have HWY := HW.out y
    rw [hy] at HWY
    clear HR2 hy HW
    go_wp2_with (first
     | (go_at_call 49; refine HWY.mono ?_; rintro e w1 ⟨rfl, rfl⟩))
    go_ret
    exact ⟨rfl, rfl⟩
  ·have hr := HR.out
   rw [List.drop_eq_nil_of_le (by omega)] at hr
   subst hr
   have hge : decide ((k : Int) < (ks.length : Int)) = false := decide_eq_false (by omega)
   clear HR HK HW
   go_wp2
   go_ret
   exact ⟨aG (by rw [bC, Bool.true_and, Bool.eq_iff_iff, beq_iff_eq, beq_iff_eq]; omega), rfl⟩
def iO (v : Int) (l : List Int) : Bool := if v = 10 then dN l && decide (0 < l.length) else if v = 11 then bC l && l.length % 2 == 0 else l.length == 0
theorem mQ (w : World) (B : Nat) (a : Option Addr) (cp : Nat) (ks : List Int) (hk : aF w B a cp ks) (hlen : ks.length <= 281474976710656) (v : Int) : Calls Tryd.prog 72 #[.int .i64 v, .slice a ks.length cp] w fun e w' => e = .returned (.bool (iO v ks)) /\ w = w' := by
 have HP : Bx _ := ⟨qj w B a cp ks hk hlen⟩
 have HA : Bx _ := ⟨oq w B a cp ks hk hlen⟩
 unfold iO
 clear hk
 by_cases h1 : v = 10
 ·subst h1
  rw [if_pos rfl]
  go_enter Tryd.func72, Tryd.ntmps72
  go_wp2_with (first
   | (go_at_call 86; refine HP.out.mono ?_; rintro e w1 ⟨rfl, rfl⟩))
  go_ret
  exact ⟨rfl, rfl⟩
 ·rw [if_neg h1]
  have b1 : (v == 10) = false := by simp [h1]
  by_cases h2 : v = 11
  ·subst h2
   rw [if_pos rfl]
   clear h1
   go_enter Tryd.func72, Tryd.ntmps72
   go_wp2_with (first
    | (go_at_call 87; refine HA.out.mono ?_; rintro e w1 ⟨rfl, rfl⟩))
   go_ret
   exact ⟨rfl, rfl⟩
  ·rw [if_neg h2]
   have b2 : (v == 11) = false := by simp [h2]
   clear h1 h2 HP HA
   go_enter Tryd.func72, Tryd.ntmps72
   go_wp2
   go_ret
   exact ⟨aG (by rw [Bool.eq_iff_iff, beq_iff_eq, beq_iff_eq]; omega), rfl⟩
structure Row {α : Type} (E : Nat -> Nat -> α -> Prop) (B s : Nat) (a : Option Addr) (cap : Nat) (l : List α) : Prop where
 cap : l.length <= cap
 max : l.length <= maxLen
 at_ : 0 < l.length -> ∃ b o, a = some ⟨b, o, none⟩ /\ b < B /\ ∀ j (h : j < l.length), E b (o + j * s) l[j]
theorem Row.mono {α : Type} {E E' : Nat -> Nat -> α -> Prop} {B s cap : Nat} {a : Option Addr} {l : List α} (h : Row E B s a cap l) (he : ∀ b o x, b < B -> E b o x -> E' b o x) : Row E' B s a cap l := by
 refine ⟨h.cap, h.max, fun h0 => ?_⟩
 obtain ⟨b, o, e, hb, hj⟩ := h.at_ h0
 exact ⟨b, o, e, hb, fun j h => he b _ _ hb (hj j h)⟩
theorem Row.nil {α : Type} (E : Nat -> Nat -> α -> Prop) (B s : Nat) (a : Option Addr) (cap : Nat) : Row E B s a cap [] := ⟨Nat.zero_le _, Nat.zero_le _, fun h => absurd h (by simp)⟩
structure jT (w : World) (B b o : Nat) (t : CTy) : Prop where
 ex : ∃ ka kc, w.cell? ⟨b, o, none⟩ = some (.int .i64 t.kind) /\ w.cell? ⟨b, o + 1, none⟩ = some (.slice ka t.kids.length kc) /\ w.cell? ⟨b, o + 2, none⟩ = some (.bool t.res) /\ aF w B ka kc t.kids
structure cu (w : World) (B b o : Nat) (i : CIn) : Prop where
 ex : ∃ ka kc, w.cell? ⟨b, o, none⟩ = some (.int .i64 i.op) /\ w.cell? ⟨b, o + 1, none⟩ = some (.int .i64 i.a) /\ w.cell? ⟨b, o + 2, none⟩ = some (.int .i64 i.b) /\ w.cell? ⟨b, o + 3, none⟩ = some (.slice ka i.list.length kc) /\ aF w B ka kc i.list
structure mR (w : World) (B b o : Nat) (p : CPg) : Prop where
 ex : ∃ ca cc, w.cell? ⟨b, o, none⟩ = some (.int .i64 p.params) /\ w.cell? ⟨b, o + 1, none⟩ = some (.int .i64 p.slots) /\ w.cell? ⟨b, o + 2, none⟩ = some (.int .i64 p.caps) /\ w.cell? ⟨b, o + 3, none⟩ = some (.bool p.res) /\ w.cell? ⟨b, o + 4, none⟩ = some (.slice ca p.code.length cc) /\ Row (cu w B) B 4 ca cc p.code
theorem jT.below {w w' : World} {B B' b o : Nat} {t : CTy} (h : jT w B b o t) (hb : Below B w w') (hB : B <= B') (hlt : b < B) : jT w' B' b o t := by
 obtain ⟨ka, kc, h0, h1, h2, h3⟩ := h.ex
 have hc : ∀ i, w'.cell? ⟨b, i, none⟩ = w.cell? ⟨b, i, none⟩ := fun i => hb.cell (p := ⟨b, i, none⟩) hlt
 exact ⟨ka, kc, by rw [hc]; exact h0, by rw [hc]; exact h1, by rw [hc]; exact h2, (h3.below hb).up hB⟩
theorem cu.below {w w' : World} {B B' b o : Nat} {i : CIn} (h : cu w B b o i) (hb : Below B w w') (hB : B <= B') (hlt : b < B) : cu w' B' b o i := by
 obtain ⟨ka, kc, h0, h1, h2, h3, h4⟩ := h.ex
 have hc : ∀ i, w'.cell? ⟨b, i, none⟩ = w.cell? ⟨b, i, none⟩ := fun i => hb.cell (p := ⟨b, i, none⟩) hlt
 exact ⟨ka, kc, by rw [hc]; exact h0, by rw [hc]; exact h1, by rw [hc]; exact h2, by rw [hc]; exact h3, (h4.below hb).up hB⟩
theorem Row.up {α : Type} {E : Nat -> Nat -> α -> Prop} {B B' s cap : Nat} {a : Option Addr} {l : List α} (h : Row E B s a cap l) (hB : B <= B') : Row E B' s a cap l := by
 refine ⟨h.cap, h.max, fun h0 => ?_⟩
 obtain ⟨b, o, e, hb, hj⟩ := h.at_ h0
 exact ⟨b, o, e, by omega, hj⟩
theorem mR.below {w w' : World} {B B' b o : Nat} {p : CPg} (h : mR w B b o p) (hb : Below B w w') (hB : B <= B') (hlt : b < B) : mR w' B' b o p := by
 obtain ⟨ka, kc, h0, h1, h2, h3, h4, h5⟩ := h.ex
 have hc : ∀ i, w'.cell? ⟨b, i, none⟩ = w.cell? ⟨b, i, none⟩ := fun i => hb.cell (p := ⟨b, i, none⟩) hlt
 exact ⟨ka, kc, by rw [hc]; exact h0, by rw [hc]; exact h1, by rw [hc]; exact h2, by rw [hc]; exact h3, by rw [hc]; exact h4, (h5.mono fun b o x hx he => he.below hb hB hx).up hB⟩
structure dL (w : World) (B : Nat) (pa : Option Addr) (pc : Nat) (ta : Option Addr) (tc : Nat) (u : CUn) : Prop where
 ae : Row (mR w B) B 5 pa pc u.ae
 types : Row (jT w B) B 3 ta tc u.types
theorem dL.below {w w' : World} {B B' pc tc : Nat} {pa ta : Option Addr} {u : CUn} (h : dL w B pa pc ta tc u) (hb : Below B w w') (hB : B <= B') : dL w' B' pa pc ta tc u :=
 ⟨(h.ae.mono fun b o x hx he => he.below hb hB hx).up hB, (h.types.mono fun b o x hx he => he.below hb hB hx).up hB⟩
abbrev unV (u : CUn) (pa : Option Addr) (pc : Nat) (ta : Option Addr) (tc : Nat) : Value := .agg #[.slice pa u.ae.length pc, .slice ta u.types.length tc]
structure iy (w : World) (a : Option Addr) (cap : Nat) (l : List Bool) : Prop where
 cap : l.length <= cap
 max : l.length <= 2147483648
 at_ : ∀ i (h : i < l.length), ∃ b o, a = some ⟨b, o, none⟩ /\ b < w.heap.size /\ w.cell? ⟨b, o + i, none⟩ = some (.bool l[i])
theorem iy.below {w w' : World} {a : Option Addr} {cap : Nat} {l : List Bool} (h : iy w a cap l) (hb : Below w.heap.size w w') : iy w' a cap l := by
 refine ⟨h.cap, h.max, fun i hi => ?_⟩
 obtain ⟨b, o, e, h1, h2⟩ := h.at_ i hi
 exact ⟨b, o, e, Nat.lt_of_lt_of_le h1 hb.size, (hb.cell (p := ⟨b, _, none⟩) h1).trans h2⟩
structure JgM (w : World) (jb B : Nat) (u : CUn) (pa : Option Addr) (pc : Nat) (da : Option Addr) (dc : Nat) (dfs : List Bool) (pg : CPg) (ca : Option Addr) (cc : Nat) : Prop where
 h : w.heap[jb]? = some (.cells #[.slice pa u.ae.length pc, .slice da dfs.length dc, .int .i64 pg.params, .int .i64 pg.slots, .int .i64 pg.caps, .bool pg.res, .slice ca pg.code.length cc] 87 (0, 0))
 df : iy w da dc dfs
 pr : Row (mR w B) B 5 pa pc u.ae
 bw : B <= w.heap.size
 cl : pg.code.length <= 268435456
theorem fI {w : World} {k : Nat} {o : Obj} (h : w.heap[k]? = some o) : k < w.heap.size := (Array.getElem?_eq_some_iff.1 h).1
theorem JgM.below {w w' : World} {jb B pc dc cc : Nat} {u : CUn} {pa da ca : Option Addr} {dfs : List Bool} {pg : CPg} (h : JgM w jb B u pa pc da dc dfs pg ca cc) (hb : Below w.heap.size w w') : JgM w' jb B u pa pc da dc dfs pg ca cc :=
 ⟨(hb.block _ (fI h.h)).trans h.h, h.df.below hb, h.pr.mono fun b o x hx he => he.below (hb.mono h.bw) (Nat.le_refl _) hx, Nat.le_trans h.bw hb.size, h.cl⟩
theorem JgM.cells {w : World} {jb B pc dc cc : Nat} {u : CUn} {pa da ca : Option Addr} {dfs : List Bool} {pg : CPg} (h : JgM w jb B u pa pc da dc dfs pg ca cc) : w.cell? ⟨jb, 0, none⟩ = some (.slice pa u.ae.length pc) /\ w.cell? ⟨jb, 1, none⟩ = some (.slice da dfs.length dc) /\ w.cell? ⟨jb, 3, none⟩ = some (.int .i64 pg.slots) /\ w.cell? ⟨jb, 4, none⟩ = some (.int .i64 pg.caps) /\ w.cell? ⟨jb, 6, none⟩ = some (.slice ca pg.code.length cc) /\ jb < w.heap.size :=
 ⟨aa h.h rfl, aa h.h rfl, aa h.h rfl, aa h.h rfl, aa h.h rfl, fI h.h⟩
def ic (dfs : List Bool) (np : Nat) (v n : Int) : Bool :=
 if v = 0 then n == 0 else if v = 2 then inI n 1 else if v = 3 then decide (0 <= n) else if v = 4 then decide (2 <= n) else if v = 5 then inI n ((dfs.length : Int) - 1) && dfs.getD n.toNat false else if v = 6 then n == 1 || n == 2 else if v = 7 then qi n else if v = 8 then inI n ((np : Int) - 1) else true
theorem ou (w : World) {jb B pc dc cc : Nat} {u : CUn} {pa da ca : Option Addr} {dfs : List Bool} {pg : CPg} (h : JgM w jb B u pa pc da dc dfs pg ca cc) (v n : Int) : Calls Tryd.prog 71 #[.pointer (some ⟨jb, 0, none⟩), .int .i64 v, .int .i64 n] w fun e w' => e = .returned (.bool (ic dfs u.ae.length v n)) /\ w = w' := by
 have HW : Bx (∀ m, _) := ⟨fun m => fH n m w⟩
 have HB : Bx _ := ⟨mP n w⟩
 obtain ⟨c0, c1, _, _, _, hjl⟩ := h.cells
 have hpm := h.pr.max
 have hpc := h.pr.cap
 have hdm := h.df.max
 have hdc := h.df.cap
 have HD : Bx _ := ⟨h.df.at_⟩
 unfold maxLen at hpm
 clear h
 unfold ic
 by_cases h0 : v = 0
 ·subst h0
  simp only [if_true]
  go_enter Tryd.func71, Tryd.ntmps71
  go_wp2
  go_ret
  exact ⟨rfl, rfl⟩
 rw [if_neg h0]
 by_cases h2 : v = 2
 ·subst h2
  simp only [if_true]
  clear h0
  go_enter Tryd.func71, Tryd.ntmps71
  go_wp2_with (first
   | (go_at_call 49; refine (HW.out _).mono ?_; rintro e w1 ⟨rfl, rfl⟩))
  go_ret
  exact ⟨rfl, rfl⟩
 rw [if_neg h2]
 by_cases h3 : v = 3
 ·subst h3
  simp only [if_true]
  clear h0 h2
  go_enter Tryd.func71, Tryd.ntmps71
  go_wp2
  go_ret
  exact ⟨rfl, rfl⟩
 rw [if_neg h3]
 by_cases h4 : v = 4
 ·subst h4
  simp only [if_true]
  clear h0 h2 h3
  go_enter Tryd.func71, Tryd.ntmps71
  go_wp2
  go_ret
  exact ⟨rfl, rfl⟩
 rw [if_neg h4]
 by_cases h5 : v = 5
 ·subst h5
  simp only [if_true]
  clear h0 h2 h3 h4
  have hwr : IntKind.i64.wrap ((dfs.length : Int) - 1) = (dfs.length : Int) - 1 := by rw [IntKind.wrap_i64]; omega
  have HWL := HW.out ((dfs.length : Int) - 1)
  cases hin : inI n ((dfs.length : Int) - 1) with
  | false =>
   rw [hin] at HWL
   simp only [Bool.false_and]
   clear hin
   go_enter Tryd.func71, Tryd.ntmps71
   go_wp2_with (first
    | (go_at_call 49; refine HWL.mono ?_; rintro e w1 ⟨rfl, rfl⟩))
   go_ret
   exact ⟨rfl, rfl⟩
  | true =>
   rw [hin] at HWL
   have hin2 : 0 <= n /\ n <= (dfs.length : Int) - 1 := by simpa [inI] using hin
   obtain ⟨m, rfl⟩ : ∃ m : Nat, n = m := ⟨n.toNat, by omega⟩
   have hml : m < dfs.length := by omega
   obtain ⟨b, o, rfl, hb, hc⟩ := HD.out m hml
   have hmI : (m : Int) < (dfs.length : Int) := by omega
   have e1 : dfs.getD ((m : Int)).toNat false = dfs[m] := by
    rw [show ((m : Int)).toNat = m by omega, List.getD_eq_getElem?_getD, List.getElem?_eq_getElem hml]
    rfl
   rw [e1]
   simp only [Bool.true_and]
   generalize dfs[m] = y at *
   clear hin hin2 e1 HD
   go_enter Tryd.func71, Tryd.ntmps71
   go_wp2_with (first
    | (go_at_call 49; refine HWL.mono ?_; rintro e w1 ⟨rfl, rfl⟩))
   go_ret
   exact ⟨rfl, rfl⟩
 rw [if_neg h5]
 by_cases h6 : v = 6
 ·subst h6
  simp only [if_true]
  clear h0 h2 h3 h4 h5
  cases h1 : (n == 1) with
  | true =>
   go_enter Tryd.func71, Tryd.ntmps71
   go_wp2
   go_ret
   exact ⟨aG (by simp), rfl⟩
  | false =>
   go_enter Tryd.func71, Tryd.ntmps71
   go_wp2
   go_ret
   exact ⟨aG (by simp), rfl⟩
 rw [if_neg h6]
 by_cases h7 : v = 7
 ·subst h7
  simp only [if_true]
  clear h0 h2 h3 h4 h5 h6
  go_enter Tryd.func71, Tryd.ntmps71
  go_wp2_with (first
   | (go_at_call 85; refine HB.out.mono ?_; rintro e w1 ⟨rfl, rfl⟩))
  go_ret
  exact ⟨rfl, rfl⟩
 rw [if_neg h7]
 by_cases h8 : v = 8
 ·subst h8
  simp only [if_true]
  clear h0 h2 h3 h4 h5 h6 h7
  have hwr : IntKind.i64.wrap ((u.ae.length : Int) - 1) = (u.ae.length : Int) - 1 := by rw [IntKind.wrap_i64]; omega
  go_enter Tryd.func71, Tryd.ntmps71
  go_wp2_with (first
   | (go_at_call 49; refine (HW.out _).mono ?_; rintro e w1 ⟨rfl, rfl⟩))
  go_ret
  exact ⟨rfl, rfl⟩
 rw [if_neg h8]
 have b0 : (v == 0) = false := by simp [h0]
 have b2 : (v == 2) = false := by simp [h2]
 have b3 : (v == 3) = false := by simp [h3]
 have b4 : (v == 4) = false := by simp [h4]
 have b5 : (v == 5) = false := by simp [h5]
 have b6 : (v == 6) = false := by simp [h6]
 have b7 : (v == 7) = false := by simp [h7]
 have b8 : (v == 8) = false := by simp [h8]
 clear h0 h2 h3 h4 h5 h6 h7 h8
 go_enter Tryd.func71, Tryd.ntmps71
 go_wp2
 go_ret
 exact ⟨rfl, rfl⟩
def eF (pg : CPg) (v n : Int) : Bool := if v = 12 then inI n (pg.slots - 1) else if v = 13 then inI n (pg.caps - 1) else true
theorem ow (w : World) {jb B pc dc cc : Nat} {u : CUn} {pa da ca : Option Addr} {dfs : List Bool} {pg : CPg} (h : JgM w jb B u pa pc da dc dfs pg ca cc) (h1 : 0 <= pg.slots /\ pg.slots <= 65536) (h2 : 0 <= pg.caps /\ pg.caps <= 65536) (v n : Int) : Calls Tryd.prog 51 #[.pointer (some ⟨jb, 0, none⟩), .int .i64 v, .int .i64 n] w fun e w' => e = .returned (.bool (eF pg v n)) /\ w = w' := by
 have HW : Bx (∀ m, _) := ⟨fun m => fH n m w⟩
 obtain ⟨_, _, c3, c4, _, hjl⟩ := h.cells
 have w1 : IntKind.i64.wrap (pg.slots - 1) = pg.slots - 1 := by rw [IntKind.wrap_i64]; omega
 have w2 : IntKind.i64.wrap (pg.caps - 1) = pg.caps - 1 := by rw [IntKind.wrap_i64]; omega
 clear h
 unfold eF
 by_cases h3 : v = 12
 ·subst h3
  simp only [if_true]
  go_enter Tryd.func51, Tryd.ntmps51
  go_wp2_with (first
   | (go_at_call 49; refine (HW.out _).mono ?_; rintro e w1 ⟨rfl, rfl⟩))
  go_ret
  exact ⟨rfl, rfl⟩
 rw [if_neg h3]
 by_cases h4 : v = 13
 ·subst h4
  simp only [if_true]
  clear h3
  go_enter Tryd.func51, Tryd.ntmps51
  go_wp2_with (first
   | (go_at_call 49; refine (HW.out _).mono ?_; rintro e w1 ⟨rfl, rfl⟩))
  go_ret
  exact ⟨rfl, rfl⟩
 rw [if_neg h4]
 have b3 : (v == 12) = false := by simp [h3]
 have b4 : (v == 13) = false := by simp [h4]
 clear h3 h4
 go_enter Tryd.func51, Tryd.ntmps51
 go_wp2
 go_ret
 exact ⟨rfl, rfl⟩
def ek (cl : Nat) (i t : Int) : Bool := decide (i < t) && decide (t < cl)
theorem jM (w : World) {jb B pc dc cc : Nat} {u : CUn} {pa da ca : Option Addr} {dfs : List Bool} {pg : CPg} (h : JgM w jb B u pa pc da dc dfs pg ca cc) (i t : Int) : Calls Tryd.prog 73 #[.pointer (some ⟨jb, 0, none⟩), .int .i64 i, .int .i64 t] w fun e w' => e = .returned (.bool (ek pg.code.length i t)) /\ w = w' := by
 obtain ⟨_, _, _, _, c6, hjl⟩ := h.cells
 clear h
 unfold ek
 by_cases h1 : i < t
 ·have hb : decide (i < t) = true := decide_eq_true h1
  rw [hb]
  clear h1
  go_enter Tryd.func73, Tryd.ntmps73
  go_wp2
  go_ret
  exact ⟨aG (by simp), rfl⟩
 ·have hb : decide (i < t) = false := decide_eq_false h1
  rw [hb]
  clear h1
  go_enter Tryd.func73, Tryd.ntmps73
  go_wp2
  go_ret
  exact ⟨aG (by simp), rfl⟩
def fT (cl : Nat) (i : Int) : List Int -> Bool
 | _ :: t :: r => ek cl i t && fT cl i r
 | _ => true
theorem rG {cl : Nat} {i : Int} {l : List Int} {k : Nat} (h : k + 1 < l.length) : fT cl i (l.drop k) = (ek cl i l[k + 1] && fT cl i (l.drop (k + 2))) := by
 rw [List.drop_eq_getElem_cons (show k < l.length by omega), List.drop_eq_getElem_cons h, fT]
theorem oz {cl : Nat} {i : Int} {l : List Int} {k : Nat} (h : ¬ k + 1 < l.length) : fT cl i (l.drop k) = true := by
 by_cases h2 : k < l.length
 ·rw [List.drop_eq_getElem_cons h2, List.drop_eq_nil_of_le (by omega), fT]
  intro a b c hh
  cases hh
 ·rw [List.drop_eq_nil_of_le (by omega), fT]
  intro a b c hh
  cases hh
theorem jU (w : World) {jb B pc dc cc : Nat} {u : CUn} {pa da ca : Option Addr} {dfs : List Bool} {pg : CPg} (h : JgM w jb B u pa pc da dc dfs pg ca cc) (i : Int) (a : Option Addr) (cp : Nat) (ks : List Int) (hk : aF w B a cp ks) (hlen : ks.length <= 281474976710656) : Calls Tryd.prog 74 #[.pointer (some ⟨jb, 0, none⟩), .int .i64 i, .slice a ks.length cp] w fun e w' => e = .returned (.bool (fT pg.code.length i ks)) /\ w = w' := by
 have HA : Bx (∀ t, _) := ⟨fun t => jM w h i t⟩
 have HG : Bx (fT pg.code.length i (ks.drop 0) = fT pg.code.length i ks) := ⟨by rw [List.drop_zero]⟩
 have HK : Bx _ := ⟨hk⟩
 have hcp := hk.cap
 clear hk h
 generalize fT pg.code.length i ks = r at *
 go_enter Tryd.func74, Tryd.ntmps74
 go_wp2
 go_loopg [7] (ks.length + 2) (fun f v7 wr => ∃ k : Nat, f = ks.length + 2 - k /\ k <= ks.length + 1 /\ v7 = .int .i64 ((k : Int) + 1) /\ Bx (fT pg.code.length i (ks.drop k) = r) /\ w = wr)
 case atStart => exact ⟨0, by simp, Nat.zero_le _, rfl, HG, rfl⟩
 case round =>
  obtain ⟨k, hf, hk, rfl, HR, rfl⟩ := hrel
  by_cases hlt : k + 1 < ks.length
  ·obtain ⟨b, o, rfl, hb, hc⟩ := HK.out.at_ (by omega)
   have c0 := hc (k + 1) hlt
   have HR2 : Bx _ := ⟨(rG hlt).symm.trans HR.out⟩
   have hkI : (k : Int) + 1 < (ks.length : Int) := by omega
   have hk0 : (0 : Int) <= (k : Int) + 1 := by omega
   have hkN : ((k : Int) + 1).toNat = k + 1 := by omega
   have hwr : IntKind.i64.wrap ((k : Int) + 1 + 2) = (k : Int) + 1 + 2 := by rw [IntKind.wrap_i64]; omega
   clear hc HR HK
   generalize ks[k + 1] = y at *
   cases hy : ek pg.code.length i y with
   | true =>
    have hr := HR2.out
    rw [hy, Bool.true_and] at hr
    have HR3 : Bx _ := ⟨hr⟩
    have HWY := HA.out y
    rw [hy] at HWY
    clear hr HR2 hy HA
    go_wp2_with (first
     | (go_at_call 73; refine HWY.mono ?_; rintro e w1 ⟨rfl, rfl⟩))
    go_roundg (ks.length + 2 - (k + 2))
    case measure => omega
    case rel => exact ⟨k + 2, rfl, by omega, by simp; omega, HR3, rfl⟩
   | false =>
    have hr := HR2.out
    rw [hy, Bool.false_and] at hr
    subst hr
    have HWY := HA.out y
    rw [hy] at HWY
    clear HR2 hy HA
    go_wp2_with (first
     | (go_at_call 73; refine HWY.mono ?_; rintro e w1 ⟨rfl, rfl⟩))
    go_ret
    exact ⟨rfl, rfl⟩
  ·have hr := HR.out
   rw [oz hlt] at hr
   subst hr
   have hge : decide ((k : Int) + 1 < (ks.length : Int)) = false := decide_eq_false (by omega)
   clear HR HK HA
   go_wp2
   go_ret
   exact ⟨rfl, rfl⟩
end Go.Proofs.YtadmpgegolmkgaaDoor
namespace Go.Proofs.YtadmpgegolmkgaaDoor
open Go.RowKit Go.MapKept Go.ChangeMaps Go.WideShapes
theorem tF {P : Program} {ops : Array Oper} {o : Oper} {a : Act} {w w' : World} {K : Act -> World -> Prop} {Q : Exit -> Act -> World -> Prop} {E : Prop}
  (hg : o.guard = none) (s x : Operand) (t : TypeId) (hop : o.op = Op.call { callee := Callee.builtin Builtin.append, args := #[s, x], argTypes := #[t, t] })
  {v u r : Value} (hs : a.eval s = v) (hx : a.eval x = u) (hr : ∀ ty, (Builtin.append_ #[t, t] ty #[v, u]).run P w = .ok r w') (hK : K (a.put o.dst r) w') :
  if Region.wanted o (yielded ops a.tmps) = true then Oper.wp P o a w K Q else E := by
 have hw : Region.wanted o (yielded ops a.tmps) = true := by simp [Region.wanted, hg]
 rw [if_pos hw]
 unfold Oper.wp
 simp [execOp, hop, resolve, invoke, builtin, hs, hx, hr, Result.andThen]
 exact hK
structure WH where
 a0 : Value
 a1 : Value
 a2 : Value
 a3 : Value
 a4 : Value
 a5 : Value
 a6 : Value
def wkA (h : WH) (lv : Int) (pv mv : Value) : Obj := .cells #[h.a0, h.a1, h.a2, h.a3, h.a4, h.a5, h.a6, .int .i64 lv, pv, mv] 75 (0, 0)
def prC (P : Prs) : List Value := P.flatMap fun p => [.int .u64 (p.1 : Int), .int .u64 (p.2 : Int)]
theorem vN (P : Prs) (p : Nat × Nat) : prC (P ++ [p]) = prC P ++ [.int .u64 (p.1 : Int), .int .u64 (p.2 : Int)] := by simp [prC]
theorem ql : ∀ (P : Prs) (i : Nat) (p : Nat × Nat), P[i]? = some p -> (prC P)[i * 2]? = some (.int .u64 (p.1 : Int)) /\ (prC P)[i * 2 + 1]? = some (.int .u64 (p.2 : Int))
 | q :: r, 0, p, h => by simp at h; subst h; exact ⟨rfl, rfl⟩
 | q :: r, i + 1, p, h => by
  have ih := ql r i p (by simpa using h)
  have e : ∀ j, (prC (q :: r))[j + 2]? = (prC r)[j]? := fun j => rfl
  rw [show (i + 1) * 2 = i * 2 + 2 by omega, show i * 2 + 2 + 1 = i * 2 + 1 + 2 by omega, e, e]
  exact ih
def lkP (P : Prs) (p : Nat × Nat) : Option Nat := if p ∈ P /\ p ≠ pz then some (P.idxOf p) else none
structure SeM (w : World) (wb : Nat) (h : WH) (L gb gc mb : Nat) (P : Prs) : Prop where
 wk : w.heap[wb]? = some (wkA h L (.slice (some ⟨gb, 0, none⟩) P.length gc) (.map (some mb)))
 row : w.ownsRow 0 120 2 (.slice (some ⟨gb, 0, none⟩) P.length gc) P.length (prC P)
 mp : MpP w mb P.length (lkP P)
 ok : eP P
 p64 : ∀ p ∈ P, mO p
 lim : P.length <= 1099511627776
def jD (wb gb mb : Nat) : Nat -> Prop := fun k => k = wb ∨ k = gb ∨ k = mb
theorem SeM.lt {w : World} {wb : Nat} {h : WH} {L gb gc mb : Nat} {P : Prs} (s : SeM w wb h L gb gc mb P) : wb < w.heap.size /\ gb < w.heap.size /\ mb < w.heap.size := by
 obtain ⟨es, clock, hm⟩ := s.mp.obj
 exact ⟨ah s.wk, (aD s.row (g := gb) rfl).2, ah hm⟩
theorem SeM.ne {w : World} {wb : Nat} {h : WH} {L gb gc mb : Nat} {P : Prs} (s : SeM w wb h L gb gc mb P) : wb ≠ gb /\ wb ≠ mb /\ gb ≠ mb := by
 obtain ⟨es, clock, hm⟩ := s.mp.obj
 obtain ⟨c, f, hg⟩ := bM s.row gb rfl
 have hw := s.wk
 refine ⟨fun e => ?_, fun e => ?_, fun e => ?_⟩
 ·subst e; rw [hw] at hg; injection hg with hg; injection hg with _ q; exact absurd q (by decide)
 ·subst e; rw [hw] at hm; injection hm with hm; cases hm
 ·subst e; rw [hg] at hm; injection hm with hm; cases hm
theorem SeM.fx {w w' : World} {wb : Nat} {h : WH} {L gb gc mb : Nat} {P : Prs} (s : SeM w wb h L gb gc mb P) {Q : Nat -> Prop} (hb : Fx Q w w') (h1 : ¬ Q wb) (h2 : ¬ Q gb) (h3 : ¬ Q mb) : SeM w' wb h L gb gc mb P := by
 obtain ⟨l1, l2, l3⟩ := s.lt
 refine ⟨(hb.block wb l1 h1).trans s.wk, bS s.row fun g o hg ho => ?_, s.mp.same (hb.block mb l3 h3), s.ok, s.p64, s.lim⟩
 simp only [Value.ownBlock, Option.some.injEq] at hg
 subst hg
 exact (hb.block gb l2 h2).trans ho
theorem qo : (Tryd.prog.info? 120).map (fun i => (i.zero, i.size, i.bytes)) = some (some (.agg #[.int .u64 0, .int .u64 0]), 2, 16) := by kernel_rfl
theorem below_drewN {B : Nat} {a w : World} (h : Below B a w) (n : Nat) : Below B a (w.drewN n) := ⟨h.os, h.tape, h.output, h.size, h.block⟩
theorem rH (p : Nat × Nat) (W : World) : (binOp .eql 120 (prV p) (.agg #[.int .u64 0, .int .u64 0])).run Tryd.prog W = .ok (.bool (decide (p = pz))) W := by
 obtain ⟨a, b⟩ := p
 unfold prV pz
 simp only
 by_cases ha : a = 0
 ·subst ha
  by_cases hb : b = 0
  ·subst hb
   go_simp
  ·have h1 : ((b : Int) == 0) = false := by simp; omega
   have h2 : decide (((0 : Nat), b) = (0, 0)) = false := decide_eq_false fun e => hb (by cases e; rfl)
   rw [h2]
   go_simp
 ·have h1 : ((a : Int) == 0) = false := by simp; omega
  have h2 : decide ((a, b) = ((0 : Nat), (0 : Nat))) = false := decide_eq_false fun e => ha (by cases e; rfl)
  rw [h2]
  go_simp
theorem vO {P : Prs} {p : Nat × Nat} (hz : p ≠ pz) (hm : p ∉ P) : (fun q => if q = p then some P.length else lkP P q) = lkP (P ++ [p]) := by
 funext q
 unfold lkP
 by_cases e : q = p
 ·subst e
  rw [if_pos rfl, if_pos ⟨List.mem_append.2 (.inr (by simp)), hz⟩, List.idxOf_append, if_neg hm]
  simp
 ·rw [if_neg e]
  by_cases h : q ∈ P /\ q ≠ pz
  ·rw [if_pos h, if_pos ⟨List.mem_append.2 (.inl h.1), h.2⟩, List.idxOf_append, if_pos h.1]
  ·rw [if_neg h, if_neg fun k => h ⟨by
    rcases List.mem_append.1 k.1 with k1 | k1
    ·exact k1
    ·exact absurd (List.mem_singleton.1 k1) e, k.2⟩]
theorem iA {Q : Nat -> Prop} {a b : World} {r : Nat} (h : a.grownBy b (some r)) (hq : Q r) : Fx Q a b := ⟨h.os, h.tape, h.output, h.size, fun k hk hn => h.block k hk fun e => hn (by cases e; exact hq)⟩
theorem tH {w V W3 : World} {wb : Nat} {h : WH} {L gb gc mb g c : Nat} {P : Prs} {p : Nat × Nat} {E : Nat} (hz : p ≠ pz) (hm : p ∉ P) (hp : mO p) (hl : P.length < 1099511627776) (sV : SeM V wb h L gb gc mb P) (hVs : V.heap.size = w.heap.size + 1) (bV : Below w.heap.size w V) (hE : E = w.heap.size) (hEw : wb < E /\ gb < E /\ mb < E)
  (heV : V.heap[E]? = some (.cells #[.int .u64 (p.1 : Int), .int .u64 (p.2 : Int)] 120 (0, 0)))
  (o : W3.ownsRow 0 120 2 (.slice (some ⟨g, 0, none⟩) (P.length + 1) c) (P.length + 1) (prC P ++ [.int .u64 (p.1 : Int), .int .u64 (p.2 : Int)])) (gr : V.grownBy W3 (some gb)) (hgg : gb = g ∨ V.heap.size <= g) (W4 : World) (hW4 : W3.setCell ⟨wb, 8, none⟩ (.slice (some ⟨g, 0, none⟩) (P.length + 1) c) = W4) :
  ∃ W5, (Instr.mapUpdate 71 (.map (some mb)) (prV p) (.int .u64 (P.length : Int))).run Tryd.prog W4.drew = .ok () W5 /\ W3.cell? ⟨wb, 9, none⟩ = some (.map (some mb)) /\ W3.cell? ⟨E, 0, none⟩ = some (.int .u64 (p.1 : Int)) /\ W3.cell? ⟨E, 1, none⟩ = some (.int .u64 (p.2 : Int)) /\ SeM W5 wb h L g c mb (P ++ [p]) /\ Fx (jD wb gb mb) w W5 /\ (g = gb ∨ w.heap.size <= g) := by
 obtain ⟨n1, n2, n3⟩ := sV.ne
 obtain ⟨l1, l2, l3⟩ := hEw
 have hgw : wb ≠ g := by rcases hgg with e | e <;> omega
 have hgm : mb ≠ g := by rcases hgg with e | e <;> omega
 have hgE : E ≠ gb := by omega
 have hk3 : ∀ k, k < V.heap.size -> k ≠ gb -> W3.heap[k]? = V.heap[k]? := fun k hk hn => gr.block k hk fun e => hn (by cases e; rfl)
 have hk4 : ∀ k, k ≠ wb -> W4.heap[k]? = W3.heap[k]? := fun k hk => by rw [← hW4]; exact Below.heap_setCell W3 ⟨wb, 8, none⟩ _ k hk
 have hw3 : W3.heap[wb]? = some (wkA h L (.slice (some ⟨gb, 0, none⟩) P.length gc) (.map (some mb))) := (hk3 wb (by omega) n1).trans sV.wk
 have hw4 : W4.heap[wb]? = some (wkA h L (.slice (some ⟨g, 0, none⟩) (P.length + 1) c) (.map (some mb))) := by
  rw [← hW4]
  unfold wkA at hw3 ⊢
  have := Lib.heap_setCell_same (i := 8) hw3 (.slice (some ⟨g, 0, none⟩) (P.length + 1) c)
  simpa using this
 have he3 : W3.heap[E]? = some (.cells #[.int .u64 (p.1 : Int), .int .u64 (p.2 : Int)] 120 (0, 0)) := (hk3 E (by omega) hgE).trans heV
 have he4 : W4.heap[E]? = some (.cells #[.int .u64 (p.1 : Int), .int .u64 (p.2 : Int)] 120 (0, 0)) := (hk4 E (by omega)).trans ((hk3 E (by omega) hgE).trans heV)
 have hm4 : MpP W4.drew mb P.length (lkP P) := sV.mp.same ((hk4 mb (fun e => n2 e.symm)).trans (hk3 mb (by omega) (fun e => n3 e.symm)))
 obtain ⟨W5, hr, hN, hg5⟩ := hm4.put p hp (by unfold maxLen; omega) P.length
 rw [vO hz hm] at hN
 have h54 : ∀ k, k < W4.heap.size -> k ≠ mb -> W5.heap[k]? = W4.heap[k]? := fun k hk hn => hg5.block k hk fun e => hn (by cases e; rfl)
 have s43 : W4.heap.size = W3.heap.size := by rw [← hW4]; simp
 have s3V := gr.size
 have hg3 := (aD o (g := g) rfl).2
 have hw3' := hw3
 unfold wkA at hw4 hw3'
 refine ⟨W5, hr, aa hw3' rfl, aa he3 rfl, aa he3 rfl, ⟨?_, ?_, ?_, ?_, fun q hq => ?_, by simp; omega⟩, ?_, ?_⟩
 ·rw [h54 wb (by omega) n2, hw4]
  simp [wkA]
 ·rw [vN, List.length_append]
  have o4 : W4.ownsRow 0 120 2 (.slice (some ⟨g, 0, none⟩) (P.length + 1) c) (P.length + 1) (prC P ++ [.int .u64 (p.1 : Int), .int .u64 (p.2 : Int)]) := bS o fun y ob hy ho => by
   simp only [Value.ownBlock, Option.some.injEq] at hy
   subst hy
   exact (hk4 g (fun e => hgw e.symm)).trans ho
  exact bS o4 fun y ob hy ho => by
   simp only [Value.ownBlock, Option.some.injEq] at hy
   subst hy
   exact (h54 g (by omega) (fun e => hgm e.symm)).trans ho
 ·rw [List.length_append]; exact hN
 ·have := (eD sV.ok p).2.1
  unfold ed at this
  rw [if_neg hm] at this
  exact this
 ·rcases List.mem_append.1 hq with hq | hq
  ·exact sV.p64 q hq
  ·rw [List.mem_singleton.1 hq]; exact hp
 ·have x1 : Fx (jD wb gb mb) w V := Fx.of bV
  have x2 : Fx (jD wb gb mb) V W3 := iA gr (.inr (.inl rfl))
  have x3 : Fx (jD wb gb mb) W3 W4 := by rw [← hW4]; exact Fx.set (p := ⟨wb, 8, none⟩) (Fx.refl _ W3) (.inl (.inl rfl)) _
  exact x1.trans (x2.trans (x3.trans ((Fx.refl _ W4).drew.trans (iA hg5 (.inr (.inr rfl))))))
 ·rcases hgg with e | e
  ·exact .inl e.symm
  ·exact .inr (by omega)
theorem qx (w : World) (wb : Nat) (h : WH) (L gb gc mb : Nat) (P : Prs) (s : SeM w wb h L gb gc mb P) (hl : P.length < 1099511627776) (p : Nat × Nat) (hp : mO p) (hz : p ≠ pz) (hm : p ∉ P) :
  Calls Tryd.prog 62 #[.pointer (some ⟨wb, 7, none⟩), prV p] w fun e w' => e = .returned (.int .u64 (P.length : Int)) /\ Bx (∃ gb' gc', SeM w' wb h L gb' gc' mb (P ++ [p]) /\ Fx (jD wb gb mb) w w' /\ (gb' = gb ∨ w.heap.size <= gb')) := by
 obtain ⟨W1, hW1⟩ : ∃ W1, w.alloc (.cells #[.int .u64 (p.1 : Int), .int .u64 (p.2 : Int)] 120) = W1 := ⟨_, rfl⟩
 have hs1 : W1.heap.size = w.heap.size + 1 := by rw [← hW1]; simp
 have b1 : Below w.heap.size w W1 := by rw [← hW1]; exact ak _ _
 have he : W1.heap[w.heap.size]? = some (.cells #[.int .u64 (p.1 : Int), .int .u64 (p.2 : Int)] 120 (0, 0)) := by rw [← hW1]; exact aj _ _ _ rfl
 have s1 := s.fx (Fx.of (P := fun _ => False) b1) id id id
 have hwk := s1.wk
 unfold wkA at hwk
 have c8 : W1.cell? ⟨wb, 8, none⟩ = some (.slice (some ⟨gb, 0, none⟩) P.length gc) := aa hwk rfl
 have c9 : W1.cell? ⟨wb, 9, none⟩ = some (.map (some mb)) := aa hwk rfl
 have f8 : W1.frozen? ⟨wb, 8, none⟩ = false := aL hwk
 have e0 : W1.cell? ⟨w.heap.size, 0, none⟩ = some (.int .u64 (p.1 : Int)) := aa he rfl
 have e1 : W1.cell? ⟨w.heap.size, 1, none⟩ = some (.int .u64 (p.2 : Int)) := aa he rfl
 have hlk : ∀ k, (Instr.lookup 71 (.map (some mb)) (prV p) true).run Tryd.prog (W1.drewN k) = .ok (.tuple #[.int .u64 0, .bool false]) (W1.drewN k) := fun k => by
  have := (s1.mp.same (W' := W1.drewN k) rfl).look p hp
  have e : lkP P p = none := if_neg fun q => hm q.1
  rw [e] at this
  exact this
 have hpe := rH p
 rw [decide_eq_false hz] at hpe
 have hcv : IntKind.u64.wrap (P.length : Int) = (P.length : Int) := by rw [IntKind.wrap_u64]; omega
 unfold prV at hlk hpe ⊢
 clear hwk
 go_enter Tryd.func62, Tryd.ntmps62
 go_wp2
 go_quiet (fail)
 go_wp2
 obtain ⟨V, hV⟩ : ∃ V, W1.drewN nq = V := ⟨_, rfl⟩
 have sV : SeM V wb h L gb gc mb P := by rw [← hV]; exact s1.fx (P := P) (Q := fun _ => False) ((Fx.refl _ _).drewN _) id id id
 have hVs : V.heap.size = w.heap.size + 1 := by rw [← hV]; exact hs1
 have bV : Below w.heap.size w V := by rw [← hV]; exact below_drewN b1 nq
 have heV : V.heap[w.heap.size]? = some (.cells #[.int .u64 (p.1 : Int), .int .u64 (p.2 : Int)] 120 (0, 0)) := by rw [← hV]; exact he
 obtain ⟨i0, hi0, iz0, iz1, iz2⟩ := info_parts qo
 obtain ⟨g, c, W3, r, o, gr, hc, hgg⟩ := app1 Tryd.underlying70 hi0 iz0 iz1 iz2 rfl (by decide) V.drew 0 (.slice (some ⟨gb, 0, none⟩) P.length gc) P.length (prC P) (bS sV.row fun _ _ _ h => h) #[.int .u64 (p.1 : Int), .int .u64 (p.2 : Int)] rfl (by simp [Value.oneCell']) (by unfold maxLen; omega) (by omega) (Nat.zero_le _)
 have hwV := sV.wk
 unfold wkA at hwV
 have x8 : V.cell? ⟨wb, 8, none⟩ = some (.slice (some ⟨gb, 0, none⟩) P.length gc) := aa hwV rfl
 have y0 : V.cell? ⟨w.heap.size, 0, none⟩ = some (.int .u64 (p.1 : Int)) := aa heV rfl
 have y1 : V.cell? ⟨w.heap.size, 1, none⟩ = some (.int .u64 (p.2 : Int)) := aa heV rfl
 have hw3 := dF gr (show V.drew.heap[wb]? = _ from hwV) (fun e => by simp only [Value.ownBlock, Option.some.injEq] at e; exact sV.ne.1 e.symm)
 have z8 : W3.cell? ⟨wb, 8, none⟩ = some (.slice (some ⟨gb, 0, none⟩) P.length gc) := aa hw3 rfl
 have zf : W3.frozen? ⟨wb, 8, none⟩ = false := aL hw3
 rw [hV]
 have a8 : (V.alloc (.cells #[.int .u64 (p.1 : Int), .int .u64 (p.2 : Int)] 120)).cell? ⟨wb, 8, none⟩ = some (.slice (some ⟨gb, 0, none⟩) P.length gc) := ((ak V _).cell (p := ⟨wb, 8, none⟩) sV.lt.1).trans x8
 have a0 : (V.alloc (.cells #[.int .u64 (p.1 : Int), .int .u64 (p.2 : Int)] 120)).cell? ⟨w.heap.size, 0, none⟩ = some (.int .u64 (p.1 : Int)) := ((ak V _).cell (p := ⟨w.heap.size, 0, none⟩) (ah heV)).trans y0
 have a1 : (V.alloc (.cells #[.int .u64 (p.1 : Int), .int .u64 (p.2 : Int)] 120)).cell? ⟨w.heap.size, 1, none⟩ = some (.int .u64 (p.2 : Int)) := ((ak V _).cell (p := ⟨w.heap.size, 1, none⟩) (ah heV)).trans y1
 obtain ⟨W4, hW4⟩ : ∃ W4, W3.setCell ⟨wb, 8, none⟩ (.slice (some ⟨g, 0, none⟩) (P.length + 1) c) = W4 := ⟨_, rfl⟩
 obtain ⟨W5, hr5, k9, k0, k1, hS5⟩ := tH hz hm hp hl sV hVs bV rfl s.lt heV o ⟨gr.os, gr.tape, gr.output, gr.size, gr.block⟩ (by simpa [Value.ownBlock] using hgg) W4 hW4
 have HS5 : Bx _ := ⟨hS5⟩
 unfold prV at hr5
 subst hW4
 clear hS5 o gr hgg hw3 hwV sV s1 heV bV he
 clear c8 c9 f8 e0 e1 hlk hpe
 go_region_law (first
  | (refine tF rfl (.tmp 31) (.tmp 33) 70 rfl (by simp [Act.eval, Act.put]) (by simp [Act.eval, Act.put]) r ?_))
 all_goals
  clear a8 a0 a1 x8 y0 y1 z8 zf
  go_wp2
  go_region
  go_wp2
  go_returns
  exact ⟨rfl, ⟨g, c, HS5.out⟩⟩
end Go.Proofs.YtadmpgegolmkgaaDoor
namespace Go.Proofs.YtadmpgegolmkgaaDoor
open Go.RowKit
abbrev shV (s : Int × Int × Int) : Value := .agg #[.int .i64 s.1, .int .i64 s.2.1, .int .i64 s.2.2]
def bq (cl : Nat) (s : Int × Int × Int) (i : Int) (x : CIn) : Bool := if s.1 = 14 then ek cl i x.a else if s.1 = 15 then inI x.a i else if s.2.2 = 11 then fT cl i x.list else true
structure J2 (w : World) (H : Nat) (s : Int × Int × Int) (x : CIn) (ka : Option Addr) (kc : Nat) (X : World) : Prop where
 bel : Below w.heap.size w X
 s0 : X.cell? ⟨H, 0, none⟩ = some (.int .i64 s.1)
 s1 : X.cell? ⟨H, 1, none⟩ = some (.int .i64 s.2.1)
 s2 : X.cell? ⟨H, 2, none⟩ = some (.int .i64 s.2.2)
 i0 : X.cell? ⟨H + 1, 0, none⟩ = some (.int .i64 x.op)
 i1 : X.cell? ⟨H + 1, 1, none⟩ = some (.int .i64 x.a)
 i2 : X.cell? ⟨H + 1, 2, none⟩ = some (.int .i64 x.b)
 i3 : X.cell? ⟨H + 1, 3, none⟩ = some (.slice ka x.list.length kc)
theorem Ay {w : World} {H : Nat} (hH : w.heap.size = H) (s : Int × Int × Int) (x : CIn) (ka : Option Addr) (kc : Nat) : J2 w H s x ka kc ((w.alloc (.cells #[.int .i64 s.1, .int .i64 s.2.1, .int .i64 s.2.2] 106)).alloc (.cells #[.int .i64 x.op, .int .i64 x.a, .int .i64 x.b, .slice ka x.list.length kc] 43)) := by
 obtain ⟨Y, hY⟩ : ∃ Y, w.alloc (.cells #[.int .i64 s.1, .int .i64 s.2.1, .int .i64 s.2.2] 106) = Y := ⟨_, rfl⟩
 have b1 : Below w.heap.size w Y := by rw [← hY]; exact ak w _
 have z1 : Y.heap.size = H + 1 := by rw [← hY]; simp [hH]
 have q1 : Y.heap[H]? = some (.cells #[.int .i64 s.1, .int .i64 s.2.1, .int .i64 s.2.2] 106 (0, 0)) := by rw [← hY, ← hH]; exact heap_alloc_new w _
 rw [hY]
 have b2 := ak Y (.cells #[.int .i64 x.op, .int .i64 x.a, .int .i64 x.b, .slice ka x.list.length kc] 43)
 have q2 := (b2.block H (by omega)).trans q1
 have q3 := aj Y (.cells #[.int .i64 x.op, .int .i64 x.a, .int .i64 x.b, .slice ka x.list.length kc] 43) _ z1
 exact ⟨b1.trans (b2.mono (by omega)), aa q2 rfl, aa q2 rfl, aa q2 rfl, aa q3 rfl, aa q3 rfl, aa q3 rfl, aa q3 rfl⟩
theorem kJ (w : World) {jb B pc dc cc : Nat} {u : CUn} {pa da ca : Option Addr} {dfs : List Bool} {pg : CPg} (h : JgM w jb B u pa pc da dc dfs pg ca cc) (s : Int × Int × Int) (i : Int) (x : CIn) (ka : Option Addr) (kc : Nat) (hk : aF w B ka kc x.list) (hlen : x.list.length <= 281474976710656) : Calls Tryd.prog 52 #[.pointer (some ⟨jb, 0, none⟩), shV s, .int .i64 i, aR x ka kc] w fun e w' => e = .returned (.bool (bq pg.code.length s i x)) /\ Bx (Below w.heap.size w w') := by
 obtain ⟨H, hH⟩ : ∃ H, w.heap.size = H := ⟨_, rfl⟩
 have hJ := Ay hH s x ka kc
 have hjl : jb < H := hH ▸ fI h.h
 have HA : Bx (∀ X, Below w.heap.size w X -> _) := ⟨fun X hX => jM X (h.below hX) i x.a⟩
 have HT : Bx (∀ X, Below w.heap.size w X -> _) := ⟨fun X hX => jU X (h.below hX) i ka kc x.list (hk.below (hX.mono h.bw)) hlen⟩
 have HW : Bx (∀ X, _) := ⟨fun X => fH x.a i X⟩
 have HF : Bx (Below w.heap.size w _) := ⟨hJ.bel⟩
 obtain ⟨_, s0, s1, s2, i0, i1, i2, i3⟩ := hJ
 clear h hk
 unfold bq shV aR
 obtain ⟨v0, v1, v2⟩ := s
 simp only at *
 by_cases h1 : v0 = 14
 ·subst h1
  simp only [if_true]
  go_enter Tryd.func52, Tryd.ntmps52
  go_wp2_with (first
   | (go_at_call 73; refine (HA.out _ HF.out).mono ?_; rintro e w1 ⟨rfl, rfl⟩))
  go_ret
  exact ⟨rfl, HF⟩
 rw [if_neg h1]
 have b1 : (v0 == 14) = false := by simp [h1]
 by_cases h2 : v0 = 15
 ·subst h2
  simp only [if_true]
  clear h1 b1
  go_enter Tryd.func52, Tryd.ntmps52
  go_wp2_with (first
   | (go_at_call 49; refine (HW.out _).mono ?_; rintro e w1 ⟨rfl, rfl⟩))
  go_ret
  exact ⟨rfl, HF⟩
 rw [if_neg h2]
 have b2 : (v0 == 15) = false := by simp [h2]
 by_cases h3 : v2 = 11
 ·subst h3
  simp only [if_true]
  clear h1 h2
  go_enter Tryd.func52, Tryd.ntmps52
  go_wp2_with (first
   | (go_at_call 74; refine (HT.out _ HF.out).mono ?_; rintro e w1 ⟨rfl, rfl⟩))
  go_ret
  exact ⟨rfl, HF⟩
 rw [if_neg h3]
 have b3 : (v2 == 11) = false := by simp [h3]
 clear h1 h2 h3
 go_enter Tryd.func52, Tryd.ntmps52
 go_wp2
 go_ret
 exact ⟨rfl, HF⟩
def pgD : CPg := ⟨0, 0, 0, false, []⟩
def aO (u : CUn) (dfs : List Bool) (s : Int × Int × Int) (x : CIn) : Bool := ic dfs u.ae.length s.1 x.a && (iO s.2.2 x.list && if s.2.1 = 9 then x.b == (u.ae.getD x.a.toNat pgD).caps else ic dfs u.ae.length s.2.1 x.b)
theorem mU (w : World) {jb B pc dc cc : Nat} {u : CUn} {pa da ca : Option Addr} {dfs : List Bool} {pg : CPg} (h : JgM w jb B u pa pc da dc dfs pg ca cc) (s : Int × Int × Int) (h9 : s.2.1 = 9 -> s.1 = 8) (x : CIn) (ka : Option Addr) (kc : Nat) (hk : aF w B ka kc x.list) (hlen : x.list.length <= 281474976710656) : Calls Tryd.prog 50 #[.pointer (some ⟨jb, 0, none⟩), shV s, aR x ka kc] w fun e w' => e = .returned (.bool (aO u dfs s x)) /\ Bx (Below w.heap.size w w') := by
 obtain ⟨H, hH⟩ : ∃ H, w.heap.size = H := ⟨_, rfl⟩
 have hJ := Ay hH s x ka kc
 have hjl : jb < H := hH ▸ fI h.h
 have H1 : Bx (∀ X, Below w.heap.size w X -> _) := ⟨fun X hX => ou X (h.below hX) s.1 x.a⟩
 have H2 : Bx (∀ X, Below w.heap.size w X -> _) := ⟨fun X hX => ou X (h.below hX) s.2.1 x.b⟩
 have HL : Bx (∀ X, Below w.heap.size w X -> _) := ⟨fun X hX => mQ X B ka kc x.list (hk.below (hX.mono h.bw)) hlen s.2.2⟩
 have HF : Bx (Below w.heap.size w _) := ⟨hJ.bel⟩
 have HJC : Bx (∀ X, Below w.heap.size w X -> X.cell? ⟨jb, 0, none⟩ = some (.slice pa u.ae.length pc)) := ⟨fun X hX => (h.below hX).cells.1⟩
 have hpcap := h.pr.cap
 have HPG : Bx (∀ m (hm : m < u.ae.length), ∃ b o, pa = some ⟨b, o, none⟩ /\ b < w.heap.size /\ ∀ X, Below w.heap.size w X -> X.cell? ⟨b, o + m * 5 + 2, none⟩ = some (.int .i64 u.ae[m].caps)) := ⟨fun m hm => by
  obtain ⟨b, o, e, hb, hj⟩ := h.pr.at_ (by omega)
  obtain ⟨_, _, _, _, c2, _⟩ := (hj m hm).ex
  have hbw := h.bw
  exact ⟨b, o, e, by omega, fun X hX => (hX.cell (p := ⟨b, _, none⟩) (by show b < w.heap.size; omega)).trans c2⟩⟩
 have HFI : Bx (ic dfs u.ae.length s.1 x.a = true -> s.2.1 = 9 -> ∃ m : Nat, x.a = m /\ m < u.ae.length) := ⟨fun e e9 => by
  rw [h9 e9] at e
  simp [ic, inI] at e
  exact ⟨x.a.toNat, by omega, by omega⟩⟩
 obtain ⟨_, s0, s1, s2, i0, i1, i2, i3⟩ := hJ
 clear h hk h9
 unfold aO shV aR
 obtain ⟨v0, v1, v2⟩ := s
 simp only at *
 cases hf : ic dfs u.ae.length v0 x.a with
 | false =>
  rw [hf] at H1
  simp only [Bool.false_and]
  clear H2 hf HFI
  go_enter Tryd.func50, Tryd.ntmps50
  go_wp2_with (first
   | (go_at_call 71; refine (H1.out _ HF.out).mono ?_; rintro e w1 ⟨rfl, rfl⟩))
  go_ret
  exact ⟨rfl, HF⟩
 | true =>
  rw [hf] at H1
  have HFI2 := HFI.out hf
  simp only [Bool.true_and]
  clear hf HFI
  cases hl : iO v2 x.list with
  | false =>
   rw [hl] at HL
   simp only [Bool.false_and]
   clear hl H2 HFI2
   go_enter Tryd.func50, Tryd.ntmps50
   go_wp2_with (first
    | (go_at_call 71; refine (H1.out _ HF.out).mono ?_; rintro e w1 ⟨rfl, rfl⟩)
    | (go_at_call 72; refine (HL.out _ HF.out).mono ?_; rintro e w1 ⟨rfl, rfl⟩))
   go_ret
   exact ⟨rfl, HF⟩
  | true =>
   rw [hl] at HL
   simp only [Bool.true_and]
   clear hl
   by_cases h9 : v1 = 9
   ·rw [if_pos h9]
    obtain ⟨m, hm, hml⟩ := HFI2 h9
    obtain ⟨b, o, rfl, hb, hc⟩ := HPG.out m hml
    have e1 : u.ae.getD x.a.toNat pgD = u.ae[m] := by
     rw [hm, show ((m : Int)).toNat = m by omega, List.getD_eq_getElem?_getD, List.getElem?_eq_getElem hml]
     rfl
    rw [e1]
    have cq := hc _ HF.out
    have cj := HJC.out _ HF.out
    have hmI : (m : Int) < (u.ae.length : Int) := by omega
    rw [hm] at H1 i1 HF cq cj s0 s1 s2 i0 i2 i3 ⊢
    generalize u.ae[m].caps = y at *
    subst h9
    clear HFI2 H2 hm HPG hc HJC e1
    go_enter Tryd.func50, Tryd.ntmps50
    go_wp2_with (first
     | (go_at_call 71; refine (H1.out _ HF.out).mono ?_; rintro e w1 ⟨rfl, rfl⟩)
     | (go_at_call 72; refine (HL.out _ HF.out).mono ?_; rintro e w1 ⟨rfl, rfl⟩))
    go_quiet (fail)
    go_wp2
    go_ret
    exact ⟨rfl, ⟨below_drewN HF.out _⟩⟩
   ·rw [if_neg h9]
    have b9 : (v1 == 9) = false := by simp [h9]
    clear h9 HFI2 HPG HJC
    go_enter Tryd.func50, Tryd.ntmps50
    go_wp2_with (first
     | (go_at_call 72; refine (HL.out _ HF.out).mono ?_; rintro e w1 ⟨rfl, rfl⟩; clear H1 HL)
     | (go_at_call 71; refine (H1.out _ HF.out).mono ?_; rintro e w1 ⟨rfl, rfl⟩)
     | (go_at_call 71; refine (H2.out _ HF.out).mono ?_; rintro e w1 ⟨rfl, rfl⟩))
    go_ret
    exact ⟨rfl, HF⟩
end Go.Proofs.YtadmpgegolmkgaaDoor
