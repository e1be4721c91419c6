import Derived.Lib.AtoiAll
import Derived.Lib.ItoaNum
import Derived.Test.YtadmpgegolmkgaaDoorChecked
import Derived.WalkKit
import Derived.WalkSpells
import Derived.WalkLawsBesides
import Derived.Below
import Derived.Deep.QuietTactic
import Derived.BigQuiet
import Derived.Deep.RegionHeld
import Derived.WalkSmall
import Derived.Handy
import Derived.Deep.RegionHeld3
import Derived.Lib.TrailingZeros
import Derived.Laws.Bits64b
import Derived.Laws.MakeOwn
import Derived.Deep.LoopGhost
import Derived.Deep.RegionLaw
import Derived.Laws.AppendOwn
import Derived.Laws.AppendOwnNone
import Derived.Deep.AppendLies
import Derived.OneCell
import Derived.Laws.Rows
import Derived.Lib.BufferMore
import Derived.RangeFuncRecord
import Derived.Maps.Range
import Derived.Maps.RangeWalk
set_option linter.unusedVariables false
set_option linter.unusedSimpArgs false
set_option maxHeartbeats 4000000
set_option maxRecDepth 100000
namespace Go.Proofs.YtadmpgegolmkgaaDoor
def I64 (x : Int) : Prop := -9223372036854775808 <= x /\ x <= 9223372036854775807
structure CIn where
 op : Int
 a : Int
 b : Int
 list : List Int
 deriving DecidableEq, Inhabited
structure CTy where
 kind : Int
 kids : List Int
 res : Bool
 deriving DecidableEq, Inhabited
structure CPg where
 params : Int
 slots : Int
 caps : Int
 res : Bool
 code : List CIn
 deriving DecidableEq, Inhabited
structure CUn where
 ae : List CPg
 types : List CTy
 deriving DecidableEq, Inhabited
structure CIn.Wf (i : CIn) : Prop where
 op : I64 i.op
 a : I64 i.a
 b : I64 i.b
 list : ∀ k ∈ i.list, I64 k
structure CTy.Wf (t : CTy) : Prop where
 kind : I64 t.kind
 kids : ∀ k ∈ t.kids, I64 k
structure CPg.Wf (p : CPg) : Prop where
 params : I64 p.params
 slots : I64 p.slots
 caps : I64 p.caps
 code : ∀ i ∈ p.code, i.Wf
structure CUn.Wf (u : CUn) : Prop where
 ae : ∀ p ∈ u.ae, p.Wf
 types : ∀ t ∈ u.types, t.Wf
def aS : List (List UInt8 × Int × Int × Int) := [
 ([], 0, 0, 0),
 ([105, 110, 116], 1, 0, 1),
 ([98, 111, 111, 108], 1, 0, 1),
 ([122, 101, 114, 111], 1, 0, 1),
 ([108, 111, 97, 100], 1, 0, 1),
 ([115, 116, 111, 114, 101], 1, 1, 0),
 ([99, 108, 101, 97, 114], 1, 0, 0),
 ([99, 97, 112], 1, 0, 1),
 ([115, 101, 108, 102], 0, 0, 1),
 ([112, 111, 112], 0, 1, 0),
 ([116, 117, 112, 108, 101], 1, 0, 1),
 ([97, 114, 114, 97, 121], 1, 0, 1),
 ([102, 105, 108, 108], 0, 2, 1),
 ([108, 101, 110], 0, 1, 1),
 ([105, 110, 100, 101, 120], 0, 2, 1),
 ([102, 105, 101, 108, 100], 1, 1, 1),
 ([112, 97, 114, 116], 5, 1, 0),
 ([117, 110, 97, 114, 121], 1, 1, 1),
 ([98, 105, 110], 1, 2, 1),
 ([106, 117, 109, 112], 1, 0, 0),
 ([102, 97, 108, 115, 101], 1, 1, 0),
 ([98, 97, 99, 107], 1, 0, 0),
 ([112, 114, 111, 103], 3, 0, 1),
 ([99, 97, 108, 108], 3, 1, 0),
 ([98, 101, 103, 105, 110], 1, 1, 0),
 ([114, 101, 116], 0, 0, 0),
 ([109, 97, 107, 101], 0, 0, 1),
 ([119, 97, 105, 116], 4, 0, 0)]
def aT : List UInt8 × Int × Int × Int := ([], 0, 0, 0)
def aX (op : Int) : List UInt8 × Int × Int × Int := if op < 0 ∨ 28 <= op then aT else aS.getD op.toNat aT
def gZ (op : Int) : List UInt8 := (aX op).1
end Go.Proofs.YtadmpgegolmkgaaDoor
namespace Go.Proofs.YtadmpgegolmkgaaDoor
open Go.RowKit
structure Bx (p : Prop) : Prop where
 out : p
theorem dK {k : IntKind} {a b : Int} (h : a = b) : Ending.returned (.int k a) = .returned (.int k b) := by rw [h]
abbrev jR (l : List UInt8) : Value := .string ⟨l.toArray⟩
def mI (s : List UInt8 × Int × Int × Int) : Value := .agg #[jR s.1, .int .i64 s.2.1, .int .i64 s.2.2.1, .int .i64 s.2.2.2]
structure Shp (w : World) : Prop where
 c0 : ∀ k, k < 28 -> w.cell? ⟨0, k * 4, none⟩ = some (jR (aS.getD k aT).1)
 c1 : ∀ k, k < 28 -> w.cell? ⟨0, k * 4 + 1, none⟩ = some (.int .i64 (aS.getD k aT).2.1)
 c2 : ∀ k, k < 28 -> w.cell? ⟨0, k * 4 + 2, none⟩ = some (.int .i64 (aS.getD k aT).2.2.1)
 c3 : ∀ k, k < 28 -> w.cell? ⟨0, k * 4 + 3, none⟩ = some (.int .i64 (aS.getD k aT).2.2.2)
 lt : 0 < w.heap.size
theorem Shp.below {w w' : World} (h : Shp w) (hb : Below w.heap.size w w') : Shp w' := by
 have hc : ∀ i, w'.cell? ⟨0, i, none⟩ = w.cell? ⟨0, i, none⟩ := fun i => hb.cell (p := ⟨0, i, none⟩) h.lt
 exact ⟨fun k hk => by rw [hc]; exact h.c0 k hk, fun k hk => by rw [hc]; exact h.c1 k hk, fun k hk => by rw [hc]; exact h.c2 k hk, fun k hk => by rw [hc]; exact h.c3 k hk, Nat.lt_of_lt_of_le h.lt hb.size⟩
theorem ak (w : World) (o : Obj) : Below w.heap.size w (w.alloc o) := (Below.refl _ w).alloc (Nat.le_refl _) o
theorem AQ (W : World) (a b c d : Value) : (Instr.field 80 (.agg #[a, b, c, d]) 2).run Tryd.prog W = .ok c W := by
 simp [Instr.field, go_sem, Tryd.underlying80, asAgg]
theorem AU (W : World) (a b c d : Value) : (Instr.field 80 (.agg #[a, b, c, d]) 3).run Tryd.prog W = .ok d W := by
 simp [Instr.field, go_sem, Tryd.underlying80, asAgg]
theorem jL (op : Int) (w : World) (hs : Shp w) (h : I64 op) :
  Calls Tryd.prog 28 #[.int .i64 op] w fun e w' => e = .returned (mI (aX op)) /\ Below w.heap.size w w' := by
 obtain ⟨h1, h2⟩ := h
 unfold aX
 by_cases h0 : op < 0
 ·rw [if_pos (Or.inl h0)]
  go_enter Tryd.func28, Tryd.ntmps28
  go_wp2
  refine bodyPost_ret (v := mI aT) (by simp [results, Tryd.results28, go_sem, mI, aT]) rfl ⟨rfl, ?_⟩
  repeat (first | exact ak _ _ | refine Below.setCell ?_ (Nat.le_refl _) _)
 ·by_cases h3 : 28 <= op
  ·rw [if_pos (Or.inr h3)]
   go_enter Tryd.func28, Tryd.ntmps28
   go_wp2
   refine bodyPost_ret (v := mI aT) (by simp [results, Tryd.results28, go_sem, mI, aT]) rfl ⟨rfl, ?_⟩
   repeat (first | exact ak _ _ | refine Below.setCell ?_ (Nat.le_refl _) _)
  ·rw [if_neg (by omega)]
   obtain ⟨k, rfl⟩ : ∃ k : Nat, op = k := ⟨op.toNat, by omega⟩
   have hk : k < 28 := by omega
   have c0 := hs.c0 k hk; have c1 := hs.c1 k hk; have c2 := hs.c2 k hk; have c3 := hs.c3 k hk
   rw [Int.toNat_natCast]
   generalize aS.getD k aT = s at *
   have hlt := hs.lt
   have lc : ∀ i o, (w.alloc o).cell? ⟨0, i, none⟩ = w.cell? ⟨0, i, none⟩ := fun i o => (ak w o).cell (p := ⟨0, i, none⟩) hlt
   have d0 := (lc (k * 4) (.cells #[.string ⟨#[]⟩, .int .i64 0, .int .i64 0, .int .i64 0] 80)).trans c0
   have d1 := (lc (k * 4 + 1) (.cells #[.string ⟨#[]⟩, .int .i64 0, .int .i64 0, .int .i64 0] 80)).trans c1
   have d2 := (lc (k * 4 + 2) (.cells #[.string ⟨#[]⟩, .int .i64 0, .int .i64 0, .int .i64 0] 80)).trans c2
   have d3 := (lc (k * 4 + 3) (.cells #[.string ⟨#[]⟩, .int .i64 0, .int .i64 0, .int .i64 0] 80)).trans c3
   clear lc hs
   go_enter Tryd.func28, Tryd.ntmps28
   go_wp2
   refine bodyPost_ret (v := mI s) (by simp [results, Tryd.results28, go_sem, mI]) rfl ⟨rfl, ?_⟩
   repeat (first | exact ak _ _ | refine Below.setCell ?_ (Nat.le_refl _) _)
structure aF (w : World) (B : Nat) (a : Option Addr) (cap : Nat) (ks : List Int) : Prop where
  cap : ks.length <= cap
  max : ks.length <= maxLen
  at_ : 0 < ks.length -> ∃ b o, a = some ⟨b, o, none⟩ /\ b < B /\ ∀ i (h : i < ks.length), w.cell? ⟨b, o + i, none⟩ = some (.int .i64 ks[i])
theorem aF.below {w w' : World} {B cap : Nat} {a : Option Addr} {ks : List Int} (h : aF w B a cap ks) (hb : Below B w w') : aF w' B a cap ks := by
  refine ⟨h.cap, h.max, fun h0 => ?_⟩
  obtain ⟨b, o, e, hlt, hc⟩ := h.at_ h0
  exact ⟨b, o, e, hlt, fun i hi => by rw [hb.cell (p := ⟨b, o + i, none⟩) hlt]; exact hc i hi⟩
theorem aF.up {w : World} {B B' cap : Nat} {a : Option Addr} {ks : List Int} (h : aF w B a cap ks) (hb : B <= B') : aF w B' a cap ks := by
  refine ⟨h.cap, h.max, fun h0 => ?_⟩
  obtain ⟨b, o, e, hlt, hc⟩ := h.at_ h0
  exact ⟨b, o, e, by omega, hc⟩
theorem iF (w : World) (B : Nat) (a : Option Addr) (cap : Nat) : aF w B a cap [] := ⟨Nat.zero_le _, Nat.zero_le _, fun h => absurd h (by simp)⟩
def gF : List Int -> Nat
  | [] => 0
  | x :: r => (if x = -1 then 1 else 0) + gF r
theorem iW (l : List Int) : gF l <= l.length := by
  induction l with
  | nil => exact Nat.le_refl _
  | cons x r ih => rw [gF, List.length_cons]; split <;> omega
theorem kz (l : List Int) (k : Nat) (h : k < l.length) : gF (l.take (k + 1)) = gF (l.take k) + (if l[k] = -1 then 1 else 0) := by
  induction l generalizing k with
  | nil => simp at h
  | cons x r ih =>
    cases k with
    | zero => simp [gF]
    | succ k =>
      have := ih k (by simpa using h)
      simp only [List.take_succ_cons, gF, this, List.getElem_cons_succ]
      omega
def bQ : List Int -> Nat
  | [] => 0
  | [x] => 1 + (if x = 1 then 1 else 0)
  | x :: _ :: r => 1 + (if x = 1 then 1 else 0) + bQ r
theorem ig : ∀ l : List Int, bQ l <= l.length + 1
  | [] => by simp [bQ]
  | [x] => by rw [bQ]; simp only [List.length_cons, List.length_nil]; split <;> omega
  | x :: y :: r => by
    have := ig r
    simp only [bQ, List.length_cons]
    split <;> omega
theorem kD (l : List Int) (k : Nat) (h : k < l.length) : bQ (l.drop k) = 1 + (if l[k] = 1 then 1 else 0) + bQ (l.drop (k + 2)) := by
  rw [List.drop_eq_getElem_cons h]
  rcases Nat.lt_or_ge (k + 1) l.length with h' | h'
  · rw [List.drop_eq_getElem_cons h', bQ]
  · rw [List.drop_eq_nil_of_le h', List.drop_eq_nil_of_le (by omega), bQ, bQ, Nat.add_zero]
theorem qa (w : World) (B : Nat) (a : Option Addr) (cap : Nat) (ks : List Int) (hi : aF w B a cap ks) :
    Calls Tryd.prog 45 #[.slice a ks.length cap] w fun e w' => e = .returned (.int .i64 (gF ks)) /\ w = w' := by
  obtain ⟨h1, h2, h3⟩ := hi
  unfold maxLen at h2
  have H3 : Bx _ := ⟨h3⟩
  clear h3
  go_enter Tryd.func45, Tryd.ntmps45
  go_wp2
  go_loop [8, 3] (fun i v => ∃ j : Nat, j <= ks.length /\ i = .int .i64 j /\ v = .int .i64 (gF (ks.take j) : Nat)) (fun i _ => ks.length - (intOf i).toNat)
  case atStart => exact ⟨0, by omega, rfl, rfl⟩
  case round =>
    obtain ⟨j, hj, rfl, rfl⟩ := hrel
    by_cases hlt : j < ks.length
    · obtain ⟨b, o, rfl, hb, hc⟩ := H3.out (by omega)
      have c := hc j hlt
      have hp := kz ks j hlt
      have hpl := iW (ks.take j)
      rw [List.length_take] at hpl
      have HP : Bx _ := ⟨hp⟩
      clear hp hc
      by_cases hq : ks[j] = -1
      · have hq' : (ks[j] == -1) = true := by simpa using hq
        go_wp2
        go_round
        case rel => exact ⟨j + 1, by omega, by go_num, by have := HP.out; rw [if_pos hq] at this; rw [this]; go_num⟩
        case measure => simp [intOf]; omega
      · have hq' : (ks[j] == -1) = false := by simpa using hq
        go_wp2
        go_round
        case rel => exact ⟨j + 1, by omega, by go_num, by have := HP.out; rw [if_neg hq] at this; rw [this]; rfl⟩
        case measure => simp [intOf]; omega
    · have : j = ks.length := by omega
      subst this
      go_wp2
      go_ret
      exact ⟨rfl, rfl⟩
theorem qb (w : World) (B : Nat) (a : Option Addr) (cap : Nat) (ks : List Int) (hi : aF w B a cap ks) (hm : ks.length <= 281474976710656) :
    Calls Tryd.prog 46 #[.slice a ks.length cap] w fun e w' => e = .returned (.int .i64 (bQ ks)) /\ w = w' := by
  obtain ⟨h1, h2, h3⟩ := hi
  unfold maxLen at h2
  have H3 : Bx _ := ⟨h3⟩
  clear h3
  have hal := ig ks
  go_enter Tryd.func46, Tryd.ntmps46
  go_wp2
  go_loop [4, 3] (fun i v => ∃ j n : Nat, j <= ks.length + 1 /\ i = .int .i64 j /\ v = .int .i64 n /\ Hid (bQ ks = n + bQ (ks.drop j))) (fun i _ => ks.length + 1 - (intOf i).toNat)
  case atStart => exact ⟨0, 0, by omega, rfl, rfl, by show _ = _; rw [List.drop_zero, Nat.zero_add]⟩
  case round =>
    obtain ⟨j, n, hj, rfl, rfl, H⟩ := hrel
    by_cases hlt : j < ks.length
    · obtain ⟨b, o, rfl, hb, hc⟩ := H3.out (by omega)
      have c := hc j hlt
      have hp := kD ks j hlt
      have HP : Bx _ := ⟨hp⟩
      clear hp hc
      by_cases hq : ks[j] = 1
      · have hq' : (ks[j] == 1) = true := by simpa using hq
        have hn : bQ ks = n + 2 + bQ (ks.drop (j + 2)) := by have := HP.out; rw [if_pos hq] at this; rw [H.out, this]; omega
        have HN : Hid (bQ ks = n + 2 + bQ (ks.drop (j + 2))) := hn
        have hn2 : n + 2 <= ks.length + 1 := by omega
        clear hn
        go_wp2
        go_round
        case rel => exact ⟨j + 2, n + 2, by omega, by go_num, by go_num, HN⟩
        case measure => simp [intOf]; omega
      · have hq' : (ks[j] == 1) = false := by simpa using hq
        have hn : bQ ks = n + 1 + bQ (ks.drop (j + 2)) := by have := HP.out; rw [if_neg hq] at this; rw [H.out, this]; omega
        have HN : Hid (bQ ks = n + 1 + bQ (ks.drop (j + 2))) := hn
        have hn2 : n + 1 <= ks.length + 1 := by omega
        clear hn
        go_wp2
        go_round
        case rel => exact ⟨j + 2, n + 1, by omega, by go_num, by go_num, HN⟩
        case measure => simp [intOf]; omega
    · go_wp2
      go_ret
      exact ⟨dK (by rw [H.out, List.drop_eq_nil_of_le (by omega)]; rfl), rfl⟩
abbrev aR (i : CIn) (a : Option Addr) (cap : Nat) : Value := .agg #[.int .i64 i.op, .int .i64 i.a, .int .i64 i.b, .slice a i.list.length cap]
def cZ (i : CIn) : Int :=
  if i.op = 10 ∨ i.op = 11 ∨ i.op = 23 ∨ i.op = 24 then max i.a 0
  else if i.op = 22 then max i.b 0
  else if i.op = 16 then gF i.list
  else if i.op = 27 then bQ i.list
  else 0
def ax (i : CIn) : Int := if 9223372036854775807 - (aX i.op).2.2.1 < cZ i then 9223372036854775807 else (aX i.op).2.2.1 + cZ i
def au (i : CIn) : Int := if i.op = 23 /\ i.b = 1 then 1 else (aX i.op).2.2.2
theorem lK (w : World) (B : Nat) (i : CIn) (a : Option Addr) (cap : Nat) (hw : i.Wf) (hi : aF w B a cap i.list) (hm : i.list.length <= 281474976710656) (hB : B <= w.heap.size) :
    Calls Tryd.prog 29 #[aR i a cap] w fun e w' => e = .returned (.int .i64 (cZ i)) /\ Below w.heap.size w w' := by
  obtain ⟨op, x, y, l⟩ := i
  obtain ⟨⟨o1, o2⟩, ⟨x1, x2⟩, ⟨y1, y2⟩, _⟩ := hw
  simp only [] at *
  have hb := ak w (.cells #[.int .i64 op, .int .i64 x, .int .i64 y, .slice a l.length cap] 43)
  have hi' : aF (w.alloc (.cells #[.int .i64 op, .int .i64 x, .int .i64 y, .slice a l.length cap] 43)) B a cap l := hi.below (hb.mono hB)
  have HP := qa _ B a cap l hi'
  have HA := qb _ B a cap l hi' hm
  have HB : Bx _ := ⟨hb⟩
  clear hi hi' hb
  unfold cZ
  simp only []
  by_cases h1 : op = 10 ∨ op = 11 ∨ op = 23 ∨ op = 24
  · rw [if_pos h1]
    rcases h1 with rfl | rfl | rfl | rfl <;>
      (go_enter Tryd.func29, Tryd.ntmps29
       go_wp2 <;> (go_ret; exact ⟨dK (by omega), HB.out⟩))
  · rw [if_neg h1]
    rw [not_or, not_or, not_or] at h1
    obtain ⟨n1, n2, n3, n4⟩ := h1
    have b1 : (op == 10) = false := by simpa using n1
    have b2 : (op == 11) = false := by simpa using n2
    have b3 : (op == 23) = false := by simpa using n3
    have b4 : (op == 24) = false := by simpa using n4
    by_cases h2 : op = 22
    · rw [if_pos h2]
      subst h2
      go_enter Tryd.func29, Tryd.ntmps29
      go_wp2 <;> (go_ret; exact ⟨dK (by omega), HB.out⟩)
    · rw [if_neg h2]
      have b5 : (op == 22) = false := by simpa using h2
      by_cases h3 : op = 16
      · rw [if_pos h3]
        subst h3
        go_enter Tryd.func29, Tryd.ntmps29
        go_wp2_with (go_at_call 45; refine HP.mono ?_; rintro e w' ⟨rfl, rfl⟩)
        go_ret
        exact ⟨rfl, HB.out⟩
      · rw [if_neg h3]
        have b6 : (op == 16) = false := by simpa using h3
        by_cases h4 : op = 27
        · rw [if_pos h4]
          subst h4
          go_enter Tryd.func29, Tryd.ntmps29
          go_wp2_with (go_at_call 46; refine HA.mono ?_; rintro e w' ⟨rfl, rfl⟩)
          go_ret
          exact ⟨rfl, HB.out⟩
        · rw [if_neg h4]
          have b7 : (op == 27) = false := by simpa using h4
          go_enter Tryd.func29, Tryd.ntmps29
          go_wp2
          go_ret
          exact ⟨rfl, HB.out⟩
theorem yY {i : CIn} (hw : i.Wf) (hm : i.list.length <= 281474976710656) : 0 <= cZ i /\ cZ i <= 9223372036854775807 := by
  obtain ⟨_, ⟨a1, a2⟩, ⟨b1, b2⟩, _⟩ := hw
  have p1 := iW i.list
  have p2 := ig i.list
  unfold cZ
  split
  · omega
  · split
    · omega
    · split
      · omega
      · split <;> omega
theorem nX (op : Int) : 0 <= (aX op).2.2.1 /\ (aX op).2.2.1 <= 2 /\ 0 <= (aX op).2.2.2 /\ (aX op).2.2.2 <= 1 /\ 0 <= (aX op).2.1 /\ (aX op).2.1 <= 7 := by
  have key : ∀ k, k < 28 -> 0 <= (aS.getD k aT).2.2.1 /\ (aS.getD k aT).2.2.1 <= 2 /\ 0 <= (aS.getD k aT).2.2.2 /\ (aS.getD k aT).2.2.2 <= 1 /\ 0 <= (aS.getD k aT).2.1 /\ (aS.getD k aT).2.1 <= 7 := by decide
  unfold aX
  split
  · decide
  · exact key _ (by omega)
theorem nY (w : World) (B : Nat) (i : CIn) (a : Option Addr) (cap : Nat) (hs : Shp w) (hw : i.Wf) (hi : aF w B a cap i.list) (hm : i.list.length <= 281474976710656) (hB : B <= w.heap.size) :
    Calls Tryd.prog 16 #[aR i a cap] w fun e w' => e = .returned (.int .i64 (ax i)) /\ Below w.heap.size w w' := by
  have hb := ak w (.cells #[.int .i64 i.op, .int .i64 i.a, .int .i64 i.b, .slice a i.list.length cap] 43)
  have HS := jL i.op (w.alloc (.cells #[.int .i64 i.op, .int .i64 i.a, .int .i64 i.b, .slice a i.list.length cap] 43)) (hs.below hb) hw.op
  have HT : ∀ w', Below w.heap.size w w' -> Calls Tryd.prog 29 #[aR i a cap] w' fun e w2 => e = .returned (.int .i64 (cZ i)) /\ Below w.heap.size w w2 := fun w' h' => (lK w' B i a cap hw (hi.below (h'.mono hB)) hm (Nat.le_trans hB h'.size)).mono fun e w2 h => ⟨h.1, h'.trans (h.2.mono h'.size)⟩
  have HHT : Bx _ := ⟨HT⟩
  have hm' := yY hw hm
  have hsm := nX i.op
  unfold ax
  generalize aX i.op = s at *
  generalize cZ i = m at *
  unfold mI at HS
  have f2 := fun W => AQ W (jR s.1) (.int .i64 s.2.1) (.int .i64 s.2.2.1) (.int .i64 s.2.2.2)
  obtain ⟨op, x, y, l⟩ := i
  obtain ⟨nm, hs1, tk, ly⟩ := s
  simp only [] at *
  have HB : Bx _ := ⟨hb⟩
  obtain ⟨m1, m2⟩ := hm'
  obtain ⟨t1, t2, _⟩ := hsm
  clear hs hw hi hm hB HT hb
  go_enter Tryd.func16, Tryd.ntmps16
  go_wp2_with (first
    | (go_at_call 28; refine HS.mono ?_; rintro e w1 ⟨rfl, hb1⟩
       have hb2 : Below w.heap.size w w1 := HB.out.trans (hb1.mono (by simp))
       have hq : w.heap.size < w1.heap.size := by have := hb1.size; simp at this; omega
       have q0 : ∀ j v, (w.alloc (.cells #[.int .i64 op, .int .i64 x, .int .i64 y, .slice a l.length cap] 43)).cell? ⟨w.heap.size, j, none⟩ = some v -> w1.cell? ⟨w.heap.size, j, none⟩ = some v := fun j v h => by rw [hb1.cell (p := ⟨w.heap.size, j, none⟩) (by simp)]; exact h
       have g0 := q0 0 (.int .i64 op) (by simp [go_sem])
       have g1 := q0 1 (.int .i64 x) (by simp [go_sem])
       have g2 := q0 2 (.int .i64 y) (by simp [go_sem])
       have g3 := q0 3 (.slice a l.length cap) (by simp [go_sem])
       have HB2 : Bx _ := ⟨hb2⟩
       clear q0 hb1 hb2)
    | (go_at_call 29; refine (HHT.out _ HB2.out).mono ?_; rintro e w2 ⟨rfl, hb3⟩))
  all_goals go_ret
  all_goals exact ⟨dK (by first | rfl | omega | (split <;> omega)), hb3⟩
theorem kE (w : World) (i : CIn) (a : Option Addr) (cap : Nat) (hs : Shp w) (hw : i.Wf) :
    Calls Tryd.prog 30 #[aR i a cap] w fun e w' => e = .returned (.int .i64 (au i)) /\ Below w.heap.size w w' := by
  have hb := ak w (.cells #[.int .i64 i.op, .int .i64 i.a, .int .i64 i.b, .slice a i.list.length cap] 43)
  have HS := jL i.op (w.alloc (.cells #[.int .i64 i.op, .int .i64 i.a, .int .i64 i.b, .slice a i.list.length cap] 43)) (hs.below hb) hw.op
  unfold au
  generalize aX i.op = s at *
  unfold mI at HS
  have f3 := fun W => AU W (jR s.1) (.int .i64 s.2.1) (.int .i64 s.2.2.1) (.int .i64 s.2.2.2)
  obtain ⟨op, x, y, l⟩ := i
  obtain ⟨nm, hs1, tk, ly⟩ := s
  simp only [] at *
  have HB : Bx _ := ⟨hb⟩
  clear hs hb
  by_cases h1 : op = 23
  · subst h1
    by_cases h2 : y = 1
    · subst h2
      rw [if_pos ⟨rfl, rfl⟩]
      go_enter Tryd.func30, Tryd.ntmps30
      go_wp2
      go_ret
      exact ⟨rfl, HB.out⟩
    · rw [if_neg (fun h => h2 h.2)]
      have b2 : (y == 1) = false := by simpa using h2
      go_enter Tryd.func30, Tryd.ntmps30
      go_wp2_with (go_at_call 28; refine HS.mono ?_; rintro e w1 ⟨rfl, hb1⟩)
      go_ret
      exact ⟨rfl, HB.out.trans (hb1.mono (by simp))⟩
  · rw [if_neg (fun h => h1 h.1)]
    have b1 : (op == 23) = false := by simpa using h1
    go_enter Tryd.func30, Tryd.ntmps30
    go_wp2_with (go_at_call 28; refine HS.mono ?_; rintro e w1 ⟨rfl, hb1⟩)
    go_ret
    exact ⟨rfl, HB.out.trans (hb1.mono (by simp))⟩
theorem aG {b c : Bool} (h : b = c) : Ending.returned (.bool b) = .returned (.bool c) := by rw [h]
def dbT : List Int := [0, 1, 56, 2, 57, 49, 28, 3, 61, 58, 42, 50, 38, 29, 17, 4, 62, 47, 59, 36, 45, 43, 51, 22, 53, 39, 33, 30, 24, 18, 12, 5, 63, 55, 48, 27, 60, 41, 37, 16, 46, 35, 44, 21, 52, 32, 23, 11, 54, 26, 40, 15, 34, 20, 31, 10, 25, 14, 19, 9, 13, 8, 7, 6]
def vsT : List (Int × Int × Int) := [(0, 0, 0), (1, 0, 0), (2, 0, 0), (5, 0, 0), (12, 0, 0), (12, 0, 0), (12, 0, 0), (13, 0, 0), (0, 0, 0), (0, 0, 0), (4, 0, 0), (3, 0, 0), (0, 0, 0), (0, 0, 0), (0, 0, 0), (3, 0, 0), (12, 0, 10), (6, 0, 0), (7, 0, 0), (14, 0, 0), (14, 0, 0), (15, 0, 0), (8, 9, 0), (3, 2, 0), (3, 0, 0), (0, 0, 0), (0, 0, 0), (0, 0, 11)]
structure VW (w : World) : Prop where
 shp : Shp w
 db : ∀ k, k < 64 -> w.cell? ⟨2, k, none⟩ = some (.int .u8 (dbT.getD k 0))
 v0 : ∀ k, k < 28 -> w.cell? ⟨1, k * 3, none⟩ = some (.int .i64 (vsT.getD k (0, 0, 0)).1)
 v1 : ∀ k, k < 28 -> w.cell? ⟨1, k * 3 + 1, none⟩ = some (.int .i64 (vsT.getD k (0, 0, 0)).2.1)
 v2 : ∀ k, k < 28 -> w.cell? ⟨1, k * 3 + 2, none⟩ = some (.int .i64 (vsT.getD k (0, 0, 0)).2.2)
 ltd : 2 < w.heap.size
 ltv : 1 < w.heap.size
theorem VW.below {w w' : World} (h : VW w) (hb : Below w.heap.size w w') : VW w' := by
 have hc : ∀ i, w'.cell? ⟨2, i, none⟩ = w.cell? ⟨2, i, none⟩ := fun i => hb.cell (p := ⟨2, i, none⟩) h.ltd
 have hv : ∀ i, w'.cell? ⟨1, i, none⟩ = w.cell? ⟨1, i, none⟩ := fun i => hb.cell (p := ⟨1, i, none⟩) h.ltv
 exact ⟨h.shp.below hb, fun k hk => by rw [hc]; exact h.db k hk, fun k hk => by rw [hv]; exact h.v0 k hk, fun k hk => by rw [hv]; exact h.v1 k hk, fun k hk => by rw [hv]; exact h.v2 k hk, Nat.lt_of_lt_of_le h.ltd hb.size, Nat.lt_of_lt_of_le h.ltv hb.size⟩
structure Fx (P : Nat -> Prop) (w w' : World) : Prop where
 os : w'.os = w.os
 tape : w'.tape = w.tape
 output : w'.output = w.output
 size : w.heap.size <= w'.heap.size
 block : ∀ k, k < w.heap.size -> ¬ P k -> w'.heap[k]? = w.heap[k]?
theorem Fx.refl (P : Nat -> Prop) (w : World) : Fx P w w := ⟨rfl, rfl, rfl, Nat.le_refl _, fun _ _ _ => rfl⟩
theorem Fx.trans {P : Nat -> Prop} {a b c : World} (h : Fx P a b) (k : Fx P b c) : Fx P a c :=
 ⟨k.os.trans h.os, k.tape.trans h.tape, k.output.trans h.output, Nat.le_trans h.size k.size, fun i hi hp => (k.block i (Nat.lt_of_lt_of_le hi h.size) hp).trans (h.block i hi hp)⟩
theorem Fx.of {P : Nat -> Prop} {a b : World} (h : Below a.heap.size a b) : Fx P a b := ⟨h.os, h.tape, h.output, h.size, fun k hk _ => h.block k hk⟩
theorem Fx.alloc {P : Nat -> Prop} {a b : World} (h : Fx P a b) (o : Obj) : Fx P a (b.alloc o) := h.trans (Fx.of (ak b o))
theorem Fx.drew {P : Nat -> Prop} {a b : World} (h : Fx P a b) : Fx P a b.drew := ⟨h.os, h.tape, h.output, h.size, h.block⟩
theorem Fx.drewN {P : Nat -> Prop} {a b : World} (h : Fx P a b) (n : Nat) : Fx P a (b.drewN n) := ⟨h.os, h.tape, h.output, h.size, h.block⟩
theorem Fx.set {P : Nat -> Prop} {a b : World} (h : Fx P a b) {p : Addr} (hp : P p.block ∨ a.heap.size <= p.block) (u : Value) : Fx P a (b.setCell p u) :=
 ⟨h.os, h.tape, h.output, by simpa [World.setCell] using h.size, fun k hk hn => (Below.heap_setCell b p u k (fun e => by subst e; rcases hp with hp | hp; exact hn hp; omega)).trans (h.block k hk hn)⟩
theorem Fx.mono {P Q : Nat -> Prop} {a b : World} (h : Fx P a b) (hpq : ∀ k, k < a.heap.size -> P k -> Q k) : Fx Q a b := ⟨h.os, h.tape, h.output, h.size, fun k hk hn => h.block k hk (fun hp => hn (hpq k hk hp))⟩
theorem Fx.bel {P : Nat -> Prop} {a b : World} {B : Nat} (h : Fx P a b) (hB : B <= a.heap.size) (hp : ∀ k, k < B -> ¬ P k) : Below B a b := ⟨h.os, h.tape, h.output, h.size, fun k hk => h.block k (Nat.lt_of_lt_of_le hk hB) (hp k hk)⟩
theorem AV (n : Nat) (hn : n < 3) (w : World) (hV : VW w) : Calls Tryd.prog 63 #[.int .u64 ((2 ^ n : Nat) : Int)] w fun e w' => e = .returned (.int .i64 n) /\ w = w' := by
 have d0 := hV.db 0 (by omega)
 have d1 := hV.db 1 (by omega)
 have d2 := hV.db 3 (by omega)
 simp [dbT] at d0 d1 d2
 rcases (show n = 0 ∨ n = 1 ∨ n = 2 by omega) with rfl | rfl | rfl
 ·have h1 : IntKind.u64.wrap (-1) = 18446744073709551615 := by kernel_rfl
  have h2 : bits BinOp.and IntKind.u64 1 18446744073709551615 = 1 := by kernel_rfl
  have h3 : IntKind.u64.wrap (1 * 285870213051353865) = 285870213051353865 := by kernel_rfl
  have h3' : IntKind.u64.wrap (285870213051353865) = 285870213051353865 := by kernel_rfl
  have h3'' : IntKind.u64.wrap (285870213051353865) = 285870213051353865 := by kernel_rfl
  go_enter Tryd.func63, Tryd.ntmps63
  go_wp2
  go_ret
  exact ⟨rfl, rfl⟩
 ·have h1 : IntKind.u64.wrap (-2) = 18446744073709551614 := by kernel_rfl
  have h2 : bits BinOp.and IntKind.u64 2 18446744073709551614 = 2 := by kernel_rfl
  have h3 : IntKind.u64.wrap (2 * 285870213051353865) = 571740426102707730 := by kernel_rfl
  have h3' : IntKind.u64.wrap (285870213051353865) = 285870213051353865 := by kernel_rfl
  have h3'' : IntKind.u64.wrap (571740426102707730) = 571740426102707730 := by kernel_rfl
  go_enter Tryd.func63, Tryd.ntmps63
  go_wp2
  go_ret
  exact ⟨rfl, rfl⟩
 ·have h1 : IntKind.u64.wrap (-4) = 18446744073709551612 := by kernel_rfl
  have h2 : bits BinOp.and IntKind.u64 4 18446744073709551612 = 4 := by kernel_rfl
  have h3 : IntKind.u64.wrap (4 * 285870213051353865) = 1143480852205415460 := by kernel_rfl
  have h3' : IntKind.u64.wrap (285870213051353865) = 285870213051353865 := by kernel_rfl
  have h3'' : IntKind.u64.wrap (1143480852205415460) = 1143480852205415460 := by kernel_rfl
  go_enter Tryd.func63, Tryd.ntmps63
  go_wp2
  go_ret
  exact ⟨rfl, rfl⟩
end Go.Proofs.YtadmpgegolmkgaaDoor
namespace Go.Proofs.YtadmpgegolmkgaaDoor
def iM (f : Nat -> Bool) : Nat -> Nat
 | 0 => 0
 | m + 1 => if f m then iM f m ||| 2 ^ m else iM f m
theorem nZ (f : Nat -> Bool) : ∀ m, iM f m < 2 ^ m
 | 0 => by simp [iM]
 | m + 1 => by
  have h := nZ f m
  have h2 : iM f m < 2 ^ (m + 1) := Nat.lt_of_lt_of_le h (Nat.pow_le_pow_right (by decide) (by omega))
  rw [iM]
  split
  ·exact Nat.or_lt_two_pow h2 (Nat.pow_lt_pow_right (by decide) (by omega))
  ·exact h2
theorem iN (f : Nat -> Bool) (k : Nat) : ∀ m, (iM f m).testBit k = (decide (k < m) && f k)
 | 0 => by simp [iM]
 | m + 1 => by
  have ih := iN f k m
  rw [iM]
  by_cases e : k = m
  ·subst e
   cases h : f k with
   | true => simp [Nat.testBit_or, Nat.testBit_two_pow, ih]
   | false => simp [ih]
  ·have e2 : (decide (k < m + 1)) = decide (k < m) := by
    by_cases h : k < m
    ·rw [decide_eq_true h, decide_eq_true (by omega)]
    ·rw [decide_eq_false h, decide_eq_false (by omega)]
   rw [e2]
   split
   ·rw [Nat.testBit_or, ih, Nat.testBit_two_pow]
    have : decide (m = k) = false := decide_eq_false (by omega)
    rw [this, Bool.or_false]
   ·exact ih
def word (f : Nat -> Bool) : Nat := iM f 64
theorem word_lt (f : Nat -> Bool) : word f < 18446744073709551616 := nZ f 64
theorem dQ (f : Nat -> Bool) (k : Nat) : (word f).testBit k = (decide (k < 64) && f k) := iN f k 64
theorem iX {f : Nat -> Bool} {x : Nat} (hx : x < 18446744073709551616) (h : ∀ k, k < 64 -> x.testBit k = f k) : x = word f := by
 refine Nat.eq_of_testBit_eq fun k => ?_
 rw [dQ]
 by_cases hk : k < 64
 ·rw [decide_eq_true hk, Bool.true_and, h k hk]
 ·rw [decide_eq_false hk, Bool.false_and]
  exact Nat.testBit_lt_two_pow (Nat.lt_of_lt_of_le (show x < 2 ^ 64 from hx) (Nat.pow_le_pow_right (by decide) (by omega)))
theorem kF {f g : Nat -> Bool} (h : ∀ k, k < 64 -> f k = g k) : word f = word g := iX (word_lt f) fun k hk => by rw [dQ, decide_eq_true hk, Bool.true_and, h k hk]
theorem sU {f : Nat -> Bool} : word f = 0 ↔ ∀ k, k < 64 -> f k = false := by
 constructor
 ·intro h k hk
  have := dQ f k
  rw [h, decide_eq_true hk] at this
  simpa using this.symm
 ·intro h
  refine (iX (by decide) fun k hk => ?_).symm
  rw [h k hk, Nat.zero_testBit]
theorem yZ {f g : Nat -> Bool} {b : Nat} (hb : b < 64) (h : ∀ k, k < 64 -> g k = (f k || k == b)) : word f ||| 2 ^ b = word g := by
 refine iX (Nat.or_lt_two_pow (word_lt f) (Nat.pow_lt_pow_right (by decide) hb)) fun k hk => ?_
 rw [Nat.testBit_or, dQ, decide_eq_true hk, Bool.true_and, Nat.testBit_two_pow, h k hk]
 congr 1
 by_cases e : b = k
 ·subst e; simp
 ·rw [decide_eq_false e]; symm; simp; omega
theorem sW {f : Nat -> Bool} (h : word f ≠ 0) : Lib.ctz 64 (word f) < 64 /\ f (Lib.ctz 64 (word f)) = true /\ ∀ k, k < Lib.ctz 64 (word f) -> f k = false := by
 obtain ⟨m, hm, hk⟩ := Lib.ctzFrom_spec 64 (word f) (by omega) (word_lt f)
 have e : Lib.ctz 64 (word f) = Lib.ctzFrom 64 (word f) := by unfold Lib.ctz; rw [if_neg h]
 rw [e]
 generalize Lib.ctzFrom 64 (word f) = c at *
 have hbit : ∀ k, k < 64 -> (word f).testBit k = f k := fun k hk => by rw [dQ, decide_eq_true hk, Bool.true_and]
 refine ⟨hk, ?_, fun k hkc => ?_⟩
 ·rw [← hbit c hk, hm, Nat.mul_comm, Nat.testBit_mul_two_pow]
  simp [Nat.testBit_zero]
 ·rw [← hbit k (by omega), hm, Nat.mul_comm, Nat.testBit_mul_two_pow]
  simp; omega
open Classical in
noncomputable def up (D : Nat -> Bool) (l j : Nat) : Bool := decide (∃ i, i / 64 ^ l = j /\ D i = true)
theorem eU {D : Nat -> Bool} {l j : Nat} : up D l j = true ↔ ∃ i, i / 64 ^ l = j /\ D i = true := by unfold up; simp
theorem mJ (D : Nat -> Bool) : up D 0 = D := by
 funext j
 have : up D 0 j = true ↔ D j = true := by
  rw [eU]
  constructor
  ·rintro ⟨i, h1, h2⟩; rw [Nat.pow_zero, Nat.div_one] at h1; rw [← h1]; exact h2
  ·intro h; exact ⟨j, by simp, h⟩
 exact Bool.eq_iff_iff.2 this
theorem up_add (D : Nat -> Bool) (l m : Nat) : up D (l + m) = up (up D l) m := by
 funext j
 refine Bool.eq_iff_iff.2 ?_
 rw [eU, eU]
 constructor
 ·rintro ⟨i, h1, h2⟩
  exact ⟨i / 64 ^ l, by rw [Nat.div_div_eq_div_mul, ← Nat.pow_add]; exact h1, eU.2 ⟨i, rfl, h2⟩⟩
 ·rintro ⟨k, h1, h2⟩
  obtain ⟨i, h3, h4⟩ := eU.1 h2
  exact ⟨i, by rw [Nat.pow_add, ← Nat.div_div_eq_div_mul, h3]; exact h1, h4⟩
theorem iG {D : Nat -> Bool} {l j : Nat} : up D (l + 1) j = true ↔ ∃ i, i / 64 = j /\ up D l i = true := by
 rw [up_add, eU, Nat.pow_one]
noncomputable def wd (D : Nat -> Bool) (l j : Nat) : Nat := word fun k => up D l (64 * j + k)
theorem iY {D : Nat -> Bool} {l j : Nat} : wd D l j = 0 ↔ up D (l + 1) j = false := by
 unfold wd
 rw [sU, ← Bool.not_eq_true, iG]
 constructor
 ·rintro h ⟨i, h1, h2⟩
  have := h (i % 64) (Nat.mod_lt _ (by decide))
  rw [← h1, Nat.div_add_mod, h2] at this
  cases this
 ·intro h k hk
  cases hu : up D l (64 * j + k) with
  | false => rfl
  | true => exact absurd ⟨64 * j + k, by omega, hu⟩ h
def ins (n : Nat) (D : Nat -> Bool) : Nat -> Bool := fun i => D i || i == n
def del (n : Nat) (D : Nat -> Bool) : Nat -> Bool := fun i => D i && i != n
theorem AX (n : Nat) (D : Nat -> Bool) (l : Nat) : up (ins n D) l = ins (n / 64 ^ l) (up D l) := by
 funext j
 refine Bool.eq_iff_iff.2 ?_
 unfold ins
 rw [eU, Bool.or_eq_true, eU]
 constructor
 ·rintro ⟨i, h1, h2⟩
  rw [Bool.or_eq_true] at h2
  rcases h2 with h2 | h2
  ·exact .inl ⟨i, h1, h2⟩
  ·have : i = n := by simpa using h2
   subst this
   exact .inr (by simp [h1])
 ·rintro (⟨i, h1, h2⟩ | h)
  ·exact ⟨i, h1, by rw [h2]; rfl⟩
  ·have : j = n / 64 ^ l := by simpa using h
   exact ⟨n, this.symm, by simp⟩
theorem vG {n : Nat} {D : Nat -> Bool} {l : Nat} {m : Nat} (hm : m = n / 64 ^ l) (j : Nat) : wd (ins n D) l j = if j = m / 64 then wd D l j ||| 2 ^ (m % 64) else wd D l j := by
 subst hm
 unfold wd
 rw [AX]
 split
 ·rename_i e
  subst e
  refine (yZ (Nat.mod_lt _ (by decide)) fun k hk => ?_).symm
  unfold ins
  congr 1
  generalize n / 64 ^ l = m
  by_cases e : k = m % 64
  ·subst e; rw [Nat.div_add_mod]; simp
  ·rw [beq_eq_false_iff_ne.2 e, beq_eq_false_iff_ne.2 (by omega)]
 ·rename_i e
  refine kF fun k hk => ?_
  unfold ins
  rw [beq_eq_false_iff_ne.2 (by omega), Bool.or_false]
theorem vH {D E : Nat -> Bool} {l : Nat} {m : Nat} (h : ∀ j, up E l j = (up D l j && j != m)) (j : Nat) : wd E l j = if j = m / 64 then wd D l j &&& (18446744073709551615 - 2 ^ (m % 64)) else wd D l j := by
 unfold wd
 split
 ·rename_i e
  subst e
  have hb : m % 64 < 64 := Nat.mod_lt _ (by decide)
  refine (iX (Nat.lt_of_le_of_lt Nat.and_le_left (word_lt _)) fun k hk => ?_).symm
  rw [Nat.testBit_and, dQ, decide_eq_true hk, Bool.true_and, h]
  congr 1
  have e1 : 18446744073709551615 - 2 ^ (m % 64) = 2 ^ 64 - (2 ^ (m % 64) + 1) := by omega
  rw [e1, Nat.testBit_two_pow_sub_succ (Nat.pow_lt_pow_right (by decide) hb), decide_eq_true hk, Bool.true_and, Nat.testBit_two_pow]
  by_cases e : m % 64 = k
  ·subst e; rw [Nat.div_add_mod]; simp
  ·rw [decide_eq_false e]; symm; simp; omega
 ·rename_i e
  refine kF fun k hk => ?_
  rw [h]
  have : (64 * j + k != m) = true := by simp; omega
  rw [this, Bool.and_true]
theorem vI {D E : Nat -> Bool} {l m : Nat} (h : ∀ j, up E l j = (up D l j && j != m)) : (wd E l (m / 64) ≠ 0 -> up E (l + 1) = up D (l + 1)) /\ (wd E l (m / 64) = 0 -> ∀ j, up E (l + 1) j = (up D (l + 1) j && j != m / 64)) := by
 have oth : ∀ j, j ≠ m / 64 -> (up E (l + 1) j = true ↔ up D (l + 1) j = true) := fun j hj => by
  rw [iG, iG]
  constructor
  ·rintro ⟨i, h1, h2⟩
   rw [h, Bool.and_eq_true] at h2
   exact ⟨i, h1, h2.1⟩
  ·rintro ⟨i, h1, h2⟩
   refine ⟨i, h1, ?_⟩
   rw [h, h2, Bool.true_and]
   simp
   intro e
   subst e
   exact hj h1.symm
 constructor
 ·intro hz
  funext j
  refine Bool.eq_iff_iff.2 ?_
  by_cases hj : j = m / 64
  ·subst hj
   have h1 : up E (l + 1) (m / 64) = true := by
    cases hu : up E (l + 1) (m / 64) with
    | true => rfl
    | false => exact absurd (iY.2 hu) hz
   rw [h1]
   obtain ⟨i, h2, h3⟩ := iG.1 h1
   rw [h, Bool.and_eq_true] at h3
   simp only [true_iff]
   exact iG.2 ⟨i, h2, h3.1⟩
  ·exact oth j hj
 ·intro hz j
  by_cases hj : j = m / 64
  ·subst hj
   rw [iY.1 hz]; simp
  ·have : (j != m / 64) = true := by simpa using hj
   rw [this, Bool.and_true]
   exact Bool.eq_iff_iff.2 (oth j hj)
def gu (D : Nat -> Bool) (n : Nat) : Prop := D n = true /\ ∀ m, m < n -> D m = false
theorem tq {D : Nat -> Bool} {n m : Nat} (h : gu D n) (h' : gu D m) : n = m := by
 rcases Nat.lt_trichotomy n m with q | q | q
 ·have := h'.2 n q; rw [h.1] at this; cases this
 ·exact q
 ·have := h.2 m q; rw [h'.1] at this; cases this
theorem qc {D : Nat -> Bool} {l n : Nat} (h : gu (up D (l + 1)) n) : wd D l n ≠ 0 /\ Lib.ctz 64 (wd D l n) < 64 /\ gu (up D l) (n * 64 + Lib.ctz 64 (wd D l n)) := by
 have hz : wd D l n ≠ 0 := fun e => by rw [iY, h.1] at e; cases e
 obtain ⟨h1, h2, h3⟩ := sW (f := fun k => up D l (64 * n + k)) hz
 have e : word (fun k => up D l (64 * n + k)) = wd D l n := rfl
 rw [e] at h1 h2 h3
 refine ⟨hz, h1, ⟨by rw [Nat.mul_comm]; exact h2, fun m hm => ?_⟩⟩
 cases hu : up D l m with
 | false => rfl
 | true =>
  have h4 : up D (l + 1) (m / 64) = true := iG.2 ⟨m, rfl, hu⟩
  rcases Nat.lt_trichotomy (m / 64) n with q | q | q
  ·rw [h.2 _ q] at h4; cases h4
  ·have h5 := h3 (m % 64) (by omega)
   rw [← q, Nat.div_add_mod, hu] at h5
   cases h5
  ·omega
def szW (many : Nat) : Nat -> Nat
 | 0 => (many + 63) / 64
 | l + 1 => (szW many l + 63) / 64
theorem kG {many : Nat} : ∀ {l i : Nat}, i < many -> i / 64 ^ l / 64 < szW many l
 | 0, i, h => by rw [Nat.pow_zero, Nat.div_one]; unfold szW; omega
 | l + 1, i, h => by
  have := kG (l := l) h
  rw [Nat.pow_succ, ← Nat.div_div_eq_div_mul]
  unfold szW
  omega
theorem jA {many : Nat} : ∀ l, szW many l <= many
 | 0 => by unfold szW; omega
 | l + 1 => by have := jA (many := many) l; unfold szW; omega
theorem rD {many : Nat} (h : 0 < many) : ∀ l, 0 < szW many l
 | 0 => by unfold szW; omega
 | l + 1 => by have := rD h l; unfold szW; omega
noncomputable def wrC (D : Nat -> Bool) (l m : Nat) : Array Value := ((List.range m).map fun j => (.int .u64 (wd D l j) : Value)).toArray
theorem gG (D : Nat -> Bool) (l m : Nat) : (wrC D l m).size = m := by simp [wrC]
theorem ik {D : Nat -> Bool} {l m j : Nat} (h : j < m) : (wrC D l m)[j]? = some (.int .u64 (wd D l j)) := by simp [wrC, h]
theorem za {D E : Nat -> Bool} {l m k : Nat} {x : Nat} (hk : k < m) (h1 : wd E l k = x) (h2 : ∀ j, j < m -> j ≠ k -> wd E l j = wd D l j) : (wrC D l m).setIfInBounds k (.int .u64 x) = wrC E l m := by
 apply Array.ext_getElem?
 intro j
 rw [Array.getElem?_setIfInBounds]
 by_cases hj : j < m
 ·rw [ik (D := E) hj]
  by_cases e : k = j
  ·subst e
   rw [if_pos rfl, if_pos (by rw [gG]; exact hk), h1]
  ·rw [if_neg e, ik hj, h2 j hj (fun q => e q.symm)]
 ·rw [Array.getElem?_eq_none (by rw [gG]; omega)]
  split
  ·rw [if_neg (by rw [gG]; omega), Array.getElem?_eq_none (by rw [gG]; omega)]
  ·rw [Array.getElem?_eq_none (by rw [gG]; omega)]
theorem vJ (l m : Nat) : madeCells #[.int .u64 0] m = wrC (fun _ => false) l m := by
 have e : ∀ j, wd (fun _ => false) l j = 0 := fun j => by
  rw [iY]
  cases h : up (fun _ => false) (l + 1) j with
  | false => rfl
  | true => obtain ⟨i, _, q⟩ := eU.1 h; cases q
 apply Array.ext_getElem?
 intro j
 by_cases hj : j < m
 ·rw [ik hj, e]
  simp [madeCells, hj, Nat.mod_one]
 ·rw [Array.getElem?_eq_none (by rw [size_madeCells]; omega), Array.getElem?_eq_none (by rw [gG]; omega)]
end Go.Proofs.YtadmpgegolmkgaaDoor
namespace Go.Proofs.YtadmpgegolmkgaaDoor
open Go.RowKit
structure DuE (w : World) (db dc : Nat) (eb : Nat -> Nat) (L many : Nat) (E : Nat -> Nat -> Bool) : Prop where
 row : ∀ l, l < L -> w.cell? ⟨db, l, none⟩ = some (.slice (some ⟨eb l, 0, none⟩) (szW many l) (szW many l))
 wrd : ∀ l, l < L -> w.heap[eb l]? = some (.cells (wrC (E l) l (szW many l)) 63 (0, 0))
 inj : ∀ l m, l < L -> m < L -> eb l = eb m -> l = m
 ne : ∀ l, l < L -> eb l ≠ db
 cap : L <= dc
 dlt : db < w.heap.size
 hL : L <= 64
 hm : many <= 2147483648
theorem DuE.elt {w : World} {db dc : Nat} {eb : Nat -> Nat} {L many : Nat} {E : Nat -> Nat -> Bool} (h : DuE w db dc eb L many E) {l : Nat} (hl : l < L) : eb l < w.heap.size := (Array.getElem?_eq_some_iff.1 (h.wrd l hl)).1
theorem DuE.congr {w : World} {db dc : Nat} {eb : Nat -> Nat} {L many : Nat} {E E' : Nat -> Nat -> Bool} (h : DuE w db dc eb L many E) (he : ∀ l, l < L -> wrC (E l) l (szW many l) = wrC (E' l) l (szW many l)) : DuE w db dc eb L many E' := ⟨h.row, fun l hl => by rw [← he l hl]; exact h.wrd l hl, h.inj, h.ne, h.cap, h.dlt, h.hL, h.hm⟩
theorem DuE.fx {P : Nat -> Prop} {w w' : World} {db dc : Nat} {eb : Nat -> Nat} {L many : Nat} {E : Nat -> Nat -> Bool} (h : DuE w db dc eb L many E) (hb : Fx P w w') (h1 : ¬ P db) (h2 : ∀ l, l < L -> ¬ P (eb l)) : DuE w' db dc eb L many E :=
 ⟨fun l hl => by rw [World.cell?_of_block (w := w) (hb.block db h.dlt h1)]; exact h.row l hl, fun l hl => (hb.block _ (h.elt hl) (h2 l hl)).trans (h.wrd l hl), h.inj, h.ne, h.cap, Nat.lt_of_lt_of_le h.dlt hb.size, h.hL, h.hm⟩
def mK (eb : Nat -> Nat) (L : Nat) : Nat -> Prop := fun k => ∃ l, l < L /\ k = eb l
theorem DuE.put {w : World} {db dc : Nat} {eb : Nat -> Nat} {L many : Nat} {E : Nat -> Nat -> Bool} (h : DuE w db dc eb L many E) {l k : Nat} (hl : l < L) (hk : k < szW many l) (D' : Nat -> Bool) (x : Nat) (h1 : wd D' l k = x) (h2 : ∀ j, j < szW many l -> j ≠ k -> wd D' l j = wd (E l) l j) (E' : Nat -> Nat -> Bool) (h3 : ∀ m, m < L -> E' m = if m = l then D' else E m) :
  DuE (w.setCell ⟨eb l, k, none⟩ (.int .u64 (x : Int))).drew db dc eb L many E' /\ Fx (mK eb L) w (w.setCell ⟨eb l, k, none⟩ (.int .u64 (x : Int))).drew := by
 have hset : (w.setCell ⟨eb l, k, none⟩ (.int .u64 (x : Int))).heap[eb l]? = some (.cells (wrC D' l (szW many l)) 63 (0, 0)) := by
  have := heap_setCell_same w (eb l) k (wrC (E l) l (szW many l)) 63 (.int .u64 (x : Int)) (h.wrd l hl)
  rw [this, za hk h1 h2]
 have hoth : ∀ y, y ≠ eb l -> (w.setCell ⟨eb l, k, none⟩ (.int .u64 (x : Int))).heap[y]? = w.heap[y]? := fun y hy => Below.heap_setCell w ⟨eb l, k, none⟩ _ y hy
 refine ⟨⟨fun m hm => ?_, fun m hm => ?_, h.inj, h.ne, h.cap, by simpa using h.dlt, h.hL, h.hm⟩, (Fx.set (p := ⟨eb l, k, none⟩) (Fx.refl _ w) (.inl ⟨l, hl, rfl⟩) _).drew⟩
 ·rw [World.cell?_of_block (w := w) (show (w.setCell ⟨eb l, k, none⟩ (.int .u64 (x : Int))).drew.heap[db]? = _ from hoth db (fun e => h.ne l hl e.symm))]
  exact h.row m hm
 ·rw [h3 m hm]
  by_cases e : m = l
  ·subst e
   rw [if_pos rfl]
   exact hset
  ·rw [if_neg e]
   exact (hoth _ (fun q => e (h.inj m l hm hl q))).trans (h.wrd m hm)
theorem kg (b : Nat) (hb : b < 64) : IntKind.u64.wrap ((2 : Int) ^ b) = ((2 ^ b : Nat) : Int) := by
 have h : 2 ^ b < 2 ^ 64 := Nat.pow_lt_pow_right (by decide) hb
 have e : ((2 : Int) ^ b) = ((2 ^ b : Nat) : Int) := by norm_cast
 rw [IntKind.wrap_u64, e]
 exact Int.emod_eq_of_lt (Int.natCast_nonneg _) (Int.ofNat_lt.2 h)
theorem AY (x b : Nat) (hx : x < 18446744073709551616) (hb : b < 64) : bits BinOp.or IntKind.u64 (x : Int) (IntKind.u64.wrap ((2 : Int) ^ b)) = ((x ||| 2 ^ b : Nat) : Int) := by
 rw [kg b hb]
 exact bits_or_u64_nat x _ hx (Nat.pow_lt_pow_right (by decide) hb)
theorem fC (a b : Nat) (ha : a < 18446744073709551616) (hb : b < 18446744073709551616) : bits .andNot .u64 (a : Int) (b : Int) = ((a &&& (18446744073709551615 - b) : Nat) : Int) := by
 have hx : a &&& (18446744073709551615 - b) < 2 ^ 64 := Nat.lt_of_le_of_lt Nat.and_le_left (by omega)
 have h1 : (BitVec.ofInt 64 (a : Int)).toNat = a := by
  rw [BitVec.ofInt_natCast, BitVec.toNat_ofNat]; exact Nat.mod_eq_of_lt (by omega)
 have h2 : (BitVec.ofInt 64 (b : Int)).toNat = b := by
  rw [BitVec.ofInt_natCast, BitVec.toNat_ofNat]; exact Nat.mod_eq_of_lt (by omega)
 show IntKind.u64.wrap ((BitVec.ofInt 64 (a : Int) &&& ~~~BitVec.ofInt 64 (b : Int)).toNat : Int) = _
 rw [BitVec.toNat_and, BitVec.toNat_not, h1, h2, IntKind.wrap_u64]
 have e : (2 : Nat) ^ 64 - 1 - b = 18446744073709551615 - b := rfl
 rw [e]
 omega
theorem qd (x b : Nat) (hx : x < 18446744073709551616) (hb : b < 64) : bits BinOp.andNot IntKind.u64 (x : Int) (IntKind.u64.wrap ((2 : Int) ^ b)) = ((x &&& (18446744073709551615 - 2 ^ b) : Nat) : Int) := by
 rw [kg b hb]
 exact fC x _ hx (Nat.pow_lt_pow_right (by decide) hb)
theorem zb (w : World) (db dc : Nat) (eb : Nat -> Nat) (L many : Nat) (D : Nat -> Bool) (h : DuE w db dc eb L many fun _ => D) (n : Nat) (hn : n < many) :
  Calls Tryd.prog 60 #[.slice (some ⟨db, 0, none⟩) L dc, .int .i64 n] w fun e w' => e = .returned (.tuple #[]) /\ Bx (DuE w' db dc eb L many (fun _ => ins n D) /\ Fx (mK eb L) w w') := by
 have hcap := h.cap
 have hL := h.hL
 have hmn := h.hm
 have H0 : Bx (DuE w db dc eb L many (fun m => if m < 0 then ins n D else D) /\ Fx (mK eb L) w w) := ⟨h, Fx.refl _ _⟩
 clear h
 go_enter Tryd.func60, Tryd.ntmps60
 go_wp2
 go_loopg [1, 8] (L + 1) (fun g v1 v8 wr => ∃ l : Nat, g = L + 1 - l /\ l <= L /\ v8 = .int .i64 l /\ v1 = .int .i64 ((n / 64 ^ l : Nat) : Int) /\ Bx (DuE wr db dc eb L many (fun m => if m < l then ins n D else D) /\ Fx (mK eb L) w wr))
 case atStart => exact ⟨0, by simp, by omega, rfl, by simp, H0⟩
 case round =>
  obtain ⟨l, hg, hl, rfl, rfl, HI⟩ := hrel
  clear H0
  by_cases hlt : l < L
  ·obtain ⟨m, hm⟩ : ∃ m, n / 64 ^ l = m := ⟨_, rfl⟩
   have hmm : m / 64 < szW many l := by rw [← hm]; exact kG hn
   have hml : m <= 2147483648 := by rw [← hm]; exact Nat.le_trans (Nat.div_le_self _ _) (by omega)
   have hsl := jA (many := many) l
   rw [hm]
   have c0 := HI.out.1.row l hlt
   have he := HI.out.1.wrd l hlt
   rw [if_neg (Nat.lt_irrefl l)] at he
   have c1 : wr.cell? ⟨eb l, m / 64, none⟩ = some (.int .u64 (wd D l (m / 64))) := (cell_of_row wr _ _ _ _ _ he).trans (ik hmm)
   have f1 : wr.frozen? ⟨eb l, m / 64, none⟩ = false := by simp [World.frozen?, he]
   have hlI : (l : Int) < (L : Int) := by omega
   have hl0 : (0 : Int) <= (l : Int) := by omega
   clear he
   have hx : wd D l (m / 64) < 18446744073709551616 := word_lt _
   obtain ⟨sz, hsz⟩ : ∃ sz, sz = szW many l := ⟨_, rfl⟩
   obtain ⟨x, hxe⟩ : ∃ x, wd D l (m / 64) = x := ⟨_, rfl⟩
   rw [hxe] at c1 hx
   rw [← hsz] at c0 hmm hsl
   have HSZ : Bx (sz = szW many l) := ⟨hsz⟩
   have HXE : Bx (wd D l (m / 64) = x) := ⟨hxe⟩
   have HM : Bx (n / 64 ^ l = m) := ⟨hm⟩
   clear hsz hxe hm
   go_wp2
   have hor := AY x (m % 64) hx (Nat.mod_lt _ (by decide))
   obtain ⟨y, hy⟩ : ∃ y, x ||| 2 ^ (m % 64) = y := ⟨_, rfl⟩
   have hdv : n / 64 ^ (l + 1) = m / 64 := by rw [Nat.pow_succ, ← Nat.div_div_eq_div_mul, HM.out]
   have HN : Bx _ := ⟨HI.out.1.put (k := m / 64) hlt (by rw [← HSZ.out]; exact hmm) (ins n D) y (by rw [vG HM.out.symm, if_pos rfl, HXE.out]; exact hy) (fun j _ hj => by rw [vG HM.out.symm, if_neg hj, if_neg (Nat.lt_irrefl l)]) (fun k => if k < l + 1 then ins n D else D) (fun k hk => by
    by_cases e : k = l
    ·subst e; rw [if_pos rfl, if_pos (Nat.lt_succ_self _)]
    ·rw [if_neg e]
     by_cases e2 : k < l
     ·rw [if_pos e2, if_pos (by omega)]
     ·rw [if_neg e2, if_neg (by omega)])⟩
   have HF : Bx _ := ⟨HI.out.2⟩
   rw [hy] at hor
   clear hx HI hy
   go_region
   go_wp2
   go_roundg (L + 1 - (l + 1))
   case measure => omega
   case rel => exact ⟨l + 1, rfl, by omega, by simp, by rw [hdv]; simp, ⟨HN.out.1, HF.out.trans HN.out.2⟩⟩
  ·go_wp2
   go_returns
   exact ⟨rfl, ⟨HI.out.1.congr fun k hk => by rw [if_pos (by omega)], HI.out.2⟩⟩
theorem vK (w : World) (db dc : Nat) (eb : Nat -> Nat) (L many : Nat) (D : Nat -> Bool) (h : DuE w db dc eb L many fun _ => D) (n : Nat) (hn : n < many) :
  Calls Tryd.prog 64 #[.slice (some ⟨db, 0, none⟩) L dc, .int .i64 n] w fun e w' => e = .returned (.tuple #[]) /\ Bx (DuE w' db dc eb L many (fun _ => del n D) /\ Fx (mK eb L) w w') := by
 have hcap := h.cap
 have hL := h.hL
 have hmn := h.hm
 have H0 : Bx (DuE w db dc eb L many (fun m => if m < 0 then del n D else D) /\ Fx (mK eb L) w w /\ ∀ j, up (del n D) 0 j = (up D 0 j && j != n / 64 ^ 0)) := ⟨h, Fx.refl _ _, fun j => by rw [mJ, mJ, Nat.pow_zero, Nat.div_one]; rfl⟩
 clear h
 go_enter Tryd.func64, Tryd.ntmps64
 go_wp2
 go_loopg [1, 8] (L + 1) (fun g v1 v8 wr => ∃ l : Nat, g = L + 1 - l /\ l <= L /\ v8 = .int .i64 l /\ v1 = .int .i64 ((n / 64 ^ l : Nat) : Int) /\ Bx (DuE wr db dc eb L many (fun m => if m < l then del n D else D) /\ Fx (mK eb L) w wr /\ ∀ j, up (del n D) l j = (up D l j && j != n / 64 ^ l)))
 case atStart => exact ⟨0, by simp, by omega, rfl, by simp, H0⟩
 case round =>
  obtain ⟨l, hg, hl, rfl, rfl, HI⟩ := hrel
  clear H0
  by_cases hlt : l < L
  ·obtain ⟨m, hm⟩ : ∃ m, n / 64 ^ l = m := ⟨_, rfl⟩
   have hmm : m / 64 < szW many l := by rw [← hm]; exact kG hn
   have hml : m <= 2147483648 := by rw [← hm]; exact Nat.le_trans (Nat.div_le_self _ _) (by omega)
   have hsl := jA (many := many) l
   rw [hm]
   have c0 := HI.out.1.row l hlt
   have he := HI.out.1.wrd l hlt
   rw [if_neg (Nat.lt_irrefl l)] at he
   have c1 : wr.cell? ⟨eb l, m / 64, none⟩ = some (.int .u64 (wd D l (m / 64))) := (cell_of_row wr _ _ _ _ _ he).trans (ik hmm)
   have f1 : wr.frozen? ⟨eb l, m / 64, none⟩ = false := by simp [World.frozen?, he]
   have hlI : (l : Int) < (L : Int) := by omega
   have hl0 : (0 : Int) <= (l : Int) := by omega
   clear he
   have hx : wd D l (m / 64) < 18446744073709551616 := word_lt _
   obtain ⟨sz, hsz⟩ : ∃ sz, sz = szW many l := ⟨_, rfl⟩
   obtain ⟨x, hxe⟩ : ∃ x, wd D l (m / 64) = x := ⟨_, rfl⟩
   rw [hxe] at c1 hx
   rw [← hsz] at c0 hmm hsl
   have HSZ : Bx (sz = szW many l) := ⟨hsz⟩
   have HXE : Bx (wd D l (m / 64) = x) := ⟨hxe⟩
   have HM : Bx (n / 64 ^ l = m) := ⟨hm⟩
   have hup := HI.out.2.2
   rw [hm] at hup
   clear hsz hxe hm
   have hor := qd x (m % 64) hx (Nat.mod_lt _ (by decide))
   obtain ⟨y, hy⟩ : ∃ y, x &&& (18446744073709551615 - 2 ^ (m % 64)) = y := ⟨_, rfl⟩
   have hdv : n / 64 ^ (l + 1) = m / 64 := by rw [Nat.pow_succ, ← Nat.div_div_eq_div_mul, HM.out]
   have hyd : wd (del n D) l (m / 64) = y := by rw [vH hup, if_pos rfl, HXE.out]; exact hy
   have HP := HI.out.1.put (k := m / 64) hlt (by rw [← HSZ.out]; exact hmm) (del n D) y hyd (fun j _ hj => by rw [vH hup, if_neg hj, if_neg (Nat.lt_irrefl l)]) (fun k => if k < l + 1 then del n D else D) (fun k hk => by
    by_cases e : k = l
    ·subst e; rw [if_pos rfl, if_pos (Nat.lt_succ_self _)]
    ·rw [if_neg e]
     by_cases e2 : k < l
     ·rw [if_pos e2, if_pos (by omega)]
     ·rw [if_neg e2, if_neg (by omega)])
   have c2 : ((wr.setCell ⟨eb l, m / 64, none⟩ (.int .u64 (y : Int))).drew).cell? ⟨eb l, m / 64, none⟩ = some (.int .u64 (y : Int)) := by
    have he := HP.1.wrd l hlt
    rw [if_pos (Nat.lt_succ_self _)] at he
    rw [cell_of_row _ _ _ _ _ _ he, ik (by rw [← HSZ.out]; exact hmm), hyd]
   have HN : Bx _ := ⟨HP⟩
   have HF : Bx _ := ⟨HI.out.2.1⟩
   rw [hy] at hor
   have hnx := vI hup
   rw [hyd] at hnx
   have HNX : Bx _ := ⟨hnx⟩
   clear hx HI hy hyd HP hup hnx
   go_wp2
   by_cases hy0 : y = 0
   ·subst hy0
    go_region
    go_wp2
    go_roundg (L + 1 - (l + 1))
    case measure => omega
    case rel => exact ⟨l + 1, rfl, by omega, by simp, by rw [hdv]; simp, ⟨HN.out.1, HF.out.trans HN.out.2, by rw [hdv]; exact HNX.out.2 (by first | rfl | trivial)⟩⟩
   ·have hyI : ((y : Int) != 0) = true := by simp; omega
    have hyI2 : ((y : Int) == 0) = false := by simp; omega
    go_region
    go_wp2
    go_returns
    refine ⟨rfl, ⟨HN.out.1.congr fun k hk => ?_, HF.out.trans HN.out.2⟩⟩
    by_cases e : k < l + 1
    ·rw [if_pos e]
    ·rw [if_neg e]
     have hu : up (del n D) k = up D k := by
      obtain ⟨j, rfl⟩ : ∃ j, k = (l + 1) + j := ⟨k - (l + 1), by omega⟩
      rw [up_add (del n D), up_add D, HNX.out.1 hy0]
     unfold wrC wd
     rw [hu]
  ·go_wp2
   go_returns
   exact ⟨rfl, ⟨HI.out.1.congr fun k hk => by rw [if_pos (by omega)], HI.out.2.1⟩⟩
theorem AZ (x a : Nat) (hx : x < 18446744073709551616) (hx0 : x ≠ 0) (hlow : x &&& (18446744073709551616 - x) = a) :
  IntKind.u64.wrap (bits BinOp.and IntKind.u64 (x : Int) (IntKind.u64.wrap (-(x : Int))) * 285870213051353865) / 288230376151711744 = ((a * 285870213051353865 % 18446744073709551616 / 288230376151711744 : Nat) : Int) := by
 have e1 : IntKind.u64.wrap (-(x : Int)) = ((18446744073709551616 - x : Nat) : Int) := by rw [IntKind.wrap_u64]; omega
 rw [e1, bits_and_u64_nat x _ hx (by omega), hlow, IntKind.wrap_u64]
 omega
theorem BC : dbT = Lib.deBruijn64tab.map fun n : Nat => (n : Int) := rfl
theorem BD (i : Nat) (hi : i < 64) : dbT.getD i 0 = ((Lib.deBruijn64tab.getD i 0 : Nat) : Int) := by
 have hl : Lib.deBruijn64tab.length = 64 := rfl
 rw [BC, List.getD_eq_getElem?_getD, List.getD_eq_getElem?_getD, List.getElem?_map, List.getElem?_eq_getElem (by omega)]
 rfl
theorem ze (x k idx : Nat) (w : World) (hx0 : ((x : Int) == 0) = false)
  (key : IntKind.u64.wrap (bits BinOp.and IntKind.u64 (x : Int) (IntKind.u64.wrap (-(x : Int))) * 285870213051353865) / 288230376151711744 = (idx : Int))
  (hi : idx < 64) (hk : k < 64) (hcell : w.cell? ⟨2, idx, none⟩ = some (.int .u8 k)) :
  Calls Tryd.prog 63 #[.int .u64 x] w fun e w' => e = .returned (.int .i64 k) /\ w = w' := by
 go_enter Tryd.func63, Tryd.ntmps63
 go_wp2_with (simp only [key])
 go_ret
 exact ⟨rfl, rfl⟩
theorem A7 (x : Nat) (hx : x < 18446744073709551616) (hx0 : x ≠ 0) (w : World) (hV : VW w) : Calls Tryd.prog 63 #[.int .u64 (x : Int)] w fun e w' => e = .returned (.int .i64 (Lib.ctz 64 x)) /\ w = w' := by
 obtain ⟨hlow, hk⟩ := Lib.lowest_bit 64 x hx0 hx
 obtain ⟨hi, htab⟩ := Lib.deBruijn64_at _ hk
 have hc := hV.db _ hi
 rw [BD _ hi, htab] at hc
 exact ze x _ _ w (by simp; omega) (AZ x _ hx hx0 hlow) hi hk hc
theorem A8 {D : Nat -> Bool} {L many : Nat} (hin : ∀ i, D i = true -> i < many) (htop : szW many (L - 1) = 1) (hL : 0 < L) {j : Nat} (h : up D L j = true) : j = 0 := by
 obtain ⟨i, rfl, h2⟩ := eU.1 h
 have := kG (l := L - 1) (hin i h2)
 rw [htop] at this
 obtain ⟨k, rfl⟩ : ∃ k, L = k + 1 := ⟨L - 1, by omega⟩
 rw [Nat.add_sub_cancel] at this
 rw [Nat.pow_succ, ← Nat.div_div_eq_div_mul]
 generalize i / 64 ^ k = z at *
 omega
theorem tu (w : World) (db dc : Nat) (eb : Nat -> Nat) (L many : Nat) (D : Nat -> Bool) (h : DuE w db dc eb L many fun _ => D) (hz : ∀ i, D i = false) (htop : szW many (L - 1) = 1) (hL0 : 0 < L) :
  Calls Tryd.prog 43 #[.slice (some ⟨db, 0, none⟩) L dc] w fun e w' => e = .returned (.tuple #[.int .i64 0, .bool false]) /\ w = w' := by
 have hcap := h.cap
 have hL := h.hL
 obtain ⟨k, rfl⟩ : ∃ k, L = k + 1 := ⟨L - 1, by omega⟩
 rw [Nat.add_sub_cancel] at htop
 have c0 := h.row k (Nat.lt_succ_self _)
 have he := h.wrd k (Nat.lt_succ_self _)
 rw [htop] at c0 he
 have hw : wd D k 0 = 0 := by
  rw [iY]
  cases hu : up D (k + 1) 0 with
  | false => rfl
  | true => obtain ⟨i, _, q⟩ := eU.1 hu; rw [hz i] at q; cases q
 have c1 : w.cell? ⟨eb k, 0, none⟩ = some (.int .u64 0) := by
  rw [cell_of_row w _ _ _ _ _ he, ik (by omega), hw]; rfl
 have e1 : ((k + 1 : Nat) : Int) - 1 = (k : Int) := by omega
 clear h he hz hw
 go_enter Tryd.func43, Tryd.ntmps43
 go_wp2_with (simp only [e1])
 refine wp_loop_rounds 1 ?_
 rw [rounds_succ]
 go_wp2
 go_returns
 exact ⟨rfl, rfl⟩
theorem jS {P : Program} {w : World} (base : Nat) (t ty e : TypeId) (i : TypeInfo) (size : Nat) (ht : P.underlying t = some (.slice e)) (hi : P.info? e = some i)
  (v : Value) (n : Nat) (xs : List Value) (hown : w.ownsRow base e size v n xs) (p : Option Addr) (c : Nat) :
  (Builtin.append_ #[t, t] ty #[v, .slice p 0 c]).run P w = .ok v w := by
 have hl : ∀ a : Addr, (Go.loadCells a 0).run P w = .ok #[] w := fun a => by
  have := run_loadCells_list (P := P) w a [] (by simp)
  simpa using this
 rcases hown.2 with ⟨rfl, rfl⟩ | ⟨g, cap, cur, rfl, _, _, hnc, _⟩
 ·cases p <;> simp [Builtin.append_, run_underlying ht, sizeOf, typeInfo, hi, Builtin.lenOf, Builtin.firstCells, storeCells, hl]
 ·cases p <;> simp [Builtin.append_, run_underlying ht, sizeOf, typeInfo, hi, Builtin.lenOf, Builtin.firstCells, storeCells, hl, hnc]
theorem bS {W W' : World} {base : Nat} {e : TypeId} {s : Nat} {v : Value} {n : Nat} {cs : List Value} (h : W.ownsRow base e s v n cs) (hb : ∀ g o, v.ownBlock = some g -> W.heap[g]? = some o -> W'.heap[g]? = some o) : W'.ownsRow base e s v n cs := by
 refine ⟨h.1, ?_⟩
 rcases h.2 with h1 | ⟨g, cap, cur, rfl, h2, h3, h4⟩
 ·exact .inl h1
 ·exact .inr ⟨g, cap, cur, rfl, h2, hb g _ rfl h3, h4⟩
theorem vL {W : World} {base : Nat} {e : TypeId} {s : Nat} {v : Value} {n : Nat} {cs : List Value} (h : W.ownsRow base e s v n cs) : ∀ g, v.ownBlock = some g -> base <= g := by
 intro g hg
 rcases h.2 with ⟨rfl, _⟩ | ⟨g', cap, cur, rfl, h2, _⟩
 ·cases hg
 ·cases hg; exact h2
theorem aZ {wr X : World} {base : Nat} {e : TypeId} {s : Nat} {v : Value} {n : Nat} {cs : List Value} (h : wr.ownsRow base e s v n cs) (hX : Below wr.heap.size wr X) : X.ownsRow base e s v n cs :=
 bS h (fun g o _ hg => (hX.block g (Array.getElem?_eq_some_iff.1 hg).1).trans hg)
theorem rE {W : World} {base base' : Nat} {e : TypeId} {s : Nat} {v : Value} {n : Nat} {cs : List Value} (h : W.ownsRow base e s v n cs) (hb : base' <= base) : W.ownsRow base' e s v n cs :=
 ⟨h.1, by
  rcases h.2 with h | ⟨g, cap, cur, e, h1, h2⟩
  ·exact .inl h
  ·exact .inr ⟨g, cap, cur, e, by omega, h2⟩⟩
theorem og (W : World) (g : Nat) (us : Array Value) (t : TypeId) (hg : W.heap[g]? = some (.cells us t (0, 0))) : ∀ (j : Nat) (x : Value), us.toList[j]? = some x -> W.cell? ((⟨g, 0, none⟩ : Addr).add j) = some x := by
 intro j x hx
 have e : (⟨g, 0, none⟩ : Addr).add j = ⟨g, j, none⟩ := by
  cases j with
  | zero => simp [Addr.add]
  | succ j => simp [Addr.add]
 rw [e]
 simp only [World.cell?, hg]
 simpa using hx
theorem cO {W W' : World} {B : Nat} {e : TypeId} {s : Nat} {v : Value} {n : Nat} {cs : List Value} (h : W.ownsRow B e s v n cs) (hb : ∀ g, B <= g -> g < W.heap.size -> W'.heap[g]? = W.heap[g]?) : W'.ownsRow B e s v n cs := by
 refine ⟨h.1, ?_⟩
 rcases h.2 with hn | ⟨g, cap, cur, rfl, hB, hgg, rest⟩
 ·exact .inl hn
 ·exact .inr ⟨g, cap, cur, rfl, hB, by rw [hb g hB (Array.getElem?_eq_some_iff.1 hgg).1]; exact hgg, rest⟩
theorem aD {W : World} {B : Nat} {e : TypeId} {s : Nat} {v : Value} {n : Nat} {cs : List Value} (h : W.ownsRow B e s v n cs) {g : Nat} (hg : v.ownBlock = some g) : B <= g /\ g < W.heap.size := by
 rcases h.2 with ⟨rfl, _⟩ | ⟨g', cap, cur, rfl, hB, hgg, rest⟩
 ·cases hg
 ·simp only [Value.ownBlock, Option.some.injEq] at hg
  subst hg
  exact ⟨hB, (Array.getElem?_eq_some_iff.1 hgg).1⟩
theorem bM {W : World} {B : Nat} {e : TypeId} {s : Nat} {v : Value} {n : Nat} {cs : List Value} (h : W.ownsRow B e s v n cs) : ∀ g, v.ownBlock = some g -> ∃ c fz, W.heap[g]? = some (.cells c e fz) := by
 intro g hg
 rcases h.2 with ⟨rfl, _⟩ | ⟨g', cap, cur, rfl, hB, hgg, rest⟩
 ·cases hg
 ·simp only [Value.ownBlock, Option.some.injEq] at hg
  subst hg
  exact ⟨_, _, hgg⟩
theorem aa {w : World} {b i : Nat} {cs : Array Value} {t : TypeId} {fz : Nat × Nat} {v : Value} (h : w.heap[b]? = some (.cells cs t fz)) (hv : cs[i]? = some v) : w.cell? ⟨b, i, none⟩ = some v := by
 rw [World.cell?]
 simp only [h]
 exact hv
theorem aL {w : World} {b i : Nat} {cs : Array Value} {t : TypeId} (h : w.heap[b]? = some (.cells cs t (0, 0))) : w.frozen? ⟨b, i, none⟩ = false := by simp [World.frozen?, h]
theorem ah {w : World} {b : Nat} {o : Obj} (h : w.heap[b]? = some o) : b < w.heap.size := (Array.getElem?_eq_some_iff.1 h).1
theorem aj (w : World) (o : Obj) (H : Nat) (h : w.heap.size = H) : (w.alloc o).heap[H]? = some o := by subst h; exact World.alloc_heap_new w o
theorem aJ {P : Program} {w w' : World} {ops : Array Oper} {rest : List Oper} {o : Oper} {a : Act} {Q : Exit -> Act -> World -> Prop} (hgd : o.guard = none) (s x : Operand) (t : TypeId)
  (ho : o.op = .call { callee := .builtin .append, args := #[s, x], argTypes := #[t, t] }) {v u r : Value} (hs : a.eval s = v) (hx : a.eval x = u) (hr : ∀ ty, (Builtin.append_ #[t, t] ty #[v, u]).run P w = .ok r w')
  (h : wpList P ops Q rest (a.put o.dst r) w') : wpList P ops Q (o :: rest) a w := by
 refine wpList_plain hgd fun K hK => ?_
 unfold Oper.wp
 simp [execOp, ho, resolve, invoke, builtin, hs, hx, hr, Result.andThen]
 exact hK _ _ h
theorem aN {W : World} {B s n : Nat} {t : TypeId} {v : Value} {cs : List Value} (h : W.ownsRow B t s v n cs) : ∃ a c, v = .slice a n c := by
 rcases h.2 with ⟨rfl, rfl⟩ | ⟨g, cap, cur, rfl, _⟩
 ·exact ⟨_, _, rfl⟩
 ·exact ⟨_, _, rfl⟩
theorem app1 {e t : TypeId} {i0 : TypeInfo} {z : Value} {s bt : Nat} (ht : Tryd.prog.underlying t = some (.slice e)) (hi : Tryd.prog.info? e = some i0) (hz : i0.zero = some z) (hs : i0.size = s) (hb : i0.bytes = bt) (hzs : z.cells.size = s) (hs0 : 0 < s)
  (W : World) (B : Nat) (v : Value) (n : Nat) (xs : List Value) (ho : W.ownsRow B e s v n xs) (cs : Array Value) (hcs : cs.toList.length = s) (h1 : ∀ u ∈ cs.toList, u.oneCell' = true) (hn : n + 1 <= maxLen) (hby : (n + 1) * bt <= 140737488355328) (hB : B <= W.heap.size) :
  ∃ g c W3, (∀ ty, (Builtin.append_ #[t, t] ty #[v, .slice (some ⟨W.heap.size, 0, none⟩) 1 1]).run Tryd.prog (W.alloc (.cells cs e)) = .ok (.slice (some ⟨g, 0, none⟩) (n + 1) c) W3) /\ W3.ownsRow B e s (.slice (some ⟨g, 0, none⟩) (n + 1) c) (n + 1) (xs ++ cs.toList) /\ W.grownBy W3 v.ownBlock /\ n + 1 <= c /\ (v.ownBlock = some g ∨ W.heap.size <= g) := by
 have ho' : (W.alloc (.cells cs e)).ownsRow B e s v n xs := aZ ho (ak _ _)
 obtain ⟨g, c, W3, r1, r2, r3, r4, r5⟩ := run_append_lies (P := Tryd.prog) (W.alloc (.cells cs e)) t e B e i0 z s bt ht hi hz hs hb hzs hs0 v n xs ho' ⟨W.heap.size, 0, none⟩ 1 1 cs.toList (by omega) (og _ _ _ _ (World.alloc_heap_new W _)) h1 (by omega) hn hby (by simp; omega) _ rfl
 have hc : n + 1 <= c := by
  rcases r2.2 with ⟨e1, _⟩ | ⟨g', cap', cur, e1, _, _, q1, _⟩
  ·cases e1
  ·simp only [Value.slice.injEq] at e1
   obtain ⟨_, _, rfl⟩ := e1
   exact q1
 refine ⟨g, c, W3, fun ty => r1, r2, ⟨r3.os, r3.tape, r3.output, Nat.le_trans (by simp) r3.size, fun k hk hne => ?_⟩, hc, ?_⟩
 ·rw [r3.block k (by simp; omega) hne, Below.heap_alloc W _ k hk]
 ·rcases r4 with r4 | r4
  ·exact .inl r4
  ·exact .inr (by rw [r4]; simp)
theorem BQ {e t : TypeId} {i0 : TypeInfo} {z : Value} {s bt : Nat} (ht : Tryd.prog.underlying t = some (.slice e)) (hi : Tryd.prog.info? e = some i0) (hz : i0.zero = some z) (hs : i0.size = s) (hb : i0.bytes = bt) (hzs : z.cells.size = s) (hs0 : 0 < s)
  (W : World) (B : Nat) (v : Value) (n : Nat) (xs : List Value) (ho : W.ownsRow B e s v n xs) (p : Option Addr) (m c : Nat) (news : List Value) (hl : news.length = m * s) (hc : 0 < m -> ∃ ad, p = some ad /\ ∀ j u, news[j]? = some u -> W.cell? (ad.add j) = some u) (h1 : ∀ u ∈ news, u.oneCell' = true) (hn : n + m <= maxLen) (hby : (n + m) * bt <= 140737488355328) (hB : B <= W.heap.size) :
  ∃ v' W3, (∀ ty, (Builtin.append_ #[t, t] ty #[v, .slice p m c]).run Tryd.prog W = .ok v' W3) /\ W3.ownsRow B e s v' (n + m) (xs ++ news) /\ W.grownBy W3 v.ownBlock := by
 by_cases h0 : 0 < m
 ·obtain ⟨ad, rfl, hcc⟩ := hc h0
  obtain ⟨g, c, W3, r1, r2, r3, r4, r5⟩ := run_append_lies (P := Tryd.prog) W t e B e i0 z s bt ht hi hz hs hb hzs hs0 v n xs ho ad m c news hl hcc h1 h0 hn hby hB _ rfl
  exact ⟨_, W3, fun ty => r1, r2, r3⟩
 ·obtain rfl : m = 0 := by omega
  have : news = [] := List.eq_nil_of_length_eq_zero (by omega)
  subst this
  exact ⟨v, W, fun ty => jS (P := Tryd.prog) (w := W) B t ty e i0 s ht hi v n xs ho p c, by simpa using ho, World.grownBy.refl _ _⟩
theorem kH {W W' : World} {B s n : Nat} {t t' : TypeId} {v vv : Value} {cs : List Value} (h : W.ownsRow B t s v n cs) (hg : W.grownBy W' vv.ownBlock) (ht : t' ≠ t) (hne : ∀ g, vv.ownBlock = some g -> ∃ c fz, W.heap[g]? = some (.cells c t' fz)) : W'.ownsRow B t s v n cs := by
 refine ⟨h.1, ?_⟩
 rcases h.2 with hn | ⟨g, cap, cur, rfl, hB, hgg, rest⟩
 ·exact .inl hn
 ·refine .inr ⟨g, cap, cur, rfl, hB, ?_, rest⟩
  rw [hg.block g (ah hgg) (fun e => by
   obtain ⟨c, fz, h2⟩ := hne g e.symm
   rw [h2] at hgg
   injection hgg with hgg
   injection hgg with _ hgg
   exact absurd hgg ht)]
  exact hgg
theorem dF {W W' : World} {r : Option Nat} (hg : W.grownBy W' r) {b : Nat} {o : Obj} (h : W.heap[b]? = some o) (hr : r ≠ some b) : W'.heap[b]? = some o := by
 rw [hg.block b (ah h) (fun e => hr (by rw [e]))]; exact h
theorem oh {w : World} {B g n m c s : Nat} {t : TypeId} {xs ys : List Value} (h : w.ownsRow B t s (.slice (some ⟨g, 0, none⟩) n c) n (xs ++ ys)) (hm : xs.length = m * s) (hmn : m <= n) : w.ownsRow B t s (.slice (some ⟨g, 0, none⟩) m c) m xs := by
 rcases h.2 with ⟨e, _⟩ | ⟨g', cap', cur, e, hB, hg, q1, q2, q3, q4⟩
 ·cases e
 ·simp only [Value.slice.injEq, Option.some.injEq, Addr.mk.injEq] at e
  obtain ⟨⟨rfl, _⟩, _, rfl⟩ := e
  refine ⟨hm, .inr ⟨g, c, cur, rfl, hB, hg, by omega, q2, q3, ?_⟩⟩
  have e2 := congrArg (List.take (m * s)) q4
  have hle : m * s <= n * s := Nat.mul_le_mul_right _ hmn
  rw [List.take_take, Nat.min_eq_left hle, List.take_append_of_le_length (by omega)] at e2
  rw [e2]
  exact List.take_of_length_le (by omega)
theorem dA {w : World} {B s n c g : Nat} {e : TypeId} {xs : List Value} (h : w.ownsRow B e s (.slice (some ⟨g, 0, none⟩) n c) n xs) {j : Nat} {u : Value} (hj : xs[j]? = some u) : w.cell? ⟨g, j, none⟩ = some u := by
 have hl : j < n * s := by
  have := (List.getElem?_eq_some_iff.1 hj).1
  have := h.1
  omega
 rw [h.cellAt j hl]; exact hj
theorem lX {many : Nat} : ∀ l, szW many l <= many / 2 ^ l + 1
 | 0 => by unfold szW; omega
 | l + 1 => by
  have h := lX (many := many) l
  unfold szW
  rw [Nat.pow_succ, ← Nat.div_div_eq_div_mul]
  generalize many / 2 ^ l = z at *
  omega
theorem tC (w : World) (hV : VW w) (db dc : Nat) (eb : Nat -> Nat) (L many : Nat) (D : Nat -> Bool) (h : DuE w db dc eb L many fun _ => D) (hin : ∀ i, D i = true -> i < many) (hz : ∃ i, D i = true) (htop : szW many (L - 1) = 1) (hL0 : 0 < L) :
  Calls Tryd.prog 43 #[.slice (some ⟨db, 0, none⟩) L dc] w fun e w' => ∃ n, gu D n /\ n < many /\ e = .returned (.tuple #[.int .i64 (n : Int), .bool true]) /\ Bx (DuE w' db dc eb L many (fun _ => del n D) /\ Fx (mK eb L) w w') := by
 have hcap := h.cap
 have hL := h.hL
 have hmn := h.hm
 have H : Bx (DuE w db dc eb L many fun _ => D) := ⟨h⟩
 have HT : Bx (VW w) := ⟨hV⟩
 have H0 : Bx (gu (up D L) 0) := ⟨by
  obtain ⟨i, hi⟩ := hz
  have h1 : up D L (i / 64 ^ L) = true := eU.2 ⟨i, rfl, hi⟩
  have h2 := A8 hin htop hL0 h1
  rw [h2] at h1
  exact ⟨h1, fun m hm => by omega⟩⟩
 have HI : Bx (∀ i, D i = true -> i < many) := ⟨hin⟩
 clear h hV hin hz htop
 go_enter Tryd.func43, Tryd.ntmps43
 go_wp2
 go_loopg [4, 5] (L + 1) (fun g v4 v5 wr => ∃ l n : Nat, g = l + 1 /\ l <= L /\ v5 = .int .i64 ((l : Int) - 1) /\ v4 = .int .i64 (n : Int) /\ Bx (gu (up D l) n /\ w = wr))
 case atStart => exact ⟨L, 0, rfl, Nat.le_refl _, rfl, rfl, ⟨H0.out, rfl⟩⟩
 case round =>
  obtain ⟨l, n, hg, hl, rfl, rfl, HR⟩ := hrel
  clear H0
  obtain ⟨hle, hw⟩ := HR.out
  subst hw
  cases l with
  | succ k =>
   have e1 : ((k + 1 : Nat) : Int) - 1 = (k : Int) := by omega
   rw [e1]
   obtain ⟨q1, q2, q3⟩ := qc hle
   have c0 := H.out.row k (by omega)
   have he := H.out.wrd k (by omega)
   have hn : n < szW many k := by
    obtain ⟨i, hi1, hi2⟩ := eU.1 hle.1
    have := kG (l := k) (HI.out i hi2)
    rw [Nat.pow_succ, ← Nat.div_div_eq_div_mul] at hi1
    rw [hi1] at this
    exact this
   have hsm := jA (many := many) k
   have c1 : w.cell? ⟨eb k, n, none⟩ = some (.int .u64 (wd D k n)) := (cell_of_row w _ _ _ _ _ he).trans (ik hn)
   have HTZ : Bx (Calls Tryd.prog 63 #[.int .u64 ((wd D k n : Nat) : Int)] w fun e w' => e = .returned (.int .i64 ((Lib.ctz 64 (wd D k n) : Nat) : Int)) /\ w = w') := ⟨A7 _ (word_lt _) q1 w HT.out⟩
   have HN : Bx (gu (up D k) (n * 64 + Lib.ctz 64 (wd D k n))) := ⟨q3⟩
   have hx0 : (((wd D k n : Nat) : Int) == 0) = false := by simp; omega
   clear he hle q1 q3 HR H
   obtain ⟨c, hc⟩ : ∃ c, Lib.ctz 64 (wd D k n) = c := ⟨_, rfl⟩
   rw [hc] at HTZ HN q2
   clear hc
   generalize wd D k n = x at *
   have hkI : (0 : Int) <= (k : Int) := by omega
   have hkL : (k : Int) < (L : Int) := by omega
   obtain ⟨sz, hsz⟩ : ∃ sz, szW many k = sz := ⟨_, rfl⟩
   rw [hsz] at c0 hn hsm
   clear hsz
   go_wp2_with (first
    | (go_at_call 63; refine HTZ.out.mono ?_; rintro e w1 ⟨rfl, rfl⟩))
   go_roundg (k + 1)
   case measure => omega
   case rel => exact ⟨k, n * 64 + c, rfl, by omega, by simp, by simp, ⟨HN.out, rfl⟩⟩
  | zero =>
   have e1 : ((0 : Nat) : Int) - 1 = -1 := by omega
   rw [e1]
   rw [mJ] at hle
   have hnm := HI.out n hle.1
   have HLE : Bx (gu D n) := ⟨hle⟩
   have HD := vK w db dc eb L many D H.out n hnm
   clear hle HR HI
   go_wp2_with (first
    | (go_at_call 64; refine HD.mono ?_; rintro e w1 ⟨rfl, HX⟩))
   go_returns
   exact ⟨n, HLE.out, hnm, rfl, HX⟩
theorem zg : (Tryd.prog.info? 115).map (fun i => (i.zero, i.size, i.bytes)) = some (some (.slice none 0 0), 1, 24) := by kernel_rfl
theorem A9 : (Tryd.prog.info? 63).map (fun i => (i.zero, i.size, i.bytes)) = some (some (.int .u64 0), 1, 8) := by kernel_rfl
theorem qf (w : World) (l m : Nat) (hm : m <= 2147483648) : (Instr.makeSlice 115 (.int .i64 m) (.int .i64 m)).run Tryd.prog w = .ok (.slice (some ⟨w.heap.size, 0, none⟩) m m) (w.alloc (.cells (wrC (fun _ => false) l m) 63)) := by
 obtain ⟨i0, hi, hz0, hz1, hz2⟩ := info_parts A9
 have := run_make (P := Tryd.prog) w 115 63 i0 (.int .u64 0) Tryd.underlying115 hi hz0 .i64 .i64 (m : Int) (m : Int) (by omega) (by omega) (by rw [hz2]; omega) (by omega)
 rw [hz1, Nat.mul_one] at this
 rw [← vJ]
 simpa [Value.cells] using this
def drC (eb : Nat -> Nat) (many l : Nat) : List Value := (List.range l).map fun i => .slice (some ⟨eb i, 0, none⟩) (szW many i) (szW many i)
theorem zh (eb : Nat -> Nat) (many l x : Nat) : drC (fun i => if i = l then x else eb i) many (l + 1) = drC eb many l ++ [.slice (some ⟨x, 0, none⟩) (szW many l) (szW many l)] := by
 unfold drC
 rw [List.range_succ, List.map_append]
 have e : (List.range l).map (fun i => (Value.slice (some ⟨if i = l then x else eb i, 0, none⟩) (szW many i) (szW many i))) = (List.range l).map (fun i => (Value.slice (some ⟨eb i, 0, none⟩) (szW many i) (szW many i))) := by
  refine List.map_congr_left fun i hi => ?_
  rw [List.mem_range] at hi
  rw [if_neg (by omega)]
 rw [e]
 simp
structure DuN (w W : World) (H : Nat) (many l : Nat) (v : Value) (eb : Nat -> Nat) : Prop where
 bel : Below H w W
 row : W.ownsRow H 115 1 v l (drC eb many l)
 wrd : ∀ i, i < l -> W.heap[eb i]? = some (.cells (wrC (fun _ => false) i (szW many i)) 63 (0, 0))
 inj : ∀ i j, i < l -> j < l -> eb i = eb j -> i = j
 hi : ∀ i, i < l -> H <= eb i
theorem DuN.add {w W : World} {H many l : Nat} {v : Value} {eb : Nat -> Nat} (h : DuN w W H many l v eb) (hw : w.heap.size = H) (hl : l <= 64) (m : Nat) (hm : m = szW many l) :
  ∃ g c W3 eb', (∀ ty, (Builtin.append_ #[69, 69] ty #[v, .slice (some ⟨W.heap.size + 1, 0, none⟩) 1 1]).run Tryd.prog ((W.alloc (.cells (wrC (fun _ => false) l m) 63)).alloc (.cells #[.slice (some ⟨W.heap.size, 0, none⟩) m m] 115)) = .ok (.slice (some ⟨g, 0, none⟩) (l + 1) c) W3) /\ DuN w W3 H many (l + 1) (.slice (some ⟨g, 0, none⟩) (l + 1) c) eb' /\ l + 1 <= c := by
 subst hm
 have hz : H <= W.heap.size := by rw [← hw]; exact h.bel.size
 obtain ⟨i0, hi0, iz0, iz1, iz2⟩ := info_parts zg
 obtain ⟨W1, hW1⟩ : ∃ W1, W.alloc (.cells (wrC (fun _ => false) l (szW many l)) 63) = W1 := ⟨_, rfl⟩
 have hs1 : W1.heap.size = W.heap.size + 1 := by rw [← hW1]; simp
 have b1 : Below W.heap.size W W1 := by rw [← hW1]; exact ak _ _
 have he : W1.heap[W.heap.size]? = some (.cells (wrC (fun _ => false) l (szW many l)) 63 (0, 0)) := by rw [← hW1]; exact aj _ _ _ rfl
 obtain ⟨g, c, W3, r, o, gr, hc, _⟩ := app1 Tryd.underlying69 hi0 iz0 iz1 iz2 rfl (by decide) W1 H v l _ (aZ h.row b1) #[.slice (some ⟨W.heap.size, 0, none⟩) (szW many l) (szW many l)] rfl (by simp [Value.oneCell']) (by unfold maxLen; omega) (by omega) (by omega)
 rw [hs1] at r
 have ob : ∀ k, v.ownBlock = some k -> H <= k := fun k hk => (aD h.row hk).1
 have kk := bM (aZ h.row b1)
 have hne : ∀ k, v.ownBlock = some k -> ∀ i, W1.heap[i]? = some (.cells (wrC (fun _ => false) l (szW many l)) 63 (0, 0)) ∨ (∃ cs, W1.heap[i]? = some (.cells cs 63 (0, 0))) -> i ≠ k := fun k hk i hi e => by
  subst e
  obtain ⟨c1, f1, q⟩ := kk i hk
  rcases hi with hi | ⟨cs, hi⟩
  ·rw [hi] at q; injection q with q; injection q with _ q; exact absurd q (by decide)
  ·rw [hi] at q; injection q with q; injection q with _ q; exact absurd q (by decide)
 refine ⟨g, c, W3, (fun i => if i = l then W.heap.size else eb i), by rw [hW1]; exact r, ⟨h.bel.trans ((b1.mono hz).trans ((Below.refl _ _).grown gr (by omega) ob)), ?_, fun i hi => ?_, fun i j hi hj e => ?_, fun i hi => ?_⟩, hc⟩
 ·have e := zh eb many l W.heap.size
  rw [e]
  exact o
 ·by_cases e : i = l
  ·subst e
   simp only [if_true]
   exact dF gr he fun q => hne _ q _ (.inl he) rfl
  ·simp only [if_neg e]
   have h1 := (b1.block _ (ah (h.wrd i (by omega)))).trans (h.wrd i (by omega))
   exact dF gr h1 fun q => hne _ q _ (.inr ⟨_, h1⟩) rfl
 ·have hlt : ∀ k, k < l -> eb k < W.heap.size := fun k hk => ah (h.wrd k hk)
  by_cases e1 : i = l
  ·by_cases e2 : j = l
   ·omega
   ·simp only [if_pos e1, if_neg e2] at e
    have := hlt j (by omega)
    omega
  ·by_cases e2 : j = l
   ·simp only [if_neg e1, if_pos e2] at e
    have := hlt i (by omega)
    omega
   ·simp only [if_neg e1, if_neg e2] at e
    exact h.inj i j (by omega) (by omega) e
 ·by_cases e : i = l
  ·simp only [if_pos e]; exact hz
  ·simp only [if_neg e]; exact h.hi i (by omega)
theorem DuN.done {w W : World} {H many l g c : Nat} {eb : Nat -> Nat} (h : DuN w W H many l (.slice (some ⟨g, 0, none⟩) l c) eb) (hl : 0 < l) (hl2 : l <= 33) (hm : many <= 2147483648) : DuE W g c eb l many (fun _ _ => false) /\ H <= g := by
 have hb := aD h.row (g := g) rfl
 refine ⟨⟨fun i hi => ?_, h.wrd, h.inj, fun i hi e => ?_, ?_, hb.2, by omega, hm⟩, hb.1⟩
 ·exact dA h.row (by unfold drC; rw [List.getElem?_map, List.getElem?_range hi]; rfl)
 ·obtain ⟨c1, f1, q⟩ := bM h.row g rfl
  have q2 := h.wrd i hi
  rw [e, q] at q2
  injection q2 with q2
  injection q2 with _ q2
  exact absurd q2 (by decide)
 ·rcases h.row.2 with ⟨q, _⟩ | ⟨g', cap, cur, q, _, _, q3, _⟩
  ·cases q
  ·simp only [Value.slice.injEq] at q
   obtain ⟨_, _, rfl⟩ := q
   exact q3
theorem qg (w : World) (many : Nat) (h0 : 0 < many) (hm : many <= 2147483648) :
  Calls Tryd.prog 39 #[.int .i64 (many : Int)] w fun e w' => ∃ db dc eb L, e = .returned (.slice (some ⟨db, 0, none⟩) L dc) /\ Bx (DuE w' db dc eb L many (fun _ _ => false) /\ Below w.heap.size w w' /\ w.heap.size <= db /\ (∀ l, l < L -> w.heap.size <= eb l) /\ szW many (L - 1) = 1 /\ 0 < L) := by
 obtain ⟨H, hH⟩ : ∃ H, w.heap.size = H := ⟨_, rfl⟩
 have H0 : Bx (∃ eb, DuN w w H many 0 (.slice none 0 0) eb) := ⟨fun _ => 0, ⟨Below.refl _ _, ⟨rfl, .inl ⟨rfl, rfl⟩⟩, fun i hi => by omega, fun i j hi => by omega, fun i hi => by omega⟩⟩
 go_enter Tryd.func39, Tryd.ntmps39
 go_wp2
 go_loopg [0, 3] (many + 2) (fun g v0 v3 wr => ∃ (l m : Nat) (x3 : Value), g = (if l = 0 then many + 2 else m + 1) /\ m = (if l = 0 then many else szW many (l - 1)) /\ l <= 33 /\ v0 = .int .i64 (m : Int) /\ x3 = v3 /\ Bx (∃ eb, DuN w wr H many l x3 eb))
 case atStart => exact ⟨0, many, _, rfl, rfl, by omega, rfl, rfl, H0⟩
 case round =>
  obtain ⟨l, m, x3, hg, hml, hl, rfl, rfl, HI⟩ := hrel
  clear H0
  obtain ⟨eb, hD⟩ := HI.out
  obtain ⟨a3, c3, e3⟩ := aN hD.row
  subst e3
  have hmm : m <= many := by rw [hml]; split; exact Nat.le_refl _; exact jA _
  clear HI
  by_cases hc : l = 0 ∨ 1 < m
  ·obtain ⟨m', hm'⟩ : ∃ m', m' = szW many l := ⟨_, rfl⟩
   have hdv : (m + 63) / 64 = m' := by
    rw [hm', hml]
    cases l with
    | zero => rfl
    | succ k => simp only [Nat.succ_ne_zero, if_false, Nat.add_sub_cancel]; rfl
   have hm2 : m' <= many := by rw [hm']; exact jA _
   have hl33 : l + 1 <= 33 := by
    rcases hc with hc | hc
    ·omega
    ·by_cases h00 : l = 0
     ·omega
     ·rw [if_neg h00] at hml
      have hs := lX (many := many) (l - 1)
      rw [← hml] at hs
      have h1 : 1 <= many / 2 ^ (l - 1) := by omega
      have h2 : 2 ^ (l - 1) <= many := by
       have := Nat.div_mul_le_self many (2 ^ (l - 1))
       exact Nat.le_trans (Nat.le_mul_of_pos_left _ h1) this
      have h3 : l - 1 < 32 := Nat.lt_of_not_le fun q => by
       have : 2 ^ 32 <= 2 ^ (l - 1) := Nat.pow_le_pow_right (by decide) q
       omega
      omega
   obtain ⟨g, cc, W3, eb', r, hN, hcap⟩ := hD.add hH (by omega) m' hm'
   have hmk := qf wr l m' (by omega)
   have HN : Bx (∃ eb, DuN w W3 H many (l + 1) (.slice (some ⟨g, 0, none⟩) (l + 1) cc) eb) := ⟨eb', hN⟩
   have hme : gk > m' + 1 := by
    rw [hg]
    split
    ·rename_i h00
     rw [hml, if_pos h00] at hdv
     omega
    ·rename_i h00
     rcases hc with hc | hc
     ·exact absurd hc h00
     ·omega
   have hdI : ((m : Int) + 63) / 64 = (m' : Int) := by omega
   have HML : Bx (m' = szW many l) := ⟨hm'⟩
   have hm64 : m' <= 2147483648 := by omega
   have hm65 : m <= 2147483648 := by omega
   clear hD hN hdv hml hg hm'
   by_cases h00 : l = 0
   ·subst h00
    go_wp2_with (first
     | (simp only [hdI])
     | (at_builtin; refine aJ rfl (.tmp 14) (.tmp 17) 69 rfl rfl rfl r ?_))
    go_roundg (m' + 1)
    case measure => omega
    case rel => exact ⟨0 + 1, m', _, by simp, by rw [HML.out]; rfl, hl33, rfl, rfl, HN⟩
   ·have hlb : ((l : Int) == 0) = false := by simp; omega
    have hm1 : (1 : Int) < (m : Int) := by omega
    go_wp2_with (first
     | (simp only [hdI])
     | (at_builtin; refine aJ rfl (.tmp 14) (.tmp 17) 69 rfl rfl rfl r ?_))
    go_roundg (m' + 1)
    case measure => omega
    case rel => exact ⟨l + 1, m', _, by simp, by rw [HML.out]; rfl, hl33, rfl, rfl, HN⟩
  ·have h00 : l ≠ 0 := fun e => hc (.inl e)
   have hm1 : ¬ 1 < m := fun e => hc (.inr e)
   rw [if_neg h00] at hml
   have hp := rD h0 (l - 1)
   have hone : szW many (l - 1) = 1 := by omega
   have hb : ∃ g, a3 = some ⟨g, 0, none⟩ := by
    rcases hD.row.2 with ⟨_, q⟩ | ⟨g, cap, cur, q, _⟩
    ·exact absurd q h00
    ·simp only [Value.slice.injEq] at q; exact ⟨g, q.1⟩
   obtain ⟨g, rfl⟩ := hb
   obtain ⟨k1, k2⟩ := hD.done (by omega) hl hm
   have HF : Bx (DuE wr g c3 eb l many (fun _ _ => false) /\ Below H w wr /\ H <= g /\ (∀ i, i < l -> H <= eb i) /\ szW many (l - 1) = 1 /\ 0 < l) := ⟨k1, hD.bel, k2, hD.hi, hone, by omega⟩
   have hlb : ((l : Int) == 0) = false := by simp; omega
   have hm1I : ¬ (1 : Int) < (m : Int) := by omega
   clear hD k1 k2 hml hg hp hone hc
   go_wp2
   go_ret
   exact ⟨g, c3, eb, l, rfl, HF⟩
end Go.Proofs.YtadmpgegolmkgaaDoor
namespace Go.Proofs.YtadmpgegolmkgaaDoor
abbrev Prs := List (Nat × Nat)
def pz : Nat × Nat := (0, 0)
def ed (P : Prs) (p : Nat × Nat) : Prs × Nat := if p ∈ P then (P, P.idxOf p) else (P ++ [p], P.length)
structure eP (P : Prs) : Prop where
 nd : P.Nodup
 z : P[0]? = some pz
theorem eD {P : Prs} (h : eP P) (p : Nat × Nat) : P <+: (ed P p).1 /\ eP (ed P p).1 /\ (ed P p).1[(ed P p).2]? = some p /\ (ed P p).1.length <= P.length + 1 := by
 unfold ed
 split
 ·rename_i hm
  refine ⟨List.prefix_refl _, h, ?_, Nat.le_succ _⟩
  show P[P.idxOf p]? = _
  rw [List.getElem?_eq_getElem (List.idxOf_lt_length_iff.2 hm), List.getElem_idxOf]
 ·rename_i hm
  refine ⟨List.prefix_append _ _, ⟨?_, ?_⟩, by simp, by simp⟩
  ·rw [List.nodup_append]
   refine ⟨h.nd, by simp, fun a ha b hb e => ?_⟩
   simp at hb
   subst hb
   subst e
   exact hm ha
  ·have := h.z
   have hl := (List.getElem?_eq_some_iff.1 this).1
   show (P ++ [p])[0]? = _
   rw [List.getElem?_append_left hl]
   exact this
theorem qh {P Q : Prs} (h : P <+: Q) {i : Nat} {p : Nat × Nat} (hp : P[i]? = some p) : Q[i]? = some p := by
 obtain ⟨r, rfl⟩ := h
 rw [List.getElem?_append_left (List.getElem?_eq_some_iff.1 hp).1]
 exact hp
def atP (P : Prs) (s : Nat) : Nat × Nat := P[s]?.getD pz
theorem il {P : Prs} {s : Nat} {p : Nat × Nat} (h : P[s]? = some p) : atP P s = p := by unfold atP; rw [h]; rfl
def vsP : Nat -> Prs -> Nat -> Prop
 | 0, P, s => s < 18446744073709551616
 | L + 1, P, s => (∃ p, P[s]? = some p) /\ vsP L P (atP P s).1 /\ vsP L P (atP P s).2
def den : Nat -> Prs -> Nat -> Nat -> Bool
 | 0, P, s, n => s.testBit (n % 64)
 | L + 1, P, s, n => den L P (if (n / 64).testBit L then (atP P s).2 else (atP P s).1) n
theorem dm {P Q : Prs} (h : P <+: Q) : ∀ {L s : Nat}, vsP L P s -> vsP L Q s /\ ∀ n, den L Q s n = den L P s n
 | 0, s, hs => ⟨hs, fun _ => rfl⟩
 | L + 1, s, ⟨⟨p, hp⟩, h1, h2⟩ => by
  have hq := qh h hp
  have e : atP Q s = atP P s := by rw [il hq, il hp]
  obtain ⟨a1, a2⟩ := dm h h1
  obtain ⟨b1, b2⟩ := dm h h2
  refine ⟨⟨⟨p, hq⟩, by rw [e]; exact a1, by rw [e]; exact b1⟩, fun n => ?_⟩
  rw [den, den, e]
  split
  ·exact b2 n
  ·exact a2 n
theorem rF {P : Prs} (h : eP P) : ∀ L, vsP L P 0 /\ ∀ n, den L P 0 n = false
 | 0 => ⟨(by decide : (0 : Nat) < 18446744073709551616), fun n => Nat.zero_testBit _⟩
 | L + 1 => by
  obtain ⟨h1, h2⟩ := rF h L
  have e : atP P 0 = pz := il h.z
  refine ⟨⟨⟨_, h.z⟩, by rw [e]; exact h1, by rw [e]; exact h1⟩, fun n => ?_⟩
  rw [den, e]
  split <;> exact h2 n
theorem gH {P : Prs} (h : eP P) {L a b : Nat} (ha : vsP L P a) (hb : vsP L P b) : vsP (L + 1) (ed P (a, b)).1 (ed P (a, b)).2 /\ ∀ n, den (L + 1) (ed P (a, b)).1 (ed P (a, b)).2 n = den L P (if (n / 64).testBit L then b else a) n := by
 obtain ⟨h1, h2, h3, _⟩ := eD h (a, b)
 have e := il h3
 obtain ⟨a1, a2⟩ := dm h1 ha
 obtain ⟨b1, b2⟩ := dm h1 hb
 refine ⟨⟨⟨_, h3⟩, by rw [e]; exact a1, by rw [e]; exact b1⟩, fun n => ?_⟩
 rw [den, e]
 split
 ·exact b2 n
 ·exact a2 n
def dM : Nat -> Prs -> Nat -> Nat -> Nat -> Prs × Nat
 | 0, P, s, slot, to => (P, (s &&& (18446744073709551615 - 2 ^ (slot % 64))) ||| to)
 | L + 1, P, s, slot, to => if (slot / 64).testBit L then
   ed (dM L P (atP P s).2 slot to).1 ((atP P s).1, (dM L P (atP P s).2 slot to).2)
  else ed (dM L P (atP P s).1 slot to).1 ((dM L P (atP P s).1 slot to).2, (atP P s).2)
theorem eZ (n L : Nat) : n % 2 ^ (6 + (L + 1)) = n % 2 ^ (6 + L) + 2 ^ (6 + L) * ((n / 64).testBit L).toNat := by
 have e : (n / 64).testBit L = n.testBit (6 + L) := by
  have := Nat.testBit_div_two_pow n (i := L) (n := 6)
  rw [show (2 : Nat) ^ 6 = 64 from rfl] at this
  rw [this, Nat.add_comm]
 rw [e, show 6 + (L + 1) = (6 + L) + 1 by omega, Nat.pow_succ, Nat.mod_mul, Nat.testBit_eq_decide_div_mod_eq]
 congr 2
 rcases Nat.mod_two_eq_zero_or_one (n / 2 ^ (6 + L)) with h | h <;> rw [h] <;> rfl
theorem iq {n m L : Nat} (h : n % 2 ^ (6 + (L + 1)) = m % 2 ^ (6 + (L + 1))) : n % 2 ^ (6 + L) = m % 2 ^ (6 + L) /\ (n / 64).testBit L = (m / 64).testBit L := by
 rw [eZ, eZ] at h
 have h1 := Nat.mod_lt n (Nat.two_pow_pos (6 + L))
 have h2 := Nat.mod_lt m (Nat.two_pow_pos (6 + L))
 cases hn : (n / 64).testBit L <;> cases hm : (m / 64).testBit L <;> rw [hn, hm] at h <;> simp at h <;> simp <;> omega
theorem ol {n m L : Nat} (h : n % 2 ^ (6 + (L + 1)) ≠ m % 2 ^ (6 + (L + 1))) (hb : (n / 64).testBit L = (m / 64).testBit L) : n % 2 ^ (6 + L) ≠ m % 2 ^ (6 + L) := fun e => h (by rw [eZ, eZ, e, hb])
theorem or_bit {s b k : Nat} {to : Nat} (hb : b < 64) (ht : to = 0 ∨ to = 2 ^ b) (hk : k < 64) : ((s &&& (18446744073709551615 - 2 ^ b)) ||| to).testBit k = if k = b then decide (to ≠ 0) else s.testBit k := by
 have e1 : 18446744073709551615 - 2 ^ b = 2 ^ 64 - (2 ^ b + 1) := by omega
 rw [Nat.testBit_or, Nat.testBit_and, e1, Nat.testBit_two_pow_sub_succ (Nat.pow_lt_pow_right (by decide) hb), decide_eq_true hk, Bool.true_and, Nat.testBit_two_pow]
 by_cases e : k = b
 ·subst e
  rw [if_pos rfl]
  rcases ht with rfl | rfl
  ·simp
  ·have : 2 ^ k ≠ 0 := Nat.ne_of_gt (Nat.two_pow_pos k)
   simp [this]
 ·have e2 : decide (b = k) = false := decide_eq_false fun q => e q.symm
  rw [if_neg e, e2]
  rcases ht with rfl | rfl
  ·simp
  ·rw [Nat.testBit_two_pow, e2]; simp
theorem fe {slot to : Nat} (ht : to = 0 ∨ to = 2 ^ (slot % 64)) : ∀ (L : Nat) {P : Prs} {s : Nat}, eP P -> vsP L P s -> P <+: (dM L P s slot to).1 /\ eP (dM L P s slot to).1 /\ vsP L (dM L P s slot to).1 (dM L P s slot to).2 /\ (∀ n, den L (dM L P s slot to).1 (dM L P s slot to).2 n = if n % 2 ^ (6 + L) = slot % 2 ^ (6 + L) then decide (to ≠ 0) else den L P s n) /\ (dM L P s slot to).1.length <= P.length + L
 | 0, P, s, h, hs => by
  have hb : slot % 64 < 64 := Nat.mod_lt _ (by decide)
  refine ⟨List.prefix_refl _, h, ?_, fun n => ?_, by simp [dM]⟩
  ·show (s &&& _) ||| to < 2 ^ 64
   refine Nat.or_lt_two_pow (Nat.lt_of_le_of_lt Nat.and_le_left hs) ?_
   rcases ht with rfl | rfl
   ·decide
   ·exact Nat.pow_lt_pow_right (by decide) hb
  ·have := or_bit (s := s) hb ht (Nat.mod_lt n (by decide : 0 < 64))
   exact this
 | L + 1, P, s, h, ⟨⟨p, hp⟩, h1, h2⟩ => by
  rw [dM]
  cases hbit : (slot / 64).testBit L with
  | true =>
   simp only [if_true]
   obtain ⟨g1, g2, g3, g4, g5⟩ := fe ht L h h2
   obtain ⟨m1, m2⟩ := dm g1 h1
   obtain ⟨q1, q2⟩ := gH g2 m1 g3
   obtain ⟨r1, r2, _, r4⟩ := eD g2 ((atP P s).1, (dM L P (atP P s).2 slot to).2)
   refine ⟨List.IsPrefix.trans g1 r1, r2, q1, fun n => ?_, by omega⟩
   rw [q2, den]
   cases hn : (n / 64).testBit L with
   | true =>
    simp only [if_true]
    rw [g4]
    by_cases e : n % 2 ^ (6 + (L + 1)) = slot % 2 ^ (6 + (L + 1))
    ·rw [if_pos e, if_pos (iq e).1]
    ·rw [if_neg e, if_neg (ol e (by rw [hn, hbit]))]
   | false =>
    simp only [Bool.false_eq_true, if_false]
    rw [m2]
    rw [if_neg fun e => by have := (iq e).2; rw [hn, hbit] at this; cases this]
  | false =>
   simp only [Bool.false_eq_true, if_false]
   obtain ⟨g1, g2, g3, g4, g5⟩ := fe ht L h h1
   obtain ⟨m1, m2⟩ := dm g1 h2
   obtain ⟨q1, q2⟩ := gH g2 g3 m1
   obtain ⟨r1, r2, _, r4⟩ := eD g2 ((dM L P (atP P s).1 slot to).2, (atP P s).2)
   refine ⟨List.IsPrefix.trans g1 r1, r2, q1, fun n => ?_, by omega⟩
   rw [q2, den]
   cases hn : (n / 64).testBit L with
   | false =>
    simp only [Bool.false_eq_true, if_false]
    rw [g4]
    by_cases e : n % 2 ^ (6 + (L + 1)) = slot % 2 ^ (6 + (L + 1))
    ·rw [if_pos e, if_pos (iq e).1]
    ·rw [if_neg e, if_neg (ol e (by rw [hn, hbit]))]
   | true =>
    simp only [if_true]
    rw [m2]
    rw [if_neg fun e => by have := (iq e).2; rw [hn, hbit] at this; cases this]
theorem gL {P : Prs} : ∀ {L s n m : Nat}, n % 2 ^ (6 + L) = m % 2 ^ (6 + L) -> den L P s n = den L P s m
 | 0, s, n, m, h => by
  show s.testBit (n % 64) = s.testBit (m % 64)
  rw [show n % 64 = m % 64 from h]
 | L + 1, s, n, m, h => by
  obtain ⟨h1, h2⟩ := iq h
  rw [den, den, h2]
  exact gL h1
theorem mM {P : Prs} (hP : eP P) : ∀ {L s t : Nat}, vsP L P s -> vsP L P t -> (∀ n, den L P s n = den L P t n) -> s = t
 | 0, s, t, hs, ht, h => by
  refine Nat.eq_of_testBit_eq fun k => ?_
  by_cases hk : k < 64
  ·have := h k
   simp only [den, Nat.mod_eq_of_lt hk] at this
   exact this
  ·have hk2 : (2 : Nat) ^ 64 <= 2 ^ k := Nat.pow_le_pow_right (by decide) (by omega)
   rw [Nat.testBit_lt_two_pow (Nat.lt_of_lt_of_le (show s < 2 ^ 64 from hs) hk2), Nat.testBit_lt_two_pow (Nat.lt_of_lt_of_le (show t < 2 ^ 64 from ht) hk2)]
 | L + 1, s, t, ⟨⟨p, hp⟩, h1, h2⟩, ⟨⟨q, hq⟩, h3, h4⟩, h => by
  have hpow : 2 ^ (6 + L) = 64 * 2 ^ L := by rw [Nat.pow_add]
  have lo : ∀ n, den L P (atP P s).1 n = den L P (atP P t).1 n := fun n => by
   have hlt : n % 2 ^ (6 + L) < 2 ^ (6 + L) := Nat.mod_lt _ (Nat.two_pow_pos _)
   have hb : (n % 2 ^ (6 + L) / 64).testBit L = false := Nat.testBit_lt_two_pow (by rw [hpow] at hlt ⊢; omega)
   have e : n % 2 ^ (6 + L) % 2 ^ (6 + L) = n % 2 ^ (6 + L) := Nat.mod_mod _ _
   have := h (n % 2 ^ (6 + L))
   rw [den, den, hb] at this
   simp only [Bool.false_eq_true, if_false] at this
   rw [gL e.symm, gL (s := (atP P t).1) e.symm]
   exact this
  have hi : ∀ n, den L P (atP P s).2 n = den L P (atP P t).2 n := fun n => by
   have hlt : n % 2 ^ (6 + L) < 2 ^ (6 + L) := Nat.mod_lt _ (Nat.two_pow_pos _)
   have e : (n % 2 ^ (6 + L) + 2 ^ (6 + L)) % 2 ^ (6 + L) = n % 2 ^ (6 + L) := by rw [Nat.add_mod_right, Nat.mod_mod]
   have hb : ((n % 2 ^ (6 + L) + 2 ^ (6 + L)) / 64).testBit L = true := by
    have hd : (n % 2 ^ (6 + L) + 2 ^ (6 + L)) / 64 = 2 ^ L + n % 2 ^ (6 + L) / 64 := by rw [hpow]; omega
    rw [hd, Nat.testBit_two_pow_add_eq, Nat.testBit_lt_two_pow (by rw [hpow] at hlt ⊢; omega)]
    rfl
   have := h (n % 2 ^ (6 + L) + 2 ^ (6 + L))
   rw [den, den, hb] at this
   simp only [if_true] at this
   rw [gL e.symm, gL (s := (atP P t).2) e.symm]
   exact this
  have e1 := mM hP h1 h3 lo
  have e2 := mM hP h2 h4 hi
  rw [il hp, il hq] at e1 e2
  have epq : p = q := Prod.ext e1 e2
  subst epq
  obtain ⟨k1, k2⟩ := List.getElem?_eq_some_iff.1 hp
  obtain ⟨k3, k4⟩ := List.getElem?_eq_some_iff.1 hq
  exact (List.getElem_inj hP.nd).1 (k2.trans k4.symm)
def bK (many : Nat) : Nat -> Prs -> Prs × Nat × Nat
 | 0, P => (P, 18446744073709551615, 2 ^ (many % 64) - 1)
 | L + 1, P => ((ed (ed (bK many L P).1 (if (many / 64).testBit L then ((bK many L P).2.1, (bK many L P).2.2) else ((bK many L P).2.2, 0))).1 ((bK many L P).2.1, (bK many L P).2.1)).1, (ed (ed (bK many L P).1 (if (many / 64).testBit L then ((bK many L P).2.1, (bK many L P).2.2) else ((bK many L P).2.2, 0))).1 ((bK many L P).2.1, (bK many L P).2.1)).2, (ed (bK many L P).1 (if (many / 64).testBit L then ((bK many L P).2.1, (bK many L P).2.2) else ((bK many L P).2.2, 0))).2)
theorem iw (many : Nat) : ∀ (L : Nat) {P : Prs}, eP P -> P <+: (bK many L P).1 /\ eP (bK many L P).1 /\ vsP L (bK many L P).1 (bK many L P).2.1 /\ vsP L (bK many L P).1 (bK many L P).2.2 /\ (∀ n, den L (bK many L P).1 (bK many L P).2.1 n = true) /\ (∀ n, den L (bK many L P).1 (bK many L P).2.2 n = decide (n % 2 ^ (6 + L) < many % 2 ^ (6 + L))) /\ (bK many L P).1.length <= P.length + 2 * L
 | 0, P, h => by
  have hp : 2 ^ (many % 64) <= 2 ^ 64 := Nat.pow_le_pow_right (by decide) (by omega)
  have hp0 := Nat.two_pow_pos (many % 64)
  refine ⟨List.prefix_refl _, h, (by decide : (18446744073709551615 : Nat) < 18446744073709551616), (by show 2 ^ (many % 64) - 1 < 2 ^ 64; omega), fun n => ?_, fun n => ?_, by simp [bK]⟩
  ·show (2 ^ 64 - 1).testBit (n % 64) = true
   rw [Nat.testBit_two_pow_sub_one]
   simp; omega
  ·show (2 ^ (many % 64) - 1).testBit (n % 64) = _
   rw [Nat.testBit_two_pow_sub_one]
 | L + 1, P, h => by
  obtain ⟨g1, g2, g3, g4, g5, g6, g7⟩ := iw many L h
  rw [bK]
  generalize bK many L P = R at *
  obtain ⟨Q, f, s⟩ := R
  simp only at *
  obtain ⟨z1, z2⟩ := rF g2 L
  have hlt : ∀ n, n % 2 ^ (6 + L) < 2 ^ (6 + L) := fun n => Nat.mod_lt _ (Nat.two_pow_pos _)
  cases hbit : (many / 64).testBit L with
  | true =>
   simp only [if_true]
   obtain ⟨q1, q2⟩ := gH g2 g3 g4
   obtain ⟨r1, r2, _, r4⟩ := eD g2 (f, s)
   obtain ⟨f1, f2⟩ := dm r1 g3
   obtain ⟨q3, q4⟩ := gH r2 f1 f1
   obtain ⟨t1, t2, _, t4⟩ := eD r2 (f, f)
   obtain ⟨u1, u2⟩ := dm t1 q1
   refine ⟨List.IsPrefix.trans g1 (List.IsPrefix.trans r1 t1), t2, q3, u1, fun n => ?_, fun n => ?_, by omega⟩
   ·rw [q4]
    split <;> (rw [f2]; exact g5 n)
   ·rw [u2, q2, eZ n L, eZ many L, hbit]
    cases hn : (n / 64).testBit L with
    | true =>
     simp only [if_true]
     rw [g6]
     exact decide_eq_decide.2 (by simp)
    | false =>
     simp only [Bool.false_eq_true, if_false]
     rw [g5]
     symm
     rw [decide_eq_true_iff]
     have := hlt n
     simp; omega
  | false =>
   simp only [Bool.false_eq_true, if_false]
   obtain ⟨q1, q2⟩ := gH g2 g4 z1
   obtain ⟨r1, r2, _, r4⟩ := eD g2 (s, 0)
   obtain ⟨f1, f2⟩ := dm r1 g3
   obtain ⟨q3, q4⟩ := gH r2 f1 f1
   obtain ⟨t1, t2, _, t4⟩ := eD r2 (f, f)
   obtain ⟨u1, u2⟩ := dm t1 q1
   refine ⟨List.IsPrefix.trans g1 (List.IsPrefix.trans r1 t1), t2, q3, u1, fun n => ?_, fun n => ?_, by omega⟩
   ·rw [q4]
    split <;> (rw [f2]; exact g5 n)
   ·rw [u2, q2, eZ n L, eZ many L, hbit]
    cases hn : (n / 64).testBit L with
    | true =>
     simp only [if_true]
     rw [z2]
     symm
     rw [decide_eq_false_iff_not]
     have := hlt many
     simp; omega
    | false =>
     simp only [Bool.false_eq_true, if_false]
     rw [g6]
     exact decide_eq_decide.2 (by simp)
theorem kI : eP [pz] := ⟨by simp, rfl⟩
end Go.Proofs.YtadmpgegolmkgaaDoor
