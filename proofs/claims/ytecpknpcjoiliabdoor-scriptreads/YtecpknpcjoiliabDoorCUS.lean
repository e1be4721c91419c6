import Derived.Test.YtecpknpcjoiliabDoorCUB
import Derived.OwnWalk
import Derived.Shelf.RegionOpenPlain
import Derived.Deep.Draws
import Derived.BigCall
import Derived.BigGuard
import Derived.Deep.AppendLies
import Derived.Deep.LoopGhost
namespace Go.Proofs.YtecpknpcjoiliabDoor
open Go.RowKit
set_option linter.unusedVariables false
set_option linter.unusedSimpArgs false

theorem ib_none {c : UInt8} : ∀ {s : List UInt8}, c ∉ s → Lib.indexByte s c = -1
  | [], _ => rfl
  | x :: r, h => by
    rw [List.mem_cons, not_or] at h
    rw [Lib.indexByte, if_neg (by simpa using fun e : x = c => h.1 e.symm), ib_none h.2]
    rfl
theorem ib_some {c : UInt8} : ∀ {l r : List UInt8}, c ∉ l → Lib.indexByte (l ++ c :: r) c = l.length
  | [], r, _ => by rw [List.nil_append, Lib.indexByte, if_pos (by simp)]; rfl
  | x :: l, r, h => by
    rw [List.mem_cons, not_or] at h
    have ih := ib_some (r := r) h.2
    rw [List.cons_append, Lib.indexByte, if_neg (by simpa using fun e : x = c => h.1 e.symm), ih, if_neg (by simp)]
    simp
theorem str_size (l : List UInt8) : (⟨l.toArray⟩ : ByteArray).size = l.length := by simp [ByteArray.size]
set_option maxRecDepth 100000 in
set_option maxHeartbeats 2000000 in
theorem cut0_miss (s : List UInt8) (c : UInt8) (w : World) (h : c ∉ s) :
    Calls Tryd.prog 45 #[strV s, strV [c]] w fun e w' => e = .returned (.tuple #[strV s, strV [], .bool false]) ∧ Below w.heap.size w w' := by
  have HI := Tryd.stringslite_Index_one ⟨s.toArray⟩ c w
  have e1 : Lib.indexByte (⟨s.toArray⟩ : ByteArray).data.toList c = -1 := ib_none h
  rw [e1] at HI
  go_enter Tryd.func45, Tryd.ntmps45
  go_wp2_with (go_at_call 50; refine HI.mono ?_; rintro e w' ⟨rfl, rfl⟩)
  go_ret3
  exact ⟨rfl, Below.refl _ _⟩
set_option maxRecDepth 100000 in
set_option maxHeartbeats 2000000 in
theorem cut0_hit (l r : List UInt8) (c : UInt8) (w : World) (h : c ∉ l) (hm : (l ++ c :: r).length ≤ 9223372036854775806) :
    Calls Tryd.prog 45 #[strV (l ++ c :: r), strV [c]] w fun e w' => e = .returned (.tuple #[strV l, strV r, .bool true]) ∧ Below w.heap.size w w' := by
  have HI := Tryd.stringslite_Index_one ⟨(l ++ c :: r).toArray⟩ c w
  have e1 : Lib.indexByte (⟨(l ++ c :: r).toArray⟩ : ByteArray).data.toList c = l.length := ib_some h
  rw [e1] at HI
  have hsz := str_size (l ++ c :: r)
  have hsz1 : (⟨#[c]⟩ : ByteArray).size = 1 := rfl
  have hlen : (l ++ c :: r).length = l.length + 1 + r.length := by simp; omega
  rw [hlen] at hsz hm
  have x1 : (⟨l.toArray⟩ : ByteArray) = (⟨(l ++ c :: r).toArray⟩ : ByteArray).extract 0 l.length := by
    apply Go.WideShapes.bytes_inj
    rw [Lib.extract_data]
    simp
  have x2 : (⟨r.toArray⟩ : ByteArray) = (⟨(l ++ c :: r).toArray⟩ : ByteArray).extract (l.length + (⟨#[c]⟩ : ByteArray).size) (⟨(l ++ c :: r).toArray⟩ : ByteArray).size := by
    apply Go.WideShapes.bytes_inj
    rw [Lib.extract_data, hsz, hsz1]
    simp
  show Calls Tryd.prog 45 #[.string ⟨(l ++ c :: r).toArray⟩, .string ⟨#[c]⟩] w fun e w' => e = .returned (.tuple #[.string ⟨l.toArray⟩, .string ⟨r.toArray⟩, .bool true]) ∧ Below w.heap.size w w'
  rw [x1, x2]
  clear x1 x2
  generalize (⟨(l ++ c :: r).toArray⟩ : ByteArray) = S at *
  generalize (⟨#[c]⟩ : ByteArray) = C at *
  generalize l.length = i at *
  have c1 : (0 : Int) ≤ (i : Int) := by omega
  have c2 : (i : Int) ≤ (S.size : Int) := by omega
  have c3 : (0 : Int) ≤ (i : Int) + (C.size : Int) := by omega
  have c4 : (i : Int) + (C.size : Int) ≤ (S.size : Int) := by omega
  have mixed : Tryd.prog.follows Departure.mixedOrders = true := by kernel_rfl
  have hwr : IntKind.i64.wrap ((i : Int) + (C.size : Int)) = (i : Int) + (C.size : Int) := by rw [IntKind.wrap_i64]; omega
  have c5 : (S.size : Int) ≤ 9223372036854775806 := by omega
  clear hlen e1 h hm hsz hsz1
  go_enter Tryd.func45, Tryd.ntmps45
  go_wp2_with (go_at_call 50; refine HI.mono ?_; rintro e w' ⟨rfl, rfl⟩)
  go_region_o
  go_wp2
  go_ret3
  exact ⟨rfl, (Below.refl _ _).drew⟩
set_option maxRecDepth 100000 in
theorem Cut_any (s t : List UInt8) (r : Value) (b : Bool) (c : UInt8) (w : World) (HC : Calls Tryd.prog 45 #[strV s, strV [c]] w fun e w' => e = .returned (.tuple #[strV t, r, .bool b]) ∧ Below w.heap.size w w') :
    Calls Tryd.prog 40 #[strV s, strV [c]] w fun e w' => e = .returned (.tuple #[strV t, r, .bool b]) ∧ Below w.heap.size w w' := by
  go_enter Tryd.func40, Tryd.ntmps40
  go_wp2_with (go_at_call 45; refine HC.mono ?_; rintro e w' ⟨rfl, hb⟩)
  go_ret3
  exact ⟨rfl, hb⟩
end Go.Proofs.YtecpknpcjoiliabDoor
namespace Go.Proofs.YtecpknpcjoiliabDoor
open Go.RowKit
set_option linter.unusedVariables false
set_option linter.unusedSimpArgs false

/-- the variables that are read -/
structure LW (w : World) : Prop where
  shp : Shp w
  pow : Lib.TabBelow Tryd.prog w.heap.size w "internal/strconv.uint64pow10" .u64 Lib.pow10Tab
  es : ∃ te pe, w.cell? ⟨4, 0, none⟩ = some (.iface te pe)
  er : ∃ te pe, w.cell? ⟨5, 0, none⟩ = some (.iface te pe)
  ls : 4 < w.heap.size
  lr : 5 < w.heap.size
  et : w.cell? ⟨0, 0, none⟩ = some (.iface 99 (.agg #[.pointer (some ⟨8, 43, none⟩)]))
  lt : 0 < w.heap.size
theorem LW.below {w w' : World} (h : LW w) (hb : Below w.heap.size w w') : LW w' := by
  obtain ⟨t1, p1, h1⟩ := h.es
  obtain ⟨t2, p2, h2⟩ := h.er
  have hs := hb.size
  refine ⟨h.shp.below hb, fun w2 hb2 => h.pow w2 (hb.trans (hb2.mono hs)), ⟨t1, p1, ?_⟩, ⟨t2, p2, ?_⟩, Nat.lt_of_lt_of_le h.ls hs, Nat.lt_of_lt_of_le h.lr hs, ?_, Nat.lt_of_lt_of_le h.lt hs⟩
  · rw [hb.cell (p := ⟨4, 0, none⟩) h.ls]; exact h1
  · rw [hb.cell (p := ⟨5, 0, none⟩) h.lr]; exact h2
  · rw [hb.cell (p := ⟨0, 0, none⟩) h.lt]; exact h.et
theorem below_bytes (w : World) (t : ByteArray) : Below w.heap.size w (Lib.bytesWorld w 5 t) :=
  ⟨rfl, rfl, rfl, by rw [Lib.bytesWorld_size]; omega, fun k hk => Lib.bytesWorld_at_old w 5 t k hk⟩
theorem Atoi_no (t : List UInt8) (w : World) (hL : LW w) (hm : t.length ≤ 281474976710656) (h : ∀ n, Lib.atoiAll t ≠ .ok n) :
    Calls Tryd.prog 47 #[strV t] w fun e w' => ∃ n ty p, e = .returned (.tuple #[.int .i64 n, .iface ty p]) ∧ Below w.heap.size w w' := by
  obtain ⟨t1, p1, h1⟩ := hL.es
  obtain ⟨t2, p2, h2⟩ := hL.er
  cases hA : Lib.atoiAll t with
  | ok n => exact absurd hA (h n)
  | «syntax» =>
    refine (Tryd.strconv_Atoi_syntax ⟨t.toArray⟩ (by rw [str_size]; exact hm) hA _ w h1 (.inr ⟨t1, p1, rfl⟩)).mono ?_
    rintro e w' ⟨N, rfl, _, _, hb⟩
    exact ⟨_, _, _, rfl, hb⟩
  | range =>
    refine (Tryd.strconv_Atoi_range ⟨t.toArray⟩ (by rw [str_size]; exact hm) hA _ w h2 (.inr ⟨t2, p2, rfl⟩)).mono ?_
    rintro e w' ⟨N, rfl, _, _, hb⟩
    exact ⟨_, _, _, rfl, hb⟩
theorem Atoi_yes (t : List UInt8) (w : World) (n : Int) (hm : t.length ≤ 281474976710656) (h : Lib.atoiAll t = .ok n) :
    Calls Tryd.prog 47 #[strV t] w fun e w' => e = .returned (.tuple #[.int .i64 n, .nilIface]) ∧ Below w.heap.size w w' := by
  refine (Tryd.strconv_Atoi_ok ⟨t.toArray⟩ (by rw [str_size]; omega) n h w).mono ?_
  rintro e w' ⟨rfl, hw | ⟨t, hw⟩⟩
  · subst hw; exact ⟨rfl, Below.refl _ _⟩
  · subst hw
    exact ⟨rfl, below_bytes w t⟩
theorem Itoa_any (n : Int) (w : World) (hL : LW w) (h : I64 n) :
    Calls Tryd.prog 48 #[.int .i64 n] w fun e w' => e = .returned (strV (Lib.itoa n)) ∧ Below w.heap.size w w' := by
  refine (Tryd.strconv_Itoa n h.1 h.2 w hL.pow.here).mono ?_
  rintro e w' ⟨rfl, k, os, rfl⟩
  exact ⟨rfl, Lib.below_grow w.heap.size w (Nat.le_refl _) k os⟩
/-- pieces, joined again -/
def joinP : List (List UInt8) → List UInt8
  | [] => []
  | p :: r => p ++ r.flatMap (32 :: ·)
theorem joinP_two (p q : List UInt8) (r : List (List UInt8)) : joinP (p :: q :: r) = p ++ 32 :: joinP (q :: r) := by simp [joinP]
theorem pieces_no (c : UInt8) : ∀ l : List UInt8, c ∉ (pieces c l).1 ∧ ∀ p ∈ (pieces c l).2, c ∉ p
  | [] => ⟨by simp [pieces], fun p hp => by cases hp⟩
  | x :: r => by
    obtain ⟨h1, h2⟩ := pieces_no c r
    rw [pieces]
    split
    · refine ⟨by simp, fun p hp => ?_⟩
      rcases List.mem_cons.1 hp with rfl | hp
      · exact h1
      · exact h2 p hp
    · rename_i hx
      refine ⟨?_, h2⟩
      rw [List.mem_cons, not_or]
      exact ⟨fun e => hx e.symm, h1⟩
end Go.Proofs.YtecpknpcjoiliabDoor
