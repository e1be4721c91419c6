import Derived.Test.YtecpknpcjoiliabDoorCUB
import Derived.Lib.AppendIntMem
import Derived.Lib.ItoaMem
import Derived.OwnWalk
import Derived.BigCall
namespace Go.Proofs.YtecpknpcjoiliabDoor
open Go.RowKit Go.Sort
set_option linter.unusedVariables false
set_option linter.unusedSimpArgs false

set_option maxRecDepth 100000 in
set_option maxHeartbeats 4000000 in
theorem appU_small (w : World) (B : Nat) (v : Value) (bs : List UInt8) (u : Nat) (hu : u < 100) (hB : B ≤ w.heap.size) (ho : BO w B v bs) (hl : bs.length + 20 ≤ 140737488355328) :
    Calls Tryd.prog 49 #[v, .int .u64 u, .int .i64 10] w fun e w' => ∃ v', e = .returned v' ∧ Bx (BO w' B v' (bs ++ Lib.decDigits u) ∧ KV B v v' w w') := by
  have hdl : (Lib.decDigits u).length ≤ 2 := dec_len 1 u (by omega)
  obtain ⟨v8, w8, hr, h1, h2⟩ := str_lies w B v bs ho (Lib.decDigits u) (by omega) hB 55
  have H8 : Bx (BO w8 B v8 (bs ++ Lib.decDigits u) ∧ KV B v v8 w w8) := ⟨h1, h2⟩
  have HR : Bx _ := ⟨hr⟩
  clear h1 h2 hr ho
  have iu : (u : Int) < 100 := by omega
  go_enter Tryd.func49, Tryd.ntmps49
  go_wp2_with (first
    | (go_at_call 54; refine (Tryd.internal_strconv_small u hu _).mono ?_; rintro e w' ⟨rfl, rfl⟩)
    | (at_builtin; refine wpList_str rfl (.tmp 13) (.tmp 16) 55 9 rfl rfl rfl HR.out ?_))
  go_ret
  exact ⟨v8, rfl, H8⟩
set_option maxRecDepth 100000 in
set_option maxHeartbeats 8000000 in
theorem appU_big (w : World) (B : Nat) (v : Value) (bs : List UInt8) (u : Nat) (hu : 100 ≤ u) (hu64 : u < 18446744073709551616) (hB : B ≤ w.heap.size) (ho : BO w B v bs) (hl : bs.length + 20 ≤ 140737488355328) (ht : PowAt B w) :
    Calls Tryd.prog 49 #[v, .int .u64 u, .int .i64 10] w fun e w' => ∃ v', e = .returned v' ∧ Bx (BO w' B v' (bs ++ Lib.decDigits u) ∧ KV B v v' w w') := by
  obtain ⟨i0, hi, hz0, hz1, hz2⟩ := info_parts infoU8
  have hu1 : 1 ≤ u := by omega
  have hnl := Lib.decDigits_length u
  have hdl : (Lib.decDigits u).length ≤ 20 := dec_len 19 u (by omega)
  have hnp := Lib.nDigits_pos u
  have hnd : Lib.nDigits u ≤ 20 := by omega
  have hal : Tryd.prog.arrayLen 130 = 24 := by kernel_rfl
  have hel : Tryd.prog.underlying 130 = some (.array 24 5) := Tryd.underlying130
  have hcut : ∀ W, (Instr.sliceAt 130 (.pointer (some ⟨w.heap.size, 0, none⟩)) none (some (.int .i64 (Lib.nDigits u : Int))) none).run Tryd.prog W = .ok (.slice (some ⟨w.heap.size, 0, none⟩) (Lib.nDigits u) 24) W := fun W => by
    rw [run_sliceAt_array_h W 130 ⟨w.heap.size, 0, none⟩ (by simp [Program.arrayLen, Program.elem, hel]) .i64 (Lib.nDigits u : Int) (by omega) (by rw [hal]; omega)]
    go_simp
  have hz := Lib.holds_zero0 w 130 (Lib.nDigits u) (by omega)
  have hfm := Tryd.internal_strconv_formatBase10 w.heap.size 0 24 u (Array.replicate (Lib.nDigits u) 0) (w.alloc (.cells Lib.zeros24 130)) hz (by rw [Array.size_replicate]; exact Lib.lt_pow_nDigits u) hu64 (by rw [Array.size_replicate]; omega)
  rw [Array.size_replicate] at hfm
  have HZ : Bx _ := ⟨hz⟩
  have HT : Bx _ := ⟨Lib.tabIs_alloc ht.here (.cells Lib.zeros24 130)⟩
  have iu : (100 : Int) ≤ (u : Int) := by omega
  clear hz hal hel ht
  go_enter Tryd.func49, Tryd.ntmps49
  go_wp2_with (go_at_call 55; refine (Tryd.internal_strconv_numDigits u hu1 hu64 _ HT.out).mono ?_; rintro e w' ⟨rfl, rfl⟩)
  go_at_call 56
  refine hfm.mono ?_
  rintro e w2 ⟨rfl, k, x', dk, rfl, hF⟩
  obtain ⟨os, eo⟩ := Lib.fin_at w (.cells Lib.zeros24 130) dk k 0
  obtain ⟨W2, hW2⟩ : ∃ W2, W2 = (putRow (fun (b : UInt8) => Value.int .u8 (b.toNat : Int)) (w.alloc (.cells Lib.zeros24 130)) w.heap.size 0 dk).drewN k := ⟨_, rfl⟩
  have hb2 : Below w.heap.size w W2 := by rw [hW2, eo]; exact Lib.below_grow w.heap.size w (Nat.le_refl _) k os
  have ho2 : BO W2 B v bs := owns_same ho fun g _ hg => hb2.block g hg
  have hcs : ∀ j y, (Lib.byteCells (Lib.decDigits u))[j]? = some y → W2.cell? ((⟨w.heap.size, 0, none⟩ : Addr).add j) = some y := by
    intro j y hj
    have hjl : j < (Lib.decDigits u).length := by
      have h5 := (List.getElem?_eq_some_iff.1 hj).1
      rwa [Lib.byteCells_length] at h5
    have e5 : (Lib.byteCells (Lib.decDigits u))[j]? = some (Value.int .u8 ((Lib.decDigits u)[j].toNat : Int)) := by simp [Lib.byteCells, hjl]
    rw [e5] at hj
    cases hj
    rw [hW2, Lib.row_is_numeral hF j hjl, Lib.add_plain, World.cell?_drewN]
    exact cell?_putRow (fun (b : UInt8) => Value.int .u8 (b.toNat : Int)) _ w.heap.size 0 _ dk HZ.out (by rw [hF.size, Array.size_replicate]) j (by rw [hF.size]; omega)
  rw [← hW2]
  have h2s := hb2.size
  have HO2 : Bx _ := ⟨ho2⟩
  have HCS : Bx _ := ⟨hcs⟩
  have HB2 : Bx _ := ⟨hb2⟩
  clear hcs hb2 ho2 eo hW2 HZ hfm ho HT hF
  have h1c : ∀ y ∈ Lib.byteCells (Lib.decDigits u), y.oneCell' = true := by
    intro y hy
    simp only [Lib.byteCells, List.mem_map] at hy
    obtain ⟨b, _, rfl⟩ := hy
    rfl
  have hbl : (Lib.byteCells (Lib.decDigits u)).length = Lib.nDigits u * 1 := by rw [Lib.byteCells_length, hnl, Nat.mul_one]
  go_wp2_with (at_builtin; refine wpList_append_lies _ rfl (.tmp 24) (.tmp 26) 55 rfl B 5 i0 (.int .u8 0) 1 1 Tryd.underlying55 hi hz0 hz1 hz2 rfl (by decide) v bs.length (Lib.byteCells bs) rfl HO2.out.own ⟨w.heap.size, 0, none⟩ (Lib.nDigits u) 24 (Lib.byteCells (Lib.decDigits u)) rfl hbl HCS.out h1c (by omega) (by unfold maxLen; omega) (by omega) (by omega) W2.heap.size rfl ?_; intro gg cg w8 hown hgrow hat hlt8; have HE : Bx (BO w8 B (.slice (some ⟨gg, 0, none⟩) (bs.length + Lib.nDigits u) cg) (bs ++ Lib.decDigits u) ∧ KV B v (.slice (some ⟨gg, 0, none⟩) (bs.length + Lib.nDigits u) cg) w w8) := ⟨(by unfold BO; rw [List.length_append, Lib.byteCells_append, hnl]; exact hown), (KV.new hB HB2.out).trans (KV.grown (by omega) HO2.out hgrow (fun g hg => by simp only [Value.ownBlock, Option.some.injEq] at hg; rcases hat with hat | hat; (left; rw [hat, hg]); (right; omega)))⟩; clear hown hgrow hat)
  go_ret
  exact ⟨_, rfl, HE⟩
theorem appU (w : World) (B : Nat) (v : Value) (bs : List UInt8) (u : Nat) (hu64 : u < 18446744073709551616) (hB : B ≤ w.heap.size) (ho : BO w B v bs) (hl : bs.length + 20 ≤ 140737488355328) (ht : PowAt B w) :
    Calls Tryd.prog 49 #[v, .int .u64 u, .int .i64 10] w fun e w' => ∃ v', e = .returned v' ∧ Bx (BO w' B v' (bs ++ Lib.decDigits u) ∧ KV B v v' w w') := by
  by_cases h : u < 100
  · exact appU_small w B v bs u h hB ho hl
  · exact appU_big w B v bs u (by omega) hu64 hB ho hl ht
set_option maxRecDepth 100000 in
set_option maxHeartbeats 4000000 in
theorem appI0 (w : World) (B : Nat) (v : Value) (bs : List UInt8) (i : Int) (hi64 : I64 i) (hB : B ≤ w.heap.size) (ho : BO w B v bs) (hl : bs.length + 21 ≤ 140737488355328) (ht : PowAt B w) :
    Calls Tryd.prog 44 #[v, .int .i64 i, .int .i64 10] w fun e w' => ∃ v', e = .returned v' ∧ Bx (BO w' B v' (bs ++ Lib.itoa i) ∧ KV B v v' w w') := by
  obtain ⟨h0, h1⟩ := hi64
  obtain ⟨i0, hi, hz0, hz1, hz2⟩ := info_parts infoU8
  by_cases hneg : i < 0
  · obtain ⟨u, rfl⟩ : ∃ u : Nat, i = -(u : Int) := ⟨i.natAbs, by omega⟩
    have hu1 : 1 ≤ u := by omega
    have hu64 : u < 18446744073709551616 := by omega
    have hwr : IntKind.u64.wrap (-IntKind.u64.wrap (-(u : Int))) = (u : Int) := by rw [IntKind.wrap_u64, IntKind.wrap_u64]; omega
    have HU : Bx (∀ W V, KV B v V w W → BO W B V (bs ++ [45]) → Calls Tryd.prog 49 #[V, .int .u64 u, .int .i64 10] W fun e w' => ∃ v', e = .returned v' ∧ Bx (BO w' B v' (bs ++ Lib.itoa (-(u : Int))) ∧ KV B v v' w w')) := ⟨fun W V hk hbo => by
      refine (appU W B V (bs ++ [45]) u hu64 (Nat.le_trans hB hk.ku.size) hbo (by rw [List.length_append]; simp only [List.length_cons, List.length_nil]; omega) (ht.on hk.ku.bel)).mono ?_
      rintro e w' ⟨v', h3, h4⟩
      refine ⟨v', h3, ⟨?_, hk.trans h4.out.2⟩⟩
      rw [Lib.itoa_neg u hu1]
      have := h4.out.1
      rw [List.append_assoc] at this
      exact this⟩
    have HOW : Bx ((w.alloc (.cells #[.int .u8 45] 5)).ownsRow B 5 1 v bs.length (Lib.byteCells bs)) := ⟨(ho.alloc _).own⟩
    have HPU : Bx (∀ g2 cp2 w8, (w.alloc (.cells #[.int .u8 45] 5)).grownBy w8 v.ownBlock → (v.ownBlock = some g2 ∨ g2 = w.heap.size + 1) → w8.ownsRow B 5 1 (.slice (some ⟨g2, 0, none⟩) (bs.length + 1) cp2) (bs.length + 1) (Lib.byteCells bs ++ [.int .u8 45]) → BO w8 B (.slice (some ⟨g2, 0, none⟩) (bs.length + 1) cp2) (bs ++ [45]) ∧ KV B v (.slice (some ⟨g2, 0, none⟩) (bs.length + 1) cp2) w w8) := ⟨fun g2 cp2 w8 hg hat hb => by
      refine ⟨(ho.push (c := 45) (KU.refl B w) hB hg hb).1, (KV.new hB (below1 w _)).trans (KV.grown (by simp; omega) (ho.alloc _) hg fun g hgg => ?_)⟩
      simp only [Value.ownBlock, Option.some.injEq] at hgg
      rcases hat with hat | hat
      · left; rw [hat, hgg]
      · right; simp; omega⟩
    clear ho ht
    go_enter Tryd.func44, Tryd.ntmps44
    go_wp2_with (first
      | (at_builtin; refine wpList_append_lies _ rfl (.tmp 12) (.tmp 13) 55 rfl B 5 i0 (.int .u8 0) 1 1 Tryd.underlying55 hi hz0 hz1 hz2 rfl (by decide) v bs.length (Lib.byteCells bs) rfl HOW.out ⟨w.heap.size, 0, none⟩ 1 1 [.int .u8 45] rfl rfl (u8_news _ _ rfl _) (u8_one _) (by decide) (by unfold maxLen; omega) (by omega) (by simp; omega) (w.heap.size + 1) (by simp) ?_; intro gg cg w8 hown hgrow hat hlt8; have LN := HPU.out gg cg w8 hgrow hat hown; have LNB : Bx _ := ⟨LN⟩; clear hgrow hat hown LN)
      | (go_at_call 49; refine (HU.out _ _ LNB.out.2 LNB.out.1).mono ?_; rintro e w9 ⟨v9, rfl, H9⟩))
    go_ret
    exact ⟨_, rfl, H9⟩
  · obtain ⟨u, rfl⟩ : ∃ u : Nat, i = u := ⟨i.toNat, by omega⟩
    have hu64 : u < 18446744073709551616 := by omega
    have HU := appU w B v bs u hu64 hB ho (by omega) ht
    rw [Lib.itoa_nonneg]
    clear ho ht
    go_enter Tryd.func44, Tryd.ntmps44
    go_wp2_with (go_at_call 49; refine HU.mono ?_; rintro e w9 ⟨v9, rfl, H9⟩)
    go_ret
    exact ⟨_, rfl, H9⟩
set_option maxRecDepth 100000 in
theorem appI (w : World) (B : Nat) (v : Value) (bs : List UInt8) (i : Int) (hi64 : I64 i) (hB : B ≤ w.heap.size) (ho : BO w B v bs) (hl : bs.length + 21 ≤ 140737488355328) (ht : PowAt B w) :
    Calls Tryd.prog 39 #[v, .int .i64 i, .int .i64 10] w fun e w' => ∃ v', e = .returned v' ∧ Bx (BO w' B v' (bs ++ Lib.itoa i) ∧ KV B v v' w w') := by
  have HU := appI0 w B v bs i hi64 hB ho hl ht
  clear ho ht
  go_enter Tryd.func39, Tryd.ntmps39
  go_wp2_with (go_at_call 44; refine HU.mono ?_; rintro e w9 ⟨v9, rfl, H9⟩)
  go_ret
  exact ⟨_, rfl, H9⟩
end Go.Proofs.YtecpknpcjoiliabDoor
