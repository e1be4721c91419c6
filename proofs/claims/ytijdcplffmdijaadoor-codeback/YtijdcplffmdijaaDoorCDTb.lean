import Derived.Test.YtijdcplffmdijaaDoorCDTa
namespace Go.Proofs.YtijdcplffmdijaaDoor
open Go.RowKit
set_option linter.unusedVariables false
set_option linter.unusedSimpArgs false

set_option maxRecDepth 100000 in
set_option maxHeartbeats 4000000 in
theorem rPops_P (w : World) (B : Nat) (x y : Int) (a : Option Addr) (cap : Nat) (ks : List Int) (hi : IntsV w B a cap ks) (hB : B ≤ w.heap.size) (hm : ks.length ≤ 281474976710656) :
    Calls Tryd.prog 17 #[.agg #[.int .i64 16, .int .i64 x, .int .i64 y, .slice a ks.length cap]] w fun e w' => e = .returned (.int .i64 (1 + pathN ks : Nat)) ∧ Below w.heap.size w w' := by
  have hb := below1 w (.cells #[.int .i64 16, .int .i64 x, .int .i64 y, .slice a ks.length cap] 28)
  obtain ⟨W, hW⟩ : ∃ W, W = w.alloc (.cells #[.int .i64 16, .int .i64 x, .int .i64 y, .slice a ks.length cap] 28) := ⟨_, rfl⟩
  have hi' : IntsV W B a cap ks := by rw [hW]; exact hi.below (hb.mono hB)
  have h3 : W.cell? ⟨w.heap.size, 3, none⟩ = some (.slice a ks.length cap) := by rw [hW]; exact cell_blk (heap_new w _) rfl
  obtain ⟨_, _, h5⟩ := hi'
  have H3 : Bx _ := ⟨h5⟩
  have HB : Bx (Below w.heap.size w W) := ⟨by rw [hW]; exact hb⟩
  clear hb h5 hi
  go_enter Tryd.func17, Tryd.ntmps17
  go_wp2
  rw [← hW]
  clear hW
  go_loop [4, 3] (fun i v => ∃ j : Nat, j ≤ ks.length ∧ i = .int .i64 j ∧ v = .int .i64 (1 + pathN (ks.take j) : Nat)) (fun i _ => ks.length - (intOf i).toNat)
  case atStart => exact ⟨0, by omega, rfl, rfl⟩
  case round =>
    obtain ⟨j, hj, rfl, rfl⟩ := hrel
    by_cases hlt : j < ks.length
    · obtain ⟨b, o, rfl, hb, hc⟩ := H3.out (by omega)
      have c := hc j hlt
      have hp := pathN_take ks j hlt
      have hpl := pathN_le (ks.take j)
      rw [List.length_take] at hpl
      have HP : Bx _ := ⟨hp⟩
      clear hp hc
      by_cases hq : ks[j] = -1
      · have hq' : (ks[j] == -1) = true := by simpa using hq
        go_wp2
        go_round
        case rel => exact ⟨j + 1, by omega, by go_num, by have := HP.out; rw [if_pos hq] at this; rw [this]; go_num⟩
        case measure => simp [intOf]; omega
      · have hq' : (ks[j] == -1) = false := by simpa using hq
        go_wp2
        go_round
        case rel => exact ⟨j + 1, by omega, by go_num, by have := HP.out; rw [if_neg hq] at this; rw [this]; rfl⟩
        case measure => simp [intOf]; omega
    · have : j = ks.length := by omega
      subst this
      go_wp2
      go_ret
      exact ⟨ret_int (by first | rfl | (rw [List.take_length]) | simp), HB.out⟩
set_option maxRecDepth 100000 in
set_option maxHeartbeats 4000000 in
theorem rPops_W (w : World) (B : Nat) (x y : Int) (a : Option Addr) (cap : Nat) (ks : List Int) (hi : IntsV w B a cap ks) (hB : B ≤ w.heap.size) (hm : ks.length ≤ 281474976710656) :
    Calls Tryd.prog 17 #[.agg #[.int .i64 27, .int .i64 x, .int .i64 y, .slice a ks.length cap]] w fun e w' => e = .returned (.int .i64 (armsN ks : Nat)) ∧ Below w.heap.size w w' := by
  have hb := below1 w (.cells #[.int .i64 27, .int .i64 x, .int .i64 y, .slice a ks.length cap] 28)
  obtain ⟨W, hW⟩ : ∃ W, W = w.alloc (.cells #[.int .i64 27, .int .i64 x, .int .i64 y, .slice a ks.length cap] 28) := ⟨_, rfl⟩
  have hi' : IntsV W B a cap ks := by rw [hW]; exact hi.below (hb.mono hB)
  have h3 : W.cell? ⟨w.heap.size, 3, none⟩ = some (.slice a ks.length cap) := by rw [hW]; exact cell_blk (heap_new w _) rfl
  obtain ⟨_, _, h5⟩ := hi'
  have H3 : Bx _ := ⟨h5⟩
  have HB : Bx (Below w.heap.size w W) := ⟨by rw [hW]; exact hb⟩
  have hal := armsN_le ks
  clear hb h5 hi
  go_enter Tryd.func17, Tryd.ntmps17
  go_wp2
  rw [← hW]
  clear hW
  go_loop [6, 5] (fun i v => ∃ j n : Nat, j ≤ ks.length + 1 ∧ i = .int .i64 j ∧ v = .int .i64 n ∧ Hid (armsN ks = n + armsN (ks.drop j))) (fun i _ => ks.length + 1 - (intOf i).toNat)
  case atStart => exact ⟨0, 0, by omega, rfl, rfl, by show _ = _; rw [List.drop_zero, Nat.zero_add]⟩
  case round =>
    obtain ⟨j, n, hj, rfl, rfl, H⟩ := hrel
    by_cases hlt : j < ks.length
    · obtain ⟨b, o, rfl, hb, hc⟩ := H3.out (by omega)
      have c := hc j hlt
      have hp := armsN_drop ks j hlt
      have HP : Bx _ := ⟨hp⟩
      clear hp hc
      by_cases hq : ks[j] = 1
      · have hq' : (ks[j] == 1) = true := by simpa using hq
        have hn : armsN ks = n + 2 + armsN (ks.drop (j + 2)) := by have := HP.out; rw [if_pos hq] at this; rw [H.out, this]; omega
        have HN : Hid (armsN ks = n + 2 + armsN (ks.drop (j + 2))) := hn
        have hn2 : n + 2 ≤ ks.length + 1 := by omega
        clear hn
        go_wp2
        go_round
        case rel => exact ⟨j + 2, n + 2, by omega, by go_num, by go_num, HN⟩
        case measure => simp [intOf]; omega
      · have hq' : (ks[j] == 1) = false := by simpa using hq
        have hn : armsN ks = n + 1 + armsN (ks.drop (j + 2)) := by have := HP.out; rw [if_neg hq] at this; rw [H.out, this]; omega
        have HN : Hid (armsN ks = n + 1 + armsN (ks.drop (j + 2))) := hn
        have hn2 : n + 1 ≤ ks.length + 1 := by omega
        clear hn
        go_wp2
        go_round
        case rel => exact ⟨j + 2, n + 1, by omega, by go_num, by go_num, HN⟩
        case measure => simp [intOf]; omega
    · go_wp2
      go_ret
      exact ⟨ret_int (by rw [H.out, List.drop_eq_nil_of_le (by omega)]; rfl), HB.out⟩
end Go.Proofs.YtijdcplffmdijaaDoor
