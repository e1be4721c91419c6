import Derived.Test.YtijdcplffmdijaaDoorCDC
namespace Go.Proofs.YtijdcplffmdijaaDoor
open Go.RowKit
set_option linter.unusedVariables false
set_option linter.unusedSimpArgs false

theorem some_any (n : Int) (w : World) : Calls Tryd.prog 34 #[.int .i64 n] w fun e w' => e = .returned (.int .i64 (max n 0)) ∧ w = w' := by
  by_cases h : n < 0
  · rw [show max n 0 = 0 by omega]
    go_enter Tryd.func34, Tryd.ntmps34
    go_wp2
    go_ret
    exact ⟨rfl, rfl⟩
  · rw [show max n 0 = n by omega]
    go_enter Tryd.func34, Tryd.ntmps34
    go_wp2
    go_ret
    exact ⟨rfl, rfl⟩
theorem pops_of (op a b : Int) (l : List Int) (tk : Int) (h : (shapeI op).2.2.1 = tk) : popsI ⟨op, a, b, l⟩ = if 9223372036854775807 - tk < moreI ⟨op, a, b, l⟩ then 9223372036854775807 else tk + moreI ⟨op, a, b, l⟩ := by unfold popsI; rw [h]
theorem more_0 {op a b : Int} {l : List Int} (h : op ∉ [10, 11, 23, 24, 22, 16, 27]) : moreI ⟨op, a, b, l⟩ = 0 := by
  simp only [List.mem_cons, List.not_mem_nil, or_false, not_or] at h
  obtain ⟨h1, h2, h3, h4, h5, h6, h7⟩ := h
  unfold moreI
  simp only []
  rw [if_neg (by omega), if_neg h5, if_neg h6, if_neg h7]
set_option maxRecDepth 100000 in
set_option maxHeartbeats 4000000 in
/-- an operation that takes so many, whatever it has -/
theorem rPops_1 (w : World) (op x y : Int) (a : Option Addr) (n cap : Nat) (h : op = 5 ∨ op = 9 ∨ op = 13 ∨ op = 15 ∨ op = 17 ∨ op = 20) :
    Calls Tryd.prog 17 #[.agg #[.int .i64 op, .int .i64 x, .int .i64 y, .slice a n cap]] w fun e w' => e = .returned (.int .i64 1) ∧ Below w.heap.size w w' := by
  have HB : Bx (∀ o, Below w.heap.size w (w.alloc o)) := ⟨fun o => below1 w o⟩
  rcases h with rfl | rfl | rfl | rfl | rfl | rfl <;>
    (go_enter Tryd.func17, Tryd.ntmps17
     go_wp2
     go_ret
     exact ⟨rfl, HB.out _⟩)
set_option maxRecDepth 100000 in
set_option maxHeartbeats 4000000 in
theorem rPops_2 (w : World) (op x y : Int) (a : Option Addr) (n cap : Nat) (h : op = 12 ∨ op = 14 ∨ op = 18) :
    Calls Tryd.prog 17 #[.agg #[.int .i64 op, .int .i64 x, .int .i64 y, .slice a n cap]] w fun e w' => e = .returned (.int .i64 2) ∧ Below w.heap.size w w' := by
  have HB : Bx (∀ o, Below w.heap.size w (w.alloc o)) := ⟨fun o => below1 w o⟩
  rcases h with rfl | rfl | rfl <;>
    (go_enter Tryd.func17, Tryd.ntmps17
     go_wp2
     go_ret
     exact ⟨rfl, HB.out _⟩)
set_option maxRecDepth 100000 in
set_option maxHeartbeats 4000000 in
theorem rPops_A (w : World) (op x y : Int) (a : Option Addr) (n cap : Nat) (h : op = 10 ∨ op = 11) :
    Calls Tryd.prog 17 #[.agg #[.int .i64 op, .int .i64 x, .int .i64 y, .slice a n cap]] w fun e w' => e = .returned (.int .i64 (max x 0)) ∧ Below w.heap.size w w' := by
  have HB : Bx (∀ o, Below w.heap.size w (w.alloc o)) := ⟨fun o => below1 w o⟩
  have HS : Bx (∀ W, _) := ⟨fun W => some_any x W⟩
  generalize max x 0 = m at *
  rcases h with rfl | rfl <;>
    (go_enter Tryd.func17, Tryd.ntmps17
     go_wp2_with (go_at_call 34; refine (HS.out _).mono ?_; rintro e w1 ⟨rfl, rfl⟩)
     go_ret
     exact ⟨rfl, HB.out _⟩)
set_option maxRecDepth 100000 in
set_option maxHeartbeats 4000000 in
theorem rPops_B (w : World) (x y : Int) (a : Option Addr) (n cap : Nat) :
    Calls Tryd.prog 17 #[.agg #[.int .i64 22, .int .i64 x, .int .i64 y, .slice a n cap]] w fun e w' => e = .returned (.int .i64 (max y 0)) ∧ Below w.heap.size w w' := by
  have HB : Bx (∀ o, Below w.heap.size w (w.alloc o)) := ⟨fun o => below1 w o⟩
  have HS : Bx (∀ W, _) := ⟨fun W => some_any y W⟩
  generalize max y 0 = m at *
  go_enter Tryd.func17, Tryd.ntmps17
  go_wp2_with (go_at_call 34; refine (HS.out _).mono ?_; rintro e w1 ⟨rfl, rfl⟩)
  go_ret
  exact ⟨rfl, HB.out _⟩
set_option maxRecDepth 100000 in
set_option maxHeartbeats 4000000 in
theorem rPops_C (w : World) (op x y : Int) (a : Option Addr) (n cap : Nat) (hx : I64 x) (h : op = 23 ∨ op = 24) :
    Calls Tryd.prog 17 #[.agg #[.int .i64 op, .int .i64 x, .int .i64 y, .slice a n cap]] w fun e w' => e = .returned (.int .i64 (if x = 9223372036854775807 then x else max x 0 + 1)) ∧ Below w.heap.size w w' := by
  have HB : Bx (∀ o, Below w.heap.size w (w.alloc o)) := ⟨fun o => below1 w o⟩
  obtain ⟨x1, x2⟩ := hx
  by_cases hm : x = 9223372036854775807
  · rw [if_pos hm]
    subst hm
    rcases h with rfl | rfl <;>
      (go_enter Tryd.func17, Tryd.ntmps17
       go_wp2
       go_ret
       exact ⟨rfl, HB.out _⟩)
  · rw [if_neg hm]
    have hb : (x == 9223372036854775807) = false := by simpa using hm
    have HS : Bx (∀ W, _) := ⟨fun W => some_any x W⟩
    have m1 : 0 ≤ max x 0 := by omega
    have m2 : max x 0 ≤ 9223372036854775806 := by omega
    generalize max x 0 = m at *
    rcases h with rfl | rfl <;>
      (go_enter Tryd.func17, Tryd.ntmps17
       go_wp2_with (go_at_call 34; refine (HS.out _).mono ?_; rintro e w1 ⟨rfl, rfl⟩)
       go_ret
       exact ⟨ret_int (by first | rfl | omega | go_num), HB.out _⟩)
set_option maxRecDepth 100000 in
set_option maxHeartbeats 4000000 in
theorem rPops_0 (w : World) (op x y : Int) (a : Option Addr) (n cap : Nat) (h : op ∉ [5, 9, 13, 15, 17, 20, 12, 14, 18, 10, 11, 22, 23, 24, 16, 27]) :
    Calls Tryd.prog 17 #[.agg #[.int .i64 op, .int .i64 x, .int .i64 y, .slice a n cap]] w fun e w' => e = .returned (.int .i64 0) ∧ Below w.heap.size w w' := by
  have HB : Bx (∀ o, Below w.heap.size w (w.alloc o)) := ⟨fun o => below1 w o⟩
  simp only [List.mem_cons, List.not_mem_nil, or_false, not_or] at h
  obtain ⟨n1, n2, n3, n4, n5, n6, n7, n8, n9, n10, n11, n12, n13, n14, n15, n16⟩ := h
  have b1 : (op == 5) = false := by simpa using n1
  have b2 : (op == 9) = false := by simpa using n2
  have b3 : (op == 13) = false := by simpa using n3
  have b4 : (op == 15) = false := by simpa using n4
  have b5 : (op == 17) = false := by simpa using n5
  have b6 : (op == 20) = false := by simpa using n6
  have b7 : (op == 12) = false := by simpa using n7
  have b8 : (op == 14) = false := by simpa using n8
  have b9 : (op == 18) = false := by simpa using n9
  have b10 : (op == 10) = false := by simpa using n10
  have b11 : (op == 11) = false := by simpa using n11
  have b12 : (op == 22) = false := by simpa using n12
  have b13 : (op == 23) = false := by simpa using n13
  have b14 : (op == 24) = false := by simpa using n14
  have b15 : (op == 16) = false := by simpa using n15
  have b16 : (op == 27) = false := by simpa using n16
  go_enter Tryd.func17, Tryd.ntmps17
  go_wp2
  go_ret
  exact ⟨rfl, HB.out _⟩
end Go.Proofs.YtijdcplffmdijaaDoor
namespace Go.Proofs.YtijdcplffmdijaaDoor
open Go.RowKit
set_option linter.unusedVariables false
set_option linter.unusedSimpArgs false

set_option maxRecDepth 100000 in
set_option maxHeartbeats 4000000 in
theorem rPops_P (w : World) (B : Nat) (x y : Int) (a : Option Addr) (cap : Nat) (ks : List Int) (hi : IntsV w B a cap ks) (hB : B ≤ w.heap.size) (hm : ks.length ≤ 281474976710656) :
    Calls Tryd.prog 17 #[.agg #[.int .i64 16, .int .i64 x, .int .i64 y, .slice a ks.length cap]] w fun e w' => e = .returned (.int .i64 (1 + pathN ks : Nat)) ∧ Below w.heap.size w w' := by
  have hb := below1 w (.cells #[.int .i64 16, .int .i64 x, .int .i64 y, .slice a ks.length cap] 28)
  obtain ⟨W, hW⟩ : ∃ W, W = w.alloc (.cells #[.int .i64 16, .int .i64 x, .int .i64 y, .slice a ks.length cap] 28) := ⟨_, rfl⟩
  have hi' : IntsV W B a cap ks := by rw [hW]; exact hi.below (hb.mono hB)
  have h3 : W.cell? ⟨w.heap.size, 3, none⟩ = some (.slice a ks.length cap) := by rw [hW]; exact cell_blk (heap_new w _) rfl
  obtain ⟨_, _, h5⟩ := hi'
  have H3 : Bx _ := ⟨h5⟩
  have HB : Bx (Below w.heap.size w W) := ⟨by rw [hW]; exact hb⟩
  clear hb h5 hi
  go_enter Tryd.func17, Tryd.ntmps17
  go_wp2
  rw [← hW]
  clear hW
  go_loop [4, 3] (fun i v => ∃ j : Nat, j ≤ ks.length ∧ i = .int .i64 j ∧ v = .int .i64 (1 + pathN (ks.take j) : Nat)) (fun i _ => ks.length - (intOf i).toNat)
  case atStart => exact ⟨0, by omega, rfl, rfl⟩
  case round =>
    obtain ⟨j, hj, rfl, rfl⟩ := hrel
    by_cases hlt : j < ks.length
    · obtain ⟨b, o, rfl, hb, hc⟩ := H3.out (by omega)
      have c := hc j hlt
      have hp := pathN_take ks j hlt
      have hpl := pathN_le (ks.take j)
      rw [List.length_take] at hpl
      have HP : Bx _ := ⟨hp⟩
      clear hp hc
      by_cases hq : ks[j] = -1
      · have hq' : (ks[j] == -1) = true := by simpa using hq
        go_wp2
        go_round
        case rel => exact ⟨j + 1, by omega, by go_num, by have := HP.out; rw [if_pos hq] at this; rw [this]; go_num⟩
        case measure => simp [intOf]; omega
      · have hq' : (ks[j] == -1) = false := by simpa using hq
        go_wp2
        go_round
        case rel => exact ⟨j + 1, by omega, by go_num, by have := HP.out; rw [if_neg hq] at this; rw [this]; rfl⟩
        case measure => simp [intOf]; omega
    · have : j = ks.length := by omega
      subst this
      go_wp2
      go_ret
      exact ⟨ret_int (by first | rfl | (rw [List.take_length]) | simp), HB.out⟩
set_option maxRecDepth 100000 in
set_option maxHeartbeats 4000000 in
theorem rPops_W (w : World) (B : Nat) (x y : Int) (a : Option Addr) (cap : Nat) (ks : List Int) (hi : IntsV w B a cap ks) (hB : B ≤ w.heap.size) (hm : ks.length ≤ 281474976710656) :
    Calls Tryd.prog 17 #[.agg #[.int .i64 27, .int .i64 x, .int .i64 y, .slice a ks.length cap]] w fun e w' => e = .returned (.int .i64 (armsN ks : Nat)) ∧ Below w.heap.size w w' := by
  have hb := below1 w (.cells #[.int .i64 27, .int .i64 x, .int .i64 y, .slice a ks.length cap] 28)
  obtain ⟨W, hW⟩ : ∃ W, W = w.alloc (.cells #[.int .i64 27, .int .i64 x, .int .i64 y, .slice a ks.length cap] 28) := ⟨_, rfl⟩
  have hi' : IntsV W B a cap ks := by rw [hW]; exact hi.below (hb.mono hB)
  have h3 : W.cell? ⟨w.heap.size, 3, none⟩ = some (.slice a ks.length cap) := by rw [hW]; exact cell_blk (heap_new w _) rfl
  obtain ⟨_, _, h5⟩ := hi'
  have H3 : Bx _ := ⟨h5⟩
  have HB : Bx (Below w.heap.size w W) := ⟨by rw [hW]; exact hb⟩
  have hal := armsN_le ks
  clear hb h5 hi
  go_enter Tryd.func17, Tryd.ntmps17
  go_wp2
  rw [← hW]
  clear hW
  go_loop [6, 5] (fun i v => ∃ j n : Nat, j ≤ ks.length + 1 ∧ i = .int .i64 j ∧ v = .int .i64 n ∧ Hid (armsN ks = n + armsN (ks.drop j))) (fun i _ => ks.length + 1 - (intOf i).toNat)
  case atStart => exact ⟨0, 0, by omega, rfl, rfl, by show _ = _; rw [List.drop_zero, Nat.zero_add]⟩
  case round =>
    obtain ⟨j, n, hj, rfl, rfl, H⟩ := hrel
    by_cases hlt : j < ks.length
    · obtain ⟨b, o, rfl, hb, hc⟩ := H3.out (by omega)
      have c := hc j hlt
      have hp := armsN_drop ks j hlt
      have HP : Bx _ := ⟨hp⟩
      clear hp hc
      by_cases hq : ks[j] = 1
      · have hq' : (ks[j] == 1) = true := by simpa using hq
        have hn : armsN ks = n + 2 + armsN (ks.drop (j + 2)) := by have := HP.out; rw [if_pos hq] at this; rw [H.out, this]; omega
        have HN : Hid (armsN ks = n + 2 + armsN (ks.drop (j + 2))) := hn
        have hn2 : n + 2 ≤ ks.length + 1 := by omega
        clear hn
        go_wp2
        go_round
        case rel => exact ⟨j + 2, n + 2, by omega, by go_num, by go_num, HN⟩
        case measure => simp [intOf]; omega
      · have hq' : (ks[j] == 1) = false := by simpa using hq
        have hn : armsN ks = n + 1 + armsN (ks.drop (j + 2)) := by have := HP.out; rw [if_neg hq] at this; rw [H.out, this]; omega
        have HN : Hid (armsN ks = n + 1 + armsN (ks.drop (j + 2))) := hn
        have hn2 : n + 1 ≤ ks.length + 1 := by omega
        clear hn
        go_wp2
        go_round
        case rel => exact ⟨j + 2, n + 1, by omega, by go_num, by go_num, HN⟩
        case measure => simp [intOf]; omega
    · go_wp2
      go_ret
      exact ⟨ret_int (by rw [H.out, List.drop_eq_nil_of_le (by omega)]; rfl), HB.out⟩
end Go.Proofs.YtijdcplffmdijaaDoor
namespace Go.Proofs.YtijdcplffmdijaaDoor
open Go.RowKit
set_option linter.unusedVariables false
set_option linter.unusedSimpArgs false

theorem take_of {op : Int} (h0 : 0 ≤ op) (h1 : op < 28) : (shapeI op).2.2.1 = (shapesT.getD op.toNat noShape).2.2.1 := by
  unfold shapeI
  rw [if_neg (by omega)]
theorem take_tab : ∀ k, k < 28 → (shapesT.getD k noShape).2.2.1 = if k ∈ [5, 9, 13, 15, 17, 20, 16, 23, 24] then 1 else if k ∈ [12, 14, 18] then 2 else 0 := by decide
theorem take_is (op : Int) : (shapeI op).2.2.1 = if op ∈ [5, 9, 13, 15, 17, 20, 16, 23, 24] then 1 else if op ∈ [12, 14, 18] then 2 else 0 := by
  by_cases h : 0 ≤ op ∧ op < 28
  · obtain ⟨k, rfl⟩ : ∃ k : Nat, op = k := ⟨op.toNat, by omega⟩
    rw [take_of h.1 h.2, Int.toNat_natCast, take_tab k (by omega)]
    have e1 : ((k : Int) ∈ [5, 9, 13, 15, 17, 20, 16, 23, 24]) ↔ (k ∈ [5, 9, 13, 15, 17, 20, 16, 23, 24]) := by simp only [List.mem_cons, List.not_mem_nil, or_false]; omega
    have e2 : ((k : Int) ∈ [12, 14, 18]) ↔ (k ∈ [12, 14, 18]) := by simp only [List.mem_cons, List.not_mem_nil, or_false]; omega
    simp only [e1, e2]
  · have e : shapeI op = noShape := by unfold shapeI; rw [if_pos (by omega)]
    rw [e, if_neg (by simp only [List.mem_cons, List.not_mem_nil, or_false]; omega), if_neg (by simp only [List.mem_cons, List.not_mem_nil, or_false]; omega)]
    rfl
theorem rPops_any (w : World) (B : Nat) (i : CIn) (a : Option Addr) (cap : Nat) (hw : i.Wf) (hi : IntsV w B a cap i.list) (hm : i.list.length ≤ 281474976710656) (hB : B ≤ w.heap.size) :
    Calls Tryd.prog 17 #[insV i a cap] w fun e w' => e = .returned (.int .i64 (popsI i)) ∧ Below w.heap.size w w' := by
  obtain ⟨op, x, y, l⟩ := i
  obtain ⟨_, hx, hy, _⟩ := hw
  simp only [] at *
  have ht := take_is op
  unfold popsI
  simp only [] at ht ⊢
  by_cases h1 : op = 5 ∨ op = 9 ∨ op = 13 ∨ op = 15 ∨ op = 17 ∨ op = 20
  · have e0 : moreI ⟨op, x, y, l⟩ = 0 := more_0 (by simp only [List.mem_cons, List.not_mem_nil, or_false]; omega)
    have hk : (shapeI op).2.2.1 = 1 := by rw [ht, if_pos (by simp only [List.mem_cons, List.not_mem_nil, or_false]; omega)]
    rw [hk, e0, if_neg (by omega)]
    exact rPops_1 w op x y a l.length cap h1
  by_cases h2 : op = 12 ∨ op = 14 ∨ op = 18
  · have e0 : moreI ⟨op, x, y, l⟩ = 0 := more_0 (by simp only [List.mem_cons, List.not_mem_nil, or_false]; omega)
    have hk : (shapeI op).2.2.1 = 2 := by rw [ht, if_neg (by simp only [List.mem_cons, List.not_mem_nil, or_false]; omega), if_pos (by simp only [List.mem_cons, List.not_mem_nil, or_false]; omega)]
    rw [hk, e0, if_neg (by omega)]
    exact rPops_2 w op x y a l.length cap h2
  by_cases h3 : op = 10 ∨ op = 11
  · have e0 : moreI ⟨op, x, y, l⟩ = max x 0 := by unfold moreI; simp only []; rw [if_pos (by omega)]
    obtain ⟨x1, x2⟩ := hx
    have hk : (shapeI op).2.2.1 = 0 := by rw [ht, if_neg (by simp only [List.mem_cons, List.not_mem_nil, or_false]; omega), if_neg (by simp only [List.mem_cons, List.not_mem_nil, or_false]; omega)]
    rw [hk, e0, if_neg (by omega), Int.zero_add]
    exact rPops_A w op x y a l.length cap h3
  by_cases h4 : op = 22
  · subst h4
    have e0 : moreI ⟨22, x, y, l⟩ = max y 0 := by unfold moreI; simp only []; rw [if_neg (by omega), if_pos trivial]
    obtain ⟨y1, y2⟩ := hy
    have hk : (shapeI 22).2.2.1 = 0 := by decide
    rw [hk, e0, if_neg (by omega), Int.zero_add]
    exact rPops_B w x y a l.length cap
  by_cases h5 : op = 23 ∨ op = 24
  · have e0 : moreI ⟨op, x, y, l⟩ = max x 0 := by unfold moreI; simp only []; rw [if_pos (by omega)]
    have hp := rPops_C w op x y a l.length cap hx h5
    obtain ⟨x1, x2⟩ := hx
    have hk : (shapeI op).2.2.1 = 1 := by rw [ht, if_pos (by simp only [List.mem_cons, List.not_mem_nil, or_false]; omega)]
    rw [hk, e0]
    by_cases hmx : x = 9223372036854775807
    · rw [if_pos hmx] at hp
      rw [if_pos (by omega)]
      rw [hmx] at hp ⊢
      exact hp
    · rw [if_neg hmx] at hp
      rw [if_neg (by omega), Int.add_comm]
      exact hp
  by_cases h6 : op = 16
  · subst h6
    have e0 : moreI ⟨16, x, y, l⟩ = pathN l := by unfold moreI; simp only []; rw [if_neg (by omega), if_neg (by omega), if_pos trivial]
    have := pathN_le l
    have hk : (shapeI 16).2.2.1 = 1 := by decide
    rw [hk, e0, if_neg (by omega)]
    exact (rPops_P w B x y a cap l hi hB hm).mono fun e w' h => ⟨by rw [h.1]; exact ret_int (by omega), h.2⟩
  by_cases h7 : op = 27
  · subst h7
    have e0 : moreI ⟨27, x, y, l⟩ = armsN l := by unfold moreI; simp only []; rw [if_neg (by omega), if_neg (by omega), if_neg (by omega), if_pos trivial]
    have := armsN_le l
    have hk : (shapeI 27).2.2.1 = 0 := by decide
    rw [hk, e0, if_neg (by omega), Int.zero_add]
    exact rPops_W w B x y a cap l hi hB hm
  have e0 : moreI ⟨op, x, y, l⟩ = 0 := more_0 (by simp only [List.mem_cons, List.not_mem_nil, or_false]; omega)
  have hk : (shapeI op).2.2.1 = 0 := by rw [ht, if_neg (by simp only [List.mem_cons, List.not_mem_nil, or_false]; omega), if_neg (by simp only [List.mem_cons, List.not_mem_nil, or_false]; omega)]
  rw [hk, e0, if_neg (by omega)]
  exact rPops_0 w op x y a l.length cap (by simp only [List.mem_cons, List.not_mem_nil, or_false]; omega)
end Go.Proofs.YtijdcplffmdijaaDoor
namespace Go.Proofs.YtijdcplffmdijaaDoor
open Go.RowKit
set_option linter.unusedVariables false
set_option linter.unusedSimpArgs false

theorem lays_tab : ∀ k, k < 28 → (shapesT.getD k noShape).2.2.2 = if k ∈ [5, 6, 9, 16, 19, 20, 21, 24, 25, 27, 23] then 0 else if (shapesT.getD k noShape).1 = [] then 0 else 1 := by decide
theorem lays_is (op : Int) : (shapeI op).2.2.2 = if op ∈ [5, 6, 9, 16, 19, 20, 21, 24, 25, 27, 23] then 0 else if nameI op = [] then 0 else 1 := by
  by_cases h : 0 ≤ op ∧ op < 28
  · obtain ⟨k, rfl⟩ : ∃ k : Nat, op = k := ⟨op.toNat, by omega⟩
    have e : shapeI (k : Nat) = shapesT.getD k noShape := by unfold shapeI; rw [if_neg (by omega), Int.toNat_natCast]
    unfold nameI
    rw [e, lays_tab k (by omega)]
    have e1 : ((k : Int) ∈ [5, 6, 9, 16, 19, 20, 21, 24, 25, 27, 23]) ↔ (k ∈ [5, 6, 9, 16, 19, 20, 21, 24, 25, 27, 23]) := by simp only [List.mem_cons, List.not_mem_nil, or_false]; omega
    simp only [e1]
  · have e : shapeI op = noShape := by unfold shapeI; rw [if_pos (by omega)]
    unfold nameI
    rw [e, if_neg (by simp only [List.mem_cons, List.not_mem_nil, or_false]; omega)]
    rfl
set_option maxRecDepth 100000 in
set_option maxHeartbeats 8000000 in
theorem rPushes_any (w : World) (i : CIn) (a : Option Addr) (cap : Nat) (hw : i.Wf) :
    Calls Tryd.prog 18 #[insV i a cap] w fun e w' => e = .returned (.int .i64 (pushesI i)) ∧ Below w.heap.size w w' := by
  obtain ⟨op, x, y, l⟩ := i
  have hop := hw.op
  have HB : Bx (∀ o, Below w.heap.size w (w.alloc o)) := ⟨fun o => below1 w o⟩
  have hl := lays_is op
  unfold pushesI
  simp only [] at *
  generalize l.length = n
  by_cases h1 : op = 5 ∨ op = 6 ∨ op = 9 ∨ op = 16 ∨ op = 19 ∨ op = 20 ∨ op = 21 ∨ op = 24 ∨ op = 25 ∨ op = 27
  · have hk : (shapeI op).2.2.2 = 0 := by rw [hl, if_pos (by simp only [List.mem_cons, List.not_mem_nil, or_false]; omega)]
    rw [hk, if_neg (by omega)]
    clear hl hk hw hop
    rcases h1 with rfl | rfl | rfl | rfl | rfl | rfl | rfl | rfl | rfl | rfl <;>
      (go_enter Tryd.func18, Tryd.ntmps18
       go_wp2
       go_ret
       exact ⟨rfl, HB.out _⟩)
  by_cases h2 : op = 23
  · have hk : (shapeI op).2.2.2 = 0 := by rw [hl, if_pos (by simp only [List.mem_cons, List.not_mem_nil, or_false]; omega)]
    rw [hk]
    clear hl hk hw hop
    subst h2
    by_cases h3 : y = 1
    · subst h3
      rw [if_pos ⟨rfl, rfl⟩]
      go_enter Tryd.func18, Tryd.ntmps18
      go_wp2
      go_ret
      exact ⟨rfl, HB.out _⟩
    · rw [if_neg (fun h => h3 h.2)]
      have b3 : (y == 1) = false := by simpa using h3
      go_enter Tryd.func18, Tryd.ntmps18
      go_wp2
      go_ret
      exact ⟨rfl, HB.out _⟩
  · rw [not_or, not_or, not_or, not_or, not_or, not_or, not_or, not_or, not_or] at h1
    obtain ⟨n1, n2, n3, n4, n5, n6, n7, n8, n9, n10⟩ := h1
    rw [hl, if_neg (fun h => h2 h.1), if_neg (by simp only [List.mem_cons, List.not_mem_nil, or_false]; omega)]
    have HN : Bx (∀ W, _) := ⟨fun W => rName_any op W hop⟩
    have b1 : (op == 5) = false := by simpa using n1
    have b2 : (op == 6) = false := by simpa using n2
    have b3 : (op == 9) = false := by simpa using n3
    have b4 : (op == 16) = false := by simpa using n4
    have b5 : (op == 19) = false := by simpa using n5
    have b6 : (op == 20) = false := by simpa using n6
    have b7 : (op == 21) = false := by simpa using n7
    have b8 : (op == 24) = false := by simpa using n8
    have b9 : (op == 25) = false := by simpa using n9
    have b10 : (op == 27) = false := by simpa using n10
    have b11 : (op == 23) = false := by simpa using h2
    have HBB : Bx (∀ o w2, Below (w.alloc o).heap.size (w.alloc o) w2 → Below w.heap.size w w2) := ⟨fun o w2 hb => (below1 w o).trans (hb.mono (by simp))⟩
    clear hl hw hop
    by_cases hn : nameI op = []
    · rw [if_pos hn]
      rw [hn] at HN
      go_enter Tryd.func18, Tryd.ntmps18
      go_wp2_with (go_at_call 12; refine (HN.out _).mono ?_; rintro e w1 ⟨rfl, hb1⟩)
      go_ret
      exact ⟨rfl, HBB.out _ _ hb1⟩
    · rw [if_neg hn]
      generalize nameI op = nm at *
      have n3 : nm.isEmpty = false := by
        cases nm with
        | nil => exact absurd rfl hn
        | cons a b => rfl
      go_enter Tryd.func18, Tryd.ntmps18
      go_wp2_with (go_at_call 12; refine (HN.out _).mono ?_; rintro e w1 ⟨rfl, hb1⟩)
      go_ret
      exact ⟨rfl, HBB.out _ _ hb1⟩
end Go.Proofs.YtijdcplffmdijaaDoor
