import Derived.Test.YtadmpgegolmkgaaDoorBWzC
set_option linter.unusedVariables false
set_option linter.unusedSimpArgs false
set_option maxHeartbeats 4000000
set_option maxRecDepth 100000
namespace Go.Proofs.YtadmpgegolmkgaaDoor
open Go.RowKit
theorem zW (w : World) (B : Nat) (x y : Int) (a : Option Addr) (cap : Nat) (ks : List Int) (hi : aF w B a cap ks) (hB : B <= w.heap.size) (hm : ks.length <= 281474976710656) :
  Calls Tryd.prog 55 #[.agg #[.int .i64 16, .int .i64 x, .int .i64 y, .slice a ks.length cap]] w fun e w' => e = .returned (.int .i64 (1 + gF ks : Nat)) /\ Below w.heap.size w w' := by
 have hb := ak w (.cells #[.int .i64 16, .int .i64 x, .int .i64 y, .slice a ks.length cap] 43)
 obtain ⟨W, hW⟩ : ∃ W, W = w.alloc (.cells #[.int .i64 16, .int .i64 x, .int .i64 y, .slice a ks.length cap] 43) := ⟨_, rfl⟩
 have hi' : aF W B a cap ks := by rw [hW]; exact hi.below (hb.mono hB)
 have h3 : W.cell? ⟨w.heap.size, 3, none⟩ = some (.slice a ks.length cap) := by rw [hW]; exact aa (aj w _ _ rfl) rfl
 obtain ⟨_, _, h5⟩ := hi'
 have H3 : Bx _ := ⟨h5⟩
 have HB : Bx (Below w.heap.size w W) := ⟨by rw [hW]; exact hb⟩
 clear hb h5 hi
 go_enter Tryd.func55, Tryd.ntmps55
 go_wp2
 rw [← hW]
 clear hW
 go_loop [4, 3] (fun i v => ∃ j : Nat, j <= ks.length /\ i = .int .i64 j /\ v = .int .i64 (1 + gF (ks.take j) : Nat)) (fun i _ => ks.length - (intOf i).toNat)
 case atStart => exact ⟨0, by omega, rfl, rfl⟩
 case round =>
  obtain ⟨j, hj, rfl, rfl⟩ := hrel
  by_cases hlt : j < ks.length
  ·obtain ⟨b, o, rfl, hb, hc⟩ := H3.out (by omega)
   have c := hc j hlt
   have hp := kz ks j hlt
   have hpl := iW (ks.take j)
   rw [List.length_take] at hpl
   have HP : Bx _ := ⟨hp⟩
   clear hp hc
   by_cases hq : ks[j] = -1
   ·have hq' : (ks[j] == -1) = true := by simpa using hq
    go_wp2
    go_round
    case rel => exact ⟨j + 1, by omega, by go_num, by have := HP.out; rw [if_pos hq] at this; rw [this]; go_num⟩
    case measure => simp [intOf]; omega
   ·have hq' : (ks[j] == -1) = false := by simpa using hq
    go_wp2
    go_round
    case rel => exact ⟨j + 1, by omega, by go_num, by have := HP.out; rw [if_neg hq] at this; rw [this]; rfl⟩
    case measure => simp [intOf]; omega
  ·have : j = ks.length := by omega
   subst this
   go_wp2
   go_ret
   exact ⟨dK (by first | rfl | (rw [List.take_length]) | simp), HB.out⟩
theorem zX (w : World) (B : Nat) (x y : Int) (a : Option Addr) (cap : Nat) (ks : List Int) (hi : aF w B a cap ks) (hB : B <= w.heap.size) (hm : ks.length <= 281474976710656) :
  Calls Tryd.prog 55 #[.agg #[.int .i64 27, .int .i64 x, .int .i64 y, .slice a ks.length cap]] w fun e w' => e = .returned (.int .i64 (bQ ks : Nat)) /\ Below w.heap.size w w' := by
 have hb := ak w (.cells #[.int .i64 27, .int .i64 x, .int .i64 y, .slice a ks.length cap] 43)
 obtain ⟨W, hW⟩ : ∃ W, W = w.alloc (.cells #[.int .i64 27, .int .i64 x, .int .i64 y, .slice a ks.length cap] 43) := ⟨_, rfl⟩
 have hi' : aF W B a cap ks := by rw [hW]; exact hi.below (hb.mono hB)
 have h3 : W.cell? ⟨w.heap.size, 3, none⟩ = some (.slice a ks.length cap) := by rw [hW]; exact aa (aj w _ _ rfl) rfl
 obtain ⟨_, _, h5⟩ := hi'
 have H3 : Bx _ := ⟨h5⟩
 have HB : Bx (Below w.heap.size w W) := ⟨by rw [hW]; exact hb⟩
 have hal := ig ks
 clear hb h5 hi
 go_enter Tryd.func55, Tryd.ntmps55
 go_wp2
 rw [← hW]
 clear hW
 go_loop [6, 5] (fun i v => ∃ j n : Nat, j <= ks.length + 1 /\ i = .int .i64 j /\ v = .int .i64 n /\ Hid (bQ ks = n + bQ (ks.drop j))) (fun i _ => ks.length + 1 - (intOf i).toNat)
 case atStart => exact ⟨0, 0, by omega, rfl, rfl, by show _ = _; rw [List.drop_zero, Nat.zero_add]⟩
 case round =>
  obtain ⟨j, n, hj, rfl, rfl, H⟩ := hrel
  by_cases hlt : j < ks.length
  ·obtain ⟨b, o, rfl, hb, hc⟩ := H3.out (by omega)
   have c := hc j hlt
   have hp := kD ks j hlt
   have HP : Bx _ := ⟨hp⟩
   clear hp hc
   by_cases hq : ks[j] = 1
   ·have hq' : (ks[j] == 1) = true := by simpa using hq
    have hn : bQ ks = n + 2 + bQ (ks.drop (j + 2)) := by have := HP.out; rw [if_pos hq] at this; rw [H.out, this]; omega
    have HN : Hid (bQ ks = n + 2 + bQ (ks.drop (j + 2))) := hn
    have hn2 : n + 2 <= ks.length + 1 := by omega
    clear hn
    go_wp2
    go_round
    case rel => exact ⟨j + 2, n + 2, by omega, by go_num, by go_num, HN⟩
    case measure => simp [intOf]; omega
   ·have hq' : (ks[j] == 1) = false := by simpa using hq
    have hn : bQ ks = n + 1 + bQ (ks.drop (j + 2)) := by have := HP.out; rw [if_neg hq] at this; rw [H.out, this]; omega
    have HN : Hid (bQ ks = n + 1 + bQ (ks.drop (j + 2))) := hn
    have hn2 : n + 1 <= ks.length + 1 := by omega
    clear hn
    go_wp2
    go_round
    case rel => exact ⟨j + 2, n + 1, by omega, by go_num, by go_num, HN⟩
    case measure => simp [intOf]; omega
  ·go_wp2
   go_ret
   exact ⟨dK (by rw [H.out, List.drop_eq_nil_of_le (by omega)]; rfl), HB.out⟩
theorem zY {op : Int} (h0 : 0 <= op) (h1 : op < 28) : (aX op).2.2.1 = (aS.getD op.toNat aT).2.2.1 := by
 unfold aX
 rw [if_neg (by omega)]
theorem xR : ∀ k, k < 28 -> (aS.getD k aT).2.2.1 = if k ∈ [5, 9, 13, 15, 17, 20, 16, 23, 24] then 1 else if k ∈ [12, 14, 18] then 2 else 0 := by decide
theorem zZ (op : Int) : (aX op).2.2.1 = if op ∈ [5, 9, 13, 15, 17, 20, 16, 23, 24] then 1 else if op ∈ [12, 14, 18] then 2 else 0 := by
 by_cases h : 0 <= op /\ op < 28
 ·obtain ⟨k, rfl⟩ : ∃ k : Nat, op = k := ⟨op.toNat, by omega⟩
  rw [zY h.1 h.2, Int.toNat_natCast, xR k (by omega)]
  have e1 : ((k : Int) ∈ [5, 9, 13, 15, 17, 20, 16, 23, 24]) ↔ (k ∈ [5, 9, 13, 15, 17, 20, 16, 23, 24]) := by simp only [List.mem_cons, List.not_mem_nil, or_false]; omega
  have e2 : ((k : Int) ∈ [12, 14, 18]) ↔ (k ∈ [12, 14, 18]) := by simp only [List.mem_cons, List.not_mem_nil, or_false]; omega
  simp only [e1, e2]
 ·have e : aX op = aT := by unfold aX; rw [if_pos (by omega)]
  rw [e, if_neg (by simp only [List.mem_cons, List.not_mem_nil, or_false]; omega), if_neg (by simp only [List.mem_cons, List.not_mem_nil, or_false]; omega)]
  rfl
theorem gK (w : World) (B : Nat) (i : CIn) (a : Option Addr) (cap : Nat) (hw : i.Wf) (hi : aF w B a cap i.list) (hm : i.list.length <= 281474976710656) (hB : B <= w.heap.size) :
  Calls Tryd.prog 55 #[aR i a cap] w fun e w' => e = .returned (.int .i64 (ax i)) /\ Below w.heap.size w w' := by
 obtain ⟨op, x, y, l⟩ := i
 obtain ⟨_, hx, hy, _⟩ := hw
 simp only [] at *
 have ht := zZ op
 unfold ax
 simp only [] at ht ⊢
 by_cases h1 : op = 5 ∨ op = 9 ∨ op = 13 ∨ op = 15 ∨ op = 17 ∨ op = 20
 ·have e0 : cZ ⟨op, x, y, l⟩ = 0 := qM (by simp only [List.mem_cons, List.not_mem_nil, or_false]; omega)
  have hk : (aX op).2.2.1 = 1 := by rw [ht, if_pos (by simp only [List.mem_cons, List.not_mem_nil, or_false]; omega)]
  rw [hk, e0, if_neg (by omega)]
  exact zQ w op x y a l.length cap h1
 by_cases h2 : op = 12 ∨ op = 14 ∨ op = 18
 ·have e0 : cZ ⟨op, x, y, l⟩ = 0 := qM (by simp only [List.mem_cons, List.not_mem_nil, or_false]; omega)
  have hk : (aX op).2.2.1 = 2 := by rw [ht, if_neg (by simp only [List.mem_cons, List.not_mem_nil, or_false]; omega), if_pos (by simp only [List.mem_cons, List.not_mem_nil, or_false]; omega)]
  rw [hk, e0, if_neg (by omega)]
  exact zR w op x y a l.length cap h2
 by_cases h3 : op = 10 ∨ op = 11
 ·have e0 : cZ ⟨op, x, y, l⟩ = max x 0 := by unfold cZ; simp only []; rw [if_pos (by omega)]
  obtain ⟨x1, x2⟩ := hx
  have hk : (aX op).2.2.1 = 0 := by rw [ht, if_neg (by simp only [List.mem_cons, List.not_mem_nil, or_false]; omega), if_neg (by simp only [List.mem_cons, List.not_mem_nil, or_false]; omega)]
  rw [hk, e0, if_neg (by omega), Int.zero_add]
  exact zS w op x y a l.length cap h3
 by_cases h4 : op = 22
 ·subst h4
  have e0 : cZ ⟨22, x, y, l⟩ = max y 0 := by unfold cZ; simp only []; rw [if_neg (by omega), if_pos trivial]
  obtain ⟨y1, y2⟩ := hy
  have hk : (aX 22).2.2.1 = 0 := by decide
  rw [hk, e0, if_neg (by omega), Int.zero_add]
  exact zT w x y a l.length cap
 by_cases h5 : op = 23 ∨ op = 24
 ·have e0 : cZ ⟨op, x, y, l⟩ = max x 0 := by unfold cZ; simp only []; rw [if_pos (by omega)]
  have hp := zU w op x y a l.length cap hx h5
  obtain ⟨x1, x2⟩ := hx
  have hk : (aX op).2.2.1 = 1 := by rw [ht, if_pos (by simp only [List.mem_cons, List.not_mem_nil, or_false]; omega)]
  rw [hk, e0]
  by_cases hmx : x = 9223372036854775807
  ·rw [if_pos hmx] at hp
   rw [if_pos (by omega)]
   rw [hmx] at hp ⊢
   exact hp
  ·rw [if_neg hmx] at hp
   rw [if_neg (by omega), Int.add_comm]
   exact hp
 by_cases h6 : op = 16
 ·subst h6
  have e0 : cZ ⟨16, x, y, l⟩ = gF l := by unfold cZ; simp only []; rw [if_neg (by omega), if_neg (by omega), if_pos trivial]
  have := iW l
  have hk : (aX 16).2.2.1 = 1 := by decide
  rw [hk, e0, if_neg (by omega)]
  exact (zW w B x y a cap l hi hB hm).mono fun e w' h => ⟨by rw [h.1]; exact dK (by omega), h.2⟩
 by_cases h7 : op = 27
 ·subst h7
  have e0 : cZ ⟨27, x, y, l⟩ = bQ l := by unfold cZ; simp only []; rw [if_neg (by omega), if_neg (by omega), if_neg (by omega), if_pos trivial]
  have := ig l
  have hk : (aX 27).2.2.1 = 0 := by decide
  rw [hk, e0, if_neg (by omega), Int.zero_add]
  exact zX w B x y a cap l hi hB hm
 have e0 : cZ ⟨op, x, y, l⟩ = 0 := qM (by simp only [List.mem_cons, List.not_mem_nil, or_false]; omega)
 have hk : (aX op).2.2.1 = 0 := by rw [ht, if_neg (by simp only [List.mem_cons, List.not_mem_nil, or_false]; omega), if_neg (by simp only [List.mem_cons, List.not_mem_nil, or_false]; omega)]
 rw [hk, e0, if_neg (by omega)]
 exact zV w op x y a l.length cap (by simp only [List.mem_cons, List.not_mem_nil, or_false]; omega)
end Go.Proofs.YtadmpgegolmkgaaDoor
