import Derived.Test.YtafchddhokaopaaDoorCYM
namespace Go.Proofs.YtafchddhokaopaaDoor
open Go.RowKit
set_option linter.unusedVariables false
set_option linter.unusedSimpArgs false

set_option maxRecDepth 100000 in
set_option maxHeartbeats 2000000 in
theorem goOn_ret {w0 w : World} {wb kb db eb dc cb pb n : Nat} {pv mv : Value} {K l : List (Int × Int)} {x : Int} (h : LK w0 w wb kb db eb dc cb n pv mv K x) (hU : UE w0 pb cb l) (hl : l.length = n) (i : Nat) (hi : i < l.length) (ho : l[i].1 = 25) (ab s : Int) :
    Calls Tryd.prog 71 #[.pointer (some ⟨wb, 0, none⟩), .int .i64 i, .agg #[.int .i64 ab, .int .u64 s]] w fun e w' => e = .returned (.bool true) ∧ Bx (LK w0 w' wb kb db eb dc cb n pv mv K x) := by
  obtain ⟨c3, c4, c5, c6, c7, hwl⟩ := h.cells
  obtain ⟨u0, u1, u2, u3⟩ := (hU.below h.bel).cell i hi
  have hcl := (hU.below h.bel).lt.2
  rw [ho] at u0
  generalize l[i].2 = a at *
  rw [hl] at hi
  have HE : Bx (∀ o1 o2, LK w0 ((w.alloc o1).alloc o2) wb kb db eb dc cb n pv mv K x) := ⟨fun o1 o2 => h.below ((below1 w o1).alloc (by simp) o2)⟩
  have hn3 : n ≤ 3 := hl ▸ hU.len
  clear h hU
  go_enter Tryd.func71, Tryd.ntmps71
  go_wp2
  go_ret
  exact ⟨rfl, ⟨HE.out _ _⟩⟩
set_option maxRecDepth 100000 in
set_option maxHeartbeats 2000000 in
theorem goOn_on {w0 w : World} {wb kb db eb dc cb pb n : Nat} {pv mv : Value} {K l : List (Int × Int)} (h : LK w0 w wb kb db eb dc cb n pv mv K 0) (hU : UE w0 pb cb l) (hl : l.length = n) (i : Nat) (hi : i < l.length) (ho : l[i].1 = 1 ∨ l[i].1 = 5) (hi2 : i + 1 < n) (hz : ∀ h : i + 1 < K.length, K[i + 1].1 = 0) (ab s : Int) :
    Calls Tryd.prog 71 #[.pointer (some ⟨wb, 0, none⟩), .int .i64 i, .agg #[.int .i64 ab, .int .u64 s]] w fun e w' => e = .returned (.bool true) ∧ Bx (LK w0 w' wb kb db eb dc cb n pv mv (K.set (i + 1) (ab, s)) ((2 ^ (i + 1) : Nat) : Int)) := by
  obtain ⟨c3, c4, c5, c6, c7, hwl⟩ := h.cells
  obtain ⟨u0, u1, u2, u3⟩ := (hU.below h.bel).cell i hi
  have hcl := (hU.below h.bel).lt.2
  have hn3 : n ≤ 3 := hl ▸ hU.len
  generalize l[i].2 = a at *
  generalize l[i].1 = op at *
  rw [hl] at hi
  have HC : Bx (∀ o1 o2, Calls Tryd.prog 42 #[.pointer (some ⟨wb, 0, none⟩), .int .i64 ((i : Int) + 1), .agg #[.int .i64 ab, .int .u64 s]] ((w.alloc o1).alloc o2) fun e w' => e = .returned (.bool true) ∧ Bx (LK w0 w' wb kb db eb dc cb n pv mv (K.set (i + 1) (ab, s)) ((2 ^ (i + 1) : Nat) : Int))) := ⟨fun o1 o2 => come_lk (h.below ((below1 w o1).alloc (by simp) o2)) (i + 1) hi2 hn3 hz ab s⟩
  clear h hU hz
  rcases ho with rfl | rfl
  all_goals
    go_enter Tryd.func71, Tryd.ntmps71
    go_wp2_with (first
      | (go_at_call 42; refine (HC.out _ _).mono ?_; rintro e w1 ⟨rfl, HX⟩))
    go_ret
    exact ⟨rfl, HX⟩
end Go.Proofs.YtafchddhokaopaaDoor
