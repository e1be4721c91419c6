import Derived.Test.YtadmpgegolmkgaaDoorBDP
set_option linter.unusedVariables false
set_option linter.unusedSimpArgs false
set_option maxHeartbeats 4000000
set_option maxRecDepth 100000
namespace Go.Proofs.YtadmpgegolmkgaaDoor
open Go.RowKit
def fF : List (List UInt8) := (aS.drop 1).map (·.1)
theorem uw (w : World) : Calls Tryd.prog 88 #[] w fun e w' => e = .returned (.slice (some ⟨w.heap.size, 0, none⟩) 27 27) /\ w'.heap[w.heap.size]? = some (.cells (fF.map jR).toArray 9 (0, 0)) /\ Below w.heap.size w w' := by
 go_enter Tryd.func88, Tryd.ntmps88
 go_wp2
 go_ret
 exact ⟨rfl, aj w _ _ rfl, ak w _⟩
theorem qK {w : World} {b j : Nat} (h : w.heap[b]? = some (.cells (fF.map jR).toArray 9 (0, 0))) (hj : j < 27) : w.cell? ⟨b, j, none⟩ = some (jR (fF.getD j [])) := by
 refine aa h ?_
 have hl : j < fF.length := hj
 simp [List.getD_eq_getElem?_getD, List.getElem?_eq_getElem hl]
theorem qL : ∀ k, k < 27 -> fF.getD k [] = gZ ((k + 1 : Nat) : Int) := by decide
theorem uy (op : Int) (w : World) (h : I64 op) :
  Calls Tryd.prog 78 #[.int .i64 op] w fun e w' => e = .returned (jR (gZ op)) /\ Below w.heap.size w w' := by
 obtain ⟨h1, h2⟩ := h
 by_cases h0 : op < 1
 ·have e : gZ op = [] := by
   by_cases hz : op = 0
   ·subst hz; decide
   ·unfold gZ aX; rw [if_pos (by omega)]; rfl
  rw [e]
  go_enter Tryd.func78, Tryd.ntmps78
  go_wp2
  go_ret
  exact ⟨rfl, Below.refl _ _⟩
 ·by_cases h3 : 27 < op
  ·have e : gZ op = [] := by unfold gZ aX; rw [if_pos (by omega)]; rfl
   rw [e]
   go_enter Tryd.func78, Tryd.ntmps78
   go_wp2
   go_ret
   exact ⟨rfl, Below.refl _ _⟩
  ·obtain ⟨k, rfl⟩ : ∃ k : Nat, op = (k : Int) + 1 := ⟨(op - 1).toNat, by omega⟩
   have hk : k < 27 := by omega
   have hnk : gZ ((k : Int) + 1) = fF.getD k [] := (qL k hk).symm
   rw [hnk]
   clear hnk
   have HN := uw w
   have HC : Bx (∀ w' : World, w'.heap[w.heap.size]? = some (.cells (fF.map jR).toArray 9 (0, 0)) -> w'.cell? ⟨w.heap.size, k, none⟩ = some (jR (fF.getD k []))) := ⟨fun w' h => qK h hk⟩
   generalize fF.getD k [] = nm at *
   go_enter Tryd.func78, Tryd.ntmps78
   go_wp2_with (go_at_call 88; refine HN.mono ?_; rintro e w1 ⟨rfl, hh, hb⟩; have hc := HC.out _ hh; clear hh)
   go_ret
   exact ⟨rfl, hb⟩
theorem lw (n : Int) (w : World) : Calls Tryd.prog 77 #[.int .i64 n] w fun e w' => e = .returned (.int .i64 (max n 0)) /\ w = w' := by
  by_cases h : n < 0
  · rw [show max n 0 = 0 by omega]
    go_enter Tryd.func77, Tryd.ntmps77
    go_wp2
    go_ret
    exact ⟨rfl, rfl⟩
  · rw [show max n 0 = n by omega]
    go_enter Tryd.func77, Tryd.ntmps77
    go_wp2
    go_ret
    exact ⟨rfl, rfl⟩
theorem qM {op a b : Int} {l : List Int} (h : op ∉ [10, 11, 23, 24, 22, 16, 27]) : cZ ⟨op, a, b, l⟩ = 0 := by
  simp only [List.mem_cons, List.not_mem_nil, or_false, not_or] at h
  obtain ⟨h1, h2, h3, h4, h5, h6, h7⟩ := h
  unfold cZ
  simp only []
  rw [if_neg (by omega), if_neg h5, if_neg h6, if_neg h7]
theorem zQ (w : World) (op x y : Int) (a : Option Addr) (n cap : Nat) (h : op = 5 ∨ op = 9 ∨ op = 13 ∨ op = 15 ∨ op = 17 ∨ op = 20) :
    Calls Tryd.prog 55 #[.agg #[.int .i64 op, .int .i64 x, .int .i64 y, .slice a n cap]] w fun e w' => e = .returned (.int .i64 1) /\ Below w.heap.size w w' := by
  have HB : Bx (∀ o, Below w.heap.size w (w.alloc o)) := ⟨fun o => ak w o⟩
  rcases h with rfl | rfl | rfl | rfl | rfl | rfl <;>
    (go_enter Tryd.func55, Tryd.ntmps55
     go_wp2
     go_ret
     exact ⟨rfl, HB.out _⟩)
theorem zR (w : World) (op x y : Int) (a : Option Addr) (n cap : Nat) (h : op = 12 ∨ op = 14 ∨ op = 18) :
    Calls Tryd.prog 55 #[.agg #[.int .i64 op, .int .i64 x, .int .i64 y, .slice a n cap]] w fun e w' => e = .returned (.int .i64 2) /\ Below w.heap.size w w' := by
  have HB : Bx (∀ o, Below w.heap.size w (w.alloc o)) := ⟨fun o => ak w o⟩
  rcases h with rfl | rfl | rfl <;>
    (go_enter Tryd.func55, Tryd.ntmps55
     go_wp2
     go_ret
     exact ⟨rfl, HB.out _⟩)
theorem zS (w : World) (op x y : Int) (a : Option Addr) (n cap : Nat) (h : op = 10 ∨ op = 11) :
    Calls Tryd.prog 55 #[.agg #[.int .i64 op, .int .i64 x, .int .i64 y, .slice a n cap]] w fun e w' => e = .returned (.int .i64 (max x 0)) /\ Below w.heap.size w w' := by
  have HB : Bx (∀ o, Below w.heap.size w (w.alloc o)) := ⟨fun o => ak w o⟩
  have HS : Bx (∀ W, _) := ⟨fun W => lw x W⟩
  generalize max x 0 = m at *
  rcases h with rfl | rfl <;>
    (go_enter Tryd.func55, Tryd.ntmps55
     go_wp2_with (go_at_call 77; refine (HS.out _).mono ?_; rintro e w1 ⟨rfl, rfl⟩)
     go_ret
     exact ⟨rfl, HB.out _⟩)
theorem zT (w : World) (x y : Int) (a : Option Addr) (n cap : Nat) :
    Calls Tryd.prog 55 #[.agg #[.int .i64 22, .int .i64 x, .int .i64 y, .slice a n cap]] w fun e w' => e = .returned (.int .i64 (max y 0)) /\ Below w.heap.size w w' := by
  have HB : Bx (∀ o, Below w.heap.size w (w.alloc o)) := ⟨fun o => ak w o⟩
  have HS : Bx (∀ W, _) := ⟨fun W => lw y W⟩
  generalize max y 0 = m at *
  go_enter Tryd.func55, Tryd.ntmps55
  go_wp2_with (go_at_call 77; refine (HS.out _).mono ?_; rintro e w1 ⟨rfl, rfl⟩)
  go_ret
  exact ⟨rfl, HB.out _⟩
theorem zU (w : World) (op x y : Int) (a : Option Addr) (n cap : Nat) (hx : I64 x) (h : op = 23 ∨ op = 24) :
    Calls Tryd.prog 55 #[.agg #[.int .i64 op, .int .i64 x, .int .i64 y, .slice a n cap]] w fun e w' => e = .returned (.int .i64 (if x = 9223372036854775807 then x else max x 0 + 1)) /\ Below w.heap.size w w' := by
  have HB : Bx (∀ o, Below w.heap.size w (w.alloc o)) := ⟨fun o => ak w o⟩
  obtain ⟨x1, x2⟩ := hx
  by_cases hm : x = 9223372036854775807
  · rw [if_pos hm]
    subst hm
    rcases h with rfl | rfl <;>
      (go_enter Tryd.func55, Tryd.ntmps55
       go_wp2
       go_ret
       exact ⟨rfl, HB.out _⟩)
  · rw [if_neg hm]
    have hb : (x == 9223372036854775807) = false := by simpa using hm
    have HS : Bx (∀ W, _) := ⟨fun W => lw x W⟩
    have m1 : 0 <= max x 0 := by omega
    have m2 : max x 0 <= 9223372036854775806 := by omega
    generalize max x 0 = m at *
    rcases h with rfl | rfl <;>
      (go_enter Tryd.func55, Tryd.ntmps55
       go_wp2_with (go_at_call 77; refine (HS.out _).mono ?_; rintro e w1 ⟨rfl, rfl⟩)
       go_ret
       exact ⟨dK (by first | rfl | omega | go_num), HB.out _⟩)
theorem zV (w : World) (op x y : Int) (a : Option Addr) (n cap : Nat) (h : op ∉ [5, 9, 13, 15, 17, 20, 12, 14, 18, 10, 11, 22, 23, 24, 16, 27]) :
    Calls Tryd.prog 55 #[.agg #[.int .i64 op, .int .i64 x, .int .i64 y, .slice a n cap]] w fun e w' => e = .returned (.int .i64 0) /\ Below w.heap.size w w' := by
  have HB : Bx (∀ o, Below w.heap.size w (w.alloc o)) := ⟨fun o => ak w o⟩
  simp only [List.mem_cons, List.not_mem_nil, or_false, not_or] at h
  obtain ⟨n1, n2, n3, n4, n5, n6, n7, n8, n9, n10, n11, n12, n13, n14, n15, n16⟩ := h
  have b1 : (op == 5) = false := by simpa using n1
  have b2 : (op == 9) = false := by simpa using n2
  have b3 : (op == 13) = false := by simpa using n3
  have b4 : (op == 15) = false := by simpa using n4
  have b5 : (op == 17) = false := by simpa using n5
  have b6 : (op == 20) = false := by simpa using n6
  have b7 : (op == 12) = false := by simpa using n7
  have b8 : (op == 14) = false := by simpa using n8
  have b9 : (op == 18) = false := by simpa using n9
  have b10 : (op == 10) = false := by simpa using n10
  have b11 : (op == 11) = false := by simpa using n11
  have b12 : (op == 22) = false := by simpa using n12
  have b13 : (op == 23) = false := by simpa using n13
  have b14 : (op == 24) = false := by simpa using n14
  have b15 : (op == 16) = false := by simpa using n15
  have b16 : (op == 27) = false := by simpa using n16
  go_enter Tryd.func55, Tryd.ntmps55
  go_wp2
  go_ret
  exact ⟨rfl, HB.out _⟩
end Go.Proofs.YtadmpgegolmkgaaDoor
