import Derived.Test.YtijdcplffmdijaaDoorCDTc
namespace Go.Proofs.YtijdcplffmdijaaDoor
open Go.RowKit
set_option linter.unusedVariables false
set_option linter.unusedSimpArgs false

theorem lays_tab : ∀ k, k < 28 → (shapesT.getD k noShape).2.2.2 = if k ∈ [5, 6, 9, 16, 19, 20, 21, 24, 25, 27, 23] then 0 else if (shapesT.getD k noShape).1 = [] then 0 else 1 := by decide
theorem lays_is (op : Int) : (shapeI op).2.2.2 = if op ∈ [5, 6, 9, 16, 19, 20, 21, 24, 25, 27, 23] then 0 else if nameI op = [] then 0 else 1 := by
  by_cases h : 0 ≤ op ∧ op < 28
  · obtain ⟨k, rfl⟩ : ∃ k : Nat, op = k := ⟨op.toNat, by omega⟩
    have e : shapeI (k : Nat) = shapesT.getD k noShape := by unfold shapeI; rw [if_neg (by omega), Int.toNat_natCast]
    unfold nameI
    rw [e, lays_tab k (by omega)]
    have e1 : ((k : Int) ∈ [5, 6, 9, 16, 19, 20, 21, 24, 25, 27, 23]) ↔ (k ∈ [5, 6, 9, 16, 19, 20, 21, 24, 25, 27, 23]) := by simp only [List.mem_cons, List.not_mem_nil, or_false]; omega
    simp only [e1]
  · have e : shapeI op = noShape := by unfold shapeI; rw [if_pos (by omega)]
    unfold nameI
    rw [e, if_neg (by simp only [List.mem_cons, List.not_mem_nil, or_false]; omega)]
    rfl
set_option maxRecDepth 100000 in
set_option maxHeartbeats 8000000 in
theorem rPushes_any (w : World) (i : CIn) (a : Option Addr) (cap : Nat) (hw : i.Wf) :
    Calls Tryd.prog 18 #[insV i a cap] w fun e w' => e = .returned (.int .i64 (pushesI i)) ∧ Below w.heap.size w w' := by
  obtain ⟨op, x, y, l⟩ := i
  have hop := hw.op
  have HB : Bx (∀ o, Below w.heap.size w (w.alloc o)) := ⟨fun o => below1 w o⟩
  have hl := lays_is op
  unfold pushesI
  simp only [] at *
  generalize l.length = n
  by_cases h1 : op = 5 ∨ op = 6 ∨ op = 9 ∨ op = 16 ∨ op = 19 ∨ op = 20 ∨ op = 21 ∨ op = 24 ∨ op = 25 ∨ op = 27
  · have hk : (shapeI op).2.2.2 = 0 := by rw [hl, if_pos (by simp only [List.mem_cons, List.not_mem_nil, or_false]; omega)]
    rw [hk, if_neg (by omega)]
    clear hl hk hw hop
    rcases h1 with rfl | rfl | rfl | rfl | rfl | rfl | rfl | rfl | rfl | rfl <;>
      (go_enter Tryd.func18, Tryd.ntmps18
       go_wp2
       go_ret
       exact ⟨rfl, HB.out _⟩)
  by_cases h2 : op = 23
  · have hk : (shapeI op).2.2.2 = 0 := by rw [hl, if_pos (by simp only [List.mem_cons, List.not_mem_nil, or_false]; omega)]
    rw [hk]
    clear hl hk hw hop
    subst h2
    by_cases h3 : y = 1
    · subst h3
      rw [if_pos ⟨rfl, rfl⟩]
      go_enter Tryd.func18, Tryd.ntmps18
      go_wp2
      go_ret
      exact ⟨rfl, HB.out _⟩
    · rw [if_neg (fun h => h3 h.2)]
      have b3 : (y == 1) = false := by simpa using h3
      go_enter Tryd.func18, Tryd.ntmps18
      go_wp2
      go_ret
      exact ⟨rfl, HB.out _⟩
  · rw [not_or, not_or, not_or, not_or, not_or, not_or, not_or, not_or, not_or] at h1
    obtain ⟨n1, n2, n3, n4, n5, n6, n7, n8, n9, n10⟩ := h1
    rw [hl, if_neg (fun h => h2 h.1), if_neg (by simp only [List.mem_cons, List.not_mem_nil, or_false]; omega)]
    have HN : Bx (∀ W, _) := ⟨fun W => rName_any op W hop⟩
    have b1 : (op == 5) = false := by simpa using n1
    have b2 : (op == 6) = false := by simpa using n2
    have b3 : (op == 9) = false := by simpa using n3
    have b4 : (op == 16) = false := by simpa using n4
    have b5 : (op == 19) = false := by simpa using n5
    have b6 : (op == 20) = false := by simpa using n6
    have b7 : (op == 21) = false := by simpa using n7
    have b8 : (op == 24) = false := by simpa using n8
    have b9 : (op == 25) = false := by simpa using n9
    have b10 : (op == 27) = false := by simpa using n10
    have b11 : (op == 23) = false := by simpa using h2
    have HBB : Bx (∀ o w2, Below (w.alloc o).heap.size (w.alloc o) w2 → Below w.heap.size w w2) := ⟨fun o w2 hb => (below1 w o).trans (hb.mono (by simp))⟩
    clear hl hw hop
    by_cases hn : nameI op = []
    · rw [if_pos hn]
      rw [hn] at HN
      go_enter Tryd.func18, Tryd.ntmps18
      go_wp2_with (go_at_call 12; refine (HN.out _).mono ?_; rintro e w1 ⟨rfl, hb1⟩)
      go_ret
      exact ⟨rfl, HBB.out _ _ hb1⟩
    · rw [if_neg hn]
      generalize nameI op = nm at *
      have n3 : nm.isEmpty = false := by
        cases nm with
        | nil => exact absurd rfl hn
        | cons a b => rfl
      go_enter Tryd.func18, Tryd.ntmps18
      go_wp2_with (go_at_call 12; refine (HN.out _).mono ?_; rintro e w1 ⟨rfl, hb1⟩)
      go_ret
      exact ⟨rfl, HBB.out _ _ hb1⟩
end Go.Proofs.YtijdcplffmdijaaDoor
