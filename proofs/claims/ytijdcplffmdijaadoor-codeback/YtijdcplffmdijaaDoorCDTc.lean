import Derived.Test.YtijdcplffmdijaaDoorCDTb
namespace Go.Proofs.YtijdcplffmdijaaDoor
open Go.RowKit
set_option linter.unusedVariables false
set_option linter.unusedSimpArgs false

theorem take_of {op : Int} (h0 : 0 ≤ op) (h1 : op < 28) : (shapeI op).2.2.1 = (shapesT.getD op.toNat noShape).2.2.1 := by
  unfold shapeI
  rw [if_neg (by omega)]
theorem take_tab : ∀ k, k < 28 → (shapesT.getD k noShape).2.2.1 = if k ∈ [5, 9, 13, 15, 17, 20, 16, 23, 24] then 1 else if k ∈ [12, 14, 18] then 2 else 0 := by decide
theorem take_is (op : Int) : (shapeI op).2.2.1 = if op ∈ [5, 9, 13, 15, 17, 20, 16, 23, 24] then 1 else if op ∈ [12, 14, 18] then 2 else 0 := by
  by_cases h : 0 ≤ op ∧ op < 28
  · obtain ⟨k, rfl⟩ : ∃ k : Nat, op = k := ⟨op.toNat, by omega⟩
    rw [take_of h.1 h.2, Int.toNat_natCast, take_tab k (by omega)]
    have e1 : ((k : Int) ∈ [5, 9, 13, 15, 17, 20, 16, 23, 24]) ↔ (k ∈ [5, 9, 13, 15, 17, 20, 16, 23, 24]) := by simp only [List.mem_cons, List.not_mem_nil, or_false]; omega
    have e2 : ((k : Int) ∈ [12, 14, 18]) ↔ (k ∈ [12, 14, 18]) := by simp only [List.mem_cons, List.not_mem_nil, or_false]; omega
    simp only [e1, e2]
  · have e : shapeI op = noShape := by unfold shapeI; rw [if_pos (by omega)]
    rw [e, if_neg (by simp only [List.mem_cons, List.not_mem_nil, or_false]; omega), if_neg (by simp only [List.mem_cons, List.not_mem_nil, or_false]; omega)]
    rfl
theorem rPops_any (w : World) (B : Nat) (i : CIn) (a : Option Addr) (cap : Nat) (hw : i.Wf) (hi : IntsV w B a cap i.list) (hm : i.list.length ≤ 281474976710656) (hB : B ≤ w.heap.size) :
    Calls Tryd.prog 17 #[insV i a cap] w fun e w' => e = .returned (.int .i64 (popsI i)) ∧ Below w.heap.size w w' := by
  obtain ⟨op, x, y, l⟩ := i
  obtain ⟨_, hx, hy, _⟩ := hw
  simp only [] at *
  have ht := take_is op
  unfold popsI
  simp only [] at ht ⊢
  by_cases h1 : op = 5 ∨ op = 9 ∨ op = 13 ∨ op = 15 ∨ op = 17 ∨ op = 20
  · have e0 : moreI ⟨op, x, y, l⟩ = 0 := more_0 (by simp only [List.mem_cons, List.not_mem_nil, or_false]; omega)
    have hk : (shapeI op).2.2.1 = 1 := by rw [ht, if_pos (by simp only [List.mem_cons, List.not_mem_nil, or_false]; omega)]
    rw [hk, e0, if_neg (by omega)]
    exact rPops_1 w op x y a l.length cap h1
  by_cases h2 : op = 12 ∨ op = 14 ∨ op = 18
  · have e0 : moreI ⟨op, x, y, l⟩ = 0 := more_0 (by simp only [List.mem_cons, List.not_mem_nil, or_false]; omega)
    have hk : (shapeI op).2.2.1 = 2 := by rw [ht, if_neg (by simp only [List.mem_cons, List.not_mem_nil, or_false]; omega), if_pos (by simp only [List.mem_cons, List.not_mem_nil, or_false]; omega)]
    rw [hk, e0, if_neg (by omega)]
    exact rPops_2 w op x y a l.length cap h2
  by_cases h3 : op = 10 ∨ op = 11
  · have e0 : moreI ⟨op, x, y, l⟩ = max x 0 := by unfold moreI; simp only []; rw [if_pos (by omega)]
    obtain ⟨x1, x2⟩ := hx
    have hk : (shapeI op).2.2.1 = 0 := by rw [ht, if_neg (by simp only [List.mem_cons, List.not_mem_nil, or_false]; omega), if_neg (by simp only [List.mem_cons, List.not_mem_nil, or_false]; omega)]
    rw [hk, e0, if_neg (by omega), Int.zero_add]
    exact rPops_A w op x y a l.length cap h3
  by_cases h4 : op = 22
  · subst h4
    have e0 : moreI ⟨22, x, y, l⟩ = max y 0 := by unfold moreI; simp only []; rw [if_neg (by omega), if_pos trivial]
    obtain ⟨y1, y2⟩ := hy
    have hk : (shapeI 22).2.2.1 = 0 := by decide
    rw [hk, e0, if_neg (by omega), Int.zero_add]
    exact rPops_B w x y a l.length cap
  by_cases h5 : op = 23 ∨ op = 24
  · have e0 : moreI ⟨op, x, y, l⟩ = max x 0 := by unfold moreI; simp only []; rw [if_pos (by omega)]
    have hp := rPops_C w op x y a l.length cap hx h5
    obtain ⟨x1, x2⟩ := hx
    have hk : (shapeI op).2.2.1 = 1 := by rw [ht, if_pos (by simp only [List.mem_cons, List.not_mem_nil, or_false]; omega)]
    rw [hk, e0]
    by_cases hmx : x = 9223372036854775807
    · rw [if_pos hmx] at hp
      rw [if_pos (by omega)]
      rw [hmx] at hp ⊢
      exact hp
    · rw [if_neg hmx] at hp
      rw [if_neg (by omega), Int.add_comm]
      exact hp
  by_cases h6 : op = 16
  · subst h6
    have e0 : moreI ⟨16, x, y, l⟩ = pathN l := by unfold moreI; simp only []; rw [if_neg (by omega), if_neg (by omega), if_pos trivial]
    have := pathN_le l
    have hk : (shapeI 16).2.2.1 = 1 := by decide
    rw [hk, e0, if_neg (by omega)]
    exact (rPops_P w B x y a cap l hi hB hm).mono fun e w' h => ⟨by rw [h.1]; exact ret_int (by omega), h.2⟩
  by_cases h7 : op = 27
  · subst h7
    have e0 : moreI ⟨27, x, y, l⟩ = armsN l := by unfold moreI; simp only []; rw [if_neg (by omega), if_neg (by omega), if_neg (by omega), if_pos trivial]
    have := armsN_le l
    have hk : (shapeI 27).2.2.1 = 0 := by decide
    rw [hk, e0, if_neg (by omega), Int.zero_add]
    exact rPops_W w B x y a cap l hi hB hm
  have e0 : moreI ⟨op, x, y, l⟩ = 0 := more_0 (by simp only [List.mem_cons, List.not_mem_nil, or_false]; omega)
  have hk : (shapeI op).2.2.1 = 0 := by rw [ht, if_neg (by simp only [List.mem_cons, List.not_mem_nil, or_false]; omega), if_neg (by simp only [List.mem_cons, List.not_mem_nil, or_false]; omega)]
  rw [hk, e0, if_neg (by omega)]
  exact rPops_0 w op x y a l.length cap (by simp only [List.mem_cons, List.not_mem_nil, or_false]; omega)
end Go.Proofs.YtijdcplffmdijaaDoor
