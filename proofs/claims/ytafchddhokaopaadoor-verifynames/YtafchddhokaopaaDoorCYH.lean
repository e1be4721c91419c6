import Derived.Test.YtafchddhokaopaaDoorCYG
namespace Go.Proofs.YtafchddhokaopaaDoor
open Go.RowKit
set_option linter.unusedVariables false
set_option linter.unusedSimpArgs false

set_option maxRecDepth 100000 in
set_option maxHeartbeats 1000000 in
theorem Valid_nil (w : World) : Calls Tryd.prog 32 #[.slice none 0 0] w fun e w' => e = .returned (.bool true) ∧ w = w' := by
  go_enter Tryd.func32, Tryd.ntmps32
  go_wp2
  refine wp_loop_rounds 1 ?_
  rw [rounds_succ]
  go_wp2
  go_ret
  exact ⟨rfl, rfl⟩
abbrev pgE (cb n : Nat) : Value := .agg #[.int .i64 0, .int .i64 1, .int .i64 2, .bool false, .slice (some ⟨cb, 0, none⟩) n n]
set_option maxRecDepth 100000 in
set_option maxHeartbeats 1000000 in
theorem fitsBounds_ex (w : World) (cb n : Nat) (h0 : 0 < n) (hn : n ≤ 3) : Calls Tryd.prog 34 #[pgE cb n] w fun e w' => e = .returned (.bool true) ∧ Below w.heap.size w w' := by
  have HA : Bx (∀ W, _) := ⟨fun W => within_yes 0 1 (by omega) (by omega) W⟩
  have HB : Bx (∀ W, _) := ⟨fun W => within_yes 1 65536 (by omega) (by omega) W⟩
  have HC : Bx (∀ W, _) := ⟨fun W => within_yes 2 65536 (by omega) (by omega) W⟩
  have hb : Bx (∀ o1, Below w.heap.size w (w.alloc o1)) := ⟨fun o1 => below1 w o1⟩
  go_enter Tryd.func34, Tryd.ntmps34
  go_wp2_with (first
    | (go_at_call 50; refine (HA.out _).mono ?_; rintro e w1 ⟨rfl, rfl⟩; clear HA)
    | (go_at_call 50; refine (HB.out _).mono ?_; rintro e w1 ⟨rfl, rfl⟩; clear HB)
    | (go_at_call 50; refine (HC.out _).mono ?_; rintro e w1 ⟨rfl, rfl⟩; clear HC))
  go_ret
  exact ⟨ret_bool (by simp [h0]), hb.out _⟩
set_option maxRecDepth 100000 in
set_option maxHeartbeats 1000000 in
theorem fitsFirst_ex (w : World) (cb n : Nat) : Calls Tryd.prog 35 #[pgE cb n] w fun e w' => e = .returned (.bool true) ∧ Below w.heap.size w w' := by
  have hb : Bx (∀ o1, Below w.heap.size w (w.alloc o1)) := ⟨fun o1 => below1 w o1⟩
  go_enter Tryd.func35, Tryd.ntmps35
  go_wp2
  go_ret
  exact ⟨rfl, hb.out _⟩
theorem UE.prog {w : World} {pb cb : Nat} {l : List (Int × Int)} (h : UE w pb cb l) {n : Nat} (hn : l.length = n) : w.cell? ⟨pb, 0, none⟩ = some (.int .i64 0) ∧ w.cell? ⟨pb, 1, none⟩ = some (.int .i64 1) ∧ w.cell? ⟨pb, 2, none⟩ = some (.int .i64 2) ∧ w.cell? ⟨pb, 3, none⟩ = some (.bool false) ∧ w.cell? ⟨pb, 4, none⟩ = some (.slice (some ⟨cb, 0, none⟩) n n) := by
  have q := h.pg
  rw [hn] at q
  exact ⟨(cell_of_row w _ 0 _ _ _ q).trans rfl, (cell_of_row w _ 1 _ _ _ q).trans rfl, (cell_of_row w _ 2 _ _ _ q).trans rfl, (cell_of_row w _ 3 _ _ _ q).trans rfl, (cell_of_row w _ 4 _ _ _ q).trans rfl⟩
set_option maxRecDepth 100000 in
set_option maxHeartbeats 1000000 in
theorem tooLong_ex (w : World) (pb cb : Nat) (l : List (Int × Int)) (hU : UE w pb cb l) : Calls Tryd.prog 33 #[.slice (some ⟨pb, 0, none⟩) 1 1] w fun e w' => e = .returned (.bool false) ∧ Below w.heap.size w w' := by
  obtain ⟨n, hn⟩ : ∃ n, l.length = n := ⟨_, rfl⟩
  obtain ⟨p0, p1, p2, p3, p4⟩ := hU.prog hn
  have hn3 : n ≤ 3 := hn ▸ hU.len
  have hpl := hU.lt.1
  have hb : Bx (∀ o1, Below w.heap.size w (w.alloc o1)) := ⟨fun o1 => below1 w o1⟩
  clear hU hn
  go_enter Tryd.func33, Tryd.ntmps33
  go_wp2
  refine wp_loop_rounds 2 ?_
  rw [rounds_succ]
  go_wp2
  rw [rounds_succ]
  go_wp2
  go_ret
  exact ⟨rfl, hb.out _⟩
set_option maxRecDepth 100000 in
set_option maxHeartbeats 2000000 in
theorem wrongProg_ex (w : World) (pb cb : Nat) (l : List (Int × Int)) (hU : UE w pb cb l) : Calls Tryd.prog 20 #[unE pb] w fun e w' => e = .returned (.tuple #[.int .i64 0, .bool false]) ∧ Below w.heap.size w w' := by
  obtain ⟨n, hn⟩ : ∃ n, l.length = n := ⟨_, rfl⟩
  obtain ⟨H, hH⟩ : ∃ H, w.heap.size = H := ⟨_, rfl⟩
  have hn3 : n ≤ 3 := hn ▸ hU.len
  have hn0 : 0 < n := hn ▸ hU.pos
  have hpl : pb < H := hH ▸ hU.lt.1
  obtain ⟨w0, hw0⟩ : ∃ w0, w.alloc (.cells #[.slice (some ⟨pb, 0, none⟩) 1 1, .slice none 0 0] 25) = w0 := ⟨_, rfl⟩
  have b0 : Below H w w0 := by rw [← hw0, ← hH]; exact below1 w _
  have s0 : w0.heap.size = H + 1 := by rw [← hw0]; simp [hH]
  have q0 : w0.heap[H]? = some (.cells #[.slice (some ⟨pb, 0, none⟩) 1 1, .slice none 0 0] 25 (0, 0)) := by rw [← hw0, ← hH]; exact heap_alloc_new w _
  have e0 : w0.cell? ⟨H, 0, none⟩ = some (.slice (some ⟨pb, 0, none⟩) 1 1) := (cell_of_row w0 _ 0 _ _ _ q0).trans rfl
  have e1 : w0.cell? ⟨H, 1, none⟩ = some (.slice none 0 0) := (cell_of_row w0 _ 1 _ _ _ q0).trans rfl
  have hlt0 : H < w0.heap.size := by omega
  have HV : Bx (∀ W, _) := ⟨fun W => Valid_nil W⟩
  have HT : Calls Tryd.prog 33 #[.slice (some ⟨pb, 0, none⟩) 1 1] w0 fun e w' => e = .returned (.bool false) ∧ w'.cell? ⟨H, 0, none⟩ = some (.slice (some ⟨pb, 0, none⟩) 1 1) ∧ w'.cell? ⟨pb, 0, none⟩ = some (.int .i64 0) ∧ w'.cell? ⟨pb, 1, none⟩ = some (.int .i64 1) ∧ w'.cell? ⟨pb, 2, none⟩ = some (.int .i64 2) ∧ w'.cell? ⟨pb, 3, none⟩ = some (.bool false) ∧ w'.cell? ⟨pb, 4, none⟩ = some (.slice (some ⟨cb, 0, none⟩) n n) ∧ pb < w'.heap.size ∧ Bx (Below H w w') := (tooLong_ex w0 pb cb l (hU.below (hH ▸ b0))).mono fun e w' ⟨he, hb⟩ => by
    rw [s0] at hb
    have hbw : Below H w w' := b0.trans (hb.mono (by omega))
    obtain ⟨p0, p1, p2, p3, p4⟩ := (hU.below (hH ▸ hbw)).prog hn
    have := hbw.size
    exact ⟨he, (cell_of_row w' _ 0 _ _ _ ((hb.block H (by omega)).trans q0)).trans rfl, p0, p1, p2, p3, p4, by omega, ⟨hbw⟩⟩
  have HF : Bx (∀ X o, Below H w X → Calls Tryd.prog 34 #[.agg #[.int .i64 0, .int .i64 1, .int .i64 2, .bool false, .slice (some ⟨cb, 0, none⟩) n n]] (X.alloc o) fun e w' => e = .returned (.bool true) ∧ w'.cell? ⟨X.heap.size, 0, none⟩ = (X.alloc o).cell? ⟨X.heap.size, 0, none⟩ ∧ w'.cell? ⟨X.heap.size, 1, none⟩ = (X.alloc o).cell? ⟨X.heap.size, 1, none⟩ ∧ w'.cell? ⟨X.heap.size, 2, none⟩ = (X.alloc o).cell? ⟨X.heap.size, 2, none⟩ ∧ w'.cell? ⟨X.heap.size, 3, none⟩ = (X.alloc o).cell? ⟨X.heap.size, 3, none⟩ ∧ w'.cell? ⟨X.heap.size, 4, none⟩ = (X.alloc o).cell? ⟨X.heap.size, 4, none⟩ ∧ Bx (Below H w w')) := ⟨fun X o hX => (fitsBounds_ex (X.alloc o) cb n hn0 hn3).mono fun e w' ⟨he, hb⟩ => by
    have hs := hX.size
    have hlt : X.heap.size < (X.alloc o).heap.size := by simp
    exact ⟨he, hb.cell (p := ⟨X.heap.size, 0, none⟩) hlt, hb.cell (p := ⟨X.heap.size, 1, none⟩) hlt, hb.cell (p := ⟨X.heap.size, 2, none⟩) hlt, hb.cell (p := ⟨X.heap.size, 3, none⟩) hlt, hb.cell (p := ⟨X.heap.size, 4, none⟩) hlt, ⟨(hX.alloc (by omega) o).trans (hb.mono (by simp; omega))⟩⟩⟩
  have HG : Bx (∀ X, Below H w X → Calls Tryd.prog 35 #[.agg #[.int .i64 0, .int .i64 1, .int .i64 2, .bool false, .slice (some ⟨cb, 0, none⟩) n n]] X fun e w' => e = .returned (.bool true) ∧ Bx (Below H w w')) := ⟨fun X hX => (fitsFirst_ex X cb n).mono fun e w' ⟨he, hb⟩ => ⟨he, ⟨hX.trans (hb.mono (by have := hX.size; omega))⟩⟩⟩
  rw [hH]
  clear hU q0 hn
  go_enter Tryd.func20, Tryd.ntmps20
  go_wp2_with (first
    | (go_at_call 32; refine (HV.out _).mono ?_; rintro e w1 ⟨rfl, rfl⟩)
    | (go_at_call 33; refine HT.mono ?_; clear HT e0 e1; rintro e w1 ⟨rfl, y, p0, p1, p2, p3, p4, hpl1, HB1⟩))
  refine wp_loop_rounds 2 ?_
  rw [rounds_succ]
  go_wp2_with (first
    | (go_at_call 34; refine (HF.out _ _ HB1.out).mono ?_; rintro e w2 ⟨rfl, k0, k1, k2, k3, k4, HB2⟩; simp at k0 k1 k2 k3 k4)
    | (go_at_call 35; refine (HG.out _ HB2.out).mono ?_; rintro e w3 ⟨rfl, HB3⟩))
  rw [rounds_succ]
  go_wp2
  go_returns
  exact ⟨rfl, HB3.out⟩
end Go.Proofs.YtafchddhokaopaaDoor
