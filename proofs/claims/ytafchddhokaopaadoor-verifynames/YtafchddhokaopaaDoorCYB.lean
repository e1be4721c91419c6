import Derived.Test.YtafchddhokaopaaDoorCYA
namespace Go.Proofs.YtafchddhokaopaaDoor
open Go.RowKit
set_option linter.unusedVariables false
set_option linter.unusedSimpArgs false

/-- what is due, of at most 64 instructions: one word -/
structure Due (w : World) (db eb dc : Nat) (x : Int) : Prop where
  d0 : w.cell? ⟨db, 0, none⟩ = some (.slice (some ⟨eb, 0, none⟩) 1 1)
  e0 : w.heap[eb]? = some (.cells #[.int .u64 x] 63 (0, 0))
  cap : 1 ≤ dc
  ne : db ≠ eb
theorem Due.lt {w : World} {db eb dc : Nat} {x : Int} (h : Due w db eb dc x) : eb < w.heap.size ∧ db < w.heap.size := ⟨(Array.getElem?_eq_some_iff.1 h.e0).1, World.block_lt_of_cell? w _ h.d0⟩
theorem Due.put {w : World} {db eb dc : Nat} {x : Int} (h : Due w db eb dc x) (k : Nat) (u : Int) : Due ((w.drewN k).setCell ⟨eb, 0, none⟩ (.int .u64 u)) db eb dc u :=
  ⟨by rw [World.cell?_of_block (w := w) (Below.heap_setCell (w.drewN k) ⟨eb, 0, none⟩ _ db h.ne)]; exact h.d0, one_setCell (w := w.drewN k) h.e0, h.cap, h.ne⟩
set_option maxRecDepth 100000 in
set_option maxHeartbeats 1000000 in
theorem add_any (n : Nat) (hn : n < 3) (w : World) (db eb dc : Nat) (hD : Due w db eb dc 0) :
    Calls Tryd.prog 61 #[.slice (some ⟨db, 0, none⟩) 1 dc, .int .i64 n] w fun e w' => e = .returned (.tuple #[]) ∧ Bx (Due w' db eb dc ((2 ^ n : Nat) : Int) ∧ Fx (· = eb) w w') := by
  have d0 := hD.d0
  have e0 : w.cell? ⟨eb, 0, none⟩ = some (.int .u64 0) := (cell_of_row w _ 0 _ _ _ hD.e0).trans rfl
  have ef : w.frozen? ⟨eb, 0, none⟩ = false := by simp [World.frozen?, hD.e0]
  have hc := hD.cap
  have o0 : bits BinOp.or IntKind.u64 0 1 = 1 := by kernel_rfl
  have o1 : bits BinOp.or IntKind.u64 0 2 = 2 := by kernel_rfl
  have o2 : bits BinOp.or IntKind.u64 0 4 = 4 := by kernel_rfl
  have HE : Bx (∀ k u, Due ((w.drewN k).setCell ⟨eb, 0, none⟩ (.int .u64 u)) db eb dc u ∧ Fx (· = eb) w ((w.drewN k).setCell ⟨eb, 0, none⟩ (.int .u64 u))) := ⟨fun k u => ⟨hD.put k u, Fx.set (p := ⟨eb, 0, none⟩) ((Fx.refl (· = eb) w).drewN k) (.inl rfl) _⟩⟩
  clear hD
  rcases (show n = 0 ∨ n = 1 ∨ n = 2 by omega) with rfl | rfl | rfl
  all_goals
    go_enter Tryd.func61, Tryd.ntmps61
    go_wp2
    go_rounds 2
    go_region
    go_wp2
    rw [rounds_succ]
    go_wp2
    go_returns
    exact ⟨rfl, ⟨HE.out _ _⟩⟩
set_option maxRecDepth 100000 in
set_option maxHeartbeats 1000000 in
theorem drop_any (n : Nat) (hn : n < 3) (w : World) (db eb dc : Nat) (hD : Due w db eb dc ((2 ^ n : Nat) : Int)) :
    Calls Tryd.prog 65 #[.slice (some ⟨db, 0, none⟩) 1 dc, .int .i64 n] w fun e w' => e = .returned (.tuple #[]) ∧ Bx (Due w' db eb dc 0 ∧ Fx (· = eb) w w') := by
  have d0 := hD.d0
  have e0 : w.cell? ⟨eb, 0, none⟩ = some (.int .u64 ((2 ^ n : Nat) : Int)) := (cell_of_row w _ 0 _ _ _ hD.e0).trans rfl
  have ef : w.frozen? ⟨eb, 0, none⟩ = false := by simp [World.frozen?, hD.e0]
  have hc := hD.cap
  have o0 : bits BinOp.andNot IntKind.u64 1 1 = 0 := by kernel_rfl
  have o1 : bits BinOp.andNot IntKind.u64 2 2 = 0 := by kernel_rfl
  have o2 : bits BinOp.andNot IntKind.u64 4 4 = 0 := by kernel_rfl
  have hne : db ≠ eb := hD.ne
  have HE : Bx (∀ k u, Due ((w.drewN k).setCell ⟨eb, 0, none⟩ (.int .u64 u)) db eb dc u ∧ Fx (· = eb) w ((w.drewN k).setCell ⟨eb, 0, none⟩ (.int .u64 u))) := ⟨fun k u => ⟨hD.put k u, Fx.set (p := ⟨eb, 0, none⟩) ((Fx.refl (· = eb) w).drewN k) (.inl rfl) _⟩⟩
  clear hD
  rcases (show n = 0 ∨ n = 1 ∨ n = 2 by omega) with rfl | rfl | rfl
  all_goals
    simp only [Nat.reducePow] at e0
    go_enter Tryd.func65, Tryd.ntmps65
    go_wp2
    go_rounds 2
    go_region
    go_wp2
    rw [rounds_succ]
    go_wp2
    go_returns
    exact ⟨rfl, ⟨HE.out _ _⟩⟩
set_option maxRecDepth 100000 in
set_option maxHeartbeats 1000000 in
theorem take_no (w : World) (db eb dc : Nat) (hD : Due w db eb dc 0) :
    Calls Tryd.prog 44 #[.slice (some ⟨db, 0, none⟩) 1 dc] w fun e w' => e = .returned (.tuple #[.int .i64 0, .bool false]) ∧ w = w' := by
  have d0 := hD.d0
  have e0 : w.cell? ⟨eb, 0, none⟩ = some (.int .u64 0) := (cell_of_row w _ 0 _ _ _ hD.e0).trans rfl
  have hc := hD.cap
  clear hD
  go_enter Tryd.func44, Tryd.ntmps44
  go_wp2
  go_rounds 2
  go_returns
  exact ⟨rfl, rfl⟩
set_option maxRecDepth 100000 in
set_option maxHeartbeats 1000000 in
theorem take_yes (n : Nat) (hn : n < 3) (w : World) (hV : VW w) (db eb dc : Nat) (hD : Due w db eb dc ((2 ^ n : Nat) : Int)) :
    Calls Tryd.prog 44 #[.slice (some ⟨db, 0, none⟩) 1 dc] w fun e w' => e = .returned (.tuple #[.int .i64 n, .bool true]) ∧ Bx (Due w' db eb dc 0 ∧ Fx (· = eb) w w') := by
  have d0 := hD.d0
  have e0 : w.cell? ⟨eb, 0, none⟩ = some (.int .u64 ((2 ^ n : Nat) : Int)) := (cell_of_row w _ 0 _ _ _ hD.e0).trans rfl
  have hc := hD.cap
  have HT := tz_any n hn w hV
  have HD := drop_any n hn w db eb dc hD
  clear hD hV
  have hp : (((2 ^ n : Nat) : Int) == 0) = false := by
    rcases (show n = 0 ∨ n = 1 ∨ n = 2 by omega) with rfl | rfl | rfl <;> rfl
  generalize ((2 ^ n : Nat) : Int) = x at *
  go_enter Tryd.func44, Tryd.ntmps44
  go_wp2
  refine wp_loop_rounds 2 ?_
  rw [rounds_succ]
  go_wp2_with (first
    | (go_at_call 64; refine HT.mono ?_; rintro e w1 ⟨rfl, rfl⟩))
  rw [rounds_succ]
  go_wp2_with (first
    | (go_at_call 65; refine HD.mono ?_; rintro e w1 ⟨rfl, HX⟩))
  go_returns
  exact ⟨rfl, HX⟩
end Go.Proofs.YtafchddhokaopaaDoor
