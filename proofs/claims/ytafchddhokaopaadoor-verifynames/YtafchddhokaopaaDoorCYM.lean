import Derived.Test.YtafchddhokaopaaDoorCYL
namespace Go.Proofs.YtafchddhokaopaaDoor
open Go.RowKit
set_option linter.unusedVariables false
set_option linter.unusedSimpArgs false

/-- a walker in the midst of a prog -/
structure LK (w0 w : World) (wb kb db eb dc cb n : Nat) (pv mv : Value) (K : List (Int × Int)) (x : Int) : Prop where
  wk : WK w wb kb db eb dc (wkO 0 1 2 false (.slice (some ⟨cb, 0, none⟩) n n) kb n db dc 0 pv mv) K x
  bel : Below w0.heap.size w0 w
  g1 : w0.heap.size ≤ wb
  g2 : w0.heap.size ≤ kb
  g3 : w0.heap.size ≤ db
  g4 : w0.heap.size ≤ eb
  kl : K.length = n
theorem LK.below {w0 w w' : World} {wb kb db eb dc cb n : Nat} {pv mv : Value} {K : List (Int × Int)} {x : Int} (h : LK w0 w wb kb db eb dc cb n pv mv K x) (hb : Below w.heap.size w w') : LK w0 w' wb kb db eb dc cb n pv mv K x :=
  ⟨h.wk.fx (Fx.no hb) id id id id, h.bel.trans (hb.mono h.bel.size), h.g1, h.g2, h.g3, h.g4, h.kl⟩
theorem LK.drewN {w0 w : World} {wb kb db eb dc cb n : Nat} {pv mv : Value} {K : List (Int × Int)} {x : Int} (h : LK w0 w wb kb db eb dc cb n pv mv K x) (k : Nat) : LK w0 (w.drewN k) wb kb db eb dc cb n pv mv K x :=
  h.below ⟨rfl, rfl, rfl, Nat.le_refl _, fun _ _ => rfl⟩
theorem LK.cells {w0 w : World} {wb kb db eb dc cb n : Nat} {pv mv : Value} {K : List (Int × Int)} {x : Int} (h : LK w0 w wb kb db eb dc cb n pv mv K x) : w.cell? ⟨wb, 3, none⟩ = some (.bool false) ∧ w.cell? ⟨wb, 4, none⟩ = some (.slice (some ⟨cb, 0, none⟩) n n) ∧ w.cell? ⟨wb, 5, none⟩ = some (.slice (some ⟨kb, 0, none⟩) n n) ∧ w.cell? ⟨wb, 6, none⟩ = some (.slice (some ⟨db, 0, none⟩) 1 dc) ∧ w.cell? ⟨wb, 7, none⟩ = some (.int .i64 0) ∧ wb < w.heap.size := by
  have q := h.wk.wk
  unfold wkO at q
  exact ⟨(cell_of_row w _ 3 _ _ _ q).trans rfl, (cell_of_row w _ 4 _ _ _ q).trans rfl, (cell_of_row w _ 5 _ _ _ q).trans rfl, (cell_of_row w _ 6 _ _ _ q).trans rfl, (cell_of_row w _ 7 _ _ _ q).trans rfl, h.wk.lts.1⟩
theorem LK.known {w0 w : World} {wb kb db eb dc cb n : Nat} {pv mv : Value} {K : List (Int × Int)} {x : Int} (h : LK w0 w wb kb db eb dc cb n pv mv K x) (i : Nat) (hi : i < K.length) : w.cell? ⟨kb, i * 2, none⟩ = some (.int .i64 K[i].1) ∧ w.cell? ⟨kb, i * 2 + 1, none⟩ = some (.int .u64 K[i].2) := by
  obtain ⟨g1, g2⟩ := kC_get K i hi
  exact ⟨(cell_of_row w _ _ _ _ _ h.wk.kn).trans g1, (cell_of_row w _ _ _ _ _ h.wk.kn).trans g2⟩
theorem come_lk {w0 w : World} {wb kb db eb dc cb n : Nat} {pv mv : Value} {K : List (Int × Int)} (h : LK w0 w wb kb db eb dc cb n pv mv K 0) (i : Nat) (hi : i < n) (hn3 : n ≤ 3) (hz : ∀ h : i < K.length, K[i].1 = 0) (ab s : Int) :
    Calls Tryd.prog 42 #[.pointer (some ⟨wb, 0, none⟩), .int .i64 i, .agg #[.int .i64 ab, .int .u64 s]] w fun e w' => e = .returned (.bool true) ∧ Bx (LK w0 w' wb kb db eb dc cb n pv mv (K.set i (ab, s)) ((2 ^ i : Nat) : Int)) :=
  (come_ex w wb kb db eb dc 0 1 2 false _ n 0 pv mv K h.wk h.kl i hi (by omega) hn3 hz ab s).mono fun e w' hh => by
    obtain ⟨h1, h2⟩ := hh.2.out
    have hs := h.bel.size
    have hg2 := h.g2
    have hg4 := h.g4
    exact ⟨hh.1, ⟨h1, h.bel.trans (h2.bel hs (fun k hk e => by rcases e with e | e <;> omega)), h.g1, h.g2, h.g3, h.g4, by simpa using h.kl⟩⟩
set_option maxRecDepth 100000 in
set_option maxHeartbeats 1000000 in
theorem results_ex (w : World) (wb : Nat) (h : w.cell? ⟨wb, 3, none⟩ = some (.bool false)) : Calls Tryd.prog 66 #[.pointer (some ⟨wb, 0, none⟩)] w fun e w' => e = .returned (.int .i64 0) ∧ w = w' := by
  go_enter Tryd.func66, Tryd.ntmps66
  go_wp2
  go_ret
  exact ⟨rfl, rfl⟩
set_option maxRecDepth 100000 in
set_option maxHeartbeats 1000000 in
theorem needsValue_ex (op : Int) (h : op = 1 ∨ op = 5 ∨ op = 25) (w : World) : Calls Tryd.prog 67 #[.int .i64 op] w fun e w' => e = .returned (.bool false) ∧ w = w' := by
  rcases h with rfl | rfl | rfl
  all_goals
    go_enter Tryd.func67, Tryd.ntmps67
    go_wp2
    go_ret
    exact ⟨rfl, rfl⟩
set_option maxRecDepth 100000 in
set_option maxHeartbeats 1000000 in
theorem goesBehind_ex (op : Int) (h : op = 1 ∨ op = 5 ∨ op = 25) (w : World) : Calls Tryd.prog 69 #[.int .i64 op] w fun e w' => e = .returned (.bool (op != 25)) ∧ w = w' := by
  rcases h with rfl | rfl | rfl
  all_goals
    go_enter Tryd.func69, Tryd.ntmps69
    go_wp2
    go_ret
    exact ⟨rfl, rfl⟩
set_option maxRecDepth 100000 in
set_option maxHeartbeats 1000000 in
theorem slotsPast_ex (op a s s' : Int) (h : (op = 1 ∧ s' = s) ∨ (op = 5 ∧ a = 0 ∧ s = 0 ∧ s' = 1) ∨ (op = 25 ∧ s' = s)) (w : World) (wb : Nat) (h7 : w.cell? ⟨wb, 7, none⟩ = some (.int .i64 0)) : Calls Tryd.prog 70 #[.pointer (some ⟨wb, 0, none⟩), exV op a, .int .u64 s] w fun e w' => e = .returned (.int .u64 s') ∧ Below w.heap.size w w' := by
  have hwl : wb < w.heap.size := World.block_lt_of_cell? w _ h7
  have hb : Bx (∀ o, Below w.heap.size w (w.alloc o)) := ⟨fun o => below1 w o⟩
  have hb2 : Bx (∀ o k1 k2, Below w.heap.size w (((w.alloc o).drewN k1).drewN k2)) := ⟨fun o k1 k2 => ⟨rfl, rfl, rfl, by simp, fun k hk => (below1 w o).block k hk⟩⟩
  have HW : Bx (∀ o k, Calls Tryd.prog 83 #[.pointer (some ⟨wb, 7, none⟩), .int .u64 0, .int .i64 0] ((w.alloc o).drewN k) fun e w' => e = .returned (.int .u64 1) ∧ Bx (Below w.heap.size w w')) := ⟨fun o k => (with_ex ((w.alloc o).drewN k) wb (((below1 w o).cell (p := ⟨wb, 7, none⟩) hwl).trans h7)).mono fun e w' hh => ⟨hh.1, by obtain ⟨k2, rfl⟩ := hh.2; exact ⟨hb2.out _ _ _⟩⟩⟩
  rcases h with ⟨rfl, rfl⟩ | ⟨rfl, rfl, rfl, rfl⟩ | ⟨rfl, rfl⟩
  · go_enter Tryd.func70, Tryd.ntmps70
    go_wp2
    go_ret
    exact ⟨rfl, hb.out _⟩
  · go_enter Tryd.func70, Tryd.ntmps70
    go_wp2
    go_region_with (first
      | (go_at_call 83; refine (HW.out _ 1).mono ?_; rintro e w1 ⟨rfl, HX⟩))
    all_goals
      go_wp2
      go_ret
      exact ⟨rfl, HX.out⟩
  · go_enter Tryd.func70, Tryd.ntmps70
    go_wp2
    go_ret
    exact ⟨rfl, hb.out _⟩
end Go.Proofs.YtafchddhokaopaaDoor
