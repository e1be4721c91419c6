import Derived.Test.YtafchddhokaopaaDoorCYH
import Derived.Lib.SliceRun
import Derived.Carry
namespace Go.Proofs.YtafchddhokaopaaDoor
open Go.RowKit
set_option linter.unusedVariables false
set_option linter.unusedSimpArgs false

def putL (C : Array Value) : Nat → List Value → Array Value
  | _, [] => C
  | o, v :: r => putL (C.setIfInBounds o v) (o + 1) r
theorem setCells_blk (b : Nat) (t : TypeId) : ∀ (vs : List Value) (o : Nat) (w : World) (C : Array Value), w.heap[b]? = some (.cells C t (0, 0)) → (w.setCells b o vs).heap[b]? = some (.cells (putL C o vs) t (0, 0))
  | [], _, _, _, h => h
  | v :: r, o, w, C, h => setCells_blk b t r (o + 1) _ _ (heap_setCell_same w b o C t v h)
theorem Fx.sets {P : Nat → Prop} {b : Nat} (hb : P b) : ∀ (vs : List Value) (o : Nat) {a w : World}, Fx P a w → Fx P a (w.setCells b o vs)
  | [], _, _, _, h => h
  | v :: r, o, _, _, h => Fx.sets hb r (o + 1) (h.set (p := ⟨b, o, none⟩) (.inl hb) v)
theorem zeroWay (w : World) : (zeroValue 66).run Tryd.prog w = .ok (.agg #[.int .i64 0, .int .u64 0]) w := by
  obtain ⟨i0, hi, hz0, hz1, hz2⟩ := info_parts infoWay
  simp [zeroValue, typeInfo, hi, hz0]
/-- 'clear' of ways that are all zero -/
theorem clear_ways (w : World) (kb n : Nat) (h0 : 0 < n) (hn : n ≤ 3) (hk : w.heap[kb]? = some (.cells (kC (List.replicate n (0, 0))) 66 (0, 0))) :
    ∃ W, (∀ ty, (Builtin.clear_ #[67] ty #[.slice (some ⟨kb, 0, none⟩) n n]).run Tryd.prog w = .ok (.tuple #[]) W) ∧ W.heap[kb]? = some (.cells (kC (List.replicate n (0, 0))) 66 (0, 0)) ∧ Fx (· = kb) w W := by
  have hu : (Tryd.prog.underlying 67) = some (.slice 66) := Tryd.underlying67
  obtain ⟨zs, hzs⟩ : ∃ zs, zs = (Builtin.zeroCells #[Value.int .i64 0, .int .u64 0] n).toList := ⟨_, rfl⟩
  have key : zs = (kC (List.replicate n (0, 0))).toList := by
    rw [hzs]
    rcases (show n = 1 ∨ n = 2 ∨ n = 3 by omega) with rfl | rfl | rfl <;> kernel_rfl
  have hst := run_storeCells_cells (P := Tryd.prog) kb 0 zs 0 w (by
    intro j hj
    rw [Nat.zero_add, cell_of_row w _ _ _ _ _ hk]
    rw [key] at hj
    simp at hj
    rw [Array.getElem?_eq_getElem hj]
    rfl) (by intro j hj; simp [World.frozen?, hk]) (by
    intro v hv
    rw [key] at hv
    unfold kC at hv
    simp at hv
    obtain ⟨_, _, _, rfl | rfl⟩ := hv <;> rfl)
  refine ⟨w.setCells kb 0 zs, fun ty => ?_, ?_, Fx.sets (P := (· = kb)) (b := kb) rfl zs 0 (Fx.refl _ w)⟩
  · obtain ⟨m, rfl⟩ : ∃ m, n = m + 1 := ⟨n - 1, by omega⟩
    simp only [Nat.add_zero] at hst
    simp [Builtin.clear_, run_underlying hu, zeroWay, Value.cells, ← hzs, hst]
  · rw [setCells_blk kb _ zs 0 w _ hk, key]
    rcases (show n = 1 ∨ n = 2 ∨ n = 3 by omega) with rfl | rfl | rfl <;> kernel_rfl
set_option maxRecDepth 100000 in
set_option maxHeartbeats 1000000 in
theorem Len64_0 (w : World) : Calls Tryd.prog 81 #[.int .u64 0] w fun e w' => e = .returned (.int .i64 0) ∧ w = w' := by
  have h8 : Lib.len8 0 = 0 := by kernel_rfl
  go_enter Tryd.func81, Tryd.ntmps81
  go_wp2
  go_ret
  exact ⟨rfl, rfl⟩
set_option maxRecDepth 100000 in
set_option maxHeartbeats 1000000 in
theorem Len_0 (w : World) : Calls Tryd.prog 60 #[.int .u64 0] w fun e w' => e = .returned (.int .i64 0) ∧ w = w' := by
  have HL : Bx (∀ W, _) := ⟨fun W => Len64_0 W⟩
  go_enter Tryd.func60, Tryd.ntmps60
  go_wp2_with (first
    | (go_at_call 81; refine (HL.out _).mono ?_; rintro e w1 ⟨rfl, rfl⟩))
  go_ret
  exact ⟨rfl, rfl⟩
end Go.Proofs.YtafchddhokaopaaDoor
