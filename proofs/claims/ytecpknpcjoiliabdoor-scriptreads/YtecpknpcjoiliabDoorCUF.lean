import Derived.Test.YtecpknpcjoiliabDoorCUE
namespace Go.Proofs.YtecpknpcjoiliabDoor
open Go.RowKit Go.Extern.Stop Go.Stop Go.Extern
set_option linter.unusedVariables false
set_option linter.unusedSimpArgs false

set_option maxRecDepth 100000 in
set_option maxHeartbeats 4000000 in
theorem as_hit (x y : Int) (tb : Nat) (w : World) (hg : w.cell? ⟨0, 0, none⟩ = some (rtV 43)) (ht : w.heap[tb]? = some (.cells #[.int .i64 0, .int .i64 0] 47 (0, 0))) :
    Calls Tryd.prog 12 #[.iface 47 (.agg #[.int .i64 x, .int .i64 y]), .iface 49 (.pointer (some ⟨tb, 0, none⟩))] w fun ev w' => ev = .returned (.bool true) ∧ Bx (Kx (fun z => z = tb) w w' ∧ w'.heap[tb]? = some (.cells #[.int .i64 x, .int .i64 y] 47 (0, 0))) := by
  have h6 := @run_callFunc_extern Tryd.prog 21 _ (fun args => ReflectliteValue.unpack (args.getD 0 (.tuple #[]))) Tryd.func21 (by kernel_rfl) (by kernel_rfl) (by kernel_rfl) (by kernel_rfl)
  have h7 := @run_callFunc_extern Tryd.prog 22 _ (ReflectliteValue.methodAny (ReflectliteValue.valueError "reflectlite.Value.Type" 0) (fun t _ _ _ => ReflectliteType.toType t)) Tryd.func22 (by kernel_rfl) (by kernel_rfl) (by kernel_rfl) (by kernel_rfl)
  have h8 := @run_callFunc_extern Tryd.prog 23 _ (ReflectliteValue.method (ReflectliteValue.valueError "reflectlite.Value.IsNil" 0) ReflectliteValue.isNil) Tryd.func23 (by kernel_rfl) (by kernel_rfl) (by kernel_rfl) (by kernel_rfl)
  have h27 := @run_callFunc_extern Tryd.prog 96 _ (ReflectliteType.abiMethod fun t => do pure (.int .u8 (← Rtype.kind t))) Tryd.func96 (by kernel_rfl) (by kernel_rfl) (by kernel_rfl) (by kernel_rfl)
  have h37 := @run_callFunc_extern Tryd.prog 106 _ (ReflectliteType.method ReflectliteType.elem) Tryd.func106 (by kernel_rfl) (by kernel_rfl) (by kernel_rfl) (by kernel_rfl)
  have h38 := @run_callFunc_extern Tryd.prog 107 _ (ReflectliteType.relation "Implements" ReflectliteType.implements_) Tryd.func107 (by kernel_rfl) (by kernel_rfl) (by kernel_rfl) (by kernel_rfl)
  have h10 := @run_callFunc_extern Tryd.prog 34 _ ReflectliteType.typeOf Tryd.func34 (by kernel_rfl) (by kernel_rfl) (by kernel_rfl) (by kernel_rfl)
  have h35 := @run_callFunc_extern Tryd.prog 104 _ (ReflectliteType.relation "AssignableTo" ReflectliteType.assignableTo) Tryd.func104 (by kernel_rfl) (by kernel_rfl) (by kernel_rfl) (by kernel_rfl)
  have h11 := @run_callFunc_extern Tryd.prog 35 _ (ReflectliteValue.method (ReflectliteValue.valueError "reflectlite.Value.Elem" 0) ReflectliteValue.elem) Tryd.func35 (by kernel_rfl) (by kernel_rfl) (by kernel_rfl) (by kernel_rfl)
  have h12 := @run_callFunc_extern Tryd.prog 36 _ ReflectliteValue.set Tryd.func36 (by kernel_rfl) (by kernel_rfl) (by kernel_rfl) (by kernel_rfl)
  have tO := rl_typeOf
  have mA := rl_mAss
  have a25 := rl_ass
  have v25 := rl_valueS
  have f6 := rl_valueP
  have f7 := rl_type
  have mK := rl_mKind
  have mE := rl_mElem
  have mI := rl_mImpl
  have k27 := rl_kindP
  have k25 := rl_kindS
  have e27 := rl_elem
  have i25 := rl_impl
  obtain ⟨H, hH⟩ : ∃ H, H = w.heap.size := ⟨_, rfl⟩
  have htl := heap_lt ht
  have n8 := rl_isNil ⟨w.heap.size, 0, none⟩ ⟨tb, 0, none⟩ ((w.alloc (.cells #[.pointer (some ⟨tb, 0, none⟩)] 49)).alloc (.cells #[.pointer (some ⟨8, 49, none⟩), .pointer (some ⟨w.heap.size, 0, none⟩), .int .u64 150] 70)) (by simp)
  have hlt : 0 < w.heap.size := World.block_lt_of_cell? w _ hg
  have hg2 : ((w.alloc (.cells #[.pointer (some ⟨tb, 0, none⟩)] 49)).alloc (.cells #[.pointer (some ⟨8, 49, none⟩), .pointer (some ⟨w.heap.size, 0, none⟩), .int .u64 150] 70)).cell? ⟨0, 0, none⟩ = some (rtV 43) := by
    rw [World.cell?_alloc_lt _ _ ⟨0, 0, none⟩ (by simp), World.cell?_alloc_lt _ _ ⟨0, 0, none⟩ hlt]; exact hg
  have el := rl_elemV ⟨w.heap.size, 0, none⟩ ⟨tb, 0, none⟩ (((w.alloc (.cells #[.pointer (some ⟨tb, 0, none⟩)] 49)).alloc (.cells #[.pointer (some ⟨8, 49, none⟩), .pointer (some ⟨w.heap.size, 0, none⟩), .int .u64 150] 70)).alloc (.cells #[.pointer (some ⟨8, 49, none⟩), .pointer (some ⟨w.heap.size, 0, none⟩), .int .u64 150] 70)) (by rw [World.cell?_alloc_lt _ _ ⟨w.heap.size, 0, none⟩ (by simp; omega)]; simp)
  obtain ⟨X, hX⟩ : ∃ X, X = ((((w.alloc (.cells #[.pointer (some ⟨tb, 0, none⟩)] 49)).alloc (.cells #[.pointer (some ⟨8, 49, none⟩), .pointer (some ⟨w.heap.size, 0, none⟩), .int .u64 150] 70)).alloc (.cells #[.pointer (some ⟨8, 49, none⟩), .pointer (some ⟨w.heap.size, 0, none⟩), .int .u64 150] 70)).alloc (.cells #[.int .i64 x, .int .i64 y] 47)) := ⟨_, rfl⟩
  have hbX : Below w.heap.size w X := by
    rw [hX]
    exact (((below1 w _).alloc (by simp) _).alloc (by simp; omega) _).alloc (by simp; omega) _
  have htX := below_heap hbX ht
  have hsX : X.heap[w.heap.size + 3]? = some (.cells #[.int .i64 x, .int .i64 y] 47 (0, 0)) := by rw [hX]; exact heap_newH _ _ _ (by simp)
  have st := rl_set tb (w.heap.size + 3) x y (.int .i64 0) (.int .i64 0) X (cell_blk hsX rfl) (cell_blk hsX rfl) (cell_blk htX rfl) (cell_blk htX rfl) (frz_blk htX) (frz_blk htX)
  have HE : Bx (Kx (fun z => z = tb) w ((X.setCell ⟨tb, 0, none⟩ (.int .i64 x)).setCell ⟨tb, 1, none⟩ (.int .i64 y)) ∧ ((X.setCell ⟨tb, 0, none⟩ (.int .i64 x)).setCell ⟨tb, 1, none⟩ (.int .i64 y)).heap[tb]? = some (.cells #[.int .i64 x, .int .i64 y] 47 (0, 0))) := ⟨by
    refine ⟨((Kx.new hbX).trans (Kx.set (P := fun z => z = tb) X 0 _ rfl) fun _ _ h => h).trans (Kx.set (P := fun z => z = tb) _ 1 _ rfl) fun _ _ h => h, ?_⟩
    have e1 := Lib.heap_setCell_same (i := 0) htX (.int .i64 x)
    have e2 := Lib.heap_setCell_same (i := 1) e1 (.int .i64 y)
    simpa using e2⟩
  subst hX
  clear hbX htX hsX ht hg hH
  go_enter Tryd.func12, Tryd.ntmps12
  go_wp2
  refine wp_loop_rounds 1 ?_
  rw [rounds_succ]
  go_wp2
  go_ret
  exact ⟨rfl, HE⟩
end Go.Proofs.YtecpknpcjoiliabDoor
