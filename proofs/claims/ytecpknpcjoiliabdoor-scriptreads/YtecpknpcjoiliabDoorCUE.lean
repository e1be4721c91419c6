import Derived.Test.YtecpknpcjoiliabDoorCUQ
import Derived.Test.YtecpknpcjoiliabDoorCUO
import Derived.LaidEql
import Derived.Stop.Asserts
import Derived.RowKitTokens
namespace Go.Proofs.YtecpknpcjoiliabDoor
open Go.RowKit Go.Extern.Stop Go.Stop Go.Extern
set_option linter.unusedVariables false
set_option linter.unusedSimpArgs false

theorem as_nil (t : Value) (w : World) :
    Calls Tryd.prog 12 #[.nilIface, t] w fun e w' => e = .returned (.bool false) ∧ w' = w := by
  go_enter Tryd.func12, Tryd.ntmps12
  go_wp2
  go_ret
  exact ⟨rfl, rfl⟩
abbrev rtV (t : Nat) : Value := .iface 99 (.agg #[.pointer (some ⟨8, t, none⟩)])
abbrev rvV (t : Nat) (a : Addr) (f : Int) : Value := .agg #[.pointer (some ⟨8, t, none⟩), .pointer (some a), .int .u64 f]
theorem rl_valueP (t : Addr) (w : World) : (ReflectliteValue.unpack (.iface 49 (.pointer (some t)))).run Tryd.prog w
    = .ok (rvV 49 ⟨w.heap.size, 0, none⟩ 150) (w.alloc (.cells #[.pointer (some t)] 49)) := by kernel_rfl
theorem rl_type (a : Addr) (w : World) : (ReflectliteValue.methodAny (ReflectliteValue.valueError "reflectlite.Value.Type" 0) (fun t _ _ _ => ReflectliteType.toType t) #[rvV 49 a 150]).run Tryd.prog w
    = .ok (rtV 49) w := by kernel_rfl
theorem rl_mKind (h : Value) (w : World) : (Go.method 296 99 (.agg #[h]) "Kind").run Tryd.prog w = .ok (96, h) w := by kernel_rfl
theorem rl_kindP (w : World) : ((ReflectliteType.abiMethod fun t => (fun a : Nat => Value.int IntKind.u8 (a : Int)) <$> Rtype.kind t) #[.pointer (some ⟨8, 49, none⟩)]).run Tryd.prog w = .ok (.int .u8 22) w := by kernel_rfl
theorem rl_kindS (w : World) : ((ReflectliteType.abiMethod fun t => (fun a : Nat => Value.int IntKind.u8 (a : Int)) <$> Rtype.kind t) #[.pointer (some ⟨8, 47, none⟩)]).run Tryd.prog w = .ok (.int .u8 25) w := by kernel_rfl
theorem rlm (z : Sem Value) (f : TypeId → Addr → Nat → Nat → Sem Value) (v : Value) :
    ReflectliteValue.method z f #[v] = (do match ← ReflectliteValue.parts v with | none => z | some (t, a, fl) => f t a fl (fl % 32)) := rfl
theorem rl_partsP (a : Addr) (w : World) : (ReflectliteValue.parts (rvV 49 a 150)).run Tryd.prog w = .ok (some (49, a, 150)) w := by kernel_rfl
theorem rl_isNil (a p : Addr) (W : World) (ha : W.cell? a = some (.pointer (some p))) :
    (ReflectliteValue.method (ReflectliteValue.valueError "reflectlite.Value.IsNil" 0) ReflectliteValue.isNil #[rvV 49 a 150]).run Tryd.prog W = .ok (.bool false) W := by
  rw [rlm]
  simp only [Sem.run_bind, rl_partsP, Result.andThen]
  simp [ReflectliteValue.isNil, loadVar, isAgg, underlying, Tryd.underlying49, ha, Result.andThen]
theorem rl_mElem (h : Value) (w : World) : (Go.method 296 99 (.agg #[h]) "Elem").run Tryd.prog w = .ok (106, .agg #[h]) w := by kernel_rfl
theorem rl_mImpl (h : Value) (w : World) : (Go.method 296 99 (.agg #[h]) "Implements").run Tryd.prog w = .ok (107, .agg #[h]) w := by kernel_rfl
theorem rl_mAss (h : Value) (w : World) : (Go.method 296 99 (.agg #[h]) "AssignableTo").run Tryd.prog w = .ok (104, .agg #[h]) w := by kernel_rfl
theorem rl_elem (w : World) : (ReflectliteType.method ReflectliteType.elem #[.agg #[.pointer (some ⟨8, 49, none⟩)]]).run Tryd.prog w = .ok (rtV 47) w := by kernel_rfl
theorem rl_impl (w : World) : (ReflectliteType.relation "Implements" ReflectliteType.implements_ #[.agg #[.pointer (some ⟨8, 47, none⟩)], rtV 43]).run Tryd.prog w = .ok (.bool true) w := by kernel_rfl
theorem rl_typeOf (v : Value) (w : World) : (ReflectliteType.typeOf #[.iface 47 v]).run Tryd.prog w = .ok (rtV 47) w := by kernel_rfl
theorem rl_ass (w : World) : (ReflectliteType.relation "AssignableTo" ReflectliteType.assignableTo #[.agg #[.pointer (some ⟨8, 47, none⟩)], rtV 47]).run Tryd.prog w = .ok (.bool true) w := by kernel_rfl
theorem rl_valueS (x y : Int) (w : World) : (ReflectliteValue.unpack (.iface 47 (.agg #[.int .i64 x, .int .i64 y]))).run Tryd.prog w
    = .ok (rvV 47 ⟨w.heap.size, 0, none⟩ 153) (w.alloc (.cells #[.int .i64 x, .int .i64 y] 47)) := by kernel_rfl
theorem rl_elemOf (w : World) : (Rtype.elem? 49).run Tryd.prog w = .ok (some 47) w := by kernel_rfl
theorem rl_mk (p : Addr) (w : World) : (ReflectliteValue.mk 47 p ReflectliteValue.flagAddr).run Tryd.prog w = .ok (rvV 47 p 409) w := by kernel_rfl
theorem rl_elemV (a p : Addr) (W : World) (ha : W.cell? a = some (.pointer (some p))) :
    (ReflectliteValue.method (ReflectliteValue.valueError "reflectlite.Value.Elem" 0) ReflectliteValue.elem #[rvV 49 a 150]).run Tryd.prog W
      = .ok (rvV 47 p 409) W := by
  rw [rlm]
  simp only [Sem.run_bind, rl_partsP, Result.andThen]
  simp [ReflectliteValue.elem, loadVar, isAgg, underlying, Tryd.underlying49, ha, Result.andThen, rl_elemOf, rl_mk]
theorem rls (v x : Value) : ReflectliteValue.set #[v, x] = (do
    let (some (dst, a, fl), some (src, b, _)) := (← ReflectliteValue.parts v, ← ReflectliteValue.parts x)
      | unsupported (.noEntry "extern/(internal/reflectlite.Value).Set.zeroValue")
    if fl / ReflectliteValue.flagAddr % 2 == 0 then unsupported (.noEntry "extern/(internal/reflectlite.Value).Set.unaddressable")
    let val ← loadVar src b
    if ← Rtype.directlyAssignable dst src then storeVar dst a val
    else if ← Rtype.implements dst src then
      if (← Rtype.kind src) == 20 then
        match val with
        | .nilIface => unsupported (.noEntry "extern/reflectlite: a nil value of one interface type handed on as a value of another")
        | _ => storeVar dst a val
      else storeVar dst a (.iface src val)
    else panicString ("reflectlite.Set: value of type " ++ (← Rtype.spelt src) ++ " is not assignable to type " ++ (← Rtype.spelt dst))
    pure (.tuple #[])) := rfl
theorem rl_partsA (a : Addr) (w : World) : (ReflectliteValue.parts (rvV 47 a 409)).run Tryd.prog w = .ok (some (47, a, 409)) w := by kernel_rfl
theorem rl_partsS (a : Addr) (w : World) : (ReflectliteValue.parts (rvV 47 a 153)).run Tryd.prog w = .ok (some (47, a, 153)) w := by kernel_rfl
theorem rl_direct (w : World) : (Rtype.directlyAssignable 47 47).run Tryd.prog w = .ok true w := by kernel_rfl
theorem rl_size (w : World) : (sizeOf 47).run Tryd.prog w = .ok 2 w := by kernel_rfl
theorem rl_isAgg (w : World) : (isAgg 47).run Tryd.prog w = .ok true w := by kernel_rfl
set_option maxHeartbeats 1000000 in
theorem rl_set (tb b : Nat) (x y : Int) (o0 o1 : Value) (W : World) (h0 : W.cell? ⟨b, 0, none⟩ = some (.int .i64 x)) (h1 : W.cell? ⟨b, 1, none⟩ = some (.int .i64 y)) (t0 : W.cell? ⟨tb, 0, none⟩ = some o0) (t1 : W.cell? ⟨tb, 1, none⟩ = some o1) (f0 : W.frozen? ⟨tb, 0, none⟩ = false) (f1 : W.frozen? ⟨tb, 1, none⟩ = false) :
    (ReflectliteValue.set #[rvV 47 ⟨tb, 0, none⟩ 409, rvV 47 ⟨b, 0, none⟩ 153]).run Tryd.prog W
      = .ok (.tuple #[]) ((W.setCell ⟨tb, 0, none⟩ (.int .i64 x)).setCell ⟨tb, 1, none⟩ (.int .i64 y)) := by
  rw [rls]
  simp only [Sem.run_bind, rl_partsA, rl_partsS, Result.andThen]
  simp [ReflectliteValue.flagAddr, loadVar, rl_isAgg, rl_size, loadCells, h0, h1, Result.andThen, rl_direct, storeVar, Value.cells, storeCells, Addr.add]
  have hl : Sem.run Tryd.prog (loadCellsFrom ⟨b, 0, none⟩ 0 2 #[]) W = .ok #[.int .i64 x, .int .i64 y] W := by
    simp [loadCellsFrom, h0, h1, Result.andThen, Addr.add]
  rw [hl]
  simp [storeCells, Result.andThen, Addr.add]
  rw [run_store Tryd.prog W _ _ _ (by rfl)]
  simp [t0, f0]
  obtain ⟨o2, t2⟩ := cell?_setCell_some (p := ⟨tb, 0, none⟩) (x := .int .i64 x) t1
  rw [run_store Tryd.prog _ _ _ _ (by rfl)]
  simp [t2, f1]
end Go.Proofs.YtecpknpcjoiliabDoor
