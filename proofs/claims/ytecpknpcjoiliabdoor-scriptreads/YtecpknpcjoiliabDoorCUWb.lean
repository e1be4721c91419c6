import Derived.Test.YtecpknpcjoiliabDoorCUWa
import Derived.Test.YtecpknpcjoiliabDoorCUBa
import Derived.Deep.AppendLies
namespace Go.Proofs.YtecpknpcjoiliabDoor
open Go.RowKit Go.Shelf
set_option linter.unusedVariables false
set_option linter.unusedSimpArgs false

theorem wpList_appI {P : Program} {w w' : World} {ops : Array Oper} {rest : List Oper} {o : Oper} {a : Act} {Q : Exit → Act → World → Prop} (hgd : o.guard = none) (s x : Operand) (t : TypeId)
    (ho : o.op = .call { callee := .builtin .append, args := #[s, x], argTypes := #[t, t] }) {v u r : Value} (hs : a.eval s = v) (hx : a.eval x = u) (hr : ∀ ty, (Builtin.append_ #[t, t] ty #[v, u]).run P w = .ok r w')
    (h : wpList P ops Q rest (a.put o.dst r) w') : wpList P ops Q (o :: rest) a w := by
  refine wpList_plain hgd fun K hK => ?_
  unfold Oper.wp
  simp [execOp, ho, resolve, invoke, builtin, hs, hx, hr, Result.andThen]
  exact hK _ _ h
/-- picks behind none -/
theorem app_picks (W : World) (g0 : Nat) (ka : Option Addr) (kc : Nat) (ps : List Pk) (hg : W.heap[g0]? = some (.cells #[] 39 (0, 0))) (hi : PkV W W.heap.size ka ps) (hl : ps.length ≤ 5864062014700) :
    ∃ g c W3, (∀ ty, (Builtin.append_ #[29, 29] ty #[.slice (some ⟨g0, 0, none⟩) 0 0, .slice ka ps.length kc]).run Tryd.prog W = .ok (.slice (some ⟨g, 0, none⟩) ps.length c) W3) ∧ PkO W3 g0 (.slice (some ⟨g, 0, none⟩) ps.length c) ps ∧ W.grownBy W3 (some g0) := by
  obtain ⟨i0, hi0, hz0, hz1, hz2⟩ := info_parts infoPk
  have hg0 : g0 < W.heap.size := heap_lt hg
  have hown : W.ownsRow g0 39 3 (.slice (some ⟨g0, 0, none⟩) 0 0) 0 [] := ⟨rfl, .inr ⟨g0, 0, #[], rfl, Nat.le_refl _, hg, Nat.le_refl _, by simp [maxLen], rfl, rfl⟩⟩
  by_cases h0 : 0 < ps.length
  · obtain ⟨b, o, rfl, hb, hc⟩ := hi.at_ h0
    obtain ⟨g, c, W3, r1, r2, r3, r4, r5⟩ := run_append_lies (P := Tryd.prog) W 29 39 g0 39 i0 zeroPk 3 24 Tryd.underlying29 hi0 hz0 hz1 hz2 rfl (by decide) _ _ _ hown ⟨b, o, none⟩ ps.length kc (pkC ps) (by rw [pkC_len]) (PkV.src (B := 0) hc) (pkC_one ps) h0 (by unfold maxLen; omega) (by omega) (by omega) W.heap.size rfl
    rw [Nat.zero_add] at r1 r2
    rw [List.nil_append] at r2
    exact ⟨g, c, W3, fun ty => r1, r2, r3⟩
  · have hx : ps = [] := List.eq_nil_of_length_eq_zero (by omega)
    subst hx
    refine ⟨g0, 0, W, fun ty => ?_, hown, ⟨rfl, rfl, rfl, Nat.le_refl _, fun _ _ _ => rfl⟩⟩
    have hu : (Tryd.prog.underlying 29) = some (.slice 39) := Tryd.underlying29
    cases ka with
    | none => simp [Builtin.append_, run_underlying hu, sizeOf, typeInfo, hi0, Builtin.lenOf, Builtin.firstCells, storeCells]
    | some a => simp [Builtin.append_, run_underlying hu, sizeOf, typeInfo, hi0, Builtin.lenOf, Builtin.firstCells, storeCells, loadCells, loadCellsFrom]
/-- turned round as far as i -/
def tnL (ps : List Pk) (i : Nat) : List Pk := ps.reverse.take i ++ ps.drop i ++ [⟨-7, 0, 0⟩, ⟨-8, 0, 0⟩]
theorem tnL_zero (ps : List Pk) : tnL ps 0 = ps ++ [⟨-7, 0, 0⟩, ⟨-8, 0, 0⟩] := by simp [tnL]
theorem tnL_len (ps : List Pk) {i : Nat} (h : i ≤ ps.length) : (tnL ps i).length = ps.length + 2 := by
  simp [tnL, List.length_take, Nat.min_eq_left h]
  omega
theorem tnL_all (ps : List Pk) : tnL ps ps.length = ps.reverse ++ [⟨-7, 0, 0⟩, ⟨-8, 0, 0⟩] := by
  unfold tnL
  rw [List.take_of_length_le (by simp), List.drop_length]
  simp
theorem tnL_set (ps : List Pk) {i : Nat} (h : i < ps.length) (j : Nat) (hj : j = ps.length - 1 - i) : (tnL ps i).set i (ps[j]'(by omega)) = tnL ps (i + 1) := by
  subst hj
  have hr : i < ps.reverse.length := by simpa using h
  have e1 : ps.reverse.take (i + 1) = ps.reverse.take i ++ [ps.reverse[i]] := List.take_succ_eq_append_getElem hr
  have e2 : ps.reverse[i] = ps[ps.length - 1 - i] := List.getElem_reverse _
  have e3 : ps.drop i = ps[i] :: ps.drop (i + 1) := List.drop_eq_getElem_cons h
  have e4 : (ps.reverse.take i).length = i := by rw [List.length_take]; omega
  unfold tnL
  rw [e1, e2, e3, List.append_assoc, List.append_assoc, List.append_assoc]
  rw [List.set_append, if_neg (by omega), e4, Nat.sub_self]
  rfl
end Go.Proofs.YtecpknpcjoiliabDoor
