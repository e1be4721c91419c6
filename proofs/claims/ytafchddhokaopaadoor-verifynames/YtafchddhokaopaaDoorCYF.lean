import Derived.Test.YtafchddhokaopaaDoorCYE
namespace Go.Proofs.YtafchddhokaopaaDoor
open Go.RowKit
set_option linter.unusedVariables false
set_option linter.unusedSimpArgs false

theorem infoB : (Tryd.prog.info? 4).map (fun i => (i.zero, i.size, i.bytes)) = some (some (.bool false), 1, 1) := by kernel_rfl
theorem infoI : (Tryd.prog.info? 3).map (fun i => (i.zero, i.size, i.bytes)) = some (some (.int .i64 0), 1, 8) := by kernel_rfl
theorem infoIs : (Tryd.prog.info? 32).map (fun i => (i.zero, i.size, i.bytes)) = some (some (.slice none 0 0), 1, 24) := by kernel_rfl
theorem made0 (z : Array Value) : madeCells z 0 = #[] := by simp [madeCells]
theorem make0B (w : World) : (Instr.makeSlice 41 (.int .i64 0) (.int .i64 0)).run Tryd.prog w = .ok (.slice (some ⟨w.heap.size, 0, none⟩) 0 0) (w.alloc (.cells #[] 4)) := by
  obtain ⟨i0, hi, hz0, hz1, hz2⟩ := info_parts infoB
  have := run_make (P := Tryd.prog) w 41 4 i0 _ Tryd.underlying41 hi hz0 .i64 .i64 0 0 (by omega) (by omega) (by rw [hz2]; omega) (by omega)
  simpa [made0] using this
theorem make0I (w : World) : (Instr.makeSlice 32 (.int .i64 0) (.int .i64 0)).run Tryd.prog w = .ok (.slice (some ⟨w.heap.size, 0, none⟩) 0 0) (w.alloc (.cells #[] 3)) := by
  obtain ⟨i0, hi, hz0, hz1, hz2⟩ := info_parts infoI
  have := run_make (P := Tryd.prog) w 32 3 i0 _ Tryd.underlying32 hi hz0 .i64 .i64 0 0 (by omega) (by omega) (by rw [hz2]; omega) (by omega)
  simpa [made0] using this
theorem make0S (w : World) : (Instr.makeSlice 103 (.int .i64 0) (.int .i64 0)).run Tryd.prog w = .ok (.slice (some ⟨w.heap.size, 0, none⟩) 0 0) (w.alloc (.cells #[] 32)) := by
  obtain ⟨i0, hi, hz0, hz1, hz2⟩ := info_parts infoIs
  have := run_make (P := Tryd.prog) w 103 32 i0 _ Tryd.underlying103 hi hz0 .i64 .i64 0 0 (by omega) (by omega) (by rw [hz2]; omega) (by omega)
  simpa [made0] using this
set_option maxRecDepth 100000 in
set_option maxHeartbeats 1000000 in
theorem defaults_nil (w : World) : Calls Tryd.prog 36 #[.slice none 0 0] w fun e w' => e = .returned (.slice (some ⟨w.heap.size, 0, none⟩) 0 0) ∧ Below w.heap.size w w' := by
  have h1 := make0B
  have h2 := make0I
  have h3 := make0S
  have hb : Bx (∀ o1 o2 o3, Below w.heap.size w (((w.alloc o1).alloc o2).alloc o3)) := ⟨fun o1 o2 o3 => ((below1 w o1).alloc (by simp) o2).alloc (by simp; omega) o3⟩
  go_enter Tryd.func36, Tryd.ntmps36
  go_wp2
  refine wp_loop_rounds 1 ?_
  rw [rounds_succ]
  go_wp2
  refine wp_loop_rounds 1 ?_
  rw [rounds_succ]
  go_wp2
  go_ret
  exact ⟨rfl, hb.out _ _ _⟩
/-- the code of an example, as cells -/
def cdC (l : List (Int × Int)) : Array Value := (l.flatMap fun p => [Value.int .i64 p.1, .int .i64 p.2, .int .i64 0, .slice none 0 0]).toArray
/-- a unit of one prog -/
structure UE (w : World) (pb cb : Nat) (l : List (Int × Int)) : Prop where
  pg : w.heap[pb]? = some (.cells #[.int .i64 0, .int .i64 1, .int .i64 2, .bool false, .slice (some ⟨cb, 0, none⟩) l.length l.length] 40 (0, 0))
  cd : w.heap[cb]? = some (.cells (cdC l) 43 (0, 0))
  all : ∀ p ∈ l, ∃ v, Ex p.1 p.2 v
  len : l.length ≤ 3
  pos : 0 < l.length
theorem UE.lt {w : World} {pb cb : Nat} {l : List (Int × Int)} (h : UE w pb cb l) : pb < w.heap.size ∧ cb < w.heap.size := ⟨(Array.getElem?_eq_some_iff.1 h.pg).1, (Array.getElem?_eq_some_iff.1 h.cd).1⟩
theorem UE.below {w w' : World} {pb cb : Nat} {l : List (Int × Int)} (h : UE w pb cb l) (hb : Below w.heap.size w w') : UE w' pb cb l :=
  ⟨(hb.block _ h.lt.1).trans h.pg, (hb.block _ h.lt.2).trans h.cd, h.all, h.len, h.pos⟩
theorem cdC_get : ∀ (l : List (Int × Int)) (i : Nat) (h : i < l.length), (cdC l)[i * 4]? = some (.int .i64 l[i].1) ∧ (cdC l)[i * 4 + 1]? = some (.int .i64 l[i].2) ∧ (cdC l)[i * 4 + 2]? = some (.int .i64 0) ∧ (cdC l)[i * 4 + 3]? = some (.slice none 0 0)
  | p :: r, 0, _ => by simp [cdC]
  | p :: r, i + 1, h => by
    have := cdC_get r i (by simpa using h)
    simp only [cdC, List.getElem?_toArray, List.flatMap_cons, List.getElem_cons_succ] at this ⊢
    have e : ∀ k, ([Value.int .i64 p.1, .int .i64 p.2, .int .i64 0, .slice none 0 0] ++ List.flatMap (fun p => [Value.int .i64 p.1, .int .i64 p.2, .int .i64 0, .slice none 0 0]) r)[4 + k]? = (List.flatMap (fun p => [Value.int .i64 p.1, .int .i64 p.2, .int .i64 0, .slice none 0 0]) r)[k]? := fun k => by
      rw [List.getElem?_append_right (by simp)]
      simp
    rw [show (i + 1) * 4 = 4 + i * 4 by omega, show 4 + i * 4 + 1 = 4 + (i * 4 + 1) by omega, show 4 + i * 4 + 2 = 4 + (i * 4 + 2) by omega, show 4 + i * 4 + 3 = 4 + (i * 4 + 3) by omega, e, e, e, e]
    exact this
theorem UE.cell {w : World} {pb cb : Nat} {l : List (Int × Int)} (h : UE w pb cb l) (i : Nat) (hi : i < l.length) : w.cell? ⟨cb, i * 4, none⟩ = some (.int .i64 l[i].1) ∧ w.cell? ⟨cb, i * 4 + 1, none⟩ = some (.int .i64 l[i].2) ∧ w.cell? ⟨cb, i * 4 + 2, none⟩ = some (.int .i64 0) ∧ w.cell? ⟨cb, i * 4 + 3, none⟩ = some (.slice none 0 0) := by
  obtain ⟨h1, h2, h3, h4⟩ := cdC_get l i hi
  exact ⟨(cell_of_row w _ _ _ _ _ h.cd).trans h1, (cell_of_row w _ _ _ _ _ h.cd).trans h2, (cell_of_row w _ _ _ _ _ h.cd).trans h3, (cell_of_row w _ _ _ _ _ h.cd).trans h4⟩
end Go.Proofs.YtafchddhokaopaaDoor
