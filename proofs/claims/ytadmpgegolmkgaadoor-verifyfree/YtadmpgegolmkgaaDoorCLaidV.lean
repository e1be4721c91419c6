import Derived.Test.YtadmpgegolmkgaaDoorCDP
import Derived.Test.YtadmpgegolmkgaaDoorRows
import Derived.ProofKit
import Derived.LaidMore
import Derived.OpenShut
import Derived.Stop.Joined
import Derived.Stop.LaidErr
import Derived.Lib.LaidTab
namespace Go.Proofs.YtadmpgegolmkgaaDoor
open Go.ChangeShapes Go.WideShapes Go.ChangeAt Go.RowKit
set_option linter.unusedVariables false
set_option linter.unusedSimpArgs false

theorem own : ownKnob Tryd.prog.godebug = none := by kernel_rfl
/-- the three variables, as every row lists them -/
def laid3 : List (String × DataW Unit) := [("math/bits.deBruijn64tab", Rows.laid_math_bits_deBruijn64tab), ("squint/code.shapes", Rows.laid_squint_code_shapes), ("squint/verify.shapes", Rows.laid_squint_verify_shapes)]
theorem door_met (os : Os) (args : Array Value) : laidMetH Tryd.prog laid3 ((World.doorLaid Tryd.prog 400 os).forCall (fun _ _ => 0) ⟨#[], args, []⟩).memory :=
  laidMetH_of_parts3 (fuel := 8) (laidMet_of_run' 8 (by kernel_rfl) (by kernel_rfl)) (by kernel_rfl) (by kernel_rfl)
theorem gShapes : Tryd.prog.globalNamed "squint/code.shapes" = some 0 := by kernel_rfl
theorem tShapes : (Tryd.prog.globals[0]?).map (·.type) = some 97 := by kernel_rfl
theorem gV : Tryd.prog.globalNamed "squint/verify.shapes" = some 1 := by kernel_rfl
theorem tV : (Tryd.prog.globals[1]?).map (·.type) = some 107 := by kernel_rfl
theorem gDb : Tryd.prog.globalNamed "math/bits.deBruijn64tab" = some 2 := by kernel_rfl
theorem cellsShp : Tryd.prog.cellsOf 80 = 4 := by kernel_rfl
theorem cellsVsh : Tryd.prog.cellsOf 106 = 3 := by kernel_rfl
theorem cellsWant : Tryd.prog.cellsOf 104 = 1 := by kernel_rfl
theorem cellsStr : Tryd.prog.cellsOf 9 = 1 := by kernel_rfl
theorem cellsHas : Tryd.prog.cellsOf 78 = 1 := by kernel_rfl
theorem cellsInt : Tryd.prog.cellsOf 3 = 1 := by kernel_rfl
def shpD (s : List UInt8 × Int × Int × Int) : DataW Unit := .agg [.lit (.string s.1), .lit (.int .i64 s.2.1), .lit (.int .i64 s.2.2.1), .lit (.int .i64 s.2.2.2)]
theorem shapes_datum : (Rows.laid_squint_code_shapes : DataW Unit) = .agg (shapesT.map shpD) := by kernel_rfl
set_option maxRecDepth 100000 in
theorem shapes_of_head {rest : List (String × DataW Unit)} {W : World} (h : laidMet Tryd.prog (("squint/code.shapes", .agg (shapesT.map shpD)) :: rest) W) : Shp W := by
  obtain ⟨ps, ⟨g0, t0, cs0, f0, p0, q0, hg0, ht0, hv0, hd0, _, e0⟩, _, _⟩ := h
  obtain rfl := Option.some.inj (gShapes.symm.trans hg0)
  obtain rfl := Option.some.inj (tShapes.symm.trans ht0)
  obtain ⟨xs, m, _, hx, _, hn, hel⟩ := DataW.trod_array Tryd.underlying97 hd0
  have hx1 : shapesT.map shpD = xs.map (·.1) := by
    have := congrArg Prod.fst hx
    simpa using this
  have hlen : xs.length = 28 := by
    have := congrArg List.length hx1
    simp at this
    have e : shapesT.length = 28 := rfl
    omega
  have key : ∀ k, k < 28 → cs0[k * 4]? = some (strV (shapesT.getD k noShape).1) ∧ cs0[k * 4 + 1]? = some (.int .i64 (shapesT.getD k noShape).2.1) ∧ cs0[k * 4 + 2]? = some (.int .i64 (shapesT.getD k noShape).2.2.1) ∧ cs0[k * 4 + 3]? = some (.int .i64 (shapesT.getD k noShape).2.2.2) := by
    intro k hk
    have he := hel k (by omega)
    have hxi : k < xs.length := by omega
    rw [List.getElem?_eq_getElem hxi, cellsShp] at he
    have h2 : shpD (shapesT.getD k noShape) = (xs[k]).1 := by
      have e : (shapesT.map shpD)[k]? = (xs.map (·.1))[k]? := by rw [hx1]
      have hs : k < shapesT.length := hk
      simp only [List.getElem?_map, List.getElem?_eq_getElem hs, List.getElem?_eq_getElem hxi, Option.map_some, Option.some.injEq] at e
      rw [List.getD_eq_getElem?_getD, List.getElem?_eq_getElem hs]
      exact e
    generalize shapesT.getD k noShape = s at *
    generalize xs[k] = y at *
    have hcs : ∀ j, j < 4 → cs0[k * 4 + j]? = ((cs0.toList.drop (k * 4)).take 4)[j]? := fun j hj => by
      rw [List.getElem?_take_of_lt hj, List.getElem?_drop, Array.getElem?_toList]
    generalize (cs0.toList.drop (k * 4)).take 4 = L at *
    obtain ⟨ys, n, _, hy, hl, hlen2, hf⟩ := DataW.trod_struct Tryd.underlying80 he
    rw [cellsShp] at hl
    match L, hl, ys, hlen2 with
    | [c0, c1, c2, c3], _, [y0, y1, y2, y3], _ =>
      have t0 : DataW.trod (fun _ => ()) Tryd.prog W 0 (fun _ => true) false n 9 [c0] = some y0 := by simpa [cellsStr] using hf 0 _ rfl
      have t1 : DataW.trod (fun _ => ()) Tryd.prog W 0 (fun _ => true) false n 78 [c1] = some y1 := by simpa [cellsHas] using hf 1 _ rfl
      have t2 : DataW.trod (fun _ => ()) Tryd.prog W 0 (fun _ => true) false n 3 [c2] = some y2 := by simpa [cellsInt] using hf 2 _ rfl
      have t3 : DataW.trod (fun _ => ()) Tryd.prog W 0 (fun _ => true) false n 3 [c3] = some y3 := by simpa [cellsInt] using hf 3 _ rfl
      obtain ⟨u0, a0, b0, _⟩ := DataW.trod_string Tryd.underlying9 t0
      obtain ⟨u1, a1, b1, _⟩ := DataW.trod_int Tryd.underlying78 t1
      obtain ⟨u2, a2, b2, _⟩ := DataW.trod_int Tryd.underlying3 t2
      obtain ⟨u3, a3, b3, _⟩ := DataW.trod_int Tryd.underlying3 t3
      simp only [List.cons.injEq, and_true] at a0 a1 a2 a3
      have hy1 : y.1 = .agg [y0.1, y1.1, y2.1, y3.1] := by rw [hy]; rfl
      rw [hy1, b0, b1, b2, b3] at h2
      unfold shpD at h2
      simp only [DataW.agg.injEq, List.cons.injEq, DataW.lit.injEq, and_true] at h2
      obtain ⟨m0, m1, m2, m3⟩ := h2
      injection m0 with m0
      injection m1 with _ m1
      injection m2 with _ m2
      injection m3 with _ m3
      have q0 := hcs 0 (by omega)
      have q1 := hcs 1 (by omega)
      have q2 := hcs 2 (by omega)
      have q3 := hcs 3 (by omega)
      have eu : u0 = ⟨s.1.toArray⟩ := by rw [m0]
      refine ⟨?_, ?_, ?_, ?_⟩
      · rw [Nat.add_zero] at q0; rw [q0]; show some c0 = _; rw [a0, eu]
      · rw [q1]; show some c1 = _; rw [a1, m1]
      · rw [q2]; show some c2 = _; rw [a2, m2]
      · rw [q3]; show some c3 = _; rw [a3, m3]
  have hc := fun i => World.var?_cell hg0 hv0 i
  have hlt : 0 < W.heap.size := by
    have h0 : W.cell? ⟨0, 0, none⟩ = some (strV (shapesT.getD 0 noShape).1) := by
      rw [hc]
      exact (key 0 (by omega)).1
    exact World.block_lt_of_cell? W _ h0
  exact ⟨fun k hk => by rw [hc]; exact (key k hk).1, fun k hk => by rw [hc]; exact (key k hk).2.1, fun k hk => by rw [hc]; exact (key k hk).2.2.1, fun k hk => by rw [hc]; exact (key k hk).2.2.2, hlt⟩
def vsD (s : Int × Int × Int) : DataW Unit := .agg [.lit (.int .i64 s.1), .lit (.int .i64 s.2.1), .lit (.int .i64 s.2.2)]
theorem vs_datum : (Rows.laid_squint_verify_shapes : DataW Unit) = .agg (vsT.map vsD) := by kernel_rfl
set_option maxRecDepth 100000 in
theorem vs_of_head {rest : List (String × DataW Unit)} {W : World} (h : laidMet Tryd.prog (("squint/verify.shapes", .agg (vsT.map vsD)) :: rest) W) : ∀ k, k < 28 → W.cell? ⟨1, k * 3, none⟩ = some (.int .i64 (vsT.getD k (0, 0, 0)).1) ∧ W.cell? ⟨1, k * 3 + 1, none⟩ = some (.int .i64 (vsT.getD k (0, 0, 0)).2.1) ∧ W.cell? ⟨1, k * 3 + 2, none⟩ = some (.int .i64 (vsT.getD k (0, 0, 0)).2.2) := by
  obtain ⟨ps, ⟨g0, t0, cs0, f0, p0, q0, hg0, ht0, hv0, hd0, _, e0⟩, _, _⟩ := h
  obtain rfl := Option.some.inj (gV.symm.trans hg0)
  obtain rfl := Option.some.inj (tV.symm.trans ht0)
  obtain ⟨xs, m, _, hx, _, hn, hel⟩ := DataW.trod_array Tryd.underlying107 hd0
  have hx1 : vsT.map vsD = xs.map (·.1) := by
    have := congrArg Prod.fst hx
    simpa using this
  have hlen : xs.length = 28 := by
    have := congrArg List.length hx1
    simp at this
    have e : vsT.length = 28 := rfl
    omega
  have hc := fun i => World.var?_cell hg0 hv0 i
  intro k hk
  rw [hc, hc, hc]
  have he := hel k (by omega)
  have hxi : k < xs.length := by omega
  rw [List.getElem?_eq_getElem hxi, cellsVsh] at he
  have h2 : vsD (vsT.getD k (0, 0, 0)) = (xs[k]).1 := by
    have e : (vsT.map vsD)[k]? = (xs.map (·.1))[k]? := by rw [hx1]
    have hs : k < vsT.length := hk
    simp only [List.getElem?_map, List.getElem?_eq_getElem hs, List.getElem?_eq_getElem hxi, Option.map_some, Option.some.injEq] at e
    rw [List.getD_eq_getElem?_getD, List.getElem?_eq_getElem hs]
    exact e
  generalize vsT.getD k (0, 0, 0) = s at *
  generalize xs[k] = y at *
  have hcs : ∀ j, j < 3 → cs0[k * 3 + j]? = ((cs0.toList.drop (k * 3)).take 3)[j]? := fun j hj => by
    rw [List.getElem?_take_of_lt hj, List.getElem?_drop, Array.getElem?_toList]
  generalize (cs0.toList.drop (k * 3)).take 3 = L at *
  obtain ⟨ys, n, _, hy, hl, hlen2, hf⟩ := DataW.trod_struct Tryd.underlying106 he
  rw [cellsVsh] at hl
  match L, hl, ys, hlen2 with
  | [c0, c1, c2], _, [y0, y1, y2], _ =>
    have t0 : DataW.trod (fun _ => ()) Tryd.prog W 0 (fun _ => true) false n 104 [c0] = some y0 := by simpa [cellsWant] using hf 0 _ rfl
    have t1 : DataW.trod (fun _ => ()) Tryd.prog W 0 (fun _ => true) false n 104 [c1] = some y1 := by simpa [cellsWant] using hf 1 _ rfl
    have t2 : DataW.trod (fun _ => ()) Tryd.prog W 0 (fun _ => true) false n 104 [c2] = some y2 := by simpa [cellsWant] using hf 2 _ rfl
    obtain ⟨u0, a0, b0, _⟩ := DataW.trod_int Tryd.underlying104 t0
    obtain ⟨u1, a1, b1, _⟩ := DataW.trod_int Tryd.underlying104 t1
    obtain ⟨u2, a2, b2, _⟩ := DataW.trod_int Tryd.underlying104 t2
    simp only [List.cons.injEq, and_true] at a0 a1 a2
    have hy1 : y.1 = .agg [y0.1, y1.1, y2.1] := by rw [hy]; rfl
    rw [hy1, b0, b1, b2] at h2
    unfold vsD at h2
    simp only [DataW.agg.injEq, List.cons.injEq, DataW.lit.injEq, and_true] at h2
    obtain ⟨m0, m1, m2⟩ := h2
    injection m0 with _ m0
    injection m1 with _ m1
    injection m2 with _ m2
    have q0 := hcs 0 (by omega)
    have q1 := hcs 1 (by omega)
    have q2 := hcs 2 (by omega)
    refine ⟨?_, ?_, ?_⟩
    · rw [Nat.add_zero] at q0; rw [q0]; show some c0 = _; rw [a0, m0]
    · rw [q1]; show some c1 = _; rw [a1, m1]
    · rw [q2]; show some c2 = _; rw [a2, m2]
/-- WHAT THE ROWS' LIST GIVES -/
theorem laid_of (W : World) (h : laidMetH Tryd.prog laid3 W) : VW W := by
  rw [MakeChecks.laidMetH_plain _ _ _ (by kernel_rfl)] at h
  have h0 : laidMet Tryd.prog (("math/bits.deBruijn64tab", Rows.laid_math_bits_deBruijn64tab) :: ("squint/code.shapes", Rows.laid_squint_code_shapes) :: ("squint/verify.shapes", Rows.laid_squint_verify_shapes) :: []) W := h
  have h1 := h0.tail
  have h2 := h0.tail.tail
  rw [shapes_datum] at h1
  rw [vs_datum] at h2
  have hv := vs_of_head h2
  have hp : Lib.TabIs Tryd.prog W "math/bits.deBruijn64tab" .u8 dbT := Lib.tabIs_of_head (t := 135) (e := 5) (n := 64) gDb (by kernel_rfl) (by kernel_rfl) (by kernel_rfl) (by kernel_rfl) (by kernel_rfl) h0
  have hdb : ∀ k, k < 64 → W.cell? ⟨2, k, none⟩ = some (.int .u8 (dbT.getD k 0)) := fun k hk => by
    unfold Lib.TabIs at hp
    rw [World.var?_cell gDb hp k]
    have hs : k < dbT.length := hk
    rw [List.getD_eq_getElem?_getD, List.getElem?_eq_getElem hs]
    simp [hs]
  exact ⟨shapes_of_head h1, hdb, fun k hk => (hv k hk).1, fun k hk => (hv k hk).2.1, fun k hk => (hv k hk).2.2, World.block_lt_of_cell? W _ (hdb 0 (by omega)), World.block_lt_of_cell? W _ (hv 0 (by omega)).1⟩
end Go.Proofs.YtadmpgegolmkgaaDoor
