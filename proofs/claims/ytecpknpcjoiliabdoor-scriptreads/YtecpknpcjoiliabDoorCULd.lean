import Derived.Test.YtecpknpcjoiliabDoorCUR
import Derived.Test.YtecpknpcjoiliabDoorRows
import Derived.ProofKit
import Derived.LaidMore
import Derived.OpenShut
import Derived.Stop.Joined
import Derived.Stop.LaidErr
import Derived.Lib.LaidTab
import Derived.LaidHandle
import Derived.LaidLaws
namespace Go.Proofs.YtecpknpcjoiliabDoor
open Go.ChangeShapes Go.WideShapes Go.ChangeAt Go.RowKit
set_option linter.unusedVariables false
set_option linter.unusedSimpArgs false

theorem own : ownKnob Tryd.prog.godebug = none := by kernel_rfl
/-- the seven variables, as every row lists them -/
def laid7 : List (String × DataW Unit) := [("math/bits.deBruijn32tab", Rows.laid_math_bits_deBruijn32tab), ("math/bits.deBruijn64tab", Rows.laid_math_bits_deBruijn64tab), ("internal/strconv.uint64pow10", Rows.laid_internal_strconv_uint64pow10), ("errors.errorType", Rows.laid_errors_errorType), ("strconv.ErrRange", Rows.laid_strconv_ErrRange), ("strconv.ErrSyntax", Rows.laid_strconv_ErrSyntax), ("squint/script.shapes", Rows.laid_squint_script_shapes)]
theorem door_met (os : Os) (args : Array Value) : laidMetH Tryd.prog laid7 ((World.doorLaid Tryd.prog 400 os).forCall (fun _ _ => 0) ⟨#[], args, []⟩).memory :=
  laidMetH_of_parts3 (fuel := 8) (laidMet_of_run' 8 (by kernel_rfl) (by kernel_rfl)) (by kernel_rfl) (by kernel_rfl)
theorem gShapes : Tryd.prog.globalNamed "squint/script.shapes" = some 1 := by kernel_rfl
theorem gRange : Tryd.prog.globalNamed "strconv.ErrRange" = some 5 := by kernel_rfl
theorem gSyntax : Tryd.prog.globalNamed "strconv.ErrSyntax" = some 4 := by kernel_rfl
theorem gPow : Tryd.prog.globalNamed "internal/strconv.uint64pow10" = some 3 := by kernel_rfl
theorem tShapes : (Tryd.prog.globals[1]?).map (·.type) = some 122 := by kernel_rfl
theorem tRange : (Tryd.prog.globals[5]?).map (·.type) = some 43 := by kernel_rfl
theorem tSyntax : (Tryd.prog.globals[4]?).map (·.type) = some 43 := by kernel_rfl
theorem cellsShp : Tryd.prog.cellsOf 94 = 2 := by kernel_rfl
theorem cellsStr : Tryd.prog.cellsOf 9 = 1 := by kernel_rfl
theorem cellsInt : Tryd.prog.cellsOf 3 = 1 := by kernel_rfl
def shpD (s : List UInt8 × Nat) : DataW Unit := .agg [.lit (.string s.1), .lit (.int .i64 (s.2 : Nat))]
theorem shapes_datum : (Rows.laid_squint_script_shapes : DataW Unit) = .agg (shapesT.map shpD) := by kernel_rfl
set_option maxRecDepth 100000 in
theorem shapes_of_head {rest : List (String × DataW Unit)} {W : World} (h : laidMet Tryd.prog (("squint/script.shapes", .agg (shapesT.map shpD)) :: rest) W) : Shp W := by
  obtain ⟨ps, ⟨g0, t0, cs0, f0, p0, q0, hg0, ht0, hv0, hd0, _, e0⟩, _, _⟩ := h
  obtain rfl := Option.some.inj (gShapes.symm.trans hg0)
  obtain rfl := Option.some.inj (tShapes.symm.trans ht0)
  obtain ⟨xs, m, _, hx, _, hn, hel⟩ := DataW.trod_array Tryd.underlying122 hd0
  have hx1 : shapesT.map shpD = xs.map (·.1) := by
    have := congrArg Prod.fst hx
    simpa using this
  have hlen : xs.length = 4 := by
    have := congrArg List.length hx1
    simp at this
    have e : shapesT.length = 4 := rfl
    omega
  have key : ∀ k, k < 4 → cs0[k * 2]? = some (strV (shapesT.getD k noShape).1) ∧ cs0[k * 2 + 1]? = some (.int .i64 ((shapesT.getD k noShape).2 : Nat)) := by
    intro k hk
    have he := hel k (by omega)
    have hxi : k < xs.length := by omega
    rw [List.getElem?_eq_getElem hxi, cellsShp] at he
    have h2 : shpD (shapesT.getD k noShape) = (xs[k]).1 := by
      have e : (shapesT.map shpD)[k]? = (xs.map (·.1))[k]? := by rw [hx1]
      have hs : k < shapesT.length := hk
      simp only [List.getElem?_map, List.getElem?_eq_getElem hs, List.getElem?_eq_getElem hxi, Option.map_some, Option.some.injEq] at e
      rw [List.getD_eq_getElem?_getD, List.getElem?_eq_getElem hs]
      exact e
    generalize shapesT.getD k noShape = s at *
    generalize xs[k] = y at *
    have hcs : ∀ j, j < 2 → cs0[k * 2 + j]? = ((cs0.toList.drop (k * 2)).take 2)[j]? := fun j hj => by
      rw [List.getElem?_take_of_lt hj, List.getElem?_drop, Array.getElem?_toList]
    generalize (cs0.toList.drop (k * 2)).take 2 = L at *
    obtain ⟨ys, n, _, hy, hl, hlen2, hf⟩ := DataW.trod_struct Tryd.underlying94 he
    rw [cellsShp] at hl
    match L, hl, ys, hlen2 with
    | [c0, c1], _, [y0, y1], _ =>
      have t0 : DataW.trod (fun _ => ()) Tryd.prog W 0 (fun _ => true) false n 9 [c0] = some y0 := by simpa [cellsStr] using hf 0 _ rfl
      have t1 : DataW.trod (fun _ => ()) Tryd.prog W 0 (fun _ => true) false n 3 [c1] = some y1 := by simpa [cellsInt] using hf 1 _ rfl
      obtain ⟨u0, a0, b0, _⟩ := DataW.trod_string Tryd.underlying9 t0
      obtain ⟨u1, a1, b1, _⟩ := DataW.trod_int Tryd.underlying3 t1
      simp only [List.cons.injEq, and_true] at a0 a1
      have hy1 : y.1 = .agg [y0.1, y1.1] := by rw [hy]; rfl
      rw [hy1, b0, b1] at h2
      unfold shpD at h2
      simp only [DataW.agg.injEq, List.cons.injEq, DataW.lit.injEq, and_true] at h2
      obtain ⟨m0, m1⟩ := h2
      injection m0 with m0
      injection m1 with _ m1
      have q0 := hcs 0 (by omega)
      have q1 := hcs 1 (by omega)
      have eu : u0 = ⟨s.1.toArray⟩ := by rw [m0]
      refine ⟨?_, ?_⟩
      · rw [Nat.add_zero] at q0; rw [q0]; show some c0 = _; rw [a0, eu]
      · rw [q1]; show some c1 = _; rw [a1, m1]
  have hc := fun i => World.var?_cell hg0 hv0 i
  have hlt : 1 < W.heap.size := by
    have h0 : W.cell? ⟨1, 0, none⟩ = some (strV (shapesT.getD 0 noShape).1) := by
      rw [hc]
      exact (key 0 (by omega)).1
    exact World.block_lt_of_cell? W _ h0
  exact ⟨fun k hk => by rw [hc]; exact (key k hk).1, fun k hk => by rw [hc]; exact (key k hk).2, hlt⟩
theorem err_of {name nm : String} {d : DataW Unit} {rest : List (String × DataW Unit)} {W : World} {g : Nat} (hg : Tryd.prog.globalNamed name = some g) (ht : (Tryd.prog.globals[g]?).map (·.type) = some 43) (h : laidMet Tryd.prog ((name, .iface nm d) :: rest) W) : ∃ te pe, W.cell? ⟨g, 0, none⟩ = some (.iface te pe) := by
  obtain ⟨ps, ⟨g0, t0, cs0, f0, p0, q0, hg0, ht0, hv0, hd0, _, e0⟩, _, _⟩ := h
  obtain rfl := Option.some.inj (hg.symm.trans hg0)
  obtain rfl := Option.some.inj (ht.symm.trans ht0)
  have hc := World.var?_cell hg0 hv0 0
  obtain ⟨f1, u, v, hcs, _, _⟩ := iface_of_trod Tryd.underlying43 hd0
  have : cs0[0]? = some (.iface u v) := by
    have := congrArg (·[0]?) hcs
    simpa using this
  exact ⟨u, v, by rw [hc]; exact this⟩
theorem gEt : Tryd.prog.globalNamed "errors.errorType" = some 0 := by kernel_rfl
theorem rtOf : (Tryd.prog.cutTypes.find? (·.1 == "internal/reflectlite.rtype")).map (·.2) = some 99 := by kernel_rfl
theorem oneRow : ((List.range 196).filter fun t => Tryd.prog.rowNamed t [101, 114, 114, 111, 114]) = [43] := by kernel_rfl
theorem tySize : Tryd.prog.types.size = 196 := by kernel_rfl
theorem handle_of {W : World} (h : handlesMet Tryd.prog [("errors.errorType", Rows.laid_errors_errorType)] W) : W.cell? ⟨0, 0, none⟩ = some (.iface 99 (.agg #[.pointer (some ⟨8, 43, none⟩)])) := by
  obtain ⟨name, u, ty, e1, e2, e3, e4, e5⟩ := h _ (List.mem_singleton.2 rfl)
  have en : name = [101, 114, 114, 111, 114] := (Option.some.inj e1).symm
  subst en
  obtain rfl := Option.some.inj (rtOf.symm.trans e2)
  have hm : ty ∈ (List.range 196).filter fun t => Tryd.prog.rowNamed t [101, 114, 114, 111, 114] := List.mem_filter.2 ⟨List.mem_range.2 (by rw [← tySize]; exact e3), e4⟩
  rw [oneRow] at hm
  obtain rfl := List.mem_singleton.1 hm
  have hh : typeHandle Tryd.prog 43 = .pointer (some ⟨8, 43, none⟩) := by kernel_rfl
  rw [hh] at e5
  simpa using World.var?_cell gEt e5 0
theorem laid_h : laid7.filter (fun x => x.snd.handleName?.isSome) = [("errors.errorType", Rows.laid_errors_errorType)] := by kernel_rfl
theorem laid_p : laid7.filter (fun x => x.snd.handleName?.isNone) = [("math/bits.deBruijn32tab", Rows.laid_math_bits_deBruijn32tab), ("math/bits.deBruijn64tab", Rows.laid_math_bits_deBruijn64tab), ("internal/strconv.uint64pow10", Rows.laid_internal_strconv_uint64pow10), ("strconv.ErrRange", Rows.laid_strconv_ErrRange), ("strconv.ErrSyntax", Rows.laid_strconv_ErrSyntax), ("squint/script.shapes", Rows.laid_squint_script_shapes)] := by kernel_rfl
/-- WHAT THE ROWS' LIST GIVES -/
theorem laid_of (W : World) (h : laidMetH Tryd.prog laid7 W) : LW W := by
  have h' : laidMet Tryd.prog [("math/bits.deBruijn32tab", Rows.laid_math_bits_deBruijn32tab), ("math/bits.deBruijn64tab", Rows.laid_math_bits_deBruijn64tab), ("internal/strconv.uint64pow10", Rows.laid_internal_strconv_uint64pow10), ("strconv.ErrRange", Rows.laid_strconv_ErrRange), ("strconv.ErrSyntax", Rows.laid_strconv_ErrSyntax), ("squint/script.shapes", Rows.laid_squint_script_shapes)] W ∧ handlesMet Tryd.prog [("errors.errorType", Rows.laid_errors_errorType)] W := by
    unfold laidMetH at h
    rw [laid_h, laid_p] at h
    exact h
  have het := handle_of h'.2
  have h2 := h'.1.tail.tail
  have h5 := h2.tail.tail.tail
  rw [shapes_datum] at h5
  have hr := err_of gRange tRange h2.tail
  have hs := err_of gSyntax tSyntax h2.tail.tail
  have hp : Lib.TabIs Tryd.prog W "internal/strconv.uint64pow10" .u64 Lib.pow10Tab := Lib.tabIs_of_head (t := 146) (e := 126) (n := 20) gPow (by kernel_rfl) (by kernel_rfl) (by kernel_rfl) (by kernel_rfl) (by kernel_rfl) h2
  have hpl : 3 < W.heap.size := by
    obtain ⟨ps, ⟨g0, t0, cs0, f0, p0, q0, hg0, ht0, hv0, hd0, _, e0⟩, _, _⟩ := h2
    obtain rfl := Option.some.inj (gPow.symm.trans hg0)
    unfold World.var? at hv0
    simp only [hg0, Option.bind_some] at hv0
    rcases Nat.lt_or_ge 3 W.heap.size with h' | h'
    · exact h'
    · rw [Array.getElem?_eq_none h'] at hv0
      simp at hv0
  refine ⟨shapes_of_head h5, fun w' hb => ?_, hs, hr, ?_, ?_, het, World.block_lt_of_cell? W _ het⟩
  · unfold Lib.TabIs World.var? at hp ⊢
    simp only [gPow, Option.bind_some] at hp ⊢
    rw [hb.block _ hpl]
    exact hp
  · obtain ⟨te, pe, hc⟩ := hs
    exact World.block_lt_of_cell? W _ hc
  · obtain ⟨te, pe, hc⟩ := hr
    exact World.block_lt_of_cell? W _ hc
end Go.Proofs.YtecpknpcjoiliabDoor
