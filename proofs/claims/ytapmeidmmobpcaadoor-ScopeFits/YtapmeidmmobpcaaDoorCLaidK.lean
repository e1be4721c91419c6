import Derived.Test.YtapmeidmmobpcaaDoorCTChk
import Derived.Test.YtapmeidmmobpcaaDoorRows
import Derived.ProofKit
import Derived.LaidMore
import Derived.OpenShut
import Derived.Stop.Joined
import Derived.Stop.LaidErr
import Derived.Lib.LaidTab
namespace Go.Proofs.YtapmeidmmobpcaaDoor
open Go.ChangeShapes Go.WideShapes Go.ChangeAt Go.RowKit
set_option linter.unusedVariables false
set_option linter.unusedSimpArgs false

theorem own : ownKnob Tryd.prog.godebug = none := by kernel_rfl

/-- the seven variables, as every row lists them -/
def laid7 : List (String × DataW Unit) := [("math/bits.deBruijn32tab", Rows.laid_math_bits_deBruijn32tab), ("math/bits.deBruijn64tab", Rows.laid_math_bits_deBruijn64tab), ("internal/strconv.uint64pow10", Rows.laid_internal_strconv_uint64pow10), ("strconv.ErrRange", Rows.laid_strconv_ErrRange), ("strconv.ErrSyntax", Rows.laid_strconv_ErrSyntax), ("squint/scan.words", Rows.laid_squint_scan_words), ("squint/scan.signs", Rows.laid_squint_scan_signs)]

/-- the heap that the variables' own initialisers leave meets the list -/
theorem door_met (os : Os) (args : Array Value) : laidMetH Tryd.prog laid7 ((World.doorLaid Tryd.prog 400 os).forCall (fun _ _ => 0) ⟨#[], args, []⟩).memory :=
  laidMetH_of_parts3 (fuel := 8) (laidMet_of_run' 8 (by kernel_rfl) (by kernel_rfl)) (by kernel_rfl) (by kernel_rfl)

theorem gWords : Tryd.prog.globalNamed "squint/scan.words" = some 1 := by kernel_rfl
theorem gSigns : Tryd.prog.globalNamed "squint/scan.signs" = some 0 := by kernel_rfl
theorem gRange : Tryd.prog.globalNamed "strconv.ErrRange" = some 3 := by kernel_rfl
theorem tWords : (Tryd.prog.globals[1]?).map (·.type) = some 101 := by kernel_rfl
theorem tSigns : (Tryd.prog.globals[0]?).map (·.type) = some 99 := by kernel_rfl
theorem tRange : (Tryd.prog.globals[3]?).map (·.type) = some 96 := by kernel_rfl
theorem cells9 : Tryd.prog.cellsOf 9 = 1 := by kernel_rfl

/-- a listed table of texts holds them, cell for cell -/
theorem texts_of_head {name : String} {T : List (List UInt8)} {rest : List (String × DataW Unit)} {W : World} {g n : Nat} {t : TypeId} (hg : Tryd.prog.globalNamed name = some g) (hty : (Tryd.prog.globals[g]?).map (·.type) = some t)
    (ht : Tryd.prog.underlying t = some (.array n 9)) (h : laidMet Tryd.prog ((name, .agg (T.map fun l => .lit (.string l))) :: rest) W) : TabAt W g T := by
  obtain ⟨ps, ⟨g0, t0, cs0, f0, p0, q0, hg0, ht0, hv0, hd0, _, e0⟩, _, _⟩ := h
  obtain rfl := Option.some.inj (hg.symm.trans hg0)
  obtain rfl := Option.some.inj (hty.symm.trans ht0)
  obtain ⟨xs, m, _, hx, _, hn, hel⟩ := DataW.trod_array ht hd0
  have hx1 : (T.map fun l => (DataW.lit (.string l) : DataW Unit)) = xs.map (·.1) := by
    have := congrArg Prod.fst hx
    simpa using this
  have hlen : T.length = n := by
    have := congrArg List.length hx1
    simp at this
    omega
  intro i hi
  have hc := World.var?_cell hg0 hv0 i
  rw [hc]
  have he := hel i (by omega)
  have hxi : i < xs.length := by omega
  rw [List.getElem?_eq_getElem hxi] at he
  obtain ⟨s, e1, e2, _⟩ := DataW.trod_string Tryd.underlying9 he
  rw [cells9, Nat.mul_one] at e1
  have h2 : (T.map fun l => (DataW.lit (.string l) : DataW Unit))[i]? = some (xs[i]).1 := by rw [hx1]; simp [hxi]
  rw [e2] at h2
  have hs : T.getD i [] = s.data.toList := by
    simp [List.getElem?_map, hi] at h2
    simp [List.getD, hi, h2]
  have h3 : cs0.toList[i]? = some (.string s) := by
    have := congrArg (·[0]?) e1
    simpa [List.getElem?_take, List.getElem?_drop] using this
  rw [hs]
  simpa using h3

/-- WHAT THE ROWS' LIST GIVES -/
theorem laid_of (W : World) (h : laidMetH Tryd.prog laid7 W) : Laid W := by
  rw [MakeChecks.laidMetH_plain _ _ _ (by kernel_rfl)] at h
  have h3 : laidMet Tryd.prog (("strconv.ErrRange", Rows.laid_strconv_ErrRange) :: ("strconv.ErrSyntax", Rows.laid_strconv_ErrSyntax) :: ("squint/scan.words", Rows.laid_squint_scan_words) :: ("squint/scan.signs", Rows.laid_squint_scan_signs) :: []) W := h.tail.tail.tail
  have hw := h3.tail.tail
  have hs := hw.tail
  have hr : ∃ te pe, W.cell? ⟨3, 0, none⟩ = some (.iface te pe) := by
    obtain ⟨ps, ⟨g0, t0, cs0, f0, p0, q0, hg0, ht0, hv0, hd0, _, e0⟩, _, _⟩ := h3
    obtain rfl := Option.some.inj (gRange.symm.trans hg0)
    obtain rfl := Option.some.inj (tRange.symm.trans ht0)
    have hc := World.var?_cell hg0 hv0 0
    obtain ⟨f1, u, v, hcs, _, _⟩ := iface_of_trod Tryd.underlying96 hd0
    have : cs0[0]? = some (.iface u v) := by
      have := congrArg (·[0]?) hcs
      simpa using this
    exact ⟨u, v, by rw [hc]; exact this⟩
  refine ⟨texts_of_head gWords tWords Tryd.underlying101 hw, texts_of_head gSigns tSigns Tryd.underlying99 hs, hr, ?_⟩
  obtain ⟨te, pe, hc⟩ := hr
  exact World.block_lt_of_cell? W _ hc
end Go.Proofs.YtapmeidmmobpcaaDoor
