import Derived.Test.YtblhklbpcalglaaGreatDoorCTName2
import Derived.Test.YtblhklbpcalglaaGreatDoorRows
import Derived.ProofKit
import Derived.LaidMore
import Derived.OpenShut
import Derived.Stop.Joined
import Derived.Stop.LaidErr
import Derived.Lib.LaidTab
import Derived.Below
import Derived.Lib.SmallJoins
import Derived.Deep.Slices
namespace Go.Proofs.YtblhklbpcalglaaGreatDoor
open Go.ChangeShapes Go.WideShapes Go.ChangeAt Go.RowKit
set_option linter.unusedVariables false
set_option linter.unusedSimpArgs false
theorem own : ownKnob Tryz.prog.godebug = none := by kernel_rfl
def laid7 : List (String × DataW Unit) := [("math/bits.deBruijn32tab", Rows.laid_math_bits_deBruijn32tab), ("math/bits.deBruijn64tab", Rows.laid_math_bits_deBruijn64tab), ("internal/strconv.uint64pow10", Rows.laid_internal_strconv_uint64pow10), ("strconv.ErrRange", Rows.laid_strconv_ErrRange), ("strconv.ErrSyntax", Rows.laid_strconv_ErrSyntax), ("squint/scan.words", Rows.laid_squint_scan_words), ("squint/scan.signs", Rows.laid_squint_scan_signs)]
theorem door_met (os : Os) (args : Array Value) : laidMetH Tryz.prog laid7 ((World.doorLaid Tryz.prog 400 os).forCall (fun _ _ => 0) ⟨#[], args, []⟩).memory :=
  laidMetH_of_parts3 (fuel := 8) (laidMet_of_run' 8 (by kernel_rfl) (by kernel_rfl)) (by kernel_rfl) (by kernel_rfl)
theorem gWords : Tryz.prog.globalNamed "squint/scan.words" = some 1 := by kernel_rfl
theorem gSigns : Tryz.prog.globalNamed "squint/scan.signs" = some 0 := by kernel_rfl
theorem gRange : Tryz.prog.globalNamed "strconv.ErrRange" = some 3 := by kernel_rfl
theorem tWords : (Tryz.prog.globals[1]?).map (·.type) = some 62 := by kernel_rfl
theorem tSigns : (Tryz.prog.globals[0]?).map (·.type) = some 59 := by kernel_rfl
theorem tRange : (Tryz.prog.globals[3]?).map (·.type) = some 56 := by kernel_rfl
theorem cells9 : Tryz.prog.cellsOf 9 = 1 := by kernel_rfl
theorem texts_of_head {name : String} {T : List (List UInt8)} {rest : List (String × DataW Unit)} {W : World} {g n : Nat} {t : TypeId} (hg : Tryz.prog.globalNamed name = some g) (hty : (Tryz.prog.globals[g]?).map (·.type) = some t)
    (ht : Tryz.prog.underlying t = some (.array n 9)) (h : laidMet Tryz.prog ((name, .agg (T.map fun l => .lit (.string l))) :: rest) W) : TabAt W g T := by
  obtain ⟨ps, ⟨g0, t0, cs0, f0, p0, q0, hg0, ht0, hv0, hd0, _, e0⟩, _, _⟩ := h
  obtain rfl := Option.some.inj (hg.symm.trans hg0)
  obtain rfl := Option.some.inj (hty.symm.trans ht0)
  obtain ⟨xs, m, _, hx, _, hn, hel⟩ := DataW.trod_array ht hd0
  have hx1 : (T.map fun l => (DataW.lit (.string l) : DataW Unit)) = xs.map (·.1) := by
    have := congrArg Prod.fst hx
    simpa using this
  have hlen : T.length = n := by
    have := congrArg List.length hx1
    simp at this
    omega
  intro i hi
  have hc := World.var?_cell hg0 hv0 i
  rw [hc]
  have he := hel i (by omega)
  have hxi : i < xs.length := by omega
  rw [List.getElem?_eq_getElem hxi] at he
  obtain ⟨s, e1, e2, _⟩ := DataW.trod_string Tryz.underlying9 he
  rw [cells9, Nat.mul_one] at e1
  have h2 : (T.map fun l => (DataW.lit (.string l) : DataW Unit))[i]? = some (xs[i]).1 := by rw [hx1]; simp [hxi]
  rw [e2] at h2
  have hs : T.getD i [] = s.data.toList := by
    simp [List.getElem?_map, hi] at h2
    simp [List.getD, hi, h2]
  have h3 : cs0.toList[i]? = some (.string s) := by
    have := congrArg (·[0]?) e1
    simpa [List.getElem?_take, List.getElem?_drop] using this
  rw [hs]
  simpa using h3
theorem laid_of (W : World) (h : laidMetH Tryz.prog laid7 W) : Laid W := by
  rw [MakeChecks.laidMetH_plain _ _ _ (by kernel_rfl)] at h
  have h3 : laidMet Tryz.prog (("strconv.ErrRange", Rows.laid_strconv_ErrRange) :: ("strconv.ErrSyntax", Rows.laid_strconv_ErrSyntax) :: ("squint/scan.words", Rows.laid_squint_scan_words) :: ("squint/scan.signs", Rows.laid_squint_scan_signs) :: []) W := h.tail.tail.tail
  have hw := h3.tail.tail
  have hs := hw.tail
  have hr : ∃ te pe, W.cell? ⟨3, 0, none⟩ = some (.iface te pe) := by
    obtain ⟨ps, ⟨g0, t0, cs0, f0, p0, q0, hg0, ht0, hv0, hd0, _, e0⟩, _, _⟩ := h3
    obtain rfl := Option.some.inj (gRange.symm.trans hg0)
    obtain rfl := Option.some.inj (tRange.symm.trans ht0)
    have hc := World.var?_cell hg0 hv0 0
    obtain ⟨f1, u, v, hcs, _, _⟩ := iface_of_trod Tryz.underlying56 hd0
    have : cs0[0]? = some (.iface u v) := by
      have := congrArg (·[0]?) hcs
      simpa using this
    exact ⟨u, v, by rw [hc]; exact this⟩
  refine ⟨texts_of_head gWords tWords Tryz.underlying62 hw, texts_of_head gSigns tSigns Tryz.underlying59 hs, hr, ?_⟩
  obtain ⟨te, pe, hc⟩ := hr
  exact World.block_lt_of_cell? W _ hc
end Go.Proofs.YtblhklbpcalglaaGreatDoor
namespace Go.Proofs.YtblhklbpcalglaaGreatDoor
open Go.ChangeShapes Go.WideShapes Go.ChangeAt Go.RowKit
set_option linter.unusedVariables false
set_option linter.unusedSimpArgs false
theorem cellsN : Tryz.prog.cellsOf 38 = 5 := by kernel_rfl
theorem cellsI : Tryz.prog.cellsOf 3 = 1 := by kernel_rfl
theorem cellsK : Tryz.prog.cellsOf 36 = 1 := by kernel_rfl
section
variable {H : Type} {enc : TypeId × Value → H} {W : World} {base : Nat} {sp : Nat → Bool} {held : Bool}
theorem kids_of {fuel : Nat} {c : Value} {y : DataW H × List MemPlace} (h : DataW.trod enc Tryz.prog W base sp held fuel 36 [c] = some y) :
    ∃ ka kc ks, c = .slice ka (List.length (α := Int) ks) kc ∧ IntsV W W.heap.size (.slice ka ks.length kc) ks ∧ ∀ k ∈ ks, I64 k := by
  rcases open_ints Tryz.underlying36 Tryz.underlying3 cellsI h with ⟨hcs, _⟩ | ⟨x, l, cp, zs, hcs, _, hl, hm, hz, _, hcell, hwz⟩
  · simp at hcs
    subst hcs
    exact ⟨none, 0, [], rfl, ⟨_, _, rfl, by simp, by simp [maxLen], fun h => by simp at h⟩, fun k hk => by cases hk⟩
  · simp at hcs
    subst hcs
    have hz' : l ≤ zs.length := by rw [hz]; split <;> omega
    have hlen : (zs.take l).length = l := by simp; omega
    refine ⟨some x, cp, zs.take l, by rw [hlen], ⟨_, _, by rw [hlen], by omega, by omega, fun h0 => ?_⟩, fun k hk => ?_⟩
    · rw [hlen] at h0
      obtain ⟨b, off, spot⟩ := x
      have hc0 := hcell 0 (by omega)
      have hspot : spot = none := by simpa [Addr.add] using World.cell?_spot hc0
      subst hspot
      refine ⟨b, off, rfl, ?_, fun i hi => ?_⟩
      · have := World.block_lt_of_cell? W _ hc0
        simpa [Addr.add] using this
      · rw [hlen] at hi
        have hc := hcell i (by omega)
        have e : (⟨b, off, none⟩ : Addr).add i = ⟨b, off + i, none⟩ := by
          unfold Addr.add; split <;> simp_all
        rw [e] at hc
        rw [hc]
        have hi' : i < zs.length := by omega
        simp [List.getD, hi']
    · exact bounds_i64 (hwz k (List.mem_of_mem_take hk))
set_option maxRecDepth 100000 in
theorem nodeC_of {fuel : Nat} {cs : List Value} {y : DataW H × List MemPlace} (h : DataW.trod enc Tryz.prog W base sp held fuel 38 cs = some y) :
    ∃ n ka kc, cs = [.int .i64 n.kind, .int .i64 n.pos, .slice ka n.kids.length kc, .string n.name, .int .i64 n.num] ∧ IntsV W W.heap.size (.slice ka n.kids.length kc) n.kids ∧ NdWf n := by
  obtain ⟨xs, m, _, _, hl, hlen, hx⟩ := DataW.trod_struct Tryz.underlying38 h
  rw [cellsN] at hl
  match cs, hl, xs, hlen with
  | [c0, c1, c2, c3, c4], _, [y0, y1, y2, y3, y4], _ =>
    have t0 : DataW.trod enc Tryz.prog W base sp held m 3 [c0] = some y0 := by simpa [cellsI] using hx 0 _ rfl
    have t1 : DataW.trod enc Tryz.prog W base sp held m 3 [c1] = some y1 := by simpa [cellsI] using hx 1 _ rfl
    have t2 : DataW.trod enc Tryz.prog W base sp held m 36 [c2] = some y2 := by simpa [cellsK] using hx 2 _ rfl
    have t3 : DataW.trod enc Tryz.prog W base sp held m 9 [c3] = some y3 := by simpa [cells9] using hx 3 _ rfl
    have t4 : DataW.trod enc Tryz.prog W base sp held m 3 [c4] = some y4 := by simpa [cellsI] using hx 4 _ rfl
    obtain ⟨k, e0, _, w0⟩ := DataW.trod_int Tryz.underlying3 t0
    obtain ⟨pp, e1, _, w1⟩ := DataW.trod_int Tryz.underlying3 t1
    obtain ⟨ka, kc, ks, e2, hk, wk⟩ := kids_of t2
    obtain ⟨nm, e3, _, w3⟩ := DataW.trod_string Tryz.underlying9 t3
    obtain ⟨num, e4, _, w4⟩ := DataW.trod_int Tryz.underlying3 t4
    simp only [List.cons.injEq, and_true] at e0 e1 e3 e4
    subst e0 e1 e2 e3 e4
    exact ⟨⟨k, pp, ks, nm, num⟩, ka, kc, rfl, hk, ⟨bounds_i64 w0, bounds_i64 w1, bounds_i64 w4, w3, wk⟩⟩
theorem addr_plain (b off i : Nat) : (⟨b, off, none⟩ : Addr).add i = ⟨b, off + i, none⟩ := by
  unfold Addr.add; split <;> simp_all
theorem nodes_of {a : Option Addr} {len cap : Nat} {d : DataW H} {p : List MemPlace} (h : ∃ fuel, DataW.trod enc Tryz.prog W base sp held fuel 24 (Value.slice a len cap).cells.toList = some (d, p)) :
    ∃ l : List Nd, l.length = len ∧ IsNodes W W.heap.size a cap l := by
  obtain ⟨fuel, hf⟩ := h
  have hf : DataW.trod enc Tryz.prog W base sp held fuel 24 [.slice a len cap] = some (d, p) := by simpa [Value.cells] using hf
  rcases Go.Deep.open_slice Tryz.underlying24 hf with ⟨hcs, _⟩ | ⟨x, l0, c0, m, n, D, Pl, hcs, hb, hl, hm, hmm, _, hx⟩
  · simp at hcs
    obtain ⟨rfl, rfl, rfl⟩ := hcs
    exact ⟨[], rfl, ⟨fun h => by simp at h, Nat.le_refl _⟩⟩
  · simp at hcs
    obtain ⟨rfl, rfl, rfl⟩ := hcs
    have hlm : len ≤ m := by rw [hmm]; split <;> omega
    rw [cellsN] at hx
    have hnd : ∀ i, i < len → ∃ nd : Nd, ∃ ka kc, (∀ j, j < 5 → W.cell? ((x.add (i * 5)).add j) = [Value.int .i64 nd.kind, .int .i64 nd.pos, .slice ka nd.kids.length kc, .string nd.name, .int .i64 nd.num][j]?) ∧ IntsV W W.heap.size (.slice ka nd.kids.length kc) nd.kids ∧ NdWf nd := fun i hi => by
      obtain ⟨cs', h1, h2⟩ := hx i (by omega)
      obtain ⟨nd, ka, kc, rfl, h3, h4⟩ := nodeC_of h2
      obtain ⟨_, _, h5⟩ := World.cells?_some h1
      exact ⟨nd, ka, kc, h5, h3, h4⟩
    let f : Nat → Nd := fun i => if h : i < len then (hnd i h).choose else nd0
    have hfl : ((List.range len).map f).length = len := by simp
    have hfi : ∀ i, i < len → ndN ((List.range len).map f) i = f i := fun i hi => by simp [ndN, List.getD, hi]
    refine ⟨(List.range len).map f, hfl, ⟨fun h0 => ?_, Nat.le_refl _⟩⟩
    rw [hfl] at h0
    obtain ⟨b, off, spot⟩ := x
    obtain ⟨ka0, kc0, hc0, _⟩ := (hnd 0 h0).choose_spec
    have hcell0 := hc0 0 (by omega)
    have hspot : spot = none := by
      have := World.cell?_spot hcell0
      simpa [Addr.add] using this
    subst hspot
    have hblk : b < W.heap.size := by
      have := World.block_lt_of_cell? W _ hcell0
      simpa [Addr.add] using this
    refine ⟨b, off, rfl, ⟨fun j hj => ?_, fun j hj => ?_, hblk, Nat.le_refl _, by rw [hfl]; omega, by rw [hfl]; omega⟩⟩
    · rw [hfl] at hj
      rw [hfi j hj]
      have hfj : f j = (hnd j hj).choose := by simp [f, hj]
      rw [hfj]
      have hsp := (hnd j hj).choose_spec
      generalize (hnd j hj).choose = nd at hsp ⊢
      obtain ⟨ka, kc, hc, hk, hw⟩ := hsp
      simp only [addr_plain] at hc
      refine ⟨ka, kc, ⟨hc 0 (by omega), hc 1 (by omega), hc 2 (by omega), hc 3 (by omega), hc 4 (by omega), hk⟩⟩
    · rw [hfl] at hj
      rw [hfi j hj]
      have hfj : f j = (hnd j hj).choose := by simp [f, hj]
      rw [hfj]
      obtain ⟨ka, kc, hc, hk, hw⟩ := (hnd j hj).choose_spec
      exact hw
set_option maxRecDepth 100000 in
theorem int_of {v : Value} {ba : Nat} {d : DataW H} {p : List MemPlace} (hv : Value.okWide Tryz.prog W .any ba 3 v) (h : ∃ fuel, DataW.trod enc Tryz.prog W base sp held fuel 3 v.cells.toList = some (d, p)) :
    ∃ n : Int, v = .int .i64 n ∧ I64 n := by
  obtain ⟨n, rfl⟩ := okWide_int Tryz.underlying3 hv
  obtain ⟨fuel, hf⟩ := h
  obtain ⟨k, e, _, w0⟩ := DataW.trod_int Tryz.underlying3 (show DataW.trod enc Tryz.prog W base sp held fuel 3 [.int .i64 n] = some (d, p) by simpa [Value.cells] using hf)
  simp only [List.cons.injEq, and_true, Value.int.injEq, true_and] at e
  subst e
  exact ⟨n, rfl, bounds_i64 w0⟩
end
end Go.Proofs.YtblhklbpcalglaaGreatDoor
namespace Go.Proofs.YtblhklbpcalglaaGreatDoor
open Go.ChangeShapes Go.WideShapes Go.ChangeAt Go.RowKit
set_option linter.unusedVariables false
set_option linter.unusedSimpArgs false
theorem cells5 : Tryz.prog.cellsOf 5 = 1 := by kernel_rfl
theorem src_of {H : Type} {enc : TypeId × Value → H} {W : World} {base : Nat} {a : Option Addr} {len cap : Nat} {d : DataW H} {p : List MemPlace} {sp : Nat → Bool} {held : Bool}
    (h : ∃ fuel, DataW.trod enc Tryz.prog W base sp held fuel 22 (Value.slice a len cap).cells.toList = some (d, p)) : ∃ xs : List UInt8, xs.length = len ∧ IsSrc W a cap xs := by
  obtain ⟨fuel, hf⟩ := h
  rcases open_ints Tryz.underlying22 Tryz.underlying5 cells5 hf with ⟨hcs, _⟩ | ⟨x, l, c, zs, hcs, _, hl, hm, hz, _, hcell, hwz⟩
  · simp [Value.cells] at hcs
    obtain ⟨rfl, rfl, rfl⟩ := hcs
    exact ⟨[], rfl, fun h => absurd h (by simp), Nat.le_refl _, Nat.zero_le _⟩
  · simp [Value.cells] at hcs
    obtain ⟨rfl, rfl, rfl⟩ := hcs
    have hz' : len ≤ zs.length := by rw [hz]; split <;> omega
    refine ⟨(zs.take len).map fun z => UInt8.ofNat z.toNat, by simp; omega, ?_, by simp; omega, by simp; omega⟩
    intro h0
    simp at h0
    obtain ⟨b, off, spot⟩ := x
    have hc0 := hcell 0 (by omega)
    have hspot : spot = none := by simpa [Addr.add] using World.cell?_spot hc0
    subst hspot
    refine ⟨b, off, rfl, ?_, ?_⟩
    · have := World.block_lt_of_cell? W _ hc0
      simpa [Addr.add] using this
    · intro i hi
      simp at hi
      have hi' : i < zs.length := by omega
      have hc := hcell i (by omega)
      have e : (⟨b, off, none⟩ : Addr).add i = ⟨b, off + i, none⟩ := by
        unfold Addr.add; split <;> simp_all
      rw [e] at hc
      rw [hc]
      have hw := hwz zs[i] (List.getElem_mem hi')
      obtain ⟨w0, w1⟩ := bounds_u8 hw
      simp [List.getD, hi']
      omega
theorem g64 : Tryz.prog.globalNamed "math/bits.deBruijn64tab" = some 6 := by kernel_rfl
theorem size7_of (W : World) (h : laidMetH Tryz.prog laid7 W) : 7 ≤ W.heap.size := by
  rw [MakeChecks.laidMetH_plain _ _ _ (by kernel_rfl)] at h
  obtain ⟨ps, ⟨g0, t0, cs0, f0, p0, q0, hg0, ht0, hv0, hd0, _, e0⟩, _, _⟩ := h.tail
  obtain rfl := Option.some.inj (g64.symm.trans hg0)
  simp only [World.var?, hg0, Option.bind_some] at hv0
  have : 6 < W.heap.size := by
    by_cases hh : 6 < W.heap.size
    · exact hh
    · rw [Array.getElem?_eq_none (by omega)] at hv0
      simp at hv0
  omega
end Go.Proofs.YtblhklbpcalglaaGreatDoor
