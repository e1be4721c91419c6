import Derived.Test.YtijdcplffmdijaaDoorCDArg
import Derived.Test.YtijdcplffmdijaaDoorCDT
import Derived.SizedLaws
namespace Go.Proofs.YtijdcplffmdijaaDoor
open Go.ChangeShapes Go.WideShapes Go.ChangeAt Go.RowKit
set_option linter.unusedVariables false
set_option linter.unusedSimpArgs false

theorem cellsIns : Tryd.prog.cellsOf 28 = 4 := by kernel_rfl
theorem cellsIs : Tryd.prog.cellsOf 26 = 1 := by kernel_rfl
theorem bytesInt : Tryd.prog.bytesOf 3 = 8 := by kernel_rfl
theorem addr_plainI (b off i : Nat) : (⟨b, off, none⟩ : Addr).add i = ⟨b, off + i, none⟩ := by
  unfold Addr.add; split <;> simp_all
/-- one argument's part of what all weigh -/
theorem each_weights {H : Type} {ts : List TypeId} {ds : List (DataW H)} (h : (DataW.weightsEach Tryd.prog ts ds).all (· ≤ reachBytes) = true) {j : Nat} {t : TypeId} {d : DataW H} (ht : ts[j]? = some t) (hd : ds[j]? = some d) : ∀ n ∈ d.weights Tryd.prog t, n ≤ reachBytes := fun n hn => by
  have := List.all_eq_true.1 h n (DataW.weights_mem_each ht hd n hn)
  simpa using this
section
variable {H : Type} {enc : TypeId × Value → H} {W : World} {base : Nat} {sp : Nat → Bool} {held : Bool}
set_option maxRecDepth 100000 in
/-- NUMBERS THAT CAME IN -/
theorem list_of {fuel : Nat} {c : Value} {y : DataW H × List MemPlace} (hf : DataW.trod enc Tryd.prog W base sp held fuel 26 [c] = some y) (hw : ∀ n ∈ y.1.weights Tryd.prog 26, n ≤ reachBytes) :
    ∃ (ks : List Int) (a : Option Addr) (cap : Nat), c = .slice a ks.length cap ∧ IntsV W W.heap.size a cap ks ∧ (∀ k ∈ ks, I64 k) ∧ ks.length ≤ 17592186043904 := by
  rcases open_ints Tryd.underlying26 Tryd.underlying3 cellsInt hf with ⟨hcs, _⟩ | ⟨x, l, cp, zs, hcs, _, hl, hm, hz, hy, hcell, hwz⟩
  · simp at hcs
    subst hcs
    exact ⟨[], none, 0, rfl, intsV_nil _ _ _ _, fun k hk => by simp at hk, by simp⟩
  · simp at hcs
    subst hcs
    have hz' : l ≤ zs.length := by rw [hz]; split <;> omega
    have hlen : (zs.take l).length = l := by simp; omega
    rw [hy] at hw
    simp only [DataW.weights, Tryd.underlying26] at hw
    have hwl := hw _ List.mem_cons_self
    rw [bytesInt] at hwl
    have hr : reachBytes = 140737488351232 := rfl
    have hll : l ≤ 17592186043904 := by
      rw [hr] at hwl
      simp [lits] at hwl
      omega
    refine ⟨zs.take l, some x, cp, by rw [hlen], ⟨by omega, by omega, fun h0 => ?_⟩, fun k hk => ?_, by omega⟩
    · rw [hlen] at h0
      obtain ⟨b, off, spot⟩ := x
      have hc0 := hcell 0 (by omega)
      have hspot : spot = none := by simpa [Addr.add] using World.cell?_spot hc0
      subst hspot
      have hb := World.block_lt_of_cell? W _ hc0
      rw [addr_plainI] at hb
      refine ⟨b, off, rfl, hb, fun i hi => ?_⟩
      rw [hlen] at hi
      have hc := hcell i (by omega)
      rw [addr_plainI] at hc
      rw [hc]
      have hi' : i < zs.length := by omega
      simp [List.getD, hi']
    · exact bounds_i64 (hwz k (List.mem_of_mem_take hk))
set_option maxRecDepth 100000 in
/-- AN INSTRUCTION THAT CAME IN -/
theorem ins_of {v : Value} {ba : Nat} {d : DataW H} {p : List MemPlace} (hv : Value.okWide Tryd.prog W .any ba 28 v) (h : ∃ fuel, DataW.trod enc Tryd.prog W base sp held fuel 28 v.cells.toList = some (d, p)) (hw : ∀ n ∈ d.weights Tryd.prog 28, n ≤ reachBytes) :
    ∃ (i : CIn) (a : Option Addr) (cap : Nat), v = insV i a cap ∧ i.Wf ∧ IntsV W W.heap.size a cap i.list ∧ i.list.length ≤ 17592186043904 := by
  obtain ⟨cs, rfl, hc⟩ := okWide_struct Tryd.underlying28 hv
  obtain ⟨fuel, hf⟩ := h
  have hf : DataW.trod enc Tryd.prog W base sp held fuel 28 cs.toList = some (d, p) := by simpa [Value.cells] using hf
  obtain ⟨xs, m, hm, hy, hl, hlen, hx⟩ := DataW.trod_struct Tryd.underlying28 hf
  rw [cellsIns] at hl
  obtain ⟨L, rfl⟩ : ∃ L : List Value, cs = L.toArray := ⟨cs.toList, by simp⟩
  simp only [List.toList_toArray] at *
  match L, hl, xs, hlen with
  | [c0, c1, c2, c3], _, [y0, y1, y2, y3], _ =>
    have t0 : DataW.trod enc Tryd.prog W base sp held m 3 [c0] = some y0 := by simpa [cellsInt] using hx 0 _ rfl
    have t1 : DataW.trod enc Tryd.prog W base sp held m 3 [c1] = some y1 := by simpa [cellsInt] using hx 1 _ rfl
    have t2 : DataW.trod enc Tryd.prog W base sp held m 3 [c2] = some y2 := by simpa [cellsInt] using hx 2 _ rfl
    have t3 : DataW.trod enc Tryd.prog W base sp held m 26 [c3] = some y3 := by simpa [cellsIs, cellsInt] using hx 3 _ rfl
    injection hy with hy0 _
    have hw3 : ∀ n ∈ y3.1.weights Tryd.prog 26, n ≤ reachBytes := fun n hn => hw n (by rw [hy0]; simp only [List.map_cons, List.map_nil, DataW.weights, Tryd.underlying28, DataW.weightsEach]; simp [DataW.weightsEach, hn])
    obtain ⟨u0, e0, _, w0⟩ := DataW.trod_int Tryd.underlying3 t0
    obtain ⟨u1, e1, _, w1⟩ := DataW.trod_int Tryd.underlying3 t1
    obtain ⟨u2, e2, _, w2⟩ := DataW.trod_int Tryd.underlying3 t2
    simp only [List.cons.injEq, and_true] at e0 e1 e2
    subst e0 e1 e2
    obtain ⟨ks, a, cap, rfl, hi, hk, hlen⟩ := list_of t3 hw3
    exact ⟨⟨u0, u1, u2, ks⟩, a, cap, rfl, ⟨bounds_i64 w0, bounds_i64 w1, bounds_i64 w2, hk⟩, hi, hlen⟩
end
end Go.Proofs.YtijdcplffmdijaaDoor
