import Derived.Test.YtfocggaocadkmaaDoorCLaid
import Derived.Test.YtfocggaocadkmaaDoorCTMem
import Derived.Below
import Derived.Lib.SmallJoins
import Derived.Deep.Slices
import Derived.Test.YtfocggaocadkmaaDoorCTChkW
namespace Go.Proofs.YtfocggaocadkmaaDoor
open Go.ChangeShapes Go.WideShapes Go.ChangeAt Go.RowKit
set_option linter.unusedVariables false
set_option linter.unusedSimpArgs false

theorem cellsN : Tryd.prog.cellsOf 24 = 5 := by kernel_rfl
theorem cellsI : Tryd.prog.cellsOf 3 = 1 := by kernel_rfl
theorem cellsK : Tryd.prog.cellsOf 22 = 1 := by kernel_rfl

section
variable {H : Type} {enc : TypeId × Value → H} {W : World} {base : Nat} {sp : Nat → Bool} {held : Bool}

/-- a node's kids that came in -/
theorem kids_of {fuel : Nat} {c : Value} {y : DataW H × List MemPlace} (h : DataW.trod enc Tryd.prog W base sp held fuel 22 [c] = some y) :
    ∃ ka kc ks, c = .slice ka (List.length (α := Int) ks) kc ∧ IntsV W W.heap.size (.slice ka ks.length kc) ks ∧ ∀ k ∈ ks, I64 k := by
  rcases open_ints Tryd.underlying22 Tryd.underlying3 cellsI h with ⟨hcs, _⟩ | ⟨x, l, cp, zs, hcs, _, hl, hm, hz, _, hcell, hwz⟩
  · simp at hcs
    subst hcs
    exact ⟨none, 0, [], rfl, ⟨_, _, rfl, by simp, by simp [maxLen], fun h => by simp at h⟩, fun k hk => by cases hk⟩
  · simp at hcs
    subst hcs
    have hz' : l ≤ zs.length := by rw [hz]; split <;> omega
    have hlen : (zs.take l).length = l := by simp; omega
    refine ⟨some x, cp, zs.take l, by rw [hlen], ⟨_, _, by rw [hlen], by omega, by omega, fun h0 => ?_⟩, fun k hk => ?_⟩
    · rw [hlen] at h0
      obtain ⟨b, off, spot⟩ := x
      have hc0 := hcell 0 (by omega)
      have hspot : spot = none := by simpa [Addr.add] using World.cell?_spot hc0
      subst hspot
      refine ⟨b, off, rfl, ?_, fun i hi => ?_⟩
      · have := World.block_lt_of_cell? W _ hc0
        simpa [Addr.add] using this
      · rw [hlen] at hi
        have hc := hcell i (by omega)
        have e : (⟨b, off, none⟩ : Addr).add i = ⟨b, off + i, none⟩ := by
          unfold Addr.add; split <;> simp_all
        rw [e] at hc
        rw [hc]
        have hi' : i < zs.length := by omega
        simp [List.getD, hi']
    · exact bounds_i64 (hwz k (List.mem_of_mem_take hk))

set_option maxRecDepth 100000 in
/-- a node's cells that came in -/
theorem nodeC_of {fuel : Nat} {cs : List Value} {y : DataW H × List MemPlace} (h : DataW.trod enc Tryd.prog W base sp held fuel 24 cs = some y) :
    ∃ n ka kc, cs = [.int .i64 n.kind, .int .i64 n.pos, .slice ka n.kids.length kc, .string n.name, .int .i64 n.num] ∧ IntsV W W.heap.size (.slice ka n.kids.length kc) n.kids ∧ NdWf n := by
  obtain ⟨xs, m, _, _, hl, hlen, hx⟩ := DataW.trod_struct Tryd.underlying24 h
  rw [cellsN] at hl
  match cs, hl, xs, hlen with
  | [c0, c1, c2, c3, c4], _, [y0, y1, y2, y3, y4], _ =>
    have t0 : DataW.trod enc Tryd.prog W base sp held m 3 [c0] = some y0 := by simpa [cellsI] using hx 0 _ rfl
    have t1 : DataW.trod enc Tryd.prog W base sp held m 3 [c1] = some y1 := by simpa [cellsI] using hx 1 _ rfl
    have t2 : DataW.trod enc Tryd.prog W base sp held m 22 [c2] = some y2 := by simpa [cellsK] using hx 2 _ rfl
    have t3 : DataW.trod enc Tryd.prog W base sp held m 9 [c3] = some y3 := by simpa [cells9] using hx 3 _ rfl
    have t4 : DataW.trod enc Tryd.prog W base sp held m 3 [c4] = some y4 := by simpa [cellsI] using hx 4 _ rfl
    obtain ⟨k, e0, _, w0⟩ := DataW.trod_int Tryd.underlying3 t0
    obtain ⟨pp, e1, _, w1⟩ := DataW.trod_int Tryd.underlying3 t1
    obtain ⟨ka, kc, ks, e2, hk, wk⟩ := kids_of t2
    obtain ⟨nm, e3, _, w3⟩ := DataW.trod_string Tryd.underlying9 t3
    obtain ⟨num, e4, _, w4⟩ := DataW.trod_int Tryd.underlying3 t4
    simp only [List.cons.injEq, and_true] at e0 e1 e3 e4
    subst e0 e1 e2 e3 e4
    exact ⟨⟨k, pp, ks, nm, num⟩, ka, kc, rfl, hk, ⟨bounds_i64 w0, bounds_i64 w1, bounds_i64 w4, w3, wk⟩⟩

theorem addr_plain (b off i : Nat) : (⟨b, off, none⟩ : Addr).add i = ⟨b, off + i, none⟩ := by
  unfold Addr.add; split <;> simp_all
/-- NODES THAT CAME IN -/
theorem nodes_of {a : Option Addr} {len cap : Nat} {d : DataW H} {p : List MemPlace} (h : ∃ fuel, DataW.trod enc Tryd.prog W base sp held fuel 28 (Value.slice a len cap).cells.toList = some (d, p)) :
    ∃ l : List Nd, l.length = len ∧ IsNodes W W.heap.size a cap l := by
  obtain ⟨fuel, hf⟩ := h
  have hf : DataW.trod enc Tryd.prog W base sp held fuel 28 [.slice a len cap] = some (d, p) := by simpa [Value.cells] using hf
  rcases Go.Deep.open_slice Tryd.underlying28 hf with ⟨hcs, _⟩ | ⟨x, l0, c0, m, n, D, Pl, hcs, hb, hl, hm, hmm, _, hx⟩
  · simp at hcs
    obtain ⟨rfl, rfl, rfl⟩ := hcs
    exact ⟨[], rfl, ⟨fun h => by simp at h, Nat.le_refl _⟩⟩
  · simp at hcs
    obtain ⟨rfl, rfl, rfl⟩ := hcs
    have hlm : len ≤ m := by rw [hmm]; split <;> omega
    rw [cellsN] at hx
    have hnd : ∀ i, i < len → ∃ nd : Nd, ∃ ka kc, (∀ j, j < 5 → W.cell? ((x.add (i * 5)).add j) = [Value.int .i64 nd.kind, .int .i64 nd.pos, .slice ka nd.kids.length kc, .string nd.name, .int .i64 nd.num][j]?) ∧ IntsV W W.heap.size (.slice ka nd.kids.length kc) nd.kids ∧ NdWf nd := fun i hi => by
      obtain ⟨cs', h1, h2⟩ := hx i (by omega)
      obtain ⟨nd, ka, kc, rfl, h3, h4⟩ := nodeC_of h2
      obtain ⟨_, _, h5⟩ := World.cells?_some h1
      exact ⟨nd, ka, kc, h5, h3, h4⟩
    let f : Nat → Nd := fun i => if h : i < len then (hnd i h).choose else nd0
    have hfl : ((List.range len).map f).length = len := by simp
    have hfi : ∀ i, i < len → ndN ((List.range len).map f) i = f i := fun i hi => by simp [ndN, List.getD, hi]
    refine ⟨(List.range len).map f, hfl, ⟨fun h0 => ?_, Nat.le_refl _⟩⟩
    rw [hfl] at h0
    obtain ⟨b, off, spot⟩ := x
    obtain ⟨ka0, kc0, hc0, _⟩ := (hnd 0 h0).choose_spec
    have hcell0 := hc0 0 (by omega)
    have hspot : spot = none := by
      have := World.cell?_spot hcell0
      simpa [Addr.add] using this
    subst hspot
    have hblk : b < W.heap.size := by
      have := World.block_lt_of_cell? W _ hcell0
      simpa [Addr.add] using this
    refine ⟨b, off, rfl, ⟨fun j hj => ?_, fun j hj => ?_, hblk, Nat.le_refl _, by rw [hfl]; omega, by rw [hfl]; omega⟩⟩
    · rw [hfl] at hj
      rw [hfi j hj]
      have hfj : f j = (hnd j hj).choose := by simp [f, hj]
      rw [hfj]
      have hsp := (hnd j hj).choose_spec
      generalize (hnd j hj).choose = nd at hsp ⊢
      obtain ⟨ka, kc, hc, hk, hw⟩ := hsp
      simp only [addr_plain] at hc
      refine ⟨ka, kc, ⟨hc 0 (by omega), hc 1 (by omega), hc 2 (by omega), hc 3 (by omega), hc 4 (by omega), hk⟩⟩
    · rw [hfl] at hj
      rw [hfi j hj]
      have hfj : f j = (hnd j hj).choose := by simp [f, hj]
      rw [hfj]
      obtain ⟨ka, kc, hc, hk, hw⟩ := (hnd j hj).choose_spec
      exact hw
end
end Go.Proofs.YtfocggaocadkmaaDoor
