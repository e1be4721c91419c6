import Derived.Test.YtikijkpklneihaaCVFi
import Derived.Below
import Derived.Lib.SmallJoins
import Derived.Deep.Slices
import Derived.ProofKit
import Derived.OpenShut
namespace Go.Proofs.Ytikijkpklneihaa
open Go.ChangeShapes Go.WideShapes Go.ChangeAt Go.RowKit
set_option linter.unusedVariables false
set_option linter.unusedSimpArgs false

theorem cellsI : Try.prog.cellsOf 3 = 1 := by kernel_rfl
theorem cellsV : Try.prog.cellsOf 24 = 3 := by kernel_rfl
theorem cellsS : Try.prog.cellsOf 22 = 1 := by kernel_rfl
theorem wf_i64 {n : Int} (h : (Lit.int .i64 n).wf = true) : I64 n := bounds_i64 h
theorem addr_plain (b off i : Nat) : (⟨b, off, none⟩ : Addr).add i = ⟨b, off + i, none⟩ := by
  unfold Addr.add; split <;> simp_all

section
variable {H : Type} {enc : TypeId × Value → H} {W : World} {base : Nat} {sp : Nat → Bool} {held : Bool}
set_option maxRecDepth 100000 in
/-- A NUMBER THAT CAME IN -/
theorem int_of {v : Value} {ba : Nat} {d : DataW H} {p : List MemPlace} (hv : Value.okWide Try.prog W .any ba 3 v) (h : ∃ fuel, DataW.trod enc Try.prog W base sp held fuel 3 v.cells.toList = some (d, p)) :
    ∃ n : Int, v = .int .i64 n ∧ I64 n := by
  obtain ⟨n, rfl⟩ := okWide_int Try.underlying3 hv
  obtain ⟨fuel, hf⟩ := h
  obtain ⟨k, e, _, w0⟩ := DataW.trod_int Try.underlying3 (show DataW.trod enc Try.prog W base sp held fuel 3 [.int .i64 n] = some (d, p) by simpa [Value.cells] using hf)
  simp only [List.cons.injEq, and_true, Value.int.injEq, true_and] at e
  subst e
  exact ⟨n, rfl, wf_i64 w0⟩
/-- NUMBERS THAT CAME IN -/
theorem path_of {a : Option Addr} {len cap : Nat} {d : DataW H} {p : List MemPlace} (h : ∃ fuel, DataW.trod enc Try.prog W base sp held fuel 25 (Value.slice a len cap).cells.toList = some (d, p)) :
    ∃ ks : List Int, ks.length = len ∧ Pth W W.heap.size a cap ks := by
  obtain ⟨fuel, hf⟩ := h
  rcases open_ints Try.underlying25 Try.underlying3 cellsI (show DataW.trod enc Try.prog W base sp held fuel 25 [.slice a len cap] = some (d, p) by simpa [Value.cells] using hf) with ⟨hcs, _⟩ | ⟨x, l, cp, zs, hcs, _, hl, hm, hz, _, hcell, hwz⟩
  · simp at hcs
    obtain ⟨rfl, rfl, rfl⟩ := hcs
    exact ⟨[], rfl, ⟨by simp, by simp [maxLen], fun i hi => by simp at hi⟩⟩
  · simp at hcs
    obtain ⟨rfl, rfl, rfl⟩ := hcs
    have hz' : len ≤ zs.length := by rw [hz]; split <;> omega
    have hlen : (zs.take len).length = len := by simp; omega
    refine ⟨zs.take len, hlen, ⟨by omega, hm, fun i hi => ?_⟩⟩
    rw [hlen] at hi
    obtain ⟨b, off, spot⟩ := x
    have hc0 := hcell 0 (by omega)
    have hspot : spot = none := by simpa [Addr.add] using World.cell?_spot hc0
    subst hspot
    have hc := hcell i (by omega)
    have hb := World.block_lt_of_cell? W _ hc
    rw [addr_plain] at hc hb
    refine ⟨b, off, rfl, hb, ?_, ?_⟩
    · rw [hc]
      have hi' : i < zs.length := by omega
      simp [List.getD, hi']
    · have hi' : i < zs.length := by omega
      have := hwz zs[i] (List.getElem_mem hi')
      simpa using wf_i64 this

set_option maxRecDepth 100000 in
/-- a value's cells that came in -/
theorem cells_of : ∀ {fuel : Nat} {cs : List Value} {y : DataW H × List MemPlace}, DataW.trod enc Try.prog W base sp held fuel 24 cs = some y →
    ∃ (x : V) (p : Option Addr) (c : Nat), cs = [.int .i64 x.k, .int .i64 x.n, .slice p x.l.length c] ∧ SlV W W.heap.size p c x.l ∧ I64 x.k ∧ I64 x.n := by
  intro fuel
  induction fuel using Nat.strongRecOn with
  | _ fuel ih =>
    intro cs y h
    obtain ⟨xs, m, hm, _, hl, hlen, hx⟩ := DataW.trod_struct Try.underlying24 h
    rw [cellsV] at hl
    match cs, hl, xs, hlen with
    | [c0, c1, c2], _, [y0, y1, y2], _ =>
      have t0 : DataW.trod enc Try.prog W base sp held m 3 [c0] = some y0 := by simpa [cellsI] using hx 0 _ rfl
      have t1 : DataW.trod enc Try.prog W base sp held m 3 [c1] = some y1 := by simpa [cellsI] using hx 1 _ rfl
      have t2 : DataW.trod enc Try.prog W base sp held m 22 [c2] = some y2 := by simpa [cellsS] using hx 2 _ rfl
      obtain ⟨k, e0, _, w0⟩ := DataW.trod_int Try.underlying3 t0
      obtain ⟨n, e1, _, w1⟩ := DataW.trod_int Try.underlying3 t1
      simp only [List.cons.injEq, and_true] at e0 e1
      subst e0 e1
      rcases DataW.trod_slice Try.underlying22 t2 with ⟨e2, _⟩ | ⟨a, len, cap, elems, rest, n', hn', e2, _, _, hlc, hcm, hel, hei, _, _⟩
      · simp only [List.cons.injEq, and_true] at e2
        subst e2
        exact ⟨.mk k n [], none, 0, rfl, ⟨by simp [V.l], by simp [maxLen], .inl rfl⟩, wf_i64 w0, wf_i64 w1⟩
      · simp only [List.cons.injEq, and_true] at e2
        subst e2
        rw [cellsV] at hei
        have hnd : ∀ i, i < len → ∃ (x : V) (p : Option Addr) (c : Nat), (∀ j, j < 3 → W.cell? ((a.add (i * 3)).add j) = [Value.int .i64 x.k, .int .i64 x.n, .slice p x.l.length c][j]?) ∧ SlV W W.heap.size p c x.l ∧ I64 x.k ∧ I64 x.n := fun i hi => by
          have h1 := hei i hi
          rw [List.getElem?_eq_getElem (by omega)] at h1
          obtain ⟨cs', h2, h3⟩ := Option.bind_eq_some_iff.1 h1
          obtain ⟨x, p, c, rfl, h4, h5, h6⟩ := ih n' (by omega) h3
          obtain ⟨_, _, h7⟩ := World.cells?_some h2
          exact ⟨x, p, c, h7, h4, h5, h6⟩
        let f : Nat → V := fun i => if h : i < len then (hnd i h).choose else v0
        have hfl : ((List.range len).map f).length = len := by simp
        have hfi : ∀ i (h : i < ((List.range len).map f).length), ((List.range len).map f)[i] = f i := fun i h => by simp
        refine ⟨.mk k n ((List.range len).map f), some a, cap, by simp [V.k, V.n, V.l], ⟨by rw [V.l, hfl]; exact hlc, hcm, ?_⟩, wf_i64 w0, wf_i64 w1⟩
        rw [V.l]
        rcases Nat.eq_zero_or_pos len with h0 | h0
        · left
          exact List.eq_nil_of_length_eq_zero (by rw [hfl]; exact h0)
        · right
          obtain ⟨b, off, spot⟩ := a
          obtain ⟨x0, p0, cc0, hc0, _⟩ := hnd 0 h0
          have hcell0 := hc0 0 (by omega)
          have hspot : spot = none := by
            have := World.cell?_spot hcell0
            simpa [Addr.add] using this
          subst hspot
          have hblk : b < W.heap.size := by
            have := World.block_lt_of_cell? W _ hcell0
            simpa [Addr.add] using this
          refine ⟨b, off, rfl, hblk, AtVs.of_get (fun i hi => ?_)⟩
          rw [hfi i hi]
          rw [hfl] at hi
          have hfj : f i = (hnd i hi).choose := by simp [f, hi]
          rw [hfj]
          have hsp := (hnd i hi).choose_spec
          generalize (hnd i hi).choose = nd at hsp ⊢
          obtain ⟨p, c, hc, hk, h5, h6⟩ := hsp
          simp only [addr_plain] at hc
          rw [Nat.mul_comm 3 i]
          exact ⟨hc 0 (by omega), hc 1 (by omega), h5, h6, p, c, hc 2 (by omega), hk⟩
/-- A VALUE THAT CAME IN -/
theorem value_of {v : Value} {ba : Nat} {d : DataW H} {p : List MemPlace} (hv : Value.okWide Try.prog W .any ba 24 v) (h : ∃ fuel, DataW.trod enc Try.prog W base sp held fuel 24 v.cells.toList = some (d, p)) :
    ∃ x : V, IsV W W.heap.size v x := by
  obtain ⟨cs, rfl, hc⟩ := okWide_struct Try.underlying24 hv
  obtain ⟨fuel, hf⟩ := h
  have hf : DataW.trod enc Try.prog W base sp held fuel 24 cs.toList = some (d, p) := by simpa [Value.cells] using hf
  obtain ⟨x, q, c, e, h1, h2, h3⟩ := cells_of hf
  have : cs = #[.int .i64 x.k, .int .i64 x.n, .slice q x.l.length c] := by cases cs; simp_all
  exact ⟨x, ⟨q, c, by rw [this], h1⟩, h2, h3⟩
end
end Go.Proofs.Ytikijkpklneihaa
