import Derived.Test.YteinpijbdgcehaaCOM
import Derived.Below
import Derived.Lib.SmallJoins
import Derived.Deep.Slices
import Derived.ProofKit
import Derived.OpenShut
namespace Go.Proofs.Yteinpijbdgcehaa
open Go.ChangeShapes Go.WideShapes Go.ChangeAt Go.RowKit
set_option linter.unusedVariables false
set_option linter.unusedSimpArgs false

theorem aI : Try.prog.cellsOf 3 = 1 := by kernel_rfl
theorem aB : Try.prog.cellsOf 4 = 1 := by kernel_rfl
theorem aV : Try.prog.cellsOf 41 = 3 := by kernel_rfl
theorem aVs : Try.prog.cellsOf 39 = 1 := by kernel_rfl
theorem aA : Try.prog.cellsOf 43 = 5 := by kernel_rfl
theorem aAs : Try.prog.cellsOf 36 = 1 := by kernel_rfl
theorem aW : Try.prog.cellsOf 38 = 2 := by kernel_rfl
theorem wf_i64 {n : Int} (h : (Lit.int .i64 n).wf = true) : I64 n := bounds_i64 h
theorem addr_plainO (b off i : Nat) : (⟨b, off, none⟩ : Addr).add i = ⟨b, off + i, none⟩ := by
  unfold Addr.add; split <;> simp_all
def CB (W : World) (b : Nat) : Prop := ∃ o : Obj, W.heap[b]? = some o ∧ o.isCells = true
theorem cb_of {W : World} {b o : Nat} {v : Value} (h : W.cell? ⟨b, o, none⟩ = some v) : CB W b := by
  have hlt := World.block_lt_of_cell? W _ h
  refine ⟨W.heap[b], Array.getElem?_eq_getElem hlt, ?_⟩
  unfold World.cell? at h
  simp only [Array.getElem?_eq_getElem hlt] at h
  cases hb : W.heap[b] <;> simp_all [Obj.isCells]
section
variable {H : Type} {enc : TypeId × Value → H} {W : World} {base : Nat} {sp : Nat → Bool} {held : Bool}
set_option maxRecDepth 100000 in
/-- A NUMBER THAT CAME IN -/
theorem int_of {v : Value} {ba : Nat} {d : DataW H} {p : List MemPlace} (hv : Value.okWide Try.prog W .any ba 3 v) (h : ∃ fuel, DataW.trod enc Try.prog W base sp held fuel 3 v.cells.toList = some (d, p)) :
    ∃ n : Int, v = .int .i64 n ∧ I64 n := by
  obtain ⟨n, rfl⟩ := okWide_int Try.underlying3 hv
  obtain ⟨fuel, hf⟩ := h
  obtain ⟨k, e, _, w0⟩ := DataW.trod_int Try.underlying3 (show DataW.trod enc Try.prog W base sp held fuel 3 [.int .i64 n] = some (d, p) by simpa [Value.cells] using hf)
  simp only [List.cons.injEq, and_true, Value.int.injEq, true_and] at e
  subst e
  exact ⟨n, rfl, wf_i64 w0⟩
/-- A ROW OF THINGS THAT CAME IN -/
theorem row_ofO {α : Type} {e t : TypeId} {s : Nat} (ht : Try.prog.underlying t = some (.slice e)) (hs : Try.prog.cellsOf e = s) (hs0 : 0 < s) {E : Nat → Nat → α → Prop} (x0 : α)
    (hel : ∀ fuel cs y, DataW.trod enc Try.prog W base sp held fuel e cs = some y → ∃ a : α, ∀ b o, (∀ i, i < s → W.cell? ⟨b, o + i, none⟩ = cs[i]?) → E b o a)
    {fuel : Nat} {c : Value} {y : DataW H × List MemPlace} (hf : DataW.trod enc Try.prog W base sp held fuel t [c] = some y) :
    ∃ (l : List α) (a : Option Addr) (cap : Nat), c = .slice a l.length cap ∧ l.length ≤ cap ∧ cap ≤ maxLen ∧ ∀ j (h : j < l.length), ∃ b o, a = some ⟨b, o, none⟩ ∧ E b (o + j * s) l[j] := by
  rcases Go.Deep.open_slice ht hf with ⟨hcs, _⟩ | ⟨x, len, cap, m, n, D, Pl, hcs, hb, hl, hm, hmm, _, hx⟩
  · simp at hcs
    subst hcs
    exact ⟨[], none, 0, rfl, by simp, by simp [maxLen], fun j hj => by simp at hj⟩
  · simp at hcs
    subst hcs
    have hlm : len ≤ m := by rw [hmm]; split <;> omega
    rw [hs] at hx
    have hnd : ∀ i, i < len → ∃ a : α, ∃ cs : List Value, cs.length = s ∧ (∀ j, j < s → W.cell? ((x.add (i * s)).add j) = cs[j]?) ∧ ∀ b o, (∀ i, i < s → W.cell? ⟨b, o + i, none⟩ = cs[i]?) → E b o a := fun i hi => by
      obtain ⟨cs', h1, h2⟩ := hx i (by omega)
      obtain ⟨a, h4⟩ := hel _ _ _ h2
      obtain ⟨_, h6, h5⟩ := World.cells?_some h1
      exact ⟨a, cs', h6, h5, h4⟩
    let f : Nat → α := fun i => if h : i < len then (hnd i h).choose else x0
    have hfl : ((List.range len).map f).length = len := by simp
    refine ⟨(List.range len).map f, some x, cap, by rw [hfl], by rw [hfl]; omega, hm, fun j hj => ?_⟩
    have hj' : j < len := by rw [hfl] at hj; exact hj
    have h0 : 0 < len := by omega
    obtain ⟨b, off, spot⟩ := x
    obtain ⟨cs0, hl0, hc0, _⟩ := (hnd 0 h0).choose_spec
    have hcell0 := hc0 0 hs0
    rw [List.getElem?_eq_getElem (by omega)] at hcell0
    have hspot : spot = none := by
      have := World.cell?_spot hcell0
      simpa [Addr.add] using this
    subst hspot
    refine ⟨b, off, rfl, ?_⟩
    have hfj : ((List.range len).map f)[j] = (hnd j hj').choose := by simp [f, hj']
    rw [hfj]
    obtain ⟨cs, _, hc, hE⟩ := (hnd j hj').choose_spec
    refine hE b (off + j * s) fun i hi => ?_
    have := hc i hi
    rw [addr_plainO, addr_plainO] at this
    exact this
set_option maxRecDepth 100000 in
theorem armIn {fuel : Nat} {cs : List Value} {y : DataW H × List MemPlace} (h : DataW.trod enc Try.prog W base sp held fuel 43 cs = some y) :
    ∃ a : OArm, ∀ b o, (∀ i, i < 5 → W.cell? ⟨b, o + i, none⟩ = cs[i]?) → CB W b ∧ ArmAt W b o a := by
  obtain ⟨xs, m, _, _, hl, hlen, hx⟩ := DataW.trod_struct Try.underlying43 h
  rw [aA] at hl
  match cs, hl, xs, hlen with
  | [c0, c1, c2, c3, c4], _, [y0, y1, y2], _ =>
    have t0 : DataW.trod enc Try.prog W base sp held m 3 [c0] = some y0 := by simpa [aI] using hx 0 _ rfl
    have t1 : DataW.trod enc Try.prog W base sp held m 4 [c1] = some y1 := by simpa [aB] using hx 1 _ rfl
    have t2 : DataW.trod enc Try.prog W base sp held m 41 [c2, c3, c4] = some y2 := by simpa [aV] using hx 2 _ rfl
    obtain ⟨u0, e0, _, w0⟩ := DataW.trod_int Try.underlying3 t0
    obtain ⟨r, e1, _⟩ := DataW.trod_bool Try.underlying4 t1
    obtain ⟨zs, m2, _, _, _, hlen2, hz⟩ := DataW.trod_struct Try.underlying41 t2
    match zs, hlen2 with
    | [z0, z1, z2], _ =>
      have s0 : DataW.trod enc Try.prog W base sp held m2 3 [c2] = some z0 := by simpa [aI] using hz 0 _ rfl
      have s1 : DataW.trod enc Try.prog W base sp held m2 3 [c3] = some z1 := by simpa [aI] using hz 1 _ rfl
      have s2 : DataW.trod enc Try.prog W base sp held m2 39 [c4] = some z2 := by simpa [aVs] using hz 2 _ rfl
      obtain ⟨u2, e2, _, _⟩ := DataW.trod_int Try.underlying3 s0
      obtain ⟨u3, e3, _, _⟩ := DataW.trod_int Try.underlying3 s1
      have e4 : ∃ zp zn zc, c4 = .slice zp zn zc := by
        rcases DataW.trod_slice Try.underlying39 s2 with ⟨e, _⟩ | ⟨a, len, cap, elems, rest, n', hn', e, _⟩
        · simp only [List.cons.injEq, and_true] at e; exact ⟨_, _, _, e⟩
        · simp only [List.cons.injEq, and_true] at e; exact ⟨_, _, _, e⟩
      obtain ⟨zp, zn, zc, e4⟩ := e4
      simp only [List.cons.injEq, and_true] at e0 e1 e2 e3
      subst e0 e1 e2 e3 e4
      exact ⟨⟨u0, r, u2, u3, zp, zn, zc⟩, fun b o hc => ⟨cb_of (hc 0 (by omega)), ⟨hc 0 (by omega), hc 1 (by omega), hc 2 (by omega), hc 3 (by omega), hc 4 (by omega), wf_i64 w0⟩⟩⟩
set_option maxRecDepth 100000 in
theorem waitIn {fuel : Nat} {cs : List Value} {y : DataW H × List MemPlace} (h : DataW.trod enc Try.prog W base sp held fuel 38 cs = some y) :
    ∃ x : OWt, ∀ b o, (∀ i, i < 2 → W.cell? ⟨b, o + i, none⟩ = cs[i]?) → CB W b ∧ W.cell? ⟨b, o, none⟩ = some (.int .i64 x.id) ∧ ∃ q d, W.cell? ⟨b, o + 1, none⟩ = some (.slice q x.arms.length d) ∧ ArmsIn W (CB W) q d x.arms ∧ I64 x.id := by
  obtain ⟨xs, m, _, _, hl, hlen, hx⟩ := DataW.trod_struct Try.underlying38 h
  rw [aW] at hl
  match cs, hl, xs, hlen with
  | [c0, c1], _, [y0, y1], _ =>
    have t0 : DataW.trod enc Try.prog W base sp held m 3 [c0] = some y0 := by simpa [aI] using hx 0 _ rfl
    have t1 : DataW.trod enc Try.prog W base sp held m 36 [c1] = some y1 := by simpa [aAs] using hx 1 _ rfl
    obtain ⟨u0, e0, _, w0⟩ := DataW.trod_int Try.underlying3 t0
    obtain ⟨l, q, d, e1, h1, h2, h3⟩ := row_ofO (E := fun b o a => CB W b ∧ ArmAt W b o a) Try.underlying36 aA (by decide) ⟨0, false, 0, 0, none, 0, 0⟩ (fun fuel cs y h => armIn h) t1
    simp only [List.cons.injEq, and_true] at e0
    subst e0 e1
    exact ⟨⟨u0, l⟩, fun b o hc => ⟨cb_of (hc 0 (by omega)), hc 0 (by omega), q, d, hc 1 (by omega), ⟨h1, h2, fun i hi => by
      obtain ⟨b', o', e, k1, k2⟩ := h3 i hi
      exact ⟨b', o', e, k1, k2⟩⟩, wf_i64 w0⟩⟩
/-- WAITERS THAT CAME IN -/
theorem waiters_of {a : Option Addr} {len cap : Nat} {d : DataW H} {p : List MemPlace} (h : ∃ fuel, DataW.trod enc Try.prog W base sp held fuel 22 (Value.slice a len cap).cells.toList = some (d, p)) :
    ∃ l : List OWt, l.length = len ∧ WsIn W (CB W) a cap l := by
  obtain ⟨fuel, hf⟩ := h
  obtain ⟨l, q, d', e1, h1, h2, h3⟩ := row_ofO (E := fun b o x => CB W b ∧ W.cell? ⟨b, o, none⟩ = some (.int .i64 x.id) ∧ ∃ q d, W.cell? ⟨b, o + 1, none⟩ = some (.slice q x.arms.length d) ∧ ArmsIn W (CB W) q d x.arms ∧ I64 x.id) Try.underlying22 aW (by decide) (⟨0, []⟩ : OWt) (fun fuel cs y h => waitIn h) (show DataW.trod enc Try.prog W base sp held fuel 22 [.slice a len cap] = some (d, p) by simpa [Value.cells] using hf)
  simp only [Value.slice.injEq] at e1
  obtain ⟨rfl, rfl, rfl⟩ := e1
  exact ⟨l, rfl, h1, h2, fun i hi => by
    obtain ⟨b, o, e, k1, k2, q, d, k3, k4, k5⟩ := h3 i hi
    exact ⟨b, o, q, d, e, k1, k2, k3, k4, k5⟩⟩
end
end Go.Proofs.Yteinpijbdgcehaa
