import Derived.Test.YtijdcplffmdijaaDoorCDArgI
import Derived.Test.YtijdcplffmdijaaDoorCDM
namespace Go.Proofs.YtijdcplffmdijaaDoor
open Go.ChangeShapes Go.WideShapes Go.ChangeAt Go.RowKit
set_option linter.unusedVariables false
set_option linter.unusedSimpArgs false

theorem cellsTy : Tryd.prog.cellsOf 54 = 3 := by kernel_rfl
theorem cellsPg : Tryd.prog.cellsOf 57 = 5 := by kernel_rfl
theorem cellsUn : Tryd.prog.cellsOf 36 = 2 := by kernel_rfl
theorem cellsBo : Tryd.prog.cellsOf 4 = 1 := by kernel_rfl
theorem cellsTs : Tryd.prog.cellsOf 34 = 1 := by kernel_rfl
theorem cellsPs : Tryd.prog.cellsOf 33 = 1 := by kernel_rfl
theorem cellsIs2 : Tryd.prog.cellsOf 55 = 1 := by kernel_rfl
section
variable {H : Type} {enc : TypeId × Value → H} {W : World} {base : Nat} {sp : Nat → Bool} {held : Bool}
/-- numbers that came in -/
theorem lst_of {fuel : Nat} {c : Value} {y : DataW H × List MemPlace} (hf : DataW.trod enc Tryd.prog W base sp held fuel 26 [c] = some y) :
    ∃ (ks : List Int) (a : Option Addr) (cap : Nat), c = .slice a ks.length cap ∧ IntsV W W.heap.size a cap ks ∧ ∀ k ∈ ks, I64 k := by
  rcases open_ints Tryd.underlying26 Tryd.underlying3 cellsInt hf with ⟨hcs, _⟩ | ⟨x, l, cp, zs, hcs, _, hl, hm, hz, hy, hcell, hwz⟩
  · simp at hcs
    subst hcs
    exact ⟨[], none, 0, rfl, intsV_nil _ _ _ _, fun k hk => by simp at hk⟩
  · simp at hcs
    subst hcs
    have hz' : l ≤ zs.length := by rw [hz]; split <;> omega
    have hlen : (zs.take l).length = l := by simp; omega
    refine ⟨zs.take l, some x, cp, by rw [hlen], ⟨by omega, by omega, fun h0 => ?_⟩, fun k hk => ?_⟩
    · rw [hlen] at h0
      obtain ⟨b, off, spot⟩ := x
      have hc0 := hcell 0 (by omega)
      have hspot : spot = none := by simpa [Addr.add] using World.cell?_spot hc0
      subst hspot
      have hb := World.block_lt_of_cell? W _ hc0
      rw [addr_plainI] at hb
      refine ⟨b, off, rfl, hb, fun i hi => ?_⟩
      rw [hlen] at hi
      have hc := hcell i (by omega)
      rw [addr_plainI] at hc
      rw [hc]
      have hi' : i < zs.length := by omega
      simp [List.getD, hi']
    · exact bounds_i64 (hwz k (List.mem_of_mem_take hk))
/-- A ROW OF THINGS THAT CAME IN -/
theorem row_of {α : Type} {e t : TypeId} {s : Nat} (ht : Tryd.prog.underlying t = some (.slice e)) (hs : Tryd.prog.cellsOf e = s) (hs0 : 0 < s) {E : Nat → Nat → α → Prop} {Wf : α → Prop} (x0 : α)
    (hel : ∀ fuel cs y, DataW.trod enc Tryd.prog W base sp held fuel e cs = some y → ∃ a : α, Wf a ∧ ∀ b o, (∀ i, i < s → W.cell? ⟨b, o + i, none⟩ = cs[i]?) → E b o a)
    {fuel : Nat} {c : Value} {y : DataW H × List MemPlace} (hf : DataW.trod enc Tryd.prog W base sp held fuel t [c] = some y) :
    ∃ (l : List α) (a : Option Addr) (cap : Nat), c = .slice a l.length cap ∧ Row E W.heap.size s a cap l ∧ ∀ x ∈ l, Wf x := by
  rcases Go.Deep.open_slice ht hf with ⟨hcs, _⟩ | ⟨x, len, cap, m, n, D, Pl, hcs, hb, hl, hm, hmm, _, hx⟩
  · simp at hcs
    subst hcs
    exact ⟨[], none, 0, rfl, Row.nil _ _ _ _ _, fun k hk => by simp at hk⟩
  · simp at hcs
    subst hcs
    have hlm : len ≤ m := by rw [hmm]; split <;> omega
    rw [hs] at hx
    have hnd : ∀ i, i < len → ∃ a : α, Wf a ∧ ∃ cs : List Value, cs.length = s ∧ (∀ j, j < s → W.cell? ((x.add (i * s)).add j) = cs[j]?) ∧ ∀ b o, (∀ i, i < s → W.cell? ⟨b, o + i, none⟩ = cs[i]?) → E b o a := fun i hi => by
      obtain ⟨cs', h1, h2⟩ := hx i (by omega)
      obtain ⟨a, h3, h4⟩ := hel _ _ _ h2
      obtain ⟨_, h6, h5⟩ := World.cells?_some h1
      exact ⟨a, h3, cs', h6, h5, h4⟩
    let f : Nat → α := fun i => if h : i < len then (hnd i h).choose else x0
    have hfl : ((List.range len).map f).length = len := by simp
    refine ⟨(List.range len).map f, some x, cap, by rw [hfl], ⟨by rw [hfl]; omega, by rw [hfl]; omega, fun h0 => ?_⟩, fun y hy => ?_⟩
    · rw [hfl] at h0
      obtain ⟨b, off, spot⟩ := x
      obtain ⟨_, cs0, hl0, hc0, _⟩ := (hnd 0 h0).choose_spec
      have hcell0 := hc0 0 hs0
      rw [List.getElem?_eq_getElem (by omega)] at hcell0
      have hspot : spot = none := by
        have := World.cell?_spot hcell0
        simpa [Addr.add] using this
      subst hspot
      have hblk : b < W.heap.size := by
        have := World.block_lt_of_cell? W _ hcell0
        simpa [Addr.add] using this
      refine ⟨b, off, rfl, hblk, fun j hj => ?_⟩
      have hj' : j < len := by rw [hfl] at hj; exact hj
      have hfj : ((List.range len).map f)[j] = (hnd j hj').choose := by simp [f, hj']
      rw [hfj]
      obtain ⟨_, cs, _, hc, hE⟩ := (hnd j hj').choose_spec
      refine hE b (off + j * s) fun i hi => ?_
      have := hc i hi
      rw [addr_plainI, addr_plainI] at this
      exact this
    · obtain ⟨i, hi, rfl⟩ := List.mem_map.1 hy
      have hi' : i < len := by simpa using hi
      have hfj : f i = (hnd i hi').choose := by simp [f, hi']
      rw [hfj]
      exact (hnd i hi').choose_spec.1
set_option maxRecDepth 100000 in
theorem tyIn {fuel : Nat} {cs : List Value} {y : DataW H × List MemPlace} (h : DataW.trod enc Tryd.prog W base sp held fuel 54 cs = some y) :
    ∃ t : CTy, t.Wf ∧ ∀ b o, (∀ i, i < 3 → W.cell? ⟨b, o + i, none⟩ = cs[i]?) → TyAt W W.heap.size b o t := by
  obtain ⟨xs, m, _, _, hl, hlen, hx⟩ := DataW.trod_struct Tryd.underlying54 h
  rw [cellsTy] at hl
  match cs, hl, xs, hlen with
  | [c0, c1, c2], _, [y0, y1, y2], _ =>
    have t0 : DataW.trod enc Tryd.prog W base sp held m 3 [c0] = some y0 := by simpa [cellsInt] using hx 0 _ rfl
    have t1 : DataW.trod enc Tryd.prog W base sp held m 26 [c1] = some y1 := by simpa [cellsIs] using hx 1 _ rfl
    have t2 : DataW.trod enc Tryd.prog W base sp held m 4 [c2] = some y2 := by simpa [cellsBo] using hx 2 _ rfl
    obtain ⟨k, e0, _, w0⟩ := DataW.trod_int Tryd.underlying3 t0
    obtain ⟨ks, ka, kc, e1, hk, wk⟩ := lst_of t1
    obtain ⟨r, e2, _⟩ := DataW.trod_bool Tryd.underlying4 t2
    simp only [List.cons.injEq, and_true] at e0 e2
    subst e0 e1 e2
    exact ⟨⟨k, ks, r⟩, ⟨bounds_i64 w0, wk⟩, fun b o hc => ⟨ka, kc, hc 0 (by omega), hc 1 (by omega), hc 2 (by omega), hk⟩⟩
set_option maxRecDepth 100000 in
theorem inIn {fuel : Nat} {cs : List Value} {y : DataW H × List MemPlace} (h : DataW.trod enc Tryd.prog W base sp held fuel 28 cs = some y) :
    ∃ i : CIn, i.Wf ∧ ∀ b o, (∀ k, k < 4 → W.cell? ⟨b, o + k, none⟩ = cs[k]?) → InAt W W.heap.size b o i := by
  obtain ⟨xs, m, _, _, hl, hlen, hx⟩ := DataW.trod_struct Tryd.underlying28 h
  rw [cellsIns] at hl
  match cs, hl, xs, hlen with
  | [c0, c1, c2, c3], _, [y0, y1, y2, y3], _ =>
    have t0 : DataW.trod enc Tryd.prog W base sp held m 3 [c0] = some y0 := by simpa [cellsInt] using hx 0 _ rfl
    have t1 : DataW.trod enc Tryd.prog W base sp held m 3 [c1] = some y1 := by simpa [cellsInt] using hx 1 _ rfl
    have t2 : DataW.trod enc Tryd.prog W base sp held m 3 [c2] = some y2 := by simpa [cellsInt] using hx 2 _ rfl
    have t3 : DataW.trod enc Tryd.prog W base sp held m 26 [c3] = some y3 := by simpa [cellsIs] using hx 3 _ rfl
    obtain ⟨u0, e0, _, w0⟩ := DataW.trod_int Tryd.underlying3 t0
    obtain ⟨u1, e1, _, w1⟩ := DataW.trod_int Tryd.underlying3 t1
    obtain ⟨u2, e2, _, w2⟩ := DataW.trod_int Tryd.underlying3 t2
    obtain ⟨ks, ka, kc, e3, hk, wk⟩ := lst_of t3
    simp only [List.cons.injEq, and_true] at e0 e1 e2
    subst e0 e1 e2 e3
    exact ⟨⟨u0, u1, u2, ks⟩, ⟨bounds_i64 w0, bounds_i64 w1, bounds_i64 w2, wk⟩, fun b o hc => ⟨ka, kc, hc 0 (by omega), hc 1 (by omega), hc 2 (by omega), hc 3 (by omega), hk⟩⟩
set_option maxRecDepth 100000 in
theorem pgIn {fuel : Nat} {cs : List Value} {y : DataW H × List MemPlace} (h : DataW.trod enc Tryd.prog W base sp held fuel 57 cs = some y) :
    ∃ p : CPg, p.Wf ∧ ∀ b o, (∀ k, k < 5 → W.cell? ⟨b, o + k, none⟩ = cs[k]?) → PgAt W W.heap.size b o p := by
  obtain ⟨xs, m, _, _, hl, hlen, hx⟩ := DataW.trod_struct Tryd.underlying57 h
  rw [cellsPg] at hl
  match cs, hl, xs, hlen with
  | [c0, c1, c2, c3, c4], _, [y0, y1, y2, y3, y4], _ =>
    have t0 : DataW.trod enc Tryd.prog W base sp held m 3 [c0] = some y0 := by simpa [cellsInt] using hx 0 _ rfl
    have t1 : DataW.trod enc Tryd.prog W base sp held m 3 [c1] = some y1 := by simpa [cellsInt] using hx 1 _ rfl
    have t2 : DataW.trod enc Tryd.prog W base sp held m 3 [c2] = some y2 := by simpa [cellsInt] using hx 2 _ rfl
    have t3 : DataW.trod enc Tryd.prog W base sp held m 4 [c3] = some y3 := by simpa [cellsBo] using hx 3 _ rfl
    have t4 : DataW.trod enc Tryd.prog W base sp held m 55 [c4] = some y4 := by simpa [cellsIs2] using hx 4 _ rfl
    obtain ⟨u0, e0, _, w0⟩ := DataW.trod_int Tryd.underlying3 t0
    obtain ⟨u1, e1, _, w1⟩ := DataW.trod_int Tryd.underlying3 t1
    obtain ⟨u2, e2, _, w2⟩ := DataW.trod_int Tryd.underlying3 t2
    obtain ⟨r, e3, _⟩ := DataW.trod_bool Tryd.underlying4 t3
    obtain ⟨l, ca, cc, e4, hr, wl⟩ := row_of (E := InAt W W.heap.size) (Wf := CIn.Wf) Tryd.underlying55 cellsIns (by decide) ⟨0, 0, 0, []⟩ (fun fuel cs y h => inIn h) t4
    simp only [List.cons.injEq, and_true] at e0 e1 e2 e3
    subst e0 e1 e2 e3 e4
    exact ⟨⟨u0, u1, u2, r, l⟩, ⟨bounds_i64 w0, bounds_i64 w1, bounds_i64 w2, wl⟩, fun b o hc => ⟨ca, cc, hc 0 (by omega), hc 1 (by omega), hc 2 (by omega), hc 3 (by omega), hc 4 (by omega), hr⟩⟩
set_option maxRecDepth 100000 in
/-- A UNIT THAT CAME IN -/
theorem unit_of {v : Value} {ba : Nat} {d : DataW H} {p : List MemPlace} (hv : Value.okWide Tryd.prog W .any ba 36 v) (h : ∃ fuel, DataW.trod enc Tryd.prog W base sp held fuel 36 v.cells.toList = some (d, p)) :
    ∃ (u : CUn) (pa ta : Option Addr) (pc tc : Nat), v = unV u pa pc ta tc ∧ u.Wf ∧ UnIn W W.heap.size pa pc ta tc u := by
  obtain ⟨cs, rfl, hc⟩ := okWide_struct Tryd.underlying36 hv
  obtain ⟨fuel, hf⟩ := h
  have hf : DataW.trod enc Tryd.prog W base sp held fuel 36 cs.toList = some (d, p) := by simpa [Value.cells] using hf
  obtain ⟨xs, m, hm, hy, hl, hlen, hx⟩ := DataW.trod_struct Tryd.underlying36 hf
  rw [cellsUn] at hl
  obtain ⟨L, rfl⟩ : ∃ L : List Value, cs = L.toArray := ⟨cs.toList, by simp⟩
  simp only [List.toList_toArray] at *
  match L, hl, xs, hlen with
  | [c0, c1], _, [y0, y1], _ =>
    have t0 : DataW.trod enc Tryd.prog W base sp held m 33 [c0] = some y0 := by simpa [cellsPs] using hx 0 _ rfl
    have t1 : DataW.trod enc Tryd.prog W base sp held m 34 [c1] = some y1 := by simpa [cellsTs, cellsPs] using hx 1 _ rfl
    obtain ⟨ps, pa, pc, rfl, hr, wp⟩ := row_of (E := PgAt W W.heap.size) (Wf := CPg.Wf) Tryd.underlying33 cellsPg (by decide) ⟨0, 0, 0, false, []⟩ (fun fuel cs y h => pgIn h) t0
    obtain ⟨ts, ta, tc, rfl, hq, wt⟩ := row_of (E := TyAt W W.heap.size) (Wf := CTy.Wf) Tryd.underlying34 cellsTy (by decide) ⟨0, [], false⟩ (fun fuel cs y h => tyIn h) t1
    exact ⟨⟨ps, ts⟩, pa, ta, pc, tc, rfl, ⟨wp, wt⟩, ⟨hr, hq⟩⟩
end
end Go.Proofs.YtijdcplffmdijaaDoor
