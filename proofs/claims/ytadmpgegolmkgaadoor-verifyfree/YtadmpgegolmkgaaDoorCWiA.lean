import Derived.Test.YtadmpgegolmkgaaDoorCWhA
import Derived.Test.YtadmpgegolmkgaaDoorCLaidV
import Derived.Below
import Derived.Lib.SmallJoins
import Derived.Deep.Slices
import Derived.SizedLaws
namespace Go.Proofs.YtadmpgegolmkgaaDoor
open Go.ChangeShapes Go.WideShapes Go.ChangeAt Go.RowKit
set_option linter.unusedVariables false
set_option linter.unusedSimpArgs false

theorem cellsIns : Tryd.prog.cellsOf 43 = 4 := by kernel_rfl
theorem cellsIs : Tryd.prog.cellsOf 32 = 1 := by kernel_rfl
theorem cellsTy : Tryd.prog.cellsOf 49 = 3 := by kernel_rfl
theorem cellsPg : Tryd.prog.cellsOf 40 = 5 := by kernel_rfl
theorem cellsUn : Tryd.prog.cellsOf 25 = 2 := by kernel_rfl
theorem cellsBo : Tryd.prog.cellsOf 4 = 1 := by kernel_rfl
theorem cellsTs : Tryd.prog.cellsOf 23 = 1 := by kernel_rfl
theorem cellsPs : Tryd.prog.cellsOf 22 = 1 := by kernel_rfl
theorem cellsIs2 : Tryd.prog.cellsOf 38 = 1 := by kernel_rfl
theorem bytesIns : Tryd.prog.bytesOf 43 = 48 := by kernel_rfl
theorem bytesTy : Tryd.prog.bytesOf 49 = 40 := by kernel_rfl
theorem bytesPg : Tryd.prog.bytesOf 40 = 56 := by kernel_rfl
theorem bytesInt : Tryd.prog.bytesOf 3 = 8 := by kernel_rfl
theorem addr_plainI (b off i : Nat) : (⟨b, off, none⟩ : Addr).add i = ⟨b, off + i, none⟩ := by
  unfold Addr.add; split <;> simp_all
/-- one argument's part of what all weigh -/
theorem each_weights {H : Type} {ts : List TypeId} {ds : List (DataW H)} (h : (DataW.weightsEach Tryd.prog ts ds).all (· ≤ reachBytes) = true) {j : Nat} {t : TypeId} {d : DataW H} (ht : ts[j]? = some t) (hd : ds[j]? = some d) : ∀ n ∈ d.weights Tryd.prog t, n ≤ reachBytes := fun n hn => by
  have := List.all_eq_true.1 h n (DataW.weights_mem_each ht hd n hn)
  simpa using this
theorem mem_weightsAll {H : Type} {P : Program} {e : TypeId} {d : DataW H} {l : List (DataW H)} (h : d ∈ l) {n : Nat} (hn : n ∈ d.weights P e) : n ∈ DataW.weightsAll P e l := by
  induction l with
  | nil => cases h
  | cons x xs ih =>
    rw [DataW.weightsAll, List.mem_append]
    rcases List.mem_cons.1 h with rfl | h
    · exact .inl hn
    · exact .inr (ih h)
section
variable {H : Type} {enc : TypeId × Value → H} {W : World} {base : Nat} {sp : Nat → Bool} {held : Bool}
set_option maxRecDepth 100000 in
/-- A NUMBER THAT CAME IN -/
theorem int_of {v : Value} {ba : Nat} {d : DataW H} {p : List MemPlace} (hv : Value.okWide Tryd.prog W .any ba 3 v) (h : ∃ fuel, DataW.trod enc Tryd.prog W base sp held fuel 3 v.cells.toList = some (d, p)) :
    ∃ n : Int, v = .int .i64 n ∧ I64 n := by
  obtain ⟨n, rfl⟩ := okWide_int Tryd.underlying3 hv
  obtain ⟨fuel, hf⟩ := h
  obtain ⟨k, e, _, w0⟩ := DataW.trod_int Tryd.underlying3 (show DataW.trod enc Tryd.prog W base sp held fuel 3 [.int .i64 n] = some (d, p) by simpa [Value.cells] using hf)
  simp only [List.cons.injEq, and_true, Value.int.injEq, true_and] at e
  subst e
  exact ⟨n, rfl, bounds_i64 w0⟩
set_option maxRecDepth 100000 in
/-- NUMBERS THAT CAME IN -/
theorem list_of {fuel : Nat} {c : Value} {y : DataW H × List MemPlace} (hf : DataW.trod enc Tryd.prog W base sp held fuel 32 [c] = some y) (hw : ∀ n ∈ y.1.weights Tryd.prog 32, n ≤ reachBytes) :
    ∃ (ks : List Int) (a : Option Addr) (cap : Nat), c = .slice a ks.length cap ∧ IntsV W W.heap.size a cap ks ∧ (∀ k ∈ ks, I64 k) ∧ ks.length ≤ 17592186043904 := by
  rcases open_ints Tryd.underlying32 Tryd.underlying3 cellsInt hf with ⟨hcs, _⟩ | ⟨x, l, cp, zs, hcs, _, hl, hm, hz, hy, hcell, hwz⟩
  · simp at hcs
    subst hcs
    exact ⟨[], none, 0, rfl, intsV_nil _ _ _ _, fun k hk => by simp at hk, by simp⟩
  · simp at hcs
    subst hcs
    have hz' : l ≤ zs.length := by rw [hz]; split <;> omega
    have hlen : (zs.take l).length = l := by simp; omega
    rw [hy] at hw
    simp only [DataW.weights, Tryd.underlying32] at hw
    have hwl := hw _ List.mem_cons_self
    rw [bytesInt] at hwl
    have hr : reachBytes = 140737488351232 := rfl
    have hll : l ≤ 17592186043904 := by
      rw [hr] at hwl
      simp [lits] at hwl
      omega
    refine ⟨zs.take l, some x, cp, by rw [hlen], ⟨by omega, by omega, fun h0 => ?_⟩, fun k hk => ?_, by omega⟩
    · rw [hlen] at h0
      obtain ⟨b, off, spot⟩ := x
      have hc0 := hcell 0 (by omega)
      have hspot : spot = none := by simpa [Addr.add] using World.cell?_spot hc0
      subst hspot
      have hb := World.block_lt_of_cell? W _ hc0
      rw [addr_plainI] at hb
      refine ⟨b, off, rfl, hb, fun i hi => ?_⟩
      rw [hlen] at hi
      have hc := hcell i (by omega)
      rw [addr_plainI] at hc
      rw [hc]
      have hi' : i < zs.length := by omega
      simp [List.getD, hi']
    · exact bounds_i64 (hwz k (List.mem_of_mem_take hk))
/-- A ROW OF THINGS THAT CAME IN, with how much it weighs -/
theorem row_lr {α : Type} {e t : TypeId} {s bz : Nat} (ht : Tryd.prog.underlying t = some (.slice e)) (hs : Tryd.prog.cellsOf e = s) (hs0 : 0 < s) (hbz : Tryd.prog.bytesOf e = bz) {E : Nat → Nat → α → Prop} {Wf : α → Prop} (x0 : α)
    (hel : ∀ fuel cs y, DataW.trod enc Tryd.prog W base sp held fuel e cs = some y → (∀ n ∈ y.1.weights Tryd.prog e, n ≤ reachBytes) → ∃ a : α, Wf a ∧ ∀ b o, (∀ i, i < s → W.cell? ⟨b, o + i, none⟩ = cs[i]?) → E b o a)
    {fuel : Nat} {c : Value} {y : DataW H × List MemPlace} (hf : DataW.trod enc Tryd.prog W base sp held fuel t [c] = some y) (hw : ∀ n ∈ y.1.weights Tryd.prog t, n ≤ reachBytes) :
    ∃ (l : List α) (a : Option Addr) (cap : Nat), c = .slice a l.length cap ∧ Row E W.heap.size s a cap l ∧ (∀ x ∈ l, Wf x) ∧ l.length * bz ≤ reachBytes := by
  rcases DataW.trod_slice ht hf with ⟨hcs, _⟩ | ⟨x, len, cap, elems, rest, n', hn', e2, hy2, _, hlc, hcm, hel2, hei, _, _⟩
  · simp at hcs
    subst hcs
    exact ⟨[], none, 0, rfl, Row.nil _ _ _ _ _, (fun x hx => by cases hx), by simp⟩
  · simp at e2
    subst e2
    rw [hs] at hei
    rw [hy2] at hw
    simp only [DataW.weights, ht] at hw
    have hwl := hw _ List.mem_cons_self
    rw [hbz] at hwl
    have hnd : ∀ i, i < len → ∃ a : α, Wf a ∧ ∃ cs : List Value, cs.length = s ∧ (∀ j, j < s → W.cell? ((x.add (i * s)).add j) = cs[j]?) ∧ ∀ b o, (∀ i, i < s → W.cell? ⟨b, o + i, none⟩ = cs[i]?) → E b o a := fun i hi => by
      have h1 := hei i hi
      rw [List.getElem?_eq_getElem (by omega)] at h1
      obtain ⟨cs', h2, h3⟩ := Option.bind_eq_some_iff.1 h1
      obtain ⟨a, hq, h4⟩ := hel _ _ _ h3 (fun n hn => hw n (List.mem_cons_of_mem _ (List.mem_append.2 (.inl (mem_weightsAll (List.mem_map_of_mem (List.getElem_mem _)) hn)))))
      obtain ⟨_, h6, h5⟩ := World.cells?_some h2
      exact ⟨a, hq, cs', h6, h5, h4⟩
    let f : Nat → α := fun i => if h : i < len then (hnd i h).choose else x0
    have hfl : ((List.range len).map f).length = len := by simp
    refine ⟨(List.range len).map f, some x, cap, by rw [hfl], ⟨by rw [hfl]; omega, by omega, fun h0 => ?_⟩, fun z hz => ?_, by rw [hfl]; simp at hwl; exact Nat.le_trans (Nat.mul_le_mul_right bz (by omega)) hwl⟩
    · rw [hfl] at h0
      obtain ⟨b, off, spot⟩ := x
      obtain ⟨_, cs0, hl0, hc0, _⟩ := (hnd 0 h0).choose_spec
      have hcell0 := hc0 0 hs0
      rw [List.getElem?_eq_getElem (by omega)] at hcell0
      have hspot : spot = none := by
        have := World.cell?_spot hcell0
        simpa [Addr.add] using this
      subst hspot
      have hblk : b < W.heap.size := by
        have := World.block_lt_of_cell? W _ hcell0
        simpa [Addr.add] using this
      refine ⟨b, off, rfl, hblk, fun j hj => ?_⟩
      have hj' : j < len := by rw [hfl] at hj; exact hj
      have hfj : ((List.range len).map f)[j] = (hnd j hj').choose := by simp [f, hj']
      rw [hfj]
      obtain ⟨_, cs, _, hc, hE⟩ := (hnd j hj').choose_spec
      refine hE b (off + j * s) fun i hi => ?_
      have := hc i hi
      rw [addr_plainI, addr_plainI] at this
      exact this
    · obtain ⟨i, hi, rfl⟩ := List.mem_map.1 hz
      have hi' : i < len := by simpa using hi
      have hfj : f i = (hnd i hi').choose := by simp [f, hi']
      rw [hfj]
      exact (hnd i hi').choose_spec.1
set_option maxRecDepth 100000 in
theorem tyL {fuel : Nat} {cs : List Value} {y : DataW H × List MemPlace} (h : DataW.trod enc Tryd.prog W base sp held fuel 49 cs = some y) (hw : ∀ n ∈ y.1.weights Tryd.prog 49, n ≤ reachBytes) :
    ∃ t : CTy, (t.Wf ∧ t.kids.length ≤ 17592186044416) ∧ ∀ b o, (∀ i, i < 3 → W.cell? ⟨b, o + i, none⟩ = cs[i]?) → TyAt W W.heap.size b o t := by
  obtain ⟨xs, m, _, hy, hl, hlen, hx⟩ := DataW.trod_struct Tryd.underlying49 h
  rw [cellsTy] at hl
  match cs, hl, xs, hlen with
  | [c0, c1, c2], _, [y0, y1, y2], _ =>
    have t0 : DataW.trod enc Tryd.prog W base sp held m 3 [c0] = some y0 := by simpa [cellsInt] using hx 0 _ rfl
    have t1 : DataW.trod enc Tryd.prog W base sp held m 32 [c1] = some y1 := by simpa [cellsIs] using hx 1 _ rfl
    have t2 : DataW.trod enc Tryd.prog W base sp held m 4 [c2] = some y2 := by simpa [cellsBo] using hx 2 _ rfl
    have hw1 : ∀ n ∈ y1.1.weights Tryd.prog 32, n ≤ reachBytes := fun n hn => hw n (by rw [hy]; simp only [List.map_cons, List.map_nil, DataW.weights, Tryd.underlying49, DataW.weightsEach]; simp [DataW.weightsEach, hn])
    obtain ⟨k, e0, _, w0⟩ := DataW.trod_int Tryd.underlying3 t0
    obtain ⟨ks, ka, kc, e1, hk, wk, zk⟩ := list_of t1 hw1
    obtain ⟨r, e2, _⟩ := DataW.trod_bool Tryd.underlying4 t2
    simp only [List.cons.injEq, and_true] at e0 e2
    subst e0 e1 e2
    exact ⟨⟨k, ks, r⟩, ⟨⟨bounds_i64 w0, wk⟩, Nat.le_trans zk (by decide)⟩, fun b o hc => ⟨ka, kc, hc 0 (by omega), hc 1 (by omega), hc 2 (by omega), hk⟩⟩
set_option maxRecDepth 100000 in
theorem inL {fuel : Nat} {cs : List Value} {y : DataW H × List MemPlace} (h : DataW.trod enc Tryd.prog W base sp held fuel 43 cs = some y) (hw : ∀ n ∈ y.1.weights Tryd.prog 43, n ≤ reachBytes) :
    ∃ i : CIn, (i.Wf ∧ i.list.length ≤ 17592186044416) ∧ ∀ b o, (∀ k, k < 4 → W.cell? ⟨b, o + k, none⟩ = cs[k]?) → InAt W W.heap.size b o i := by
  obtain ⟨xs, m, _, hy, hl, hlen, hx⟩ := DataW.trod_struct Tryd.underlying43 h
  rw [cellsIns] at hl
  match cs, hl, xs, hlen with
  | [c0, c1, c2, c3], _, [y0, y1, y2, y3], _ =>
    have t0 : DataW.trod enc Tryd.prog W base sp held m 3 [c0] = some y0 := by simpa [cellsInt] using hx 0 _ rfl
    have t1 : DataW.trod enc Tryd.prog W base sp held m 3 [c1] = some y1 := by simpa [cellsInt] using hx 1 _ rfl
    have t2 : DataW.trod enc Tryd.prog W base sp held m 3 [c2] = some y2 := by simpa [cellsInt] using hx 2 _ rfl
    have t3 : DataW.trod enc Tryd.prog W base sp held m 32 [c3] = some y3 := by simpa [cellsIs] using hx 3 _ rfl
    have hw3 : ∀ n ∈ y3.1.weights Tryd.prog 32, n ≤ reachBytes := fun n hn => hw n (by rw [hy]; simp only [List.map_cons, List.map_nil, DataW.weights, Tryd.underlying43, DataW.weightsEach]; simp [DataW.weightsEach, hn])
    obtain ⟨u0, e0, _, w0⟩ := DataW.trod_int Tryd.underlying3 t0
    obtain ⟨u1, e1, _, w1⟩ := DataW.trod_int Tryd.underlying3 t1
    obtain ⟨u2, e2, _, w2⟩ := DataW.trod_int Tryd.underlying3 t2
    obtain ⟨ks, ka, kc, e3, hk, wk, zk⟩ := list_of t3 hw3
    simp only [List.cons.injEq, and_true] at e0 e1 e2
    subst e0 e1 e2 e3
    exact ⟨⟨u0, u1, u2, ks⟩, ⟨⟨bounds_i64 w0, bounds_i64 w1, bounds_i64 w2, wk⟩, Nat.le_trans zk (by decide)⟩, fun b o hc => ⟨ka, kc, hc 0 (by omega), hc 1 (by omega), hc 2 (by omega), hc 3 (by omega), hk⟩⟩
set_option maxRecDepth 100000 in
theorem pgLm {fuel : Nat} {cs : List Value} {y : DataW H × List MemPlace} (h : DataW.trod enc Tryd.prog W base sp held fuel 40 cs = some y) (hw : ∀ n ∈ y.1.weights Tryd.prog 40, n ≤ reachBytes) :
    ∃ p : CPg, (p.Wf ∧ p.code.length ≤ 17592186044416 ∧ ∀ x ∈ p.code, x.list.length ≤ 17592186044416) ∧ ∀ b o, (∀ k, k < 5 → W.cell? ⟨b, o + k, none⟩ = cs[k]?) → PgAt W W.heap.size b o p := by
  obtain ⟨xs, m, _, hy, hl, hlen, hx⟩ := DataW.trod_struct Tryd.underlying40 h
  rw [cellsPg] at hl
  match cs, hl, xs, hlen with
  | [c0, c1, c2, c3, c4], _, [y0, y1, y2, y3, y4], _ =>
    have t0 : DataW.trod enc Tryd.prog W base sp held m 3 [c0] = some y0 := by simpa [cellsInt] using hx 0 _ rfl
    have t1 : DataW.trod enc Tryd.prog W base sp held m 3 [c1] = some y1 := by simpa [cellsInt] using hx 1 _ rfl
    have t2 : DataW.trod enc Tryd.prog W base sp held m 3 [c2] = some y2 := by simpa [cellsInt] using hx 2 _ rfl
    have t3 : DataW.trod enc Tryd.prog W base sp held m 4 [c3] = some y3 := by simpa [cellsBo] using hx 3 _ rfl
    have t4 : DataW.trod enc Tryd.prog W base sp held m 38 [c4] = some y4 := by simpa [cellsIs2] using hx 4 _ rfl
    have hw4 : ∀ n ∈ y4.1.weights Tryd.prog 38, n ≤ reachBytes := fun n hn => hw n (by rw [hy]; simp only [List.map_cons, List.map_nil, DataW.weights, Tryd.underlying40, DataW.weightsEach]; simp [DataW.weightsEach, hn])
    obtain ⟨u0, e0, _, w0⟩ := DataW.trod_int Tryd.underlying3 t0
    obtain ⟨u1, e1, _, w1⟩ := DataW.trod_int Tryd.underlying3 t1
    obtain ⟨u2, e2, _, w2⟩ := DataW.trod_int Tryd.underlying3 t2
    obtain ⟨r, e3, _⟩ := DataW.trod_bool Tryd.underlying4 t3
    obtain ⟨l, ca, cc, e4, hr, wl, zl⟩ := row_lr (E := InAt W W.heap.size) (Wf := fun i : CIn => i.Wf ∧ i.list.length ≤ 17592186044416) Tryd.underlying38 cellsIns (by decide) bytesIns ⟨0, 0, 0, []⟩ (fun fuel cs y h hw => inL h hw) t4 hw4
    simp only [List.cons.injEq, and_true] at e0 e1 e2 e3
    subst e0 e1 e2 e3 e4
    exact ⟨⟨u0, u1, u2, r, l⟩, ⟨⟨bounds_i64 w0, bounds_i64 w1, bounds_i64 w2, fun x hx => (wl x hx).1⟩, by have : reachBytes = 140737488351232 := rfl; simp only; omega, fun x hx => (wl x hx).2⟩, fun b o hc => ⟨ca, cc, hc 0 (by omega), hc 1 (by omega), hc 2 (by omega), hc 3 (by omega), hc 4 (by omega), hr⟩⟩
set_option maxRecDepth 100000 in
/-- A UNIT THAT CAME IN, none of whose lists is too long -/
theorem unit_lim {v : Value} {ba : Nat} {d : DataW H} {p : List MemPlace} (hv : Value.okWide Tryd.prog W .any ba 25 v) (h : ∃ fuel, DataW.trod enc Tryd.prog W base sp held fuel 25 v.cells.toList = some (d, p)) (hw : ∀ n ∈ d.weights Tryd.prog 25, n ≤ reachBytes) :
    ∃ (u : CUn) (pa ta : Option Addr) (pc tc : Nat), v = unV u pa pc ta tc ∧ u.Wf ∧ UnIn W W.heap.size pa pc ta tc u ∧ UnL u := by
  obtain ⟨cs, rfl, hc⟩ := okWide_struct Tryd.underlying25 hv
  obtain ⟨fuel, hf⟩ := h
  have hf : DataW.trod enc Tryd.prog W base sp held fuel 25 cs.toList = some (d, p) := by simpa [Value.cells] using hf
  obtain ⟨xs, m, hm, hy, hl, hlen, hx⟩ := DataW.trod_struct Tryd.underlying25 hf
  rw [cellsUn] at hl
  obtain ⟨L, rfl⟩ : ∃ L : List Value, cs = L.toArray := ⟨cs.toList, by simp⟩
  simp only [List.toList_toArray] at *
  match L, hl, xs, hlen with
  | [c0, c1], _, [y0, y1], _ =>
    have t0 : DataW.trod enc Tryd.prog W base sp held m 22 [c0] = some y0 := by simpa [cellsPs] using hx 0 _ rfl
    have t1 : DataW.trod enc Tryd.prog W base sp held m 23 [c1] = some y1 := by simpa [cellsTs, cellsPs] using hx 1 _ rfl
    injection hy with hy0 _
    have hw0 : ∀ n ∈ y0.1.weights Tryd.prog 22, n ≤ reachBytes := fun n hn => hw n (by rw [hy0]; simp only [List.map_cons, List.map_nil, DataW.weights, Tryd.underlying25, DataW.weightsEach]; simp [DataW.weightsEach, hn])
    have hw1 : ∀ n ∈ y1.1.weights Tryd.prog 23, n ≤ reachBytes := fun n hn => hw n (by rw [hy0]; simp only [List.map_cons, List.map_nil, DataW.weights, Tryd.underlying25, DataW.weightsEach]; simp [DataW.weightsEach, hn])
    obtain ⟨ps, pa, pc, rfl, hr, wp, zp⟩ := row_lr (E := PgAt W W.heap.size) (Wf := fun p : CPg => p.Wf ∧ p.code.length ≤ 17592186044416 ∧ ∀ x ∈ p.code, x.list.length ≤ 17592186044416) Tryd.underlying22 cellsPg (by decide) bytesPg ⟨0, 0, 0, false, []⟩ (fun fuel cs y h hw => pgLm h hw) t0 hw0
    obtain ⟨ts, ta, tc, rfl, hq, wt, zt⟩ := row_lr (E := TyAt W W.heap.size) (Wf := fun t : CTy => t.Wf ∧ t.kids.length ≤ 17592186044416) Tryd.underlying23 cellsTy (by decide) bytesTy ⟨0, [], false⟩ (fun fuel cs y h hw => tyL h hw) t1 hw1
    have hr0 : reachBytes = 140737488351232 := rfl
    exact ⟨⟨ps, ts⟩, pa, ta, pc, tc, rfl, ⟨fun p hp => (wp p hp).1, fun t ht => (wt t ht).1⟩, ⟨hr, hq⟩, ⟨by simp only; omega, by simp only; omega, fun t ht => (wt t ht).2, fun p hp => (wp p hp).2.1, fun p hp => (wp p hp).2.2⟩⟩
end
end Go.Proofs.YtadmpgegolmkgaaDoor
