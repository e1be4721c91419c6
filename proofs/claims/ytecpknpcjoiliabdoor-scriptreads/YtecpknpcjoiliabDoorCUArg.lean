import Derived.Test.YtecpknpcjoiliabDoorCULd
import Derived.Test.YtecpknpcjoiliabDoorCUPb
import Derived.Below
import Derived.Lib.SmallJoins
import Derived.Deep.Slices
import Derived.SizedLaws
namespace Go.Proofs.YtecpknpcjoiliabDoor
open Go.ChangeShapes Go.WideShapes Go.ChangeAt Go.RowKit
set_option linter.unusedVariables false
set_option linter.unusedSimpArgs false

theorem cellsBo : Tryd.prog.cellsOf 4 = 1 := by kernel_rfl
theorem cellsPk : Tryd.prog.cellsOf 39 = 3 := by kernel_rfl
theorem cellsLm : Tryd.prog.cellsOf 28 = 7 := by kernel_rfl
theorem cellsSc : Tryd.prog.cellsOf 31 = 9 := by kernel_rfl
theorem cellsPs : Tryd.prog.cellsOf 29 = 1 := by kernel_rfl
theorem addr_plainI (b off i : Nat) : (⟨b, off, none⟩ : Addr).add i = ⟨b, off + i, none⟩ := by
  unfold Addr.add; split <;> simp_all
/-- one argument's part of what all weigh -/
theorem each_weights {H : Type} {ts : List TypeId} {ds : List (DataW H)} (h : (DataW.weightsEach Tryd.prog ts ds).all (· ≤ reachBytes) = true) {j : Nat} {t : TypeId} {d : DataW H} (ht : ts[j]? = some t) (hd : ds[j]? = some d) : ∀ n ∈ d.weights Tryd.prog t, n ≤ reachBytes := fun n hn => by
  have := List.all_eq_true.1 h n (DataW.weights_mem_each ht hd n hn)
  simpa using this
structure Row {α : Type} (E : Nat → Nat → α → Prop) (B s : Nat) (a : Option Addr) (cap : Nat) (l : List α) : Prop where
  cap : l.length ≤ cap
  max : l.length ≤ maxLen
  at_ : 0 < l.length → ∃ b o, a = some ⟨b, o, none⟩ ∧ b < B ∧ ∀ j (h : j < l.length), E b (o + j * s) l[j]
theorem Row.nil {α : Type} (E : Nat → Nat → α → Prop) (B s : Nat) (a : Option Addr) (cap : Nat) : Row E B s a cap [] := ⟨Nat.zero_le _, Nat.zero_le _, fun h => absurd h (by simp)⟩
section
variable {H : Type} {enc : TypeId × Value → H} {W : World} {base : Nat} {sp : Nat → Bool} {held : Bool}
set_option maxRecDepth 100000 in
/-- A TEXT THAT CAME IN -/
theorem str_of {v : Value} {ba : Nat} {d : DataW H} {p : List MemPlace} (hv : Value.okWide Tryd.prog W .any ba 9 v) (h : ∃ fuel, DataW.trod enc Tryd.prog W base sp held fuel 9 v.cells.toList = some (d, p)) (hw : ∀ n ∈ d.weights Tryd.prog 9, n ≤ reachBytes) : ∃ s : List UInt8, v = strV s ∧ s.length ≤ 281474976710656 := by
  obtain ⟨n, rfl⟩ := okWide_string Tryd.underlying9 hv
  obtain ⟨fuel, hf⟩ := h
  obtain ⟨k, e, e2, w0⟩ := DataW.trod_string Tryd.underlying9 (show DataW.trod enc Tryd.prog W base sp held fuel 9 [.string n] = some (d, p) by simpa [Value.cells] using hf)
  simp only [List.cons.injEq, and_true, Value.string.injEq] at e
  subst e
  refine ⟨n.data.toList, by simp, ?_⟩
  have e3 : d = .lit (.string n.data.toList) := congrArg Prod.fst e2
  rw [e3] at hw
  have := hw n.data.toList.length (by simp [DataW.weights])
  have hr : reachBytes = 140737488351232 := rfl
  omega
/-- A ROW OF THINGS THAT CAME IN -/
theorem row_of {α : Type} {e t : TypeId} {s : Nat} (ht : Tryd.prog.underlying t = some (.slice e)) (hs : Tryd.prog.cellsOf e = s) (hs0 : 0 < s) {E : Nat → Nat → α → Prop} {Wf : α → Prop} (x0 : α)
    (hel : ∀ fuel cs y, DataW.trod enc Tryd.prog W base sp held fuel e cs = some y → ∃ a : α, Wf a ∧ ∀ b o, (∀ i, i < s → W.cell? ⟨b, o + i, none⟩ = cs[i]?) → E b o a)
    {fuel : Nat} {c : Value} {y : DataW H × List MemPlace} (hf : DataW.trod enc Tryd.prog W base sp held fuel t [c] = some y) :
    ∃ (l : List α) (a : Option Addr) (cap : Nat), c = .slice a l.length cap ∧ Row E W.heap.size s a cap l ∧ ∀ x ∈ l, Wf x := by
  rcases Go.Deep.open_slice ht hf with ⟨hcs, _⟩ | ⟨x, len, cap, m, n, D, Pl, hcs, hb, hl, hm, hmm, _, hx⟩
  · simp at hcs
    subst hcs
    exact ⟨[], none, 0, rfl, Row.nil _ _ _ _ _, fun k hk => by simp at hk⟩
  · simp at hcs
    subst hcs
    have hlm : len ≤ m := by rw [hmm]; split <;> omega
    rw [hs] at hx
    have hnd : ∀ i, i < len → ∃ a : α, Wf a ∧ ∃ cs : List Value, cs.length = s ∧ (∀ j, j < s → W.cell? ((x.add (i * s)).add j) = cs[j]?) ∧ ∀ b o, (∀ i, i < s → W.cell? ⟨b, o + i, none⟩ = cs[i]?) → E b o a := fun i hi => by
      obtain ⟨cs', h1, h2⟩ := hx i (by omega)
      obtain ⟨a, h3, h4⟩ := hel _ _ _ h2
      obtain ⟨_, h6, h5⟩ := World.cells?_some h1
      exact ⟨a, h3, cs', h6, h5, h4⟩
    let f : Nat → α := fun i => if h : i < len then (hnd i h).choose else x0
    have hfl : ((List.range len).map f).length = len := by simp
    refine ⟨(List.range len).map f, some x, cap, by rw [hfl], ⟨by rw [hfl]; omega, by rw [hfl]; omega, fun h0 => ?_⟩, fun y hy => ?_⟩
    · rw [hfl] at h0
      obtain ⟨b, off, spot⟩ := x
      obtain ⟨_, cs0, hl0, hc0, _⟩ := (hnd 0 h0).choose_spec
      have hcell0 := hc0 0 hs0
      rw [List.getElem?_eq_getElem (by omega)] at hcell0
      have hspot : spot = none := by
        have := World.cell?_spot hcell0
        simpa [Addr.add] using this
      subst hspot
      have hblk : b < W.heap.size := by
        have := World.block_lt_of_cell? W _ hcell0
        simpa [Addr.add] using this
      refine ⟨b, off, rfl, hblk, fun j hj => ?_⟩
      have hj' : j < len := by rw [hfl] at hj; exact hj
      have hfj : ((List.range len).map f)[j] = (hnd j hj').choose := by simp [f, hj']
      rw [hfj]
      obtain ⟨_, cs, _, hc, hE⟩ := (hnd j hj').choose_spec
      refine hE b (off + j * s) fun i hi => ?_
      have := hc i hi
      rw [addr_plainI, addr_plainI] at this
      exact this
    · obtain ⟨i, hi, rfl⟩ := List.mem_map.1 hy
      have hi' : i < len := by simpa using hi
      have hfj : f i = (hnd i hi').choose := by simp [f, hi']
      rw [hfj]
      exact (hnd i hi').choose_spec.1
set_option maxRecDepth 100000 in
theorem pkIn {fuel : Nat} {cs : List Value} {y : DataW H × List MemPlace} (h : DataW.trod enc Tryd.prog W base sp held fuel 39 cs = some y) :
    ∃ p : Pk, p.Wf ∧ ∀ b o, (∀ i, i < 3 → W.cell? ⟨b, o + i, none⟩ = cs[i]?) → W.cell? ⟨b, o, none⟩ = some (.int .i64 p.kind) ∧ W.cell? ⟨b, o + 1, none⟩ = some (.int .i64 p.n) ∧ W.cell? ⟨b, o + 2, none⟩ = some (.int .i64 p.v) := by
  obtain ⟨xs, m, _, _, hl, hlen, hx⟩ := DataW.trod_struct Tryd.underlying39 h
  rw [cellsPk] at hl
  match cs, hl, xs, hlen with
  | [c0, c1, c2], _, [y0, y1, y2], _ =>
    have t0 : DataW.trod enc Tryd.prog W base sp held m 3 [c0] = some y0 := by simpa [cellsInt] using hx 0 _ rfl
    have t1 : DataW.trod enc Tryd.prog W base sp held m 3 [c1] = some y1 := by simpa [cellsInt] using hx 1 _ rfl
    have t2 : DataW.trod enc Tryd.prog W base sp held m 3 [c2] = some y2 := by simpa [cellsInt] using hx 2 _ rfl
    obtain ⟨u0, e0, _, w0⟩ := DataW.trod_int Tryd.underlying3 t0
    obtain ⟨u1, e1, _, w1⟩ := DataW.trod_int Tryd.underlying3 t1
    obtain ⟨u2, e2, _, w2⟩ := DataW.trod_int Tryd.underlying3 t2
    simp only [List.cons.injEq, and_true] at e0 e1 e2
    subst e0 e1 e2
    exact ⟨⟨u0, u1, u2⟩, ⟨bounds_i64 w0, bounds_i64 w1, bounds_i64 w2⟩, fun b o hc => ⟨hc 0 (by omega), hc 1 (by omega), hc 2 (by omega)⟩⟩
theorem picks_of {fuel : Nat} {c : Value} {y : DataW H × List MemPlace} (hf : DataW.trod enc Tryd.prog W base sp held fuel 29 [c] = some y) :
    ∃ (ps : List Pk) (a : Option Addr) (cap : Nat), c = .slice a ps.length cap ∧ PkV W W.heap.size a ps ∧ ∀ p ∈ ps, p.Wf := by
  obtain ⟨l, a, cap, e, hr, hw⟩ := row_of Tryd.underlying29 cellsPk (by omega) (E := fun b o p => W.cell? ⟨b, o, none⟩ = some (.int .i64 p.kind) ∧ W.cell? ⟨b, o + 1, none⟩ = some (.int .i64 p.n) ∧ W.cell? ⟨b, o + 2, none⟩ = some (.int .i64 p.v)) (Wf := Pk.Wf) (⟨0, 0, 0⟩ : Pk) (fun _ _ _ h => pkIn h) hf
  exact ⟨l, a, cap, e, ⟨hr.max, hr.at_⟩, hw⟩
set_option maxRecDepth 100000 in
theorem lmIn {fuel : Nat} {cs : List Value} {y : DataW H × List MemPlace} (h : DataW.trod enc Tryd.prog W base sp held fuel 28 cs = some y) :
    ∃ m : Lm, cs = [.int .i64 m.a, .int .i64 m.b, .int .i64 m.c, .int .i64 m.d, .int .i64 m.e, .int .i64 m.f, .int .i64 m.g] ∧ ∀ x ∈ lmL m, I64 x := by
  obtain ⟨xs, m, _, _, hl, hlen, hx⟩ := DataW.trod_struct Tryd.underlying28 h
  rw [cellsLm] at hl
  match cs, hl, xs, hlen with
  | [c0, c1, c2, c3, c4, c5, c6], _, [y0, y1, y2, y3, y4, y5, y6], _ =>
    have t0 : DataW.trod enc Tryd.prog W base sp held m 3 [c0] = some y0 := by simpa [cellsInt] using hx 0 _ rfl
    have t1 : DataW.trod enc Tryd.prog W base sp held m 3 [c1] = some y1 := by simpa [cellsInt] using hx 1 _ rfl
    have t2 : DataW.trod enc Tryd.prog W base sp held m 3 [c2] = some y2 := by simpa [cellsInt] using hx 2 _ rfl
    have t3 : DataW.trod enc Tryd.prog W base sp held m 3 [c3] = some y3 := by simpa [cellsInt] using hx 3 _ rfl
    have t4 : DataW.trod enc Tryd.prog W base sp held m 3 [c4] = some y4 := by simpa [cellsInt] using hx 4 _ rfl
    have t5 : DataW.trod enc Tryd.prog W base sp held m 3 [c5] = some y5 := by simpa [cellsInt] using hx 5 _ rfl
    have t6 : DataW.trod enc Tryd.prog W base sp held m 3 [c6] = some y6 := by simpa [cellsInt] using hx 6 _ rfl
    obtain ⟨u0, e0, _, w0⟩ := DataW.trod_int Tryd.underlying3 t0
    obtain ⟨u1, e1, _, w1⟩ := DataW.trod_int Tryd.underlying3 t1
    obtain ⟨u2, e2, _, w2⟩ := DataW.trod_int Tryd.underlying3 t2
    obtain ⟨u3, e3, _, w3⟩ := DataW.trod_int Tryd.underlying3 t3
    obtain ⟨u4, e4, _, w4⟩ := DataW.trod_int Tryd.underlying3 t4
    obtain ⟨u5, e5, _, w5⟩ := DataW.trod_int Tryd.underlying3 t5
    obtain ⟨u6, e6, _, w6⟩ := DataW.trod_int Tryd.underlying3 t6
    simp only [List.cons.injEq, and_true] at e0 e1 e2 e3 e4 e5 e6
    subst e0 e1 e2 e3 e4 e5 e6
    refine ⟨⟨u0, u1, u2, u3, u4, u5, u6⟩, rfl, fun x hx => ?_⟩
    simp only [lmL, List.mem_cons, List.not_mem_nil, or_false] at hx
    rcases hx with rfl | rfl | rfl | rfl | rfl | rfl | rfl
    · exact bounds_i64 w0
    · exact bounds_i64 w1
    · exact bounds_i64 w2
    · exact bounds_i64 w3
    · exact bounds_i64 w4
    · exact bounds_i64 w5
    · exact bounds_i64 w6
set_option maxRecDepth 100000 in
/-- A SCRIPT THAT CAME IN -/
theorem script_of {v : Value} {ba : Nat} {d : DataW H} {p : List MemPlace} (hv : Value.okWide Tryd.prog W .any ba 31 v) (h : ∃ fuel, DataW.trod enc Tryd.prog W base sp held fuel 31 v.cells.toList = some (d, p)) :
    ∃ (s : Sc) (a : Option Addr) (cap : Nat), v = scV s.lim s.reap (.slice a s.picks.length cap) ∧ s.Wf ∧ PkV W W.heap.size a s.picks := by
  obtain ⟨cs, rfl, hc⟩ := okWide_struct Tryd.underlying31 hv
  obtain ⟨fuel, hf⟩ := h
  have hf : DataW.trod enc Tryd.prog W base sp held fuel 31 cs.toList = some (d, p) := by simpa [Value.cells] using hf
  obtain ⟨xs, m, hm, hy, hl, hlen, hx⟩ := DataW.trod_struct Tryd.underlying31 hf
  rw [cellsSc] at hl
  obtain ⟨L, rfl⟩ : ∃ L : List Value, cs = L.toArray := ⟨cs.toList, by simp⟩
  simp only [List.toList_toArray] at *
  match L, hl, xs, hlen with
  | [c0, c1, c2, c3, c4, c5, c6, c7, c8], _, [y0, y1, y2], _ =>
    have t0 : DataW.trod enc Tryd.prog W base sp held m 28 [c0, c1, c2, c3, c4, c5, c6] = some y0 := by simpa [cellsLm] using hx 0 _ rfl
    have t1 : DataW.trod enc Tryd.prog W base sp held m 4 [c7] = some y1 := by simpa [cellsBo] using hx 1 _ rfl
    have t2 : DataW.trod enc Tryd.prog W base sp held m 29 [c8] = some y2 := by simpa [cellsPs] using hx 2 _ rfl
    obtain ⟨lm, e0, w0⟩ := lmIn t0
    obtain ⟨b, e1, _⟩ := DataW.trod_bool Tryd.underlying4 t1
    obtain ⟨ps, a, cap, e2, hp, wp⟩ := picks_of t2
    simp only [List.cons.injEq, and_true] at e0 e1
    obtain ⟨rfl, rfl, rfl, rfl, rfl, rfl, rfl⟩ := e0
    subst e1 e2
    exact ⟨⟨lm, b, ps⟩, a, cap, rfl, ⟨w0, wp⟩, hp⟩
end
end Go.Proofs.YtecpknpcjoiliabDoor
