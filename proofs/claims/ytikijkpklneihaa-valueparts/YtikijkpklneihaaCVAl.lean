import Derived.Test.YtikijkpklneihaaCVArg
import Derived.Test.YtikijkpklneihaaCVGt
import Derived.SizedLaws
namespace Go.Proofs.Ytikijkpklneihaa
open Go.ChangeShapes Go.WideShapes Go.ChangeAt Go.RowKit
set_option linter.unusedVariables false
set_option linter.unusedSimpArgs false

theorem bytesV : Try.prog.bytesOf 24 = 40 := by kernel_rfl
theorem mem_weightsAll {H : Type} {P : Program} {e : TypeId} {d : DataW H} {l : List (DataW H)} (h : d ∈ l) {n : Nat} (hn : n ∈ d.weights P e) : n ∈ DataW.weightsAll P e l := by
  induction l with
  | nil => cases h
  | cons x xs ih =>
    rw [DataW.weightsAll, List.mem_append]
    rcases List.mem_cons.1 h with rfl | h
    · exact .inl hn
    · exact .inr (ih h)
/-- one argument's part of what all weigh -/
theorem each_weights {H : Type} {ts : List TypeId} {ds : List (DataW H)} (h : (DataW.weightsEach Try.prog ts ds).all (· ≤ reachBytes) = true) {j : Nat} {t : TypeId} {d : DataW H} (ht : ts[j]? = some t) (hd : ds[j]? = some d) : ∀ n ∈ d.weights Try.prog t, n ≤ reachBytes := fun n hn => by
  have := List.all_eq_true.1 h n (DataW.weights_mem_each ht hd n hn)
  simpa using this
section
variable {H : Type} {enc : TypeId × Value → H} {W : World} {base : Nat} {sp : Nat → Bool} {held : Bool}
set_option maxRecDepth 100000 in
/-- a value's cells that came in -/
theorem cells_lim : ∀ {fuel : Nat} {cs : List Value} {y : DataW H × List MemPlace}, DataW.trod enc Try.prog W base sp held fuel 24 cs = some y → (∀ n ∈ y.1.weights Try.prog 24, n ≤ reachBytes) →
    ∃ (x : V) (p : Option Addr) (c : Nat), cs = [.int .i64 x.k, .int .i64 x.n, .slice p x.l.length c] ∧ SlV W W.heap.size p c x.l ∧ I64 x.k ∧ I64 x.n ∧ Lim x := by
  intro fuel
  induction fuel using Nat.strongRecOn with
  | _ fuel ih =>
    intro cs y h hwt
    obtain ⟨xs, m, hm, hy, hl, hlen, hx⟩ := DataW.trod_struct Try.underlying24 h
    rw [cellsV] at hl
    match cs, hl, xs, hlen with
    | [c0, c1, c2], _, [y0, y1, y2], _ =>
      have t0 : DataW.trod enc Try.prog W base sp held m 3 [c0] = some y0 := by simpa [cellsI] using hx 0 _ rfl
      have t1 : DataW.trod enc Try.prog W base sp held m 3 [c1] = some y1 := by simpa [cellsI] using hx 1 _ rfl
      have t2 : DataW.trod enc Try.prog W base sp held m 22 [c2] = some y2 := by simpa [cellsS] using hx 2 _ rfl
      have hw2 : ∀ n ∈ y2.1.weights Try.prog 22, n ≤ reachBytes := fun n hn => hwt n (by rw [hy]; simp only [List.map_cons, List.map_nil, DataW.weights, Try.underlying24, DataW.weightsEach]; simp [DataW.weightsEach, hn])
      obtain ⟨k, e0, _, w0⟩ := DataW.trod_int Try.underlying3 t0
      obtain ⟨n, e1, _, w1⟩ := DataW.trod_int Try.underlying3 t1
      simp only [List.cons.injEq, and_true] at e0 e1
      subst e0 e1
      rcases DataW.trod_slice Try.underlying22 t2 with ⟨e2, _⟩ | ⟨a, len, cap, elems, rest, n', hn', e2, hy2, _, hlc, hcm, hel, hei, _, _⟩
      · simp only [List.cons.injEq, and_true] at e2
        subst e2
        exact ⟨.mk k n [], none, 0, rfl, ⟨by simp [V.l], by simp [maxLen], .inl rfl⟩, wf_i64 w0, wf_i64 w1, Lim.of (by simp [V.l]) (fun z hz => by simp [V.l] at hz)⟩
      · simp only [List.cons.injEq, and_true] at e2
        subst e2
        rw [cellsV] at hei
        rw [hy2] at hw2
        simp only [DataW.weights, Try.underlying22] at hw2
        have hwl := hw2 _ List.mem_cons_self
        rw [bytesV] at hwl
        have hnd : ∀ i, i < len → ∃ (x : V) (p : Option Addr) (c : Nat), (∀ j, j < 3 → W.cell? ((a.add (i * 3)).add j) = [Value.int .i64 x.k, .int .i64 x.n, .slice p x.l.length c][j]?) ∧ SlV W W.heap.size p c x.l ∧ I64 x.k ∧ I64 x.n ∧ Lim x := fun i hi => by
          have h1 := hei i hi
          rw [List.getElem?_eq_getElem (by omega)] at h1
          obtain ⟨cs', h2, h3⟩ := Option.bind_eq_some_iff.1 h1
          obtain ⟨x, p, c, rfl, h4, h5, h6, h8⟩ := ih n' (by omega) h3 (fun n hn => hw2 n (List.mem_cons_of_mem _ (List.mem_append.2 (.inl (mem_weightsAll (List.mem_map_of_mem (List.getElem_mem _)) hn)))))
          obtain ⟨_, _, h7⟩ := World.cells?_some h2
          exact ⟨x, p, c, h7, h4, h5, h6, h8⟩
        let f : Nat → V := fun i => if h : i < len then (hnd i h).choose else v0
        have hfl : ((List.range len).map f).length = len := by simp
        have hfi : ∀ i (h : i < ((List.range len).map f).length), ((List.range len).map f)[i] = f i := fun i h => by simp
        refine ⟨.mk k n ((List.range len).map f), some a, cap, by simp [V.k, V.n, V.l], ⟨by rw [V.l, hfl]; exact hlc, hcm, ?_⟩, wf_i64 w0, wf_i64 w1, Lim.of (by rw [V.l, hfl]; simp at hwl; have : reachBytes = 140737488351232 := rfl; omega) (fun z hz => ?_)⟩
        rotate_left
        · rw [V.l] at hz
          obtain ⟨i, hi, rfl⟩ := List.mem_map.1 hz
          have hi' : i < len := by simpa using hi
          have hfj : f i = (hnd i hi').choose := by simp [f, hi']
          rw [hfj]
          obtain ⟨_, _, _, _, _, _, h⟩ := (hnd i hi').choose_spec
          exact h
        rw [V.l]
        rcases Nat.eq_zero_or_pos len with h0 | h0
        · left
          exact List.eq_nil_of_length_eq_zero (by rw [hfl]; exact h0)
        · right
          obtain ⟨b, off, spot⟩ := a
          obtain ⟨x0, p0, cc0, hc0, _⟩ := hnd 0 h0
          have hcell0 := hc0 0 (by omega)
          have hspot : spot = none := by
            have := World.cell?_spot hcell0
            simpa [Addr.add] using this
          subst hspot
          have hblk : b < W.heap.size := by
            have := World.block_lt_of_cell? W _ hcell0
            simpa [Addr.add] using this
          refine ⟨b, off, rfl, hblk, AtVs.of_get (fun i hi => ?_)⟩
          rw [hfi i hi]
          rw [hfl] at hi
          have hfj : f i = (hnd i hi).choose := by simp [f, hi]
          rw [hfj]
          have hsp := (hnd i hi).choose_spec
          generalize (hnd i hi).choose = nd at hsp ⊢
          obtain ⟨p, c, hc, hk, h5, h6, _⟩ := hsp
          simp only [addr_plain] at hc
          rw [Nat.mul_comm 3 i]
          exact ⟨hc 0 (by omega), hc 1 (by omega), h5, h6, p, c, hc 2 (by omega), hk⟩
/-- A VALUE THAT CAME IN -/
theorem value_lim {v : Value} {ba : Nat} {d : DataW H} {p : List MemPlace} (hv : Value.okWide Try.prog W .any ba 24 v) (h : ∃ fuel, DataW.trod enc Try.prog W base sp held fuel 24 v.cells.toList = some (d, p)) (hw : ∀ n ∈ d.weights Try.prog 24, n ≤ reachBytes) :
    ∃ x : V, IsV W W.heap.size v x ∧ Lim x := by
  obtain ⟨cs, rfl, hc⟩ := okWide_struct Try.underlying24 hv
  obtain ⟨fuel, hf⟩ := h
  have hf : DataW.trod enc Try.prog W base sp held fuel 24 cs.toList = some (d, p) := by simpa [Value.cells] using hf
  obtain ⟨x, q, c, e, h1, h2, h3, h4⟩ := cells_lim hf hw
  have : cs = #[.int .i64 x.k, .int .i64 x.n, .slice q x.l.length c] := by cases cs; simp_all
  exact ⟨x, ⟨⟨q, c, by rw [this], h1⟩, h2, h3⟩, h4⟩
end
end Go.Proofs.Ytikijkpklneihaa
namespace Go.Proofs.Ytikijkpklneihaa
open Go.ChangeShapes Go.WideShapes Go.ChangeAt Go.RowKit
set_option linter.unusedVariables false
set_option linter.unusedSimpArgs false

theorem bytesI : Try.prog.bytesOf 3 = 8 := by kernel_rfl
section
variable {H : Type} {enc : TypeId × Value → H} {W : World} {base : Nat} {sp : Nat → Bool} {held : Bool}
/-- how long a list of numbers that came in may be -/
theorem path_lim {a : Option Addr} {len cap : Nat} {d : DataW H} {p : List MemPlace} (h : ∃ fuel, DataW.trod enc Try.prog W base sp held fuel 25 (Value.slice a len cap).cells.toList = some (d, p)) (hw : ∀ n ∈ d.weights Try.prog 25, n ≤ reachBytes) : len ≤ 17592186044000 := by
  obtain ⟨fuel, hf⟩ := h
  have hf : DataW.trod enc Try.prog W base sp held fuel 25 [.slice a len cap] = some (d, p) := by simpa [Value.cells] using hf
  rcases DataW.trod_slice Try.underlying25 hf with ⟨e2, _⟩ | ⟨a', len', cap', elems, rest, n', hn', e2, hy2, _, hlc, hcm, hel, hei, _, _⟩
  · simp at e2
    omega
  · simp only [List.cons.injEq, and_true, Value.slice.injEq] at e2
    obtain ⟨rfl, rfl, rfl⟩ := e2
    have e3 := congrArg Prod.fst hy2
    simp only at e3
    rw [e3] at hw
    simp only [DataW.weights, Try.underlying25] at hw
    have hwl := hw _ List.mem_cons_self
    rw [bytesI] at hwl
    simp at hwl
    have : reachBytes = 140737488351232 := rfl
    omega
end
end Go.Proofs.Ytikijkpklneihaa
