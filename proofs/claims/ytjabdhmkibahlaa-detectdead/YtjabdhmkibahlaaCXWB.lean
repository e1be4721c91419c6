import Derived.Test.YtjabdhmkibahlaaCXW
import Derived.Test.YtjabdhmkibahlaaCGP
import Derived.Below
import Derived.Lib.SmallJoins
import Derived.Deep.Slices
import Derived.ProofKit
import Derived.OpenShut
import Derived.Test.YtjabdhmkibahlaaCXL
import Derived.SizedLaws
namespace Go.Proofs.Ytjabdhmkibahlaa
open Go.RowKit
set_option linter.unusedVariables false
set_option linter.unusedSimpArgs false

set_option maxRecDepth 100000 in
theorem dead_walk (w : World) (p : Option Addr) (c : Nat) (s : List Ag) (hs : AgsR w p c s) (hz : Lists s) (hsl : s.length ≤ 1152921504606846976) (id : Int) (hid : I64 id) :
    Calls Try.prog 5 #[.slice p s.length c, .int .i64 id] w fun e w' => e = .returned (.bool true) ∧ Below w.heap.size w w' := by
  by_cases ht : totA s ≤ 2147483647
  · exact dead_light w p c s hs hz hsl ht id hid
  · have HH : Bx _ := ⟨heavy7_yes hs hz hsl ht⟩
    clear hs hz ht
    go_enter Try.func5, Try.ntmps5
    go_wp2_with (first
      | (go_at_call 22; refine Calls.mono HH.out ?_; rintro e w1 ⟨rfl, hb1⟩; have B1 : Bx (Below w.heap.size w w1) := ⟨hb1⟩; clear hb1))
    go_ret
    exact ⟨rfl, B1.out⟩
end Go.Proofs.Ytjabdhmkibahlaa
namespace Go.Proofs.Ytjabdhmkibahlaa
open Go.ChangeShapes Go.WideShapes Go.ChangeAt Go.RowKit
set_option linter.unusedVariables false
set_option linter.unusedSimpArgs false

theorem aI : Try.prog.cellsOf 3 = 1 := by kernel_rfl
theorem aB : Try.prog.cellsOf 4 = 1 := by kernel_rfl
theorem aHd : Try.prog.cellsOf 58 = 2 := by kernel_rfl
theorem aHs : Try.prog.cellsOf 51 = 1 := by kernel_rfl
theorem aIs : Try.prog.cellsOf 45 = 1 := by kernel_rfl
theorem aAg : Try.prog.cellsOf 53 = 4 := by kernel_rfl
theorem wf_i64 {n : Int} (h : (Lit.int .i64 n).wf = true) : I64 n := bounds_i64 h
theorem addr_plainO (b off i : Nat) : (⟨b, off, none⟩ : Addr).add i = ⟨b, off + i, none⟩ := by
  unfold Addr.add; split <;> simp_all
theorem later_cell {W X : World} {b o : Nat} {v : Value} (h : W.cell? ⟨b, o, none⟩ = some v) (hX : Below W.heap.size W X) : X.cell? ⟨b, o, none⟩ = some v :=
  (hX.cell (p := ⟨b, o, none⟩) (World.block_lt_of_cell? W _ h)).trans h
section
variable {H : Type} {enc : TypeId × Value → H} {W : World} {base : Nat} {sp : Nat → Bool} {held : Bool}
set_option maxRecDepth 100000 in
/-- A NUMBER THAT CAME IN -/
theorem int_of {v : Value} {ba : Nat} {d : DataW H} {p : List MemPlace} (hv : Value.okWide Try.prog W .any ba 3 v) (h : ∃ fuel, DataW.trod enc Try.prog W base sp held fuel 3 v.cells.toList = some (d, p)) :
    ∃ n : Int, v = .int .i64 n ∧ I64 n := by
  obtain ⟨n, rfl⟩ := okWide_int Try.underlying3 hv
  obtain ⟨fuel, hf⟩ := h
  obtain ⟨k, e, _, w0⟩ := DataW.trod_int Try.underlying3 (show DataW.trod enc Try.prog W base sp held fuel 3 [.int .i64 n] = some (d, p) by simpa [Value.cells] using hf)
  simp only [List.cons.injEq, and_true, Value.int.injEq, true_and] at e
  subst e
  exact ⟨n, rfl, wf_i64 w0⟩
/-- A ROW OF THINGS THAT CAME IN -/
theorem row_ofO {α : Type} {e t : TypeId} {s : Nat} (ht : Try.prog.underlying t = some (.slice e)) (hs : Try.prog.cellsOf e = s) (hs0 : 0 < s) {E : Nat → Nat → α → Prop} (x0 : α)
    (hel : ∀ fuel cs y, DataW.trod enc Try.prog W base sp held fuel e cs = some y → ∃ a : α, ∀ b o, (∀ i, i < s → W.cell? ⟨b, o + i, none⟩ = cs[i]?) → E b o a)
    {fuel : Nat} {c : Value} {y : DataW H × List MemPlace} (hf : DataW.trod enc Try.prog W base sp held fuel t [c] = some y) :
    ∃ (l : List α) (a : Option Addr) (cap : Nat), c = .slice a l.length cap ∧ l.length ≤ cap ∧ cap ≤ maxLen ∧ ∀ j (h : j < l.length), ∃ b o, a = some ⟨b, o, none⟩ ∧ E b (o + j * s) l[j] := by
  rcases Go.Deep.open_slice ht hf with ⟨hcs, _⟩ | ⟨x, len, cap, m, n, D, Pl, hcs, hb, hl, hm, hmm, _, hx⟩
  · simp at hcs
    subst hcs
    exact ⟨[], none, 0, rfl, by simp, by simp [maxLen], fun j hj => by simp at hj⟩
  · simp at hcs
    subst hcs
    have hlm : len ≤ m := by rw [hmm]; split <;> omega
    rw [hs] at hx
    have hnd : ∀ i, i < len → ∃ a : α, ∃ cs : List Value, cs.length = s ∧ (∀ j, j < s → W.cell? ((x.add (i * s)).add j) = cs[j]?) ∧ ∀ b o, (∀ i, i < s → W.cell? ⟨b, o + i, none⟩ = cs[i]?) → E b o a := fun i hi => by
      obtain ⟨cs', h1, h2⟩ := hx i (by omega)
      obtain ⟨a, h4⟩ := hel _ _ _ h2
      obtain ⟨_, h6, h5⟩ := World.cells?_some h1
      exact ⟨a, cs', h6, h5, h4⟩
    let f : Nat → α := fun i => if h : i < len then (hnd i h).choose else x0
    have hfl : ((List.range len).map f).length = len := by simp
    refine ⟨(List.range len).map f, some x, cap, by rw [hfl], by rw [hfl]; omega, hm, fun j hj => ?_⟩
    have hj' : j < len := by rw [hfl] at hj; exact hj
    have h0 : 0 < len := by omega
    obtain ⟨b, off, spot⟩ := x
    obtain ⟨cs0, hl0, hc0, _⟩ := (hnd 0 h0).choose_spec
    have hcell0 := hc0 0 hs0
    rw [List.getElem?_eq_getElem (by omega)] at hcell0
    have hspot : spot = none := by
      have := World.cell?_spot hcell0
      simpa [Addr.add] using this
    subst hspot
    refine ⟨b, off, rfl, ?_⟩
    have hfj : ((List.range len).map f)[j] = (hnd j hj').choose := by simp [f, hj']
    rw [hfj]
    obtain ⟨cs, _, hc, hE⟩ := (hnd j hj').choose_spec
    refine hE b (off + j * s) fun i hi => ?_
    have := hc i hi
    rw [addr_plainO, addr_plainO] at this
    exact this
set_option maxRecDepth 100000 in
theorem handIn {fuel : Nat} {cs : List Value} {y : DataW H × List MemPlace} (h : DataW.trod enc Try.prog W base sp held fuel 58 cs = some y) :
    ∃ a : Hd, ∀ b o, (∀ i, i < 2 → W.cell? ⟨b, o + i, none⟩ = cs[i]?) → W.cell? ⟨b, o, none⟩ = some (.int .i64 a.chan) ∧ W.cell? ⟨b, o + 1, none⟩ = some (.bool a.send) ∧ I64 a.chan := by
  obtain ⟨xs, m, _, _, hl, hlen, hx⟩ := DataW.trod_struct Try.underlying58 h
  rw [aHd] at hl
  match cs, hl, xs, hlen with
  | [c0, c1], _, [y0, y1], _ =>
    have t0 : DataW.trod enc Try.prog W base sp held m 3 [c0] = some y0 := by simpa [aI] using hx 0 _ rfl
    have t1 : DataW.trod enc Try.prog W base sp held m 4 [c1] = some y1 := by simpa [aB] using hx 1 _ rfl
    obtain ⟨u0, e0, _, w0⟩ := DataW.trod_int Try.underlying3 t0
    obtain ⟨r, e1, _⟩ := DataW.trod_bool Try.underlying4 t1
    simp only [List.cons.injEq, and_true] at e0 e1
    subst e0 e1
    exact ⟨⟨u0, r⟩, fun b o hc => ⟨hc 0 (by omega), hc 1 (by omega), wf_i64 w0⟩⟩
theorem intIn {fuel : Nat} {cs : List Value} {y : DataW H × List MemPlace} (h : DataW.trod enc Try.prog W base sp held fuel 3 cs = some y) :
    ∃ a : Int, ∀ b o, (∀ i, i < 1 → W.cell? ⟨b, o + i, none⟩ = cs[i]?) → W.cell? ⟨b, o, none⟩ = some (.int .i64 a) ∧ I64 a := by
  obtain ⟨n, e, _, w0⟩ := DataW.trod_int Try.underlying3 h
  subst e
  exact ⟨n, fun b o hc => ⟨hc 0 (by omega), wf_i64 w0⟩⟩
theorem ints_came {fuel : Nat} {c : Value} {y : DataW H × List MemPlace} (h : DataW.trod enc Try.prog W base sp held fuel 45 [c] = some y) :
    ∃ (l : List Int) (p : Option Addr) (cap : Nat), c = .slice p l.length cap ∧ IntsR W p cap l := by
  obtain ⟨l, q, d, e1, h1, h2, h3⟩ := row_ofO (E := fun b o a => W.cell? ⟨b, o, none⟩ = some (.int .i64 a) ∧ I64 a) Try.underlying45 aI (by decide) 0 (fun fuel cs y h => intIn h) h
  refine ⟨l, q, d, e1, h1, h2, fun i hi => ?_⟩
  obtain ⟨b', o', e, k1, k2⟩ := h3 i hi
  rw [Nat.mul_one] at k1
  exact ⟨b', o', e, k2, fun X hX => later_cell k1 hX⟩
theorem hands_came {fuel : Nat} {c : Value} {y : DataW H × List MemPlace} (h : DataW.trod enc Try.prog W base sp held fuel 51 [c] = some y) :
    ∃ (l : List Hd) (p : Option Addr) (cap : Nat), c = .slice p l.length cap ∧ HdsR W p cap l := by
  obtain ⟨l, q, d, e1, h1, h2, h3⟩ := row_ofO (E := fun b o (a : Hd) => W.cell? ⟨b, o, none⟩ = some (.int .i64 a.chan) ∧ W.cell? ⟨b, o + 1, none⟩ = some (.bool a.send) ∧ I64 a.chan) Try.underlying51 aHd (by decide) ⟨0, false⟩ (fun fuel cs y h => handIn h) h
  refine ⟨l, q, d, e1, h1, h2, fun i hi => ?_⟩
  obtain ⟨b', o', e, k1, k2, k3⟩ := h3 i hi
  exact ⟨b', o', e, k3, fun X hX => ⟨later_cell k1 hX, later_cell k2 hX⟩⟩
set_option maxRecDepth 100000 in
theorem agIn {fuel : Nat} {cs : List Value} {y : DataW H × List MemPlace} (h : DataW.trod enc Try.prog W base sp held fuel 53 cs = some y) :
    ∃ x : Ag, ∀ b o, (∀ i, i < 4 → W.cell? ⟨b, o + i, none⟩ = cs[i]?) → ∃ ap ac hp hc, AgR W x ap ac hp hc ∧ W.cell? ⟨b, o, none⟩ = some (.int .i64 x.id) ∧ W.cell? ⟨b, o + 1, none⟩ = some (.bool x.awake) ∧ W.cell? ⟨b, o + 2, none⟩ = some (.slice ap x.arms.length ac) ∧ W.cell? ⟨b, o + 3, none⟩ = some (.slice hp x.held.length hc) := by
  obtain ⟨xs, m, _, _, hl, hlen, hx⟩ := DataW.trod_struct Try.underlying53 h
  rw [aAg] at hl
  match cs, hl, xs, hlen with
  | [c0, c1, c2, c3], _, [y0, y1, y2, y3], _ =>
    have t0 : DataW.trod enc Try.prog W base sp held m 3 [c0] = some y0 := by simpa [aI] using hx 0 _ rfl
    have t1 : DataW.trod enc Try.prog W base sp held m 4 [c1] = some y1 := by simpa [aB] using hx 1 _ rfl
    have t2 : DataW.trod enc Try.prog W base sp held m 51 [c2] = some y2 := by simpa [aHs] using hx 2 _ rfl
    have t3 : DataW.trod enc Try.prog W base sp held m 45 [c3] = some y3 := by simpa [aIs] using hx 3 _ rfl
    obtain ⟨u0, e0, _, w0⟩ := DataW.trod_int Try.underlying3 t0
    obtain ⟨r, e1, _⟩ := DataW.trod_bool Try.underlying4 t1
    obtain ⟨l2, q2, d2, e2, h2⟩ := hands_came t2
    obtain ⟨l3, q3, d3, e3, h3⟩ := ints_came t3
    simp only [List.cons.injEq, and_true] at e0 e1
    subst e0 e1 e2 e3
    exact ⟨⟨u0, r, l2, l3⟩, fun b o hc => ⟨q2, d2, q3, d3, ⟨wf_i64 w0, h2, h3⟩, hc 0 (by omega), hc 1 (by omega), hc 2 (by omega), hc 3 (by omega)⟩⟩
/-- AGENTS THAT CAME IN -/
theorem agents_of {a : Option Addr} {len cap : Nat} {d : DataW H} {p : List MemPlace} (h : ∃ fuel, DataW.trod enc Try.prog W base sp held fuel 22 (Value.slice a len cap).cells.toList = some (d, p)) :
    ∃ l : List Ag, l.length = len ∧ AgsR W a cap l := by
  obtain ⟨fuel, hf⟩ := h
  obtain ⟨l, q, d', e1, h1, h2, h3⟩ := row_ofO (E := fun b o (x : Ag) => ∃ ap ac hp hc, AgR W x ap ac hp hc ∧ W.cell? ⟨b, o, none⟩ = some (.int .i64 x.id) ∧ W.cell? ⟨b, o + 1, none⟩ = some (.bool x.awake) ∧ W.cell? ⟨b, o + 2, none⟩ = some (.slice ap x.arms.length ac) ∧ W.cell? ⟨b, o + 3, none⟩ = some (.slice hp x.held.length hc)) Try.underlying22 aAg (by decide) (⟨0, false, [], []⟩ : Ag) (fun fuel cs y h => agIn h) (show DataW.trod enc Try.prog W base sp held fuel 22 [.slice a len cap] = some (d, p) by simpa [Value.cells] using hf)
  simp only [Value.slice.injEq] at e1
  obtain ⟨rfl, rfl, rfl⟩ := e1
  refine ⟨l, rfl, h1, h2, fun i hi => ?_⟩
  obtain ⟨b, o, e, ap, ac, hp, hc, k0, k1, k2, k3, k4⟩ := h3 i hi
  exact ⟨b, o, ap, ac, hp, hc, e, k0, fun X hX => ⟨later_cell k1 hX, later_cell k2 hX, later_cell k3 hX, later_cell k4 hX⟩⟩
/-- NUMBERS THAT CAME IN -/
theorem path_of {a : Option Addr} {len cap : Nat} {d : DataW H} {p : List MemPlace} (h : ∃ fuel, DataW.trod enc Try.prog W base sp held fuel 45 (Value.slice a len cap).cells.toList = some (d, p)) :
    ∃ l : List Int, l.length = len ∧ IntsR W a cap l := by
  obtain ⟨fuel, hf⟩ := h
  obtain ⟨l, q, d', e1, h1⟩ := ints_came (show DataW.trod enc Try.prog W base sp held fuel 45 [.slice a len cap] = some (d, p) by simpa [Value.cells] using hf)
  simp only [Value.slice.injEq] at e1
  obtain ⟨rfl, rfl, rfl⟩ := e1
  exact ⟨l, rfl, h1⟩
end
end Go.Proofs.Ytjabdhmkibahlaa
namespace Go.Proofs.Ytjabdhmkibahlaa
open Go.ChangeShapes Go.WideShapes Go.ChangeAt Go.RowKit
set_option linter.unusedVariables false
set_option linter.unusedSimpArgs false

theorem bytesIe : Try.prog.bytesOf 3 = 8 := by kernel_rfl
theorem bytesHe : Try.prog.bytesOf 58 = 16 := by kernel_rfl
theorem bytesAe : Try.prog.bytesOf 53 = 64 := by kernel_rfl
theorem mem_weightsAll {H : Type} {P : Program} {e : TypeId} {d : DataW H} {l : List (DataW H)} (h : d ∈ l) {n : Nat} (hn : n ∈ d.weights P e) : n ∈ DataW.weightsAll P e l := by
  induction l with
  | nil => cases h
  | cons x xs ih =>
    rw [DataW.weightsAll, List.mem_append]
    rcases List.mem_cons.1 h with rfl | h
    · exact .inl hn
    · exact .inr (ih h)
/-- one argument's part of what all weigh -/
theorem each_weights {H : Type} {ts : List TypeId} {ds : List (DataW H)} (h : (DataW.weightsEach Try.prog ts ds).all (· ≤ reachBytes) = true) {j : Nat} {t : TypeId} {d : DataW H} (ht : ts[j]? = some t) (hd : ds[j]? = some d) : ∀ n ∈ d.weights Try.prog t, n ≤ reachBytes := fun n hn => by
  have := List.all_eq_true.1 h n (DataW.weights_mem_each ht hd n hn)
  simpa using this
section
variable {H : Type} {enc : TypeId × Value → H} {W : World} {base : Nat} {sp : Nat → Bool} {held : Bool}
set_option maxRecDepth 100000 in
/-- A ROW OF THINGS THAT CAME IN, with how much it weighs -/
theorem row_lim {α : Type} {e t : TypeId} {s bz : Nat} (ht : Try.prog.underlying t = some (.slice e)) (hs : Try.prog.cellsOf e = s) (hs0 : 0 < s) (hbz : Try.prog.bytesOf e = bz) {E : Nat → Nat → α → Prop} {Q : α → Prop} (x0 : α)
    (hel : ∀ fuel cs y, DataW.trod enc Try.prog W base sp held fuel e cs = some y → (∀ n ∈ y.1.weights Try.prog e, n ≤ reachBytes) → ∃ a : α, Q a ∧ ∀ b o, (∀ i, i < s → W.cell? ⟨b, o + i, none⟩ = cs[i]?) → E b o a)
    {fuel : Nat} {c : Value} {y : DataW H × List MemPlace} (hf : DataW.trod enc Try.prog W base sp held fuel t [c] = some y) (hw : ∀ n ∈ y.1.weights Try.prog t, n ≤ reachBytes) :
    ∃ (l : List α) (a : Option Addr) (cap : Nat), c = .slice a l.length cap ∧ l.length * bz ≤ reachBytes ∧ (∀ x ∈ l, Q x) ∧ l.length ≤ cap ∧ cap ≤ maxLen ∧ ∀ j (h : j < l.length), ∃ b o, a = some ⟨b, o, none⟩ ∧ E b (o + j * s) l[j] := by
  rcases DataW.trod_slice ht hf with ⟨hcs, _⟩ | ⟨x, len, cap, elems, rest, n', hn', e2, hy2, _, hlc, hcm, hel2, hei, _, _⟩
  · simp at hcs
    subst hcs
    exact ⟨[], none, 0, rfl, by simp, (fun x hx => by cases hx), by simp, by simp [maxLen], fun j hj => by simp at hj⟩
  · simp at e2
    subst e2
    rw [hs] at hei
    rw [hy2] at hw
    simp only [DataW.weights, ht] at hw
    have hwl := hw _ List.mem_cons_self
    rw [hbz] at hwl
    have hnd : ∀ i, i < len → ∃ a : α, Q a ∧ ∃ cs : List Value, cs.length = s ∧ (∀ j, j < s → W.cell? ((x.add (i * s)).add j) = cs[j]?) ∧ ∀ b o, (∀ i, i < s → W.cell? ⟨b, o + i, none⟩ = cs[i]?) → E b o a := fun i hi => by
      have h1 := hei i hi
      rw [List.getElem?_eq_getElem (by omega)] at h1
      obtain ⟨cs', h2, h3⟩ := Option.bind_eq_some_iff.1 h1
      obtain ⟨a, hq, h4⟩ := hel _ _ _ h3 (fun n hn => hw n (List.mem_cons_of_mem _ (List.mem_append.2 (.inl (mem_weightsAll (List.mem_map_of_mem (List.getElem_mem _)) hn)))))
      obtain ⟨_, h6, h5⟩ := World.cells?_some h2
      exact ⟨a, hq, cs', h6, h5, h4⟩
    let f : Nat → α := fun i => if h : i < len then (hnd i h).choose else x0
    have hfl : ((List.range len).map f).length = len := by simp
    refine ⟨(List.range len).map f, some x, cap, by rw [hfl], by rw [hfl]; simp at hwl; exact Nat.le_trans (Nat.mul_le_mul_right bz (by omega)) hwl, fun z hz => ?_, by rw [hfl]; omega, hcm, fun j hj => ?_⟩
    · obtain ⟨i, hi, rfl⟩ := List.mem_map.1 hz
      have hi' : i < len := by simpa using hi
      have hfj : f i = (hnd i hi').choose := by simp [f, hi']
      rw [hfj]
      exact (hnd i hi').choose_spec.1
    have hj' : j < len := by rw [hfl] at hj; exact hj
    have h0 : 0 < len := by omega
    obtain ⟨b, off, spot⟩ := x
    obtain ⟨_, cs0, hl0, hc0, _⟩ := (hnd 0 h0).choose_spec
    have hcell0 := hc0 0 hs0
    rw [List.getElem?_eq_getElem (by omega)] at hcell0
    have hspot : spot = none := by
      have := World.cell?_spot hcell0
      simpa [Addr.add] using this
    subst hspot
    refine ⟨b, off, rfl, ?_⟩
    have hfj : ((List.range len).map f)[j] = (hnd j hj').choose := by simp [f, hj']
    rw [hfj]
    obtain ⟨_, cs, _, hc, hE⟩ := (hnd j hj').choose_spec
    refine hE b (off + j * s) fun i hi => ?_
    have := hc i hi
    rw [addr_plainO, addr_plainO] at this
    exact this
theorem ints_lim {fuel : Nat} {c : Value} {y : DataW H × List MemPlace} (h : DataW.trod enc Try.prog W base sp held fuel 45 [c] = some y) (hw : ∀ n ∈ y.1.weights Try.prog 45, n ≤ reachBytes) :
    ∃ (l : List Int) (p : Option Addr) (cap : Nat), c = .slice p l.length cap ∧ IntsR W p cap l ∧ l.length ≤ 1152921504606846976 := by
  obtain ⟨l, q, d, e1, hb, _, h1, h2, h3⟩ := row_lim (E := fun b o a => W.cell? ⟨b, o, none⟩ = some (.int .i64 a) ∧ I64 a) (Q := fun _ => True) Try.underlying45 aI (by decide) bytesIe 0 (fun fuel cs y h _ => by obtain ⟨a, ha⟩ := intIn h; exact ⟨a, trivial, ha⟩) h hw
  refine ⟨l, q, d, e1, ⟨h1, h2, fun i hi => ?_⟩, by have : reachBytes = 140737488351232 := rfl; omega⟩
  obtain ⟨b', o', e, k1, k2⟩ := h3 i hi
  rw [Nat.mul_one] at k1
  exact ⟨b', o', e, k2, fun X hX => later_cell k1 hX⟩
theorem hands_lim {fuel : Nat} {c : Value} {y : DataW H × List MemPlace} (h : DataW.trod enc Try.prog W base sp held fuel 51 [c] = some y) (hw : ∀ n ∈ y.1.weights Try.prog 51, n ≤ reachBytes) :
    ∃ (l : List Hd) (p : Option Addr) (cap : Nat), c = .slice p l.length cap ∧ HdsR W p cap l ∧ l.length ≤ 1152921504606846976 := by
  obtain ⟨l, q, d, e1, hb, _, h1, h2, h3⟩ := row_lim (E := fun b o (a : Hd) => W.cell? ⟨b, o, none⟩ = some (.int .i64 a.chan) ∧ W.cell? ⟨b, o + 1, none⟩ = some (.bool a.send) ∧ I64 a.chan) (Q := fun _ => True) Try.underlying51 aHd (by decide) bytesHe ⟨0, false⟩ (fun fuel cs y h _ => by obtain ⟨a, ha⟩ := handIn h; exact ⟨a, trivial, ha⟩) h hw
  refine ⟨l, q, d, e1, ⟨h1, h2, fun i hi => ?_⟩, by have : reachBytes = 140737488351232 := rfl; omega⟩
  obtain ⟨b', o', e, k1, k2, k3⟩ := h3 i hi
  exact ⟨b', o', e, k3, fun X hX => ⟨later_cell k1 hX, later_cell k2 hX⟩⟩
set_option maxRecDepth 100000 in
theorem ag_lim {fuel : Nat} {cs : List Value} {y : DataW H × List MemPlace} (h : DataW.trod enc Try.prog W base sp held fuel 53 cs = some y) (hw : ∀ n ∈ y.1.weights Try.prog 53, n ≤ reachBytes) :
    ∃ x : Ag, (x.arms.length ≤ 1152921504606846976 ∧ x.held.length ≤ 1152921504606846976) ∧ ∀ b o, (∀ i, i < 4 → W.cell? ⟨b, o + i, none⟩ = cs[i]?) → ∃ ap ac hp hc, AgR W x ap ac hp hc ∧ W.cell? ⟨b, o, none⟩ = some (.int .i64 x.id) ∧ W.cell? ⟨b, o + 1, none⟩ = some (.bool x.awake) ∧ W.cell? ⟨b, o + 2, none⟩ = some (.slice ap x.arms.length ac) ∧ W.cell? ⟨b, o + 3, none⟩ = some (.slice hp x.held.length hc) := by
  obtain ⟨xs, m, _, hy, hl, hlen, hx⟩ := DataW.trod_struct Try.underlying53 h
  rw [aAg] at hl
  match cs, hl, xs, hlen with
  | [c0, c1, c2, c3], _, [y0, y1, y2, y3], _ =>
    have t0 : DataW.trod enc Try.prog W base sp held m 3 [c0] = some y0 := by simpa [aI] using hx 0 _ rfl
    have t1 : DataW.trod enc Try.prog W base sp held m 4 [c1] = some y1 := by simpa [aB] using hx 1 _ rfl
    have t2 : DataW.trod enc Try.prog W base sp held m 51 [c2] = some y2 := by simpa [aHs] using hx 2 _ rfl
    have t3 : DataW.trod enc Try.prog W base sp held m 45 [c3] = some y3 := by simpa [aIs] using hx 3 _ rfl
    have hw2 : ∀ n ∈ y2.1.weights Try.prog 51, n ≤ reachBytes := fun n hn => hw n (by rw [hy]; simp only [List.map_cons, List.map_nil, DataW.weights, Try.underlying53, DataW.weightsEach]; simp [DataW.weightsEach, hn])
    have hw3 : ∀ n ∈ y3.1.weights Try.prog 45, n ≤ reachBytes := fun n hn => hw n (by rw [hy]; simp only [List.map_cons, List.map_nil, DataW.weights, Try.underlying53, DataW.weightsEach]; simp [DataW.weightsEach, hn])
    obtain ⟨u0, e0, _, w0⟩ := DataW.trod_int Try.underlying3 t0
    obtain ⟨r, e1, _⟩ := DataW.trod_bool Try.underlying4 t1
    obtain ⟨l2, q2, d2, e2, h2, z2⟩ := hands_lim t2 hw2
    obtain ⟨l3, q3, d3, e3, h3, z3⟩ := ints_lim t3 hw3
    simp only [List.cons.injEq, and_true] at e0 e1
    subst e0 e1 e2 e3
    exact ⟨⟨u0, r, l2, l3⟩, ⟨z2, z3⟩, fun b o hc => ⟨q2, d2, q3, d3, ⟨wf_i64 w0, h2, h3⟩, hc 0 (by omega), hc 1 (by omega), hc 2 (by omega), hc 3 (by omega)⟩⟩
/-- AGENTS THAT CAME IN, none of whose lists is too long -/
theorem agents_lim {a : Option Addr} {len cap : Nat} {d : DataW H} {p : List MemPlace} (h : ∃ fuel, DataW.trod enc Try.prog W base sp held fuel 22 (Value.slice a len cap).cells.toList = some (d, p)) (hw : ∀ n ∈ d.weights Try.prog 22, n ≤ reachBytes) :
    ∃ l : List Ag, l.length = len ∧ AgsR W a cap l ∧ Lists l ∧ l.length ≤ 1152921504606846976 := by
  obtain ⟨fuel, hf⟩ := h
  obtain ⟨l, q, d', e1, hb, hq, h1, h2, h3⟩ := row_lim (E := fun b o (x : Ag) => ∃ ap ac hp hc, AgR W x ap ac hp hc ∧ W.cell? ⟨b, o, none⟩ = some (.int .i64 x.id) ∧ W.cell? ⟨b, o + 1, none⟩ = some (.bool x.awake) ∧ W.cell? ⟨b, o + 2, none⟩ = some (.slice ap x.arms.length ac) ∧ W.cell? ⟨b, o + 3, none⟩ = some (.slice hp x.held.length hc)) (Q := fun x : Ag => x.arms.length ≤ 1152921504606846976 ∧ x.held.length ≤ 1152921504606846976) Try.underlying22 aAg (by decide) bytesAe (⟨0, false, [], []⟩ : Ag) (fun fuel cs y h hw => ag_lim h hw) (show DataW.trod enc Try.prog W base sp held fuel 22 [.slice a len cap] = some (d, p) by simpa [Value.cells] using hf) hw
  simp only [Value.slice.injEq] at e1
  obtain ⟨rfl, rfl, rfl⟩ := e1
  refine ⟨l, rfl, ⟨h1, h2, fun i hi => ?_⟩, fun x hx => hq x hx, by have : reachBytes = 140737488351232 := rfl; omega⟩
  obtain ⟨b, o, e, ap, ac, hp, hc, k0, k1, k2, k3, k4⟩ := h3 i hi
  exact ⟨b, o, ap, ac, hp, hc, e, k0, fun X hX => ⟨later_cell k1 hX, later_cell k2 hX, later_cell k3 hX, later_cell k4 hX⟩⟩
end
end Go.Proofs.Ytjabdhmkibahlaa
