import Derived.Test.YtadmpgegolmkgaaDoorBDP
import Derived.Test.YtadmpgegolmkgaaDoorRows
import Derived.ProofKit
import Derived.LaidMore
import Derived.OpenShut
import Derived.Stop.Joined
import Derived.Stop.LaidErr
import Derived.Lib.LaidTab
import Derived.Test.YtadmpgegolmkgaaDoorBWzA
import Derived.Below
import Derived.Lib.SmallJoins
import Derived.Deep.Slices
import Derived.SizedLaws
set_option linter.unusedVariables false
set_option linter.unusedSimpArgs false
set_option maxHeartbeats 4000000
set_option maxRecDepth 100000
namespace Go.Proofs.YtadmpgegolmkgaaDoor
open Go.ChangeShapes Go.WideShapes Go.ChangeAt Go.RowKit
theorem own : ownKnob Tryd.prog.godebug = none := by kernel_rfl
def pW : List (String × DataW Unit) := [("math/bits.deBruijn64tab", Rows.laid_math_bits_deBruijn64tab), ("squint/code.shapes", Rows.laid_squint_code_shapes), ("squint/verify.shapes", Rows.laid_squint_verify_shapes)]
theorem yP (os : Os) (args : Array Value) : laidMetH Tryd.prog pW ((World.doorLaid Tryd.prog 400 os).forCall (fun _ _ => 0) ⟨#[], args, []⟩).memory :=
 laidMetH_of_parts3 (fuel := 8) (laidMet_of_run' 8 (by kernel_rfl) (by kernel_rfl)) (by kernel_rfl) (by kernel_rfl)
theorem Am : Tryd.prog.globalNamed "squint/code.shapes" = some 0 := by kernel_rfl
theorem Ao : (Tryd.prog.globals[0]?).map (·.type) = some 97 := by kernel_rfl
theorem gV : Tryd.prog.globalNamed "squint/verify.shapes" = some 1 := by kernel_rfl
theorem tV : (Tryd.prog.globals[1]?).map (·.type) = some 107 := by kernel_rfl
theorem gDb : Tryd.prog.globalNamed "math/bits.deBruijn64tab" = some 2 := by kernel_rfl
theorem pX : Tryd.prog.cellsOf 80 = 4 := by kernel_rfl
theorem pY : Tryd.prog.cellsOf 106 = 3 := by kernel_rfl
theorem jK : Tryd.prog.cellsOf 104 = 1 := by kernel_rfl
theorem yQ : Tryd.prog.cellsOf 9 = 1 := by kernel_rfl
theorem yR : Tryd.prog.cellsOf 78 = 1 := by kernel_rfl
theorem dY : Tryd.prog.cellsOf 3 = 1 := by kernel_rfl
def vF (s : List UInt8 × Int × Int × Int) : DataW Unit := .agg [.lit (.string s.1), .lit (.int .i64 s.2.1), .lit (.int .i64 s.2.2.1), .lit (.int .i64 s.2.2.2)]
theorem nU : (Rows.laid_squint_code_shapes : DataW Unit) = .agg (aS.map vF) := by kernel_rfl
theorem lH {rest : List (String × DataW Unit)} {W : World} (h : laidMet Tryd.prog (("squint/code.shapes", .agg (aS.map vF)) :: rest) W) : Shp W := by
 obtain ⟨ps, ⟨g0, t0, cs0, f0, p0, q0, hg0, ht0, hv0, hd0, _, e0⟩, _, _⟩ := h
 obtain rfl := Option.some.inj (Am.symm.trans hg0)
 obtain rfl := Option.some.inj (Ao.symm.trans ht0)
 obtain ⟨xs, m, _, hx, _, hn, hel⟩ := DataW.trod_array Tryd.underlying97 hd0
 have hx1 : aS.map vF = xs.map (·.1) := by
  have := congrArg Prod.fst hx
  simpa using this
 have hlen : xs.length = 28 := by
  have := congrArg List.length hx1
  simp at this
  have e : aS.length = 28 := rfl
  omega
 have key : ∀ k, k < 28 -> cs0[k * 4]? = some (jR (aS.getD k aT).1) /\ cs0[k * 4 + 1]? = some (.int .i64 (aS.getD k aT).2.1) /\ cs0[k * 4 + 2]? = some (.int .i64 (aS.getD k aT).2.2.1) /\ cs0[k * 4 + 3]? = some (.int .i64 (aS.getD k aT).2.2.2) := by
  intro k hk
  have he := hel k (by omega)
  have hxi : k < xs.length := by omega
  rw [List.getElem?_eq_getElem hxi, pX] at he
  have h2 : vF (aS.getD k aT) = (xs[k]).1 := by
   have e : (aS.map vF)[k]? = (xs.map (·.1))[k]? := by rw [hx1]
   have hs : k < aS.length := hk
   simp only [List.getElem?_map, List.getElem?_eq_getElem hs, List.getElem?_eq_getElem hxi, Option.map_some, Option.some.injEq] at e
   rw [List.getD_eq_getElem?_getD, List.getElem?_eq_getElem hs]
   exact e
  generalize aS.getD k aT = s at *
  generalize xs[k] = y at *
  have hcs : ∀ j, j < 4 -> cs0[k * 4 + j]? = ((cs0.toList.drop (k * 4)).take 4)[j]? := fun j hj => by
   rw [List.getElem?_take_of_lt hj, List.getElem?_drop, Array.getElem?_toList]
  generalize (cs0.toList.drop (k * 4)).take 4 = L at *
  obtain ⟨ys, n, _, hy, hl, hlen2, hf⟩ := DataW.trod_struct Tryd.underlying80 he
  rw [pX] at hl
  match L, hl, ys, hlen2 with
  | [c0, c1, c2, c3], _, [y0, y1, y2, y3], _ =>
   have t0 : DataW.trod (fun _ => ()) Tryd.prog W 0 (fun _ => true) false n 9 [c0] = some y0 := by simpa [yQ] using hf 0 _ rfl
   have t1 : DataW.trod (fun _ => ()) Tryd.prog W 0 (fun _ => true) false n 78 [c1] = some y1 := by simpa [yR] using hf 1 _ rfl
   have t2 : DataW.trod (fun _ => ()) Tryd.prog W 0 (fun _ => true) false n 3 [c2] = some y2 := by simpa [dY] using hf 2 _ rfl
   have t3 : DataW.trod (fun _ => ()) Tryd.prog W 0 (fun _ => true) false n 3 [c3] = some y3 := by simpa [dY] using hf 3 _ rfl
   obtain ⟨u0, a0, b0, _⟩ := DataW.trod_string Tryd.underlying9 t0
   obtain ⟨u1, a1, b1, _⟩ := DataW.trod_int Tryd.underlying78 t1
   obtain ⟨u2, a2, b2, _⟩ := DataW.trod_int Tryd.underlying3 t2
   obtain ⟨u3, a3, b3, _⟩ := DataW.trod_int Tryd.underlying3 t3
   simp only [List.cons.injEq, and_true] at a0 a1 a2 a3
   have hy1 : y.1 = .agg [y0.1, y1.1, y2.1, y3.1] := by rw [hy]; rfl
   rw [hy1, b0, b1, b2, b3] at h2
   unfold vF at h2
   simp only [DataW.agg.injEq, List.cons.injEq, DataW.lit.injEq, and_true] at h2
   obtain ⟨m0, m1, m2, m3⟩ := h2
   injection m0 with m0
   injection m1 with _ m1
   injection m2 with _ m2
   injection m3 with _ m3
   have q0 := hcs 0 (by omega)
   have q1 := hcs 1 (by omega)
   have q2 := hcs 2 (by omega)
   have q3 := hcs 3 (by omega)
   have eu : u0 = ⟨s.1.toArray⟩ := by rw [m0]
   refine ⟨?_, ?_, ?_, ?_⟩
   ·rw [Nat.add_zero] at q0; rw [q0]; show some c0 = _; rw [a0, eu]
   ·rw [q1]; show some c1 = _; rw [a1, m1]
   ·rw [q2]; show some c2 = _; rw [a2, m2]
   ·rw [q3]; show some c3 = _; rw [a3, m3]
 have hc := fun i => World.var?_cell hg0 hv0 i
 have hlt : 0 < W.heap.size := by
  have h0 : W.cell? ⟨0, 0, none⟩ = some (jR (aS.getD 0 aT).1) := by
   rw [hc]
   exact (key 0 (by omega)).1
  exact World.block_lt_of_cell? W _ h0
 exact ⟨fun k hk => by rw [hc]; exact (key k hk).1, fun k hk => by rw [hc]; exact (key k hk).2.1, fun k hk => by rw [hc]; exact (key k hk).2.2.1, fun k hk => by rw [hc]; exact (key k hk).2.2.2, hlt⟩
def vsD (s : Int × Int × Int) : DataW Unit := .agg [.lit (.int .i64 s.1), .lit (.int .i64 s.2.1), .lit (.int .i64 s.2.2)]
theorem yS : (Rows.laid_squint_verify_shapes : DataW Unit) = .agg (vsT.map vsD) := by kernel_rfl
theorem rA {rest : List (String × DataW Unit)} {W : World} (h : laidMet Tryd.prog (("squint/verify.shapes", .agg (vsT.map vsD)) :: rest) W) : ∀ k, k < 28 -> W.cell? ⟨1, k * 3, none⟩ = some (.int .i64 (vsT.getD k (0, 0, 0)).1) /\ W.cell? ⟨1, k * 3 + 1, none⟩ = some (.int .i64 (vsT.getD k (0, 0, 0)).2.1) /\ W.cell? ⟨1, k * 3 + 2, none⟩ = some (.int .i64 (vsT.getD k (0, 0, 0)).2.2) := by
 obtain ⟨ps, ⟨g0, t0, cs0, f0, p0, q0, hg0, ht0, hv0, hd0, _, e0⟩, _, _⟩ := h
 obtain rfl := Option.some.inj (gV.symm.trans hg0)
 obtain rfl := Option.some.inj (tV.symm.trans ht0)
 obtain ⟨xs, m, _, hx, _, hn, hel⟩ := DataW.trod_array Tryd.underlying107 hd0
 have hx1 : vsT.map vsD = xs.map (·.1) := by
  have := congrArg Prod.fst hx
  simpa using this
 have hlen : xs.length = 28 := by
  have := congrArg List.length hx1
  simp at this
  have e : vsT.length = 28 := rfl
  omega
 have hc := fun i => World.var?_cell hg0 hv0 i
 intro k hk
 rw [hc, hc, hc]
 have he := hel k (by omega)
 have hxi : k < xs.length := by omega
 rw [List.getElem?_eq_getElem hxi, pY] at he
 have h2 : vsD (vsT.getD k (0, 0, 0)) = (xs[k]).1 := by
  have e : (vsT.map vsD)[k]? = (xs.map (·.1))[k]? := by rw [hx1]
  have hs : k < vsT.length := hk
  simp only [List.getElem?_map, List.getElem?_eq_getElem hs, List.getElem?_eq_getElem hxi, Option.map_some, Option.some.injEq] at e
  rw [List.getD_eq_getElem?_getD, List.getElem?_eq_getElem hs]
  exact e
 generalize vsT.getD k (0, 0, 0) = s at *
 generalize xs[k] = y at *
 have hcs : ∀ j, j < 3 -> cs0[k * 3 + j]? = ((cs0.toList.drop (k * 3)).take 3)[j]? := fun j hj => by
  rw [List.getElem?_take_of_lt hj, List.getElem?_drop, Array.getElem?_toList]
 generalize (cs0.toList.drop (k * 3)).take 3 = L at *
 obtain ⟨ys, n, _, hy, hl, hlen2, hf⟩ := DataW.trod_struct Tryd.underlying106 he
 rw [pY] at hl
 match L, hl, ys, hlen2 with
 | [c0, c1, c2], _, [y0, y1, y2], _ =>
  have t0 : DataW.trod (fun _ => ()) Tryd.prog W 0 (fun _ => true) false n 104 [c0] = some y0 := by simpa [jK] using hf 0 _ rfl
  have t1 : DataW.trod (fun _ => ()) Tryd.prog W 0 (fun _ => true) false n 104 [c1] = some y1 := by simpa [jK] using hf 1 _ rfl
  have t2 : DataW.trod (fun _ => ()) Tryd.prog W 0 (fun _ => true) false n 104 [c2] = some y2 := by simpa [jK] using hf 2 _ rfl
  obtain ⟨u0, a0, b0, _⟩ := DataW.trod_int Tryd.underlying104 t0
  obtain ⟨u1, a1, b1, _⟩ := DataW.trod_int Tryd.underlying104 t1
  obtain ⟨u2, a2, b2, _⟩ := DataW.trod_int Tryd.underlying104 t2
  simp only [List.cons.injEq, and_true] at a0 a1 a2
  have hy1 : y.1 = .agg [y0.1, y1.1, y2.1] := by rw [hy]; rfl
  rw [hy1, b0, b1, b2] at h2
  unfold vsD at h2
  simp only [DataW.agg.injEq, List.cons.injEq, DataW.lit.injEq, and_true] at h2
  obtain ⟨m0, m1, m2⟩ := h2
  injection m0 with _ m0
  injection m1 with _ m1
  injection m2 with _ m2
  have q0 := hcs 0 (by omega)
  have q1 := hcs 1 (by omega)
  have q2 := hcs 2 (by omega)
  refine ⟨?_, ?_, ?_⟩
  ·rw [Nat.add_zero] at q0; rw [q0]; show some c0 = _; rw [a0, m0]
  ·rw [q1]; show some c1 = _; rw [a1, m1]
  ·rw [q2]; show some c2 = _; rw [a2, m2]
theorem Ap (W : World) (h : laidMetH Tryd.prog pW W) : VW W := by
 rw [MakeChecks.laidMetH_plain _ _ _ (by kernel_rfl)] at h
 have h0 : laidMet Tryd.prog (("math/bits.deBruijn64tab", Rows.laid_math_bits_deBruijn64tab) :: ("squint/code.shapes", Rows.laid_squint_code_shapes) :: ("squint/verify.shapes", Rows.laid_squint_verify_shapes) :: []) W := h
 have h1 := h0.tail
 have h2 := h0.tail.tail
 rw [nU] at h1
 rw [yS] at h2
 have hv := rA h2
 have hp : Lib.TabIs Tryd.prog W "math/bits.deBruijn64tab" .u8 dbT := Lib.tabIs_of_head (t := 135) (e := 5) (n := 64) gDb (by kernel_rfl) (by kernel_rfl) (by kernel_rfl) (by kernel_rfl) (by kernel_rfl) h0
 have hdb : ∀ k, k < 64 -> W.cell? ⟨2, k, none⟩ = some (.int .u8 (dbT.getD k 0)) := fun k hk => by
  unfold Lib.TabIs at hp
  rw [World.var?_cell gDb hp k]
  have hs : k < dbT.length := hk
  rw [List.getD_eq_getElem?_getD, List.getElem?_eq_getElem hs]
  simp [hs]
 exact ⟨lH h1, hdb, fun k hk => (hv k hk).1, fun k hk => (hv k hk).2.1, fun k hk => (hv k hk).2.2, World.block_lt_of_cell? W _ (hdb 0 (by omega)), World.block_lt_of_cell? W _ (hv 0 (by omega)).1⟩
end Go.Proofs.YtadmpgegolmkgaaDoor
namespace Go.Proofs.YtadmpgegolmkgaaDoor
open Go.ChangeShapes Go.WideShapes Go.ChangeAt Go.RowKit
theorem p8 : Tryd.prog.cellsOf 43 = 4 := by kernel_rfl
theorem sM : Tryd.prog.cellsOf 32 = 1 := by kernel_rfl
theorem sN : Tryd.prog.cellsOf 49 = 3 := by kernel_rfl
theorem sO : Tryd.prog.cellsOf 40 = 5 := by kernel_rfl
theorem Aq : Tryd.prog.cellsOf 25 = 2 := by kernel_rfl
theorem sP : Tryd.prog.cellsOf 4 = 1 := by kernel_rfl
theorem Ar : Tryd.prog.cellsOf 23 = 1 := by kernel_rfl
theorem sQ : Tryd.prog.cellsOf 22 = 1 := by kernel_rfl
theorem yT : Tryd.prog.cellsOf 38 = 1 := by kernel_rfl
theorem yU : Tryd.prog.bytesOf 43 = 48 := by kernel_rfl
theorem Au : Tryd.prog.bytesOf 49 = 40 := by kernel_rfl
theorem Av : Tryd.prog.bytesOf 40 = 56 := by kernel_rfl
theorem yV : Tryd.prog.bytesOf 3 = 8 := by kernel_rfl
theorem gq (b off i : Nat) : (⟨b, off, none⟩ : Addr).add i = ⟨b, off + i, none⟩ := by
 unfold Addr.add; split <;> simp_all
theorem nV {H : Type} {ts : List TypeId} {ds : List (DataW H)} (h : (DataW.weightsEach Tryd.prog ts ds).all (· <= reachBytes) = true) {j : Nat} {t : TypeId} {d : DataW H} (ht : ts[j]? = some t) (hd : ds[j]? = some d) : ∀ n ∈ d.weights Tryd.prog t, n <= reachBytes := fun n hn => by
 have := List.all_eq_true.1 h n (DataW.weights_mem_each ht hd n hn)
 simpa using this
theorem lI {H : Type} {P : Program} {e : TypeId} {d : DataW H} {l : List (DataW H)} (h : d ∈ l) {n : Nat} (hn : n ∈ d.weights P e) : n ∈ DataW.weightsAll P e l := by
 induction l with
 | nil => cases h
 | cons x xs ih =>
  rw [DataW.weightsAll, List.mem_append]
  rcases List.mem_cons.1 h with rfl | h
  ·exact .inl hn
  ·exact .inr (ih h)
section
variable {H : Type} {enc : TypeId × Value -> H} {W : World} {base : Nat} {sp : Nat -> Bool} {held : Bool}
theorem BB {v : Value} {ba : Nat} {d : DataW H} {p : List MemPlace} (hv : Value.okWide Tryd.prog W .any ba 3 v) (h : ∃ fuel, DataW.trod enc Tryd.prog W base sp held fuel 3 v.cells.toList = some (d, p)) :
  ∃ n : Int, v = .int .i64 n /\ I64 n := by
 obtain ⟨n, rfl⟩ := okWide_int Tryd.underlying3 hv
 obtain ⟨fuel, hf⟩ := h
 obtain ⟨k, e, _, w0⟩ := DataW.trod_int Tryd.underlying3 (show DataW.trod enc Tryd.prog W base sp held fuel 3 [.int .i64 n] = some (d, p) by simpa [Value.cells] using hf)
 simp only [List.cons.injEq, and_true, Value.int.injEq, true_and] at e
 subst e
 exact ⟨n, rfl, bounds_i64 w0⟩
theorem sS {fuel : Nat} {c : Value} {y : DataW H × List MemPlace} (hf : DataW.trod enc Tryd.prog W base sp held fuel 32 [c] = some y) (hw : ∀ n ∈ y.1.weights Tryd.prog 32, n <= reachBytes) :
  ∃ (ks : List Int) (a : Option Addr) (cap : Nat), c = .slice a ks.length cap /\ aF W W.heap.size a cap ks /\ (∀ k ∈ ks, I64 k) /\ ks.length <= 17592186043904 := by
 rcases open_ints Tryd.underlying32 Tryd.underlying3 dY hf with ⟨hcs, _⟩ | ⟨x, l, cp, zs, hcs, _, hl, hm, hz, hy, hcell, hwz⟩
 ·simp at hcs
  subst hcs
  exact ⟨[], none, 0, rfl, iF _ _ _ _, fun k hk => by simp at hk, by simp⟩
 ·simp at hcs
  subst hcs
  have hz' : l <= zs.length := by rw [hz]; split <;> omega
  have hlen : (zs.take l).length = l := by simp; omega
  rw [hy] at hw
  simp only [DataW.weights, Tryd.underlying32] at hw
  have hwl := hw _ List.mem_cons_self
  rw [yV] at hwl
  have hr : reachBytes = 140737488351232 := rfl
  have hll : l <= 17592186043904 := by
   rw [hr] at hwl
   simp [lits] at hwl
   omega
  refine ⟨zs.take l, some x, cp, by rw [hlen], ⟨by omega, by omega, fun h0 => ?_⟩, fun k hk => ?_, by omega⟩
  ·rw [hlen] at h0
   obtain ⟨b, off, spot⟩ := x
   have hc0 := hcell 0 (by omega)
   have hspot : spot = none := by simpa [Addr.add] using World.cell?_spot hc0
   subst hspot
   have hb := World.block_lt_of_cell? W _ hc0
   rw [gq] at hb
   refine ⟨b, off, rfl, hb, fun i hi => ?_⟩
   rw [hlen] at hi
   have hc := hcell i (by omega)
   rw [gq] at hc
   rw [hc]
   have hi' : i < zs.length := by omega
   simp [List.getD, hi']
  ·exact bounds_i64 (hwz k (List.mem_of_mem_take hk))
theorem rC {α : Type} {e t : TypeId} {s bz : Nat} (ht : Tryd.prog.underlying t = some (.slice e)) (hs : Tryd.prog.cellsOf e = s) (hs0 : 0 < s) (hbz : Tryd.prog.bytesOf e = bz) {E : Nat -> Nat -> α -> Prop} {Wf : α -> Prop} (x0 : α)
  (hel : ∀ fuel cs y, DataW.trod enc Tryd.prog W base sp held fuel e cs = some y -> (∀ n ∈ y.1.weights Tryd.prog e, n <= reachBytes) -> ∃ a : α, Wf a /\ ∀ b o, (∀ i, i < s -> W.cell? ⟨b, o + i, none⟩ = cs[i]?) -> E b o a)
  {fuel : Nat} {c : Value} {y : DataW H × List MemPlace} (hf : DataW.trod enc Tryd.prog W base sp held fuel t [c] = some y) (hw : ∀ n ∈ y.1.weights Tryd.prog t, n <= reachBytes) :
  ∃ (l : List α) (a : Option Addr) (cap : Nat), c = .slice a l.length cap /\ Row E W.heap.size s a cap l /\ (∀ x ∈ l, Wf x) /\ l.length * bz <= reachBytes := by
 rcases DataW.trod_slice ht hf with ⟨hcs, _⟩ | ⟨x, len, cap, elems, rest, n', hn', e2, hy2, _, hlc, hcm, hel2, hei, _, _⟩
 ·simp at hcs
  subst hcs
  exact ⟨[], none, 0, rfl, Row.nil _ _ _ _ _, (fun x hx => by cases hx), by simp⟩
 ·simp at e2
  subst e2
  rw [hs] at hei
  rw [hy2] at hw
  simp only [DataW.weights, ht] at hw
  have hwl := hw _ List.mem_cons_self
  rw [hbz] at hwl
  have hnd : ∀ i, i < len -> ∃ a : α, Wf a /\ ∃ cs : List Value, cs.length = s /\ (∀ j, j < s -> W.cell? ((x.add (i * s)).add j) = cs[j]?) /\ ∀ b o, (∀ i, i < s -> W.cell? ⟨b, o + i, none⟩ = cs[i]?) -> E b o a := fun i hi => by
   have h1 := hei i hi
   rw [List.getElem?_eq_getElem (by omega)] at h1
   obtain ⟨cs', h2, h3⟩ := Option.bind_eq_some_iff.1 h1
   obtain ⟨a, hq, h4⟩ := hel _ _ _ h3 (fun n hn => hw n (List.mem_cons_of_mem _ (List.mem_append.2 (.inl (lI (List.mem_map_of_mem (List.getElem_mem _)) hn)))))
   obtain ⟨_, h6, h5⟩ := World.cells?_some h2
   exact ⟨a, hq, cs', h6, h5, h4⟩
  let f : Nat -> α := fun i => if h : i < len then (hnd i h).choose else x0
  have hfl : ((List.range len).map f).length = len := by simp
  refine ⟨(List.range len).map f, some x, cap, by rw [hfl], ⟨by rw [hfl]; omega, by omega, fun h0 => ?_⟩, fun z hz => ?_, by rw [hfl]; simp at hwl; exact Nat.le_trans (Nat.mul_le_mul_right bz (by omega)) hwl⟩
  ·rw [hfl] at h0
   obtain ⟨b, off, spot⟩ := x
   obtain ⟨_, cs0, hl0, hc0, _⟩ := (hnd 0 h0).choose_spec
   have hcell0 := hc0 0 hs0
   rw [List.getElem?_eq_getElem (by omega)] at hcell0
   have hspot : spot = none := by
    have := World.cell?_spot hcell0
    simpa [Addr.add] using this
   subst hspot
   have hblk : b < W.heap.size := by
    have := World.block_lt_of_cell? W _ hcell0
    simpa [Addr.add] using this
   refine ⟨b, off, rfl, hblk, fun j hj => ?_⟩
   have hj' : j < len := by rw [hfl] at hj; exact hj
   have hfj : ((List.range len).map f)[j] = (hnd j hj').choose := by simp [f, hj']
   rw [hfj]
   obtain ⟨_, cs, _, hc, hE⟩ := (hnd j hj').choose_spec
   refine hE b (off + j * s) fun i hi => ?_
   have := hc i hi
   rw [gq, gq] at this
   exact this
  ·obtain ⟨i, hi, rfl⟩ := List.mem_map.1 hz
   have hi' : i < len := by simpa using hi
   have hfj : f i = (hnd i hi').choose := by simp [f, hi']
   rw [hfj]
   exact (hnd i hi').choose_spec.1
theorem tyL {fuel : Nat} {cs : List Value} {y : DataW H × List MemPlace} (h : DataW.trod enc Tryd.prog W base sp held fuel 49 cs = some y) (hw : ∀ n ∈ y.1.weights Tryd.prog 49, n <= reachBytes) :
  ∃ t : CTy, (t.Wf /\ t.kids.length <= 17592186044416) /\ ∀ b o, (∀ i, i < 3 -> W.cell? ⟨b, o + i, none⟩ = cs[i]?) -> jT W W.heap.size b o t := by
 obtain ⟨xs, m, _, hy, hl, hlen, hx⟩ := DataW.trod_struct Tryd.underlying49 h
 rw [sN] at hl
 match cs, hl, xs, hlen with
 | [c0, c1, c2], _, [y0, y1, y2], _ =>
  have t0 : DataW.trod enc Tryd.prog W base sp held m 3 [c0] = some y0 := by simpa [dY] using hx 0 _ rfl
  have t1 : DataW.trod enc Tryd.prog W base sp held m 32 [c1] = some y1 := by simpa [sM] using hx 1 _ rfl
  have t2 : DataW.trod enc Tryd.prog W base sp held m 4 [c2] = some y2 := by simpa [sP] using hx 2 _ rfl
  have hw1 : ∀ n ∈ y1.1.weights Tryd.prog 32, n <= reachBytes := fun n hn => hw n (by rw [hy]; simp only [List.map_cons, List.map_nil, DataW.weights, Tryd.underlying49, DataW.weightsEach]; simp [DataW.weightsEach, hn])
  obtain ⟨k, e0, _, w0⟩ := DataW.trod_int Tryd.underlying3 t0
  obtain ⟨ks, ka, kc, e1, hk, wk, zk⟩ := sS t1 hw1
  obtain ⟨r, e2, _⟩ := DataW.trod_bool Tryd.underlying4 t2
  simp only [List.cons.injEq, and_true] at e0 e2
  subst e0 e1 e2
  exact ⟨⟨k, ks, r⟩, ⟨⟨bounds_i64 w0, wk⟩, Nat.le_trans zk (by decide)⟩, fun b o hc => ⟨ka, kc, hc 0 (by omega), hc 1 (by omega), hc 2 (by omega), hk⟩⟩
theorem inL {fuel : Nat} {cs : List Value} {y : DataW H × List MemPlace} (h : DataW.trod enc Tryd.prog W base sp held fuel 43 cs = some y) (hw : ∀ n ∈ y.1.weights Tryd.prog 43, n <= reachBytes) :
  ∃ i : CIn, (i.Wf /\ i.list.length <= 17592186044416) /\ ∀ b o, (∀ k, k < 4 -> W.cell? ⟨b, o + k, none⟩ = cs[k]?) -> cu W W.heap.size b o i := by
 obtain ⟨xs, m, _, hy, hl, hlen, hx⟩ := DataW.trod_struct Tryd.underlying43 h
 rw [p8] at hl
 match cs, hl, xs, hlen with
 | [c0, c1, c2, c3], _, [y0, y1, y2, y3], _ =>
  have t0 : DataW.trod enc Tryd.prog W base sp held m 3 [c0] = some y0 := by simpa [dY] using hx 0 _ rfl
  have t1 : DataW.trod enc Tryd.prog W base sp held m 3 [c1] = some y1 := by simpa [dY] using hx 1 _ rfl
  have t2 : DataW.trod enc Tryd.prog W base sp held m 3 [c2] = some y2 := by simpa [dY] using hx 2 _ rfl
  have t3 : DataW.trod enc Tryd.prog W base sp held m 32 [c3] = some y3 := by simpa [sM] using hx 3 _ rfl
  have hw3 : ∀ n ∈ y3.1.weights Tryd.prog 32, n <= reachBytes := fun n hn => hw n (by rw [hy]; simp only [List.map_cons, List.map_nil, DataW.weights, Tryd.underlying43, DataW.weightsEach]; simp [DataW.weightsEach, hn])
  obtain ⟨u0, e0, _, w0⟩ := DataW.trod_int Tryd.underlying3 t0
  obtain ⟨u1, e1, _, w1⟩ := DataW.trod_int Tryd.underlying3 t1
  obtain ⟨u2, e2, _, w2⟩ := DataW.trod_int Tryd.underlying3 t2
  obtain ⟨ks, ka, kc, e3, hk, wk, zk⟩ := sS t3 hw3
  simp only [List.cons.injEq, and_true] at e0 e1 e2
  subst e0 e1 e2 e3
  exact ⟨⟨u0, u1, u2, ks⟩, ⟨⟨bounds_i64 w0, bounds_i64 w1, bounds_i64 w2, wk⟩, Nat.le_trans zk (by decide)⟩, fun b o hc => ⟨ka, kc, hc 0 (by omega), hc 1 (by omega), hc 2 (by omega), hc 3 (by omega), hk⟩⟩
theorem BZ {fuel : Nat} {cs : List Value} {y : DataW H × List MemPlace} (h : DataW.trod enc Tryd.prog W base sp held fuel 40 cs = some y) (hw : ∀ n ∈ y.1.weights Tryd.prog 40, n <= reachBytes) :
  ∃ p : CPg, (p.Wf /\ p.code.length <= 17592186044416 /\ ∀ x ∈ p.code, x.list.length <= 17592186044416) /\ ∀ b o, (∀ k, k < 5 -> W.cell? ⟨b, o + k, none⟩ = cs[k]?) -> mR W W.heap.size b o p := by
 obtain ⟨xs, m, _, hy, hl, hlen, hx⟩ := DataW.trod_struct Tryd.underlying40 h
 rw [sO] at hl
 match cs, hl, xs, hlen with
 | [c0, c1, c2, c3, c4], _, [y0, y1, y2, y3, y4], _ =>
  have t0 : DataW.trod enc Tryd.prog W base sp held m 3 [c0] = some y0 := by simpa [dY] using hx 0 _ rfl
  have t1 : DataW.trod enc Tryd.prog W base sp held m 3 [c1] = some y1 := by simpa [dY] using hx 1 _ rfl
  have t2 : DataW.trod enc Tryd.prog W base sp held m 3 [c2] = some y2 := by simpa [dY] using hx 2 _ rfl
  have t3 : DataW.trod enc Tryd.prog W base sp held m 4 [c3] = some y3 := by simpa [sP] using hx 3 _ rfl
  have t4 : DataW.trod enc Tryd.prog W base sp held m 38 [c4] = some y4 := by simpa [yT] using hx 4 _ rfl
  have hw4 : ∀ n ∈ y4.1.weights Tryd.prog 38, n <= reachBytes := fun n hn => hw n (by rw [hy]; simp only [List.map_cons, List.map_nil, DataW.weights, Tryd.underlying40, DataW.weightsEach]; simp [DataW.weightsEach, hn])
  obtain ⟨u0, e0, _, w0⟩ := DataW.trod_int Tryd.underlying3 t0
  obtain ⟨u1, e1, _, w1⟩ := DataW.trod_int Tryd.underlying3 t1
  obtain ⟨u2, e2, _, w2⟩ := DataW.trod_int Tryd.underlying3 t2
  obtain ⟨r, e3, _⟩ := DataW.trod_bool Tryd.underlying4 t3
  obtain ⟨l, ca, cc, e4, hr, wl, zl⟩ := rC (E := cu W W.heap.size) (Wf := fun i : CIn => i.Wf /\ i.list.length <= 17592186044416) Tryd.underlying38 p8 (by decide) yU ⟨0, 0, 0, []⟩ (fun fuel cs y h hw => inL h hw) t4 hw4
  simp only [List.cons.injEq, and_true] at e0 e1 e2 e3
  subst e0 e1 e2 e3 e4
  exact ⟨⟨u0, u1, u2, r, l⟩, ⟨⟨bounds_i64 w0, bounds_i64 w1, bounds_i64 w2, fun x hx => (wl x hx).1⟩, by have : reachBytes = 140737488351232 := rfl; simp only; omega, fun x hx => (wl x hx).2⟩, fun b o hc => ⟨ca, cc, hc 0 (by omega), hc 1 (by omega), hc 2 (by omega), hc 3 (by omega), hc 4 (by omega), hr⟩⟩
theorem yX {v : Value} {ba : Nat} {d : DataW H} {p : List MemPlace} (hv : Value.okWide Tryd.prog W .any ba 25 v) (h : ∃ fuel, DataW.trod enc Tryd.prog W base sp held fuel 25 v.cells.toList = some (d, p)) (hw : ∀ n ∈ d.weights Tryd.prog 25, n <= reachBytes) :
  ∃ (u : CUn) (pa ta : Option Addr) (pc tc : Nat), v = unV u pa pc ta tc /\ u.Wf /\ dL W W.heap.size pa pc ta tc u /\ UnL u := by
 obtain ⟨cs, rfl, hc⟩ := okWide_struct Tryd.underlying25 hv
 obtain ⟨fuel, hf⟩ := h
 have hf : DataW.trod enc Tryd.prog W base sp held fuel 25 cs.toList = some (d, p) := by simpa [Value.cells] using hf
 obtain ⟨xs, m, hm, hy, hl, hlen, hx⟩ := DataW.trod_struct Tryd.underlying25 hf
 rw [Aq] at hl
 obtain ⟨L, rfl⟩ : ∃ L : List Value, cs = L.toArray := ⟨cs.toList, by simp⟩
 simp only [List.toList_toArray] at *
 match L, hl, xs, hlen with
 | [c0, c1], _, [y0, y1], _ =>
  have t0 : DataW.trod enc Tryd.prog W base sp held m 22 [c0] = some y0 := by simpa [sQ] using hx 0 _ rfl
  have t1 : DataW.trod enc Tryd.prog W base sp held m 23 [c1] = some y1 := by simpa [Ar, sQ] using hx 1 _ rfl
  injection hy with hy0 _
  have hw0 : ∀ n ∈ y0.1.weights Tryd.prog 22, n <= reachBytes := fun n hn => hw n (by rw [hy0]; simp only [List.map_cons, List.map_nil, DataW.weights, Tryd.underlying25, DataW.weightsEach]; simp [DataW.weightsEach, hn])
  have hw1 : ∀ n ∈ y1.1.weights Tryd.prog 23, n <= reachBytes := fun n hn => hw n (by rw [hy0]; simp only [List.map_cons, List.map_nil, DataW.weights, Tryd.underlying25, DataW.weightsEach]; simp [DataW.weightsEach, hn])
  obtain ⟨ps, pa, pc, rfl, hr, wp, zp⟩ := rC (E := mR W W.heap.size) (Wf := fun p : CPg => p.Wf /\ p.code.length <= 17592186044416 /\ ∀ x ∈ p.code, x.list.length <= 17592186044416) Tryd.underlying22 sO (by decide) Av ⟨0, 0, 0, false, []⟩ (fun fuel cs y h hw => BZ h hw) t0 hw0
  obtain ⟨ts, ta, tc, rfl, hq, wt, zt⟩ := rC (E := jT W W.heap.size) (Wf := fun t : CTy => t.Wf /\ t.kids.length <= 17592186044416) Tryd.underlying23 sN (by decide) Au ⟨0, [], false⟩ (fun fuel cs y h hw => tyL h hw) t1 hw1
  have hr0 : reachBytes = 140737488351232 := rfl
  exact ⟨⟨ps, ts⟩, pa, ta, pc, tc, rfl, ⟨fun p hp => (wp p hp).1, fun t ht => (wt t ht).1⟩, ⟨hr, hq⟩, ⟨by simp only; omega, by simp only; omega, fun t ht => (wt t ht).2, fun p hp => (wp p hp).2.1, fun p hp => (wp p hp).2.2⟩⟩
end
end Go.Proofs.YtadmpgegolmkgaaDoor
