import Derived.Test.YtadmpgegolmkgaaDoorBWzE
import Derived.Test.YtadmpgegolmkgaaDoorBWyQ
set_option linter.unusedVariables false
set_option linter.unusedSimpArgs false
set_option maxHeartbeats 4000000
set_option maxRecDepth 100000
namespace Go.Proofs.YtadmpgegolmkgaaDoor
open Go.RowKit
theorem uJ (w : World) (u : CUn) (pa ta : Option Addr) (pc tc : Nat) (hu : dL w w.heap.size pa pc ta tc u) (x : CIn) (ka : Option Addr) (kc : Nat) (hk : aF w w.heap.size ka kc x.list) (hll : x.list.length <= 281474976710656) (hop : x.op = 22) (hl : x.list.length = 0) (hpl : u.ae.length <= 2147483648) : Calls Tryd.prog 37 #[unV u pa pc ta tc, aR x ka kc] w fun e w' => e = .returned (.bool (!(inI x.a ((u.ae.length : Int) - 1) && (x.b == (u.ae.getD x.a.toNat pgD).caps)))) /\ Bx (Below w.heap.size w w') := by
 have h1 : 1 <= x.op := by omega
 have h2 : x.op <= 27 := by omega
 obtain ⟨H, hH⟩ : ∃ H, w.heap.size = H := ⟨_, rfl⟩
 obtain ⟨w1, hw1⟩ : ∃ w1, w.alloc (.cells #[.slice pa u.ae.length pc, .slice ta u.types.length tc] 25) = w1 := ⟨_, rfl⟩
 obtain ⟨w2, hw2⟩ : ∃ w2, w1.alloc (.cells (aW x ka kc) 43) = w2 := ⟨_, rfl⟩
 have bb1 : Below w.heap.size w w1 := by rw [← hw1]; exact ak w _
 have bb2 : Below w1.heap.size w1 w2 := by rw [← hw2]; exact ak w1 _
 have e1 : w1.heap.size = H + 1 := by rw [← hw1]; simp [hH]
 have q1 : w2.heap[H]? = some (.cells #[.slice pa u.ae.length pc, .slice ta u.types.length tc] 25 (0, 0)) := (bb2.block H (by omega)).trans (by rw [← hw1]; exact aj _ _ _ hH)
 have q2 : w2.heap[H + 1]? = some (.cells (aW x ka kc) 43 (0, 0)) := by rw [← hw2]; exact aj _ _ _ e1
 have bb12 : Below w.heap.size w w2 := bb1.trans (bb2.mono bb1.size)
 have HX : Bx (∀ X, Below w2.heap.size w2 X -> Below w.heap.size w X /\ (X.cell? ⟨H, 0, none⟩ = some (.slice pa u.ae.length pc) /\ X.cell? ⟨H, 1, none⟩ = some (.slice ta u.types.length tc) /\ H < X.heap.size) /\ (X.cell? ⟨H + 1, 0, none⟩ = some (.int .i64 x.op) /\ X.cell? ⟨H + 1, 1, none⟩ = some (.int .i64 x.a) /\ X.cell? ⟨H + 1, 2, none⟩ = some (.int .i64 x.b) /\ X.cell? ⟨H + 1, 3, none⟩ = some (.slice ka x.list.length kc) /\ H + 1 < X.heap.size)) := ⟨fun X hX => by
  have z1 := (hX.block H (ah q1)).trans q1
  have z2 := (hX.block (H + 1) (ah q2)).trans q2
  exact ⟨bb12.trans (hX.mono bb12.size), ⟨aa z1 rfl, aa z1 rfl, ah z1⟩, ⟨aa z2 rfl, aa z2 rfl, aa z2 rfl, aa z2 rfl, ah z2⟩⟩⟩
 obtain ⟨x00, ⟨u0, u1, u2⟩, ⟨i0, i1, i2, i3, i4⟩⟩ := HX.out w2 (Below.refl _ _)
 have HB2 : Bx (Below w.heap.size w w2) := ⟨bb12⟩
 have HWI : Bx (∀ n l m X, _) := ⟨fun n l m X => aA n l m X⟩
 have hlm := hk.max
 have hlc := hk.cap
 have htm := hu.types.max
 have htc := hu.types.cap
 have hpm := hu.ae.max
 have hpc := hu.ae.cap
 unfold maxLen at hlm htm hpm
 unfold unV aR
 unfold aW at hw2
 have HF : Bx (∀ X, Calls Tryd.prog 53 #[.int .i64 x.op] X fun e w' => e = .returned (.tuple #[.bool (rfa x.op), .bool (rfb x.op), .bool (dC x.op)]) /\ X = w') := ⟨fun X => bu x.op X h1 h2⟩
 have HI : Bx (∀ X, Calls Tryd.prog 23 #[.int .i64 x.op, .int .i64 1, .int .i64 27] X fun e w' => e = .returned (.bool true) /\ X = w') := ⟨fun X => by
  have := aA x.op 1 27 X
  rw [decide_eq_true h1, decide_eq_true h2] at this
  exact this⟩
 have b2 : (x.op == 2) = false := by simp; omega
 have b3 : (x.op == 3) = false := by simp; omega
 have b10 : (x.op == 10) = false := by simp; omega
 have b11 : (x.op == 11) = false := by simp; omega
 have b15 : (x.op == 15) = false := by simp; omega
 have b24 : (x.op == 24) = false := by simp; omega
 have b23 : (x.op == 23) = false := by simp; omega
 have b16 : (x.op == 16) = false := by simp; omega
 have b17 : (x.op == 17) = false := by simp; omega
 have b18 : (x.op == 18) = false := by simp; omega
 have b22 : (x.op == 22) = true := by simpa using hop
 have erfa : rfa x.op = true := by rw [hop]; rfl
 have erfb : rfb x.op = true := by rw [hop]; rfl
 have erfl_ : dC x.op = false := by rw [hop]; rfl
 rw [erfa, erfb, erfl_] at HF
 have nl : ((x.list.length : Int) != 0) = false := by rw [hl]; rfl
 have hwr : IntKind.i64.wrap ((u.ae.length : Int) - 1) = (u.ae.length : Int) - 1 := by rw [IntKind.wrap_i64]; omega
 have HWA : Bx (∀ X, Calls Tryd.prog 23 #[.int .i64 x.a, .int .i64 0, .int .i64 ((u.ae.length : Int) - 1)] X fun e w' => e = .returned (.bool (decide ((0 : Int) <= x.a) && decide (x.a <= (u.ae.length : Int) - 1))) /\ X = w') := ⟨fun X => aA x.a 0 _ X⟩
 by_cases hin : 0 <= x.a /\ x.a < (u.ae.length : Int)
 ·have hwb : (decide ((0 : Int) <= x.a) && decide (x.a <= (u.ae.length : Int) - 1)) = true := by simp; omega
  have hii : inI x.a ((u.ae.length : Int) - 1) = true := hwb
  rw [hwb] at HWA
  rw [hii]
  obtain ⟨am, ham⟩ : ∃ m : Nat, x.a = (m : Int) := ⟨x.a.toNat, by omega⟩
  have hal : am < u.ae.length := by omega
  obtain ⟨pb, po, ca2, cc2, rfl, hpb, _, HC⟩ := bR hu.ae hal
  have haI : (am : Int) < (u.ae.length : Int) := by omega
  have HPC : Bx (∀ Y, Below w2.heap.size w2 Y -> Y.cell? ⟨pb, po + am * 5 + 2, none⟩ = some (.int .i64 u.ae[am].caps) /\ pb < Y.heap.size) := ⟨fun Y hY => ⟨(HC.out Y (bb12.trans (hY.mono bb12.size))).2.2.1, by have := bb12.size; have := hY.size; omega⟩⟩
  have hcap : (u.ae.getD x.a.toNat pgD).caps = u.ae[am].caps := by rw [ham, show ((am : Int)).toNat = am by omega, List.getD_eq_getElem?_getD, List.getElem?_eq_getElem hal]; rfl
  rw [hcap]
  generalize u.ae[am].caps = cp at *
  have hnb : (x.b != cp) = !(x.b == cp) := rfl
  generalize hbb : (x.b == cp) = eb at *
  clear hu hk HWI hwb hii hin HC hcap bb1 bb2 q1 q2 bb12 x00 hop h1 h2 erfa erfb erfl_ hl
  generalize x.a = xa at *
  subst ham
  go_enter Tryd.func37, Tryd.ntmps37
  go_wp2_with (first
   | (go_at_call 23; refine (HI.out _).mono ?_; rintro e z1 ⟨rfl, rfl⟩; clear HI)
   | (go_at_call 53; refine (HF.out _).mono ?_; rintro e z2 ⟨rfl, rfl⟩; clear HF)
   | fail)
  refine aM [?wg1x0, ?wg1x1, ?wg1x2, ?wg1x3, ?wg1x4, .int .i64 ((u.ae.length : Int) - 1), .bool true, .bool false, .bool false, ?wg1x9, ?wg1x10, ?wg1x11, ?wg1x12, ?wg1x13, ?wg1x14, ?wg1x15, ?wg1x16, ?wg1x17, .bool (!eb), .bool (!eb), .bool (!eb)] (fun Y => Below w2.heap.size w2 Y) (by kernel_rfl) (by decide +kernel) (⟨rfl, rfl, rfl, Nat.le_refl _, fun _ _ => rfl⟩) (dG 140 20 (by decide +kernel) (by rfl) (by exact Nat.le_of_ble_eq_true rfl) (by exact Nat.le_of_ble_eq_true rfl) (by simp only [List.drop_succ_cons, List.drop_zero, List.drop_nil, List.take_succ_cons, List.take_zero, List.cons_append, List.nil_append, aH, Act.put, List.setIfInBounds_toArray, List.set_cons_zero, List.set_cons_succ]; rfl)) ?wg1st ?wg1en
  case wg1st =>
   refine af (ag (by rfl) (fun Y hY => ?_)) ?_
   ·go_simp; try rfl
   refine af (ag (by rfl) (fun Y hY => ?_)) ?_
   ·obtain ⟨_, ⟨u0, u1, u2⟩, ⟨i0, i1, i2, i3, i4⟩⟩ := HX.out Y hY; go_simp; try rfl
   refine af (ag (by rfl) (fun Y hY => ?_)) ?_
   ·go_simp; try rfl
   refine af (ag (by rfl) (fun Y hY => ?_)) ?_
   ·obtain ⟨_, ⟨u0, u1, u2⟩, ⟨i0, i1, i2, i3, i4⟩⟩ := HX.out Y hY; go_simp; try rfl
   refine af (ag (by rfl) (fun Y hY => ?_)) ?_
   ·go_simp; try rfl
   refine af (ag (by rfl) (fun Y hY => ?_)) ?_
   ·go_simp; try rfl
   refine af (bE 23 #[.int .i64 (am : Int), .int .i64 0, .int .i64 ((u.ae.length : Int) - 1)] (by rfl) (fun Y hY => ?_) (fun Y hY => ?_)) ?_
   ·simp only [execOp]; go_simp
   ·refine Calls.mono (HWA.out Y) ?_; rintro e z ⟨rfl, rfl⟩; exact ⟨rfl, hY⟩
   refine af (ag (by rfl) (fun Y hY => ?_)) ?_
   ·go_simp; try rfl
   refine af (ag (by rfl) (fun Y hY => ?_)) ?_
   ·go_simp; try rfl
   refine af (ag (by rfl) (fun Y hY => ?_)) ?_
   ·go_simp; try rfl
   refine af (ag (by rfl) (fun Y hY => ?_)) ?_
   ·obtain ⟨_, ⟨u0, u1, u2⟩, ⟨i0, i1, i2, i3, i4⟩⟩ := HX.out Y hY; go_simp; try rfl
   refine af (ag (by rfl) (fun Y hY => ?_)) ?_
   ·go_simp; try rfl
   refine af (ag (by rfl) (fun Y hY => ?_)) ?_
   ·obtain ⟨_, ⟨u0, u1, u2⟩, ⟨i0, i1, i2, i3, i4⟩⟩ := HX.out Y hY; go_simp; try rfl
   refine af (ag (by rfl) (fun Y hY => ?_)) ?_
   ·go_simp; try rfl
   refine af (ag (by rfl) (fun Y hY => ?_)) ?_
   ·obtain ⟨_, ⟨u0, u1, u2⟩, ⟨i0, i1, i2, i3, i4⟩⟩ := HX.out Y hY; go_simp; try rfl
   refine af (ag (by rfl) (fun Y hY => ?_)) ?_
   ·obtain ⟨_, ⟨u0, u1, u2⟩, ⟨i0, i1, i2, i3, i4⟩⟩ := HX.out Y hY; go_simp; try rfl
   refine af (ag (by rfl) (fun Y hY => ?_)) ?_
   ·go_simp; try rfl
   refine af (ag (by rfl) (fun Y hY => ?_)) ?_
   ·obtain ⟨cz, hcz⟩ := HPC.out Y hY; go_simp; try rfl
   refine af (ag (by rfl) (fun Y hY => ?_)) ?_
   ·go_simp; try rfl
   refine af (ag (by rfl) (fun Y hY => ?_)) ?_
   ·go_simp; try rfl
   refine af (ag (by rfl) (fun Y hY => ?_)) ?_
   ·go_simp; try rfl
   exact bD
  intro w5 hz5
  go_wp2
  go_ret
  exact ⟨aG (by simp), ⟨HB2.out.trans (hz5.mono HB2.out.size)⟩⟩
 ·have hwb : (decide ((0 : Int) <= x.a) && decide (x.a <= (u.ae.length : Int) - 1)) = false := by
   rw [Bool.eq_false_iff]
   intro q
   simp at q
   omega
  have hii : inI x.a ((u.ae.length : Int) - 1) = false := hwb
  rw [hwb] at HWA
  rw [hii]
  clear hu hk HWI hwb hii hin bb1 bb2 q1 q2 bb12 x00 hop h1 h2 erfa erfb erfl_ hl
  go_enter Tryd.func37, Tryd.ntmps37
  go_wp2_with (first
   | (go_at_call 23; refine (HI.out _).mono ?_; rintro e z1 ⟨rfl, rfl⟩; clear HI)
   | (go_at_call 53; refine (HF.out _).mono ?_; rintro e z2 ⟨rfl, rfl⟩; clear HF)
   | fail)
  refine aM [?wg2x0, ?wg2x1, ?wg2x2, ?wg2x3, ?wg2x4, .int .i64 ((u.ae.length : Int) - 1), .bool false, .bool true, .bool true, undef, undef, undef, undef, undef, undef, undef, undef, undef, undef, .bool true, .bool true] (fun Y => Below w2.heap.size w2 Y) (by kernel_rfl) (by decide +kernel) (⟨rfl, rfl, rfl, Nat.le_refl _, fun _ _ => rfl⟩) (dG 140 20 (by decide +kernel) (by rfl) (by exact Nat.le_of_ble_eq_true rfl) (by exact Nat.le_of_ble_eq_true rfl) (by simp only [List.drop_succ_cons, List.drop_zero, List.drop_nil, List.take_succ_cons, List.take_zero, List.cons_append, List.nil_append, aH, Act.put, List.setIfInBounds_toArray, List.set_cons_zero, List.set_cons_succ]; rfl)) ?wg2st ?wg2en
  case wg2st =>
   refine af (ag (by rfl) (fun Y hY => ?_)) ?_
   ·go_simp; try rfl
   refine af (ag (by rfl) (fun Y hY => ?_)) ?_
   ·obtain ⟨_, ⟨u0, u1, u2⟩, ⟨i0, i1, i2, i3, i4⟩⟩ := HX.out Y hY; go_simp; try rfl
   refine af (ag (by rfl) (fun Y hY => ?_)) ?_
   ·go_simp; try rfl
   refine af (ag (by rfl) (fun Y hY => ?_)) ?_
   ·obtain ⟨_, ⟨u0, u1, u2⟩, ⟨i0, i1, i2, i3, i4⟩⟩ := HX.out Y hY; go_simp; try rfl
   refine af (ag (by rfl) (fun Y hY => ?_)) ?_
   ·go_simp; try rfl
   refine af (ag (by rfl) (fun Y hY => ?_)) ?_
   ·go_simp; try rfl
   refine af (bE 23 #[.int .i64 x.a, .int .i64 0, .int .i64 ((u.ae.length : Int) - 1)] (by rfl) (fun Y hY => ?_) (fun Y hY => ?_)) ?_
   ·simp only [execOp]; go_simp
   ·refine Calls.mono (HWA.out Y) ?_; rintro e z ⟨rfl, rfl⟩; exact ⟨rfl, hY⟩
   refine af (ag (by rfl) (fun Y hY => ?_)) ?_
   ·go_simp; try rfl
   refine af (ag (by rfl) (fun Y hY => ?_)) ?_
   ·go_simp; try rfl
   refine af (ay (by rfl)) ?_
   refine af (ay (by rfl)) ?_
   refine af (ay (by rfl)) ?_
   refine af (ay (by rfl)) ?_
   refine af (ay (by rfl)) ?_
   refine af (ay (by rfl)) ?_
   refine af (ay (by rfl)) ?_
   refine af (ay (by rfl)) ?_
   refine af (ay (by rfl)) ?_
   refine af (ay (by rfl)) ?_
   refine af (ag (by rfl) (fun Y hY => ?_)) ?_
   ·go_simp; try rfl
   refine af (ag (by rfl) (fun Y hY => ?_)) ?_
   ·go_simp; try rfl
   exact bD
  intro w5 hz5
  go_wp2
  go_ret
  exact ⟨aG (by simp), ⟨HB2.out.trans (hz5.mono HB2.out.size)⟩⟩
def wrB (u : CUn) (dfs : List Bool) (x : CIn) : Bool := decide (x.op < 1 ∨ 27 < x.op) || !aO u dfs (vsI x.op) x
theorem nN {u : CUn} {dfs : List Bool} {x : CIn} (h : x.op < 1 ∨ 27 < x.op) : wrB u dfs x = true := by unfold wrB; rw [decide_eq_true h, Bool.true_or]
theorem xY {u : CUn} {dfs : List Bool} {x : CIn} (h1 : 1 <= x.op) (h2 : x.op <= 27) : wrB u dfs x = !aO u dfs (vsI x.op) x := by unfold wrB; rw [decide_eq_false (by omega), Bool.false_or]
theorem qQ {u : CUn} {dfs : List Bool} {x : CIn} (h : (rfa x.op = false /\ x.a ≠ 0) ∨ (rfb x.op = false /\ x.b ≠ 0) ∨ (dC x.op = false /\ x.list.length ≠ 0)) : aO u dfs (vsI x.op) x = false := by
 unfold aO
 rcases h with ⟨h1, h2⟩ | ⟨h1, h2⟩ | ⟨h1, h2⟩
 ·unfold rfa at h1
  have e : (vsI x.op).1 = 0 := by simpa using h1
  rw [e]
  have : ic dfs u.ae.length 0 x.a = false := by unfold ic; simpa using h2
  rw [this, Bool.false_and]
 ·unfold rfb at h1
  have e : (vsI x.op).2.1 = 0 := by simpa using h1
  rw [e, if_neg (by decide)]
  have : ic dfs u.ae.length 0 x.b = false := by unfold ic; simpa using h2
  rw [this, Bool.and_false, Bool.and_false]
 ·unfold dC at h1
  have e : (vsI x.op).2.2 = 0 := by simpa using h1
  rw [e]
  have : iO 0 x.list = false := by unfold iO; simpa using fun q => h2 (by rw [q]; rfl)
  rw [this, Bool.false_and, Bool.and_false]
theorem xZ {ts : List CTy} (hv : TsV ts) (h2 : ∀ r, bG ts r -> 0 < (tyA ts r).kids.length) {r : Nat} (hr : r < ts.length) : (dfL ts).getD r false = true ↔ Gr ts r := by
 rw [← Bo hv h2 hr]
 unfold dfL
 rw [List.getD_eq_getElem?_getD, List.getElem?_map, List.getElem?_range hr]
 rfl
theorem qR (w : World) (u : CUn) (pa ta : Option Addr) (pc tc : Nat) (hu : dL w w.heap.size pa pc ta tc u) (x : CIn) (ka : Option Addr) (kc : Nat) (hk : aF w w.heap.size ka kc x.list) (hll : x.list.length <= 281474976710656) (htl : u.types.length <= 2147483648) (hpl : u.ae.length <= 2147483648) (hv : TsV u.types) (h2k : ∀ r, bG u.types r -> 0 < (tyA u.types r).kids.length)
  (hE : ∀ X, Below w.heap.size w X -> ∀ r : Nat, r < u.types.length -> Calls Tryd.prog 54 #[.slice ta u.types.length tc, .int .i64 r] X fun e w' => ∃ b : Bool, e = .returned (.bool b) /\ Bx ((b = true ↔ Gr u.types r) /\ Below X.heap.size X w')) :
  Calls Tryd.prog 37 #[unV u pa pc ta tc, aR x ka kc] w fun e w' => e = .returned (.bool (wrB u (dfL u.types) x)) /\ Bx (Below w.heap.size w w') := by
 by_cases ho : x.op < 1 ∨ 27 < x.op
 ·rw [nN ho]
  exact qN w u pa ta pc tc hu x ka kc hk hll ho
 have h1 : 1 <= x.op := by omega
 have h2 : x.op <= 27 := by omega
 rw [xY h1 h2]
 by_cases hb : (rfa x.op = false /\ x.a ≠ 0) ∨ (rfb x.op = false /\ x.b ≠ 0) ∨ (dC x.op = false /\ x.list.length ≠ 0)
 ·rw [qQ hb]
  exact qO w u pa ta pc tc hu x ka kc hk hll h1 h2 hb
 have na : rfa x.op = false -> x.a = 0 := fun e => Classical.byContradiction fun q => hb (.inl ⟨e, q⟩)
 have nb : rfb x.op = false -> x.b = 0 := fun e => Classical.byContradiction fun q => hb (.inr (.inl ⟨e, q⟩))
 have nl : dC x.op = false -> x.list.length = 0 := fun e => Classical.byContradiction fun q => hb (.inr (.inr ⟨e, q⟩))
 have fa0 : ∀ (d : List Bool) (n : Nat), ic d n 0 0 = true := fun d n => rfl
 have ll : x.list.length = 0 -> iO 0 x.list = true := fun e => by unfold iO; simp [List.eq_nil_of_length_eq_zero e]
 by_cases o2 : x.op = 2
 ·have hvs : vsI x.op = (2, 0, 0) := by rw [o2]; rfl
  have hb0 : x.b = 0 := nb (by rw [o2]; rfl)
  have hl : x.list.length = 0 := nl (by rw [o2]; rfl)
  have hf : aO u (dfL u.types) (vsI x.op) x = inI x.a 1 := by
   rw [hvs]
   unfold aO
   simp only [ll hl, hb0, fa0, Bool.true_and, Bool.and_true, if_neg (show ¬ (0 : Int) = 9 by decide)]
   rfl
  rw [hf]
  exact xV w u pa ta pc tc hu x ka kc hk hll o2 hb0 hl
 by_cases o3 : x.op = 3
 ·have hvs : vsI x.op = (5, 0, 0) := by rw [o3]; rfl
  have hb0 : x.b = 0 := nb (by rw [o3]; rfl)
  have hl : x.list.length = 0 := nl (by rw [o3]; rfl)
  have hf : aO u (dfL u.types) (vsI x.op) x = (inI x.a ((u.types.length : Int) - 1) && (dfL u.types).getD x.a.toNat false) := by
   rw [hvs]
   unfold aO
   simp only [ll hl, hb0, fa0, Bool.true_and, Bool.and_true, if_neg (show ¬ (0 : Int) = 9 by decide)]
   have : (dfL u.types).length = u.types.length := by simp [dfL]
   rw [← this]
   rfl
  rw [hf]
  refine (xW w u pa ta pc tc hu x ka kc hk hll o3 hb0 hl hE htl).mono ?_
  rintro e w' ⟨b, rfl, hX⟩
  refine ⟨?_, ⟨hX.out.2⟩⟩
  congr 3
  rw [Bool.eq_iff_iff, hX.out.1]
  unfold inI
  simp only [Bool.and_eq_true, decide_eq_true_eq]
  constructor
  ·exact fun ⟨q1, q2, q3⟩ => ⟨⟨q1, by omega⟩, (xZ hv h2k (by omega)).2 q3⟩
  ·exact fun ⟨⟨q1, q2⟩, q3⟩ => ⟨q1, by omega, (xZ hv h2k (by omega)).1 q3⟩
 by_cases o10 : x.op = 10
 ·have hvs : vsI x.op = (4, 0, 0) := by rw [o10]; rfl
  have hb0 : x.b = 0 := nb (by rw [o10]; rfl)
  have hl : x.list.length = 0 := nl (by rw [o10]; rfl)
  have hf : aO u (dfL u.types) (vsI x.op) x = decide (2 <= x.a) := by
   rw [hvs]
   unfold aO
   simp only [ll hl, hb0, fa0, Bool.true_and, Bool.and_true, if_neg (show ¬ (0 : Int) = 9 by decide)]
   rfl
  rw [hf]
  exact uA w u pa ta pc tc hu x ka kc hk hll o10 hb0 hl
 by_cases o11 : x.op = 11
 ·have hvs : vsI x.op = (3, 0, 0) := by rw [o11]; rfl
  have hb0 : x.b = 0 := nb (by rw [o11]; rfl)
  have hl : x.list.length = 0 := nl (by rw [o11]; rfl)
  have hf : aO u (dfL u.types) (vsI x.op) x = decide (0 <= x.a) := by
   rw [hvs]
   unfold aO
   simp only [ll hl, hb0, fa0, Bool.true_and, Bool.and_true, if_neg (show ¬ (0 : Int) = 9 by decide)]
   rfl
  rw [hf]
  exact uB w u pa ta pc tc hu x ka kc hk hll o11 hb0 hl
 by_cases o15 : x.op = 15
 ·have hvs : vsI x.op = (3, 0, 0) := by rw [o15]; rfl
  have hb0 : x.b = 0 := nb (by rw [o15]; rfl)
  have hl : x.list.length = 0 := nl (by rw [o15]; rfl)
  have hf : aO u (dfL u.types) (vsI x.op) x = decide (0 <= x.a) := by
   rw [hvs]
   unfold aO
   simp only [ll hl, hb0, fa0, Bool.true_and, Bool.and_true, if_neg (show ¬ (0 : Int) = 9 by decide)]
   rfl
  rw [hf]
  exact uC w u pa ta pc tc hu x ka kc hk hll o15 hb0 hl
 by_cases o24 : x.op = 24
 ·have hvs : vsI x.op = (3, 0, 0) := by rw [o24]; rfl
  have hb0 : x.b = 0 := nb (by rw [o24]; rfl)
  have hl : x.list.length = 0 := nl (by rw [o24]; rfl)
  have hf : aO u (dfL u.types) (vsI x.op) x = decide (0 <= x.a) := by
   rw [hvs]
   unfold aO
   simp only [ll hl, hb0, fa0, Bool.true_and, Bool.and_true, if_neg (show ¬ (0 : Int) = 9 by decide)]
   rfl
  rw [hf]
  exact uD w u pa ta pc tc hu x ka kc hk hll o24 hb0 hl
 by_cases o23 : x.op = 23
 ·have hvs : vsI x.op = (3, 2, 0) := by rw [o23]; rfl
  have hl : x.list.length = 0 := nl (by rw [o23]; rfl)
  have hf : aO u (dfL u.types) (vsI x.op) x = (decide (0 <= x.a) && inI x.b 1) := by
   rw [hvs]
   unfold aO
   simp only [ll hl, Bool.true_and, if_neg (show ¬ (2 : Int) = 9 by decide)]
   rfl
  rw [hf]
  exact uE w u pa ta pc tc hu x ka kc hk hll o23 hl
 by_cases o16 : x.op = 16
 ·have hvs : vsI x.op = (12, 0, 10) := by rw [o16]; rfl
  have hb0 : x.b = 0 := nb (by rw [o16]; rfl)
  have hf : aO u (dfL u.types) (vsI x.op) x = (dN x.list && decide (0 < x.list.length)) := by
   rw [hvs]
   unfold aO
   simp only [hb0, fa0, Bool.and_true, if_neg (show ¬ (0 : Int) = 9 by decide)]
   show (true && iO 10 x.list) = _
   rw [Bool.true_and]
   rfl
  rw [hf]
  exact uH w u pa ta pc tc hu x ka kc hk hll o16 hb0
 by_cases o17 : x.op = 17
 ·have hvs : vsI x.op = (6, 0, 0) := by rw [o17]; rfl
  have hb0 : x.b = 0 := nb (by rw [o17]; rfl)
  have hl : x.list.length = 0 := nl (by rw [o17]; rfl)
  have hf : aO u (dfL u.types) (vsI x.op) x = (x.a == 1 || x.a == 2) := by
   rw [hvs]
   unfold aO
   simp only [ll hl, hb0, fa0, Bool.true_and, Bool.and_true, if_neg (show ¬ (0 : Int) = 9 by decide)]
   rfl
  rw [hf]
  exact uF w u pa ta pc tc hu x ka kc hk hll o17 hb0 hl
 by_cases o18 : x.op = 18
 ·have hvs : vsI x.op = (7, 0, 0) := by rw [o18]; rfl
  have hb0 : x.b = 0 := nb (by rw [o18]; rfl)
  have hl : x.list.length = 0 := nl (by rw [o18]; rfl)
  have hf : aO u (dfL u.types) (vsI x.op) x = qi x.a := by
   rw [hvs]
   unfold aO
   simp only [ll hl, hb0, fa0, Bool.true_and, Bool.and_true, if_neg (show ¬ (0 : Int) = 9 by decide)]
   rfl
  rw [hf]
  exact uG w u pa ta pc tc hu x ka kc hk hll o18 hb0 hl
 by_cases o22 : x.op = 22
 ·have hvs : vsI x.op = (8, 9, 0) := by rw [o22]; rfl
  have hl : x.list.length = 0 := nl (by rw [o22]; rfl)
  have hf : aO u (dfL u.types) (vsI x.op) x = (inI x.a ((u.ae.length : Int) - 1) && (x.b == (u.ae.getD x.a.toNat pgD).caps)) := by
   rw [hvs]
   unfold aO
   simp only [ll hl, Bool.true_and]
   rfl
  rw [hf]
  exact uJ w u pa ta pc tc hu x ka kc hk hll o22 hl hpl
 by_cases o27 : x.op = 27
 ·have hvs : vsI x.op = (0, 0, 11) := by rw [o27]; rfl
  have ha : x.a = 0 := na (by rw [o27]; rfl)
  have hb0 : x.b = 0 := nb (by rw [o27]; rfl)
  have hf : aO u (dfL u.types) (vsI x.op) x = (bC x.list && x.list.length % 2 == 0) := by
   rw [hvs]
   unfold aO
   simp only [ha, hb0, fa0, Bool.true_and, Bool.and_true, if_neg (show ¬ (0 : Int) = 9 by decide)]
   rfl
  rw [hf]
  exact uI w u pa ta pc tc hu x ka kc hk hll o27 ha hb0
 have key : ∀ k, k < 28 -> (k == 0 || k == 2 || k == 3 || k == 10 || k == 11 || k == 15 || k == 24 || k == 23 || k == 16 || k == 17 || k == 18 || k == 22 || k == 27 || ((vsT.getD k (0, 0, 0)).2.1 == 0 && (vsT.getD k (0, 0, 0)).2.2 == 0 && ((vsT.getD k (0, 0, 0)).1 == 0 || (vsT.getD k (0, 0, 0)).1 == 1 || (vsT.getD k (0, 0, 0)).1 == 12 || (vsT.getD k (0, 0, 0)).1 == 13 || (vsT.getD k (0, 0, 0)).1 == 14 || (vsT.getD k (0, 0, 0)).1 == 15))) = true := by decide
 have hkk := key x.op.toNat (by omega)
 have e : ∀ n : Nat, x.op ≠ (n : Int) -> (x.op.toNat == n) = false := fun n h => by
  have : x.op.toNat ≠ n := by omega
  simpa using this
 rw [e 0 (by omega), e 2 (by omega), e 3 (by omega), e 10 (by omega), e 11 (by omega), e 15 (by omega), e 24 (by omega), e 23 (by omega), e 16 (by omega), e 17 (by omega), e 18 (by omega), e 22 (by omega), e 27 (by omega)] at hkk
 simp only [Bool.false_or] at hkk
 have hkv : ((vsI x.op).2.1 == 0 && (vsI x.op).2.2 == 0 && ((vsI x.op).1 == 0 || (vsI x.op).1 == 1 || (vsI x.op).1 == 12 || (vsI x.op).1 == 13 || (vsI x.op).1 == 14 || (vsI x.op).1 == 15)) = true := hkk
 simp only [Bool.and_eq_true, Bool.or_eq_true, beq_iff_eq] at hkv
 obtain ⟨⟨v1, v2⟩, v0⟩ := hkv
 have hfb : rfb x.op = false := by unfold rfb; rw [v1]; rfl
 have hfl : dC x.op = false := by unfold dC; rw [v2]; rfl
 have hb0 := nb hfb
 have hl := nl hfl
 have hf : aO u (dfL u.types) (vsI x.op) x = true := by
  unfold aO
  rw [v1, v2, if_neg (by decide), ll hl, hb0, fa0, Bool.true_and, Bool.and_true]
  rcases v0 with ((((v0 | v0) | v0) | v0) | v0) | v0
  ·rw [v0, na (by unfold rfa; rw [v0]; rfl), fa0]
  all_goals
   rw [v0]
   rfl
 rw [hf]
 exact xU w u pa ta pc tc hu x ka kc hk hll h1 h2 ⟨o2, o3, o10, o11, o15, o24, o23, o16, o17, o18, o22, o27⟩ hfb hfl na hb0 hl
end Go.Proofs.YtadmpgegolmkgaaDoor
