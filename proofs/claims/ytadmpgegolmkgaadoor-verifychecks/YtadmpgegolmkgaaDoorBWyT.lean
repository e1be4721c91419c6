import Derived.Test.YtadmpgegolmkgaaDoorBWzTd
import Derived.Test.YtadmpgegolmkgaaDoorBWvV
set_option linter.unusedVariables false
set_option linter.unusedSimpArgs false
set_option maxHeartbeats 4000000
set_option maxRecDepth 100000
namespace Go.Proofs.YtadmpgegolmkgaaDoor
open Go.RowKit
structure MkS (w0 : World) (cv : Nat -> Option Value) (ai st : Nat) (fin : RSt) (u : aV) (w : World) : Prop where
 bel : Below w0.heap.size w0 w
 pur : ∀ k v, u k = some v -> ∀ c, cv k = some c -> v = c
 al : ∀ v, u ai = some v -> ∃ q cs, v = .pointer (some ⟨q, 0, none⟩) /\ w0.heap.size <= q /\ w.heap[q]? = some (.cells cs 77 (0, 0)) /\ cs.size = 6 /\ ∀ z, u st = some z -> cs = stA fin
 d : ∀ z, u st = some z -> ∃ v, u ai = some v
theorem MkS.get {w0 : World} {cv : Nat -> Option Value} {ai st : Nat} {fin : RSt} {u : aV} {w : World} (h : MkS w0 cv ai st fin u w) {k : Nat} (hk : ∃ v, u k = some v) {c : Value} (hc : cv k = some c) : u k = some c := by
 obtain ⟨v, hv⟩ := hk
 rw [hv, h.pur k v hv c hc]
theorem MkS.call {w0 : World} {cv : Nat -> Option Value} {ai st : Nat} {fin : RSt} {u : aV} {w w' : World} (h : MkS w0 cv ai st fin u w) {k : Nat} (h1 : k ≠ ai) (h2 : k ≠ st) {c : Value} (hc : cv k = some c) (hb : Below w.heap.size w w') : MkS w0 cv ai st fin (u.put k c) w' := by
 refine ⟨h.bel.trans (hb.mono h.bel.size), fun j v hj c' hc' => ?_, fun v hv => ?_, fun z hz => ?_⟩
 ·by_cases e : j = k
  ·subst e
   rw [aV.bU] at hj
   rw [hc] at hc'
   cases hj; cases hc'; rfl
  ·rw [aV.bf _ _ e] at hj
   exact h.pur j v hj c' hc'
 ·rw [aV.bf _ _ (Ne.symm h1)] at hv
  rw [aV.bf _ _ (Ne.symm h2)]
  obtain ⟨q, cs, e1, e2, e3, e4, e5⟩ := h.al v hv
  exact ⟨q, cs, e1, e2, (hb.block q (ah e3)).trans e3, e4, e5⟩
 ·rw [aV.bf _ _ (Ne.symm h2)] at hz
  rw [aV.bf _ _ (Ne.symm h1)]
  exact h.d z hz
theorem MkS.pure {w0 : World} {cv : Nat -> Option Value} {ai st : Nat} {fin : RSt} {u : aV} {w : World} (h : MkS w0 cv ai st fin u w) {k : Nat} (h1 : k ≠ ai) (h2 : k ≠ st) {c : Value} (hc : cv k = some c) : MkS w0 cv ai st fin (u.put k c) w := h.call h1 h2 hc (Below.refl _ _)
theorem MkS.alloc {w0 : World} {cv : Nat -> Option Value} {ai st : Nat} {fin : RSt} {u : aV} {w : World} (h : MkS w0 cv ai st fin u w) (hn : u ai = none) (hne : st ≠ ai) (hc : cv ai = none) {cs : Array Value} (hcs : cs.size = 6) : MkS w0 cv ai st fin (u.put ai (.pointer (some ⟨w.heap.size, 0, none⟩))) (w.alloc (.cells cs 77)) := by
 have hb := ak w (.cells cs 77)
 have hz := h.bel.size
 refine ⟨h.bel.trans (hb.mono hz), fun j v hj c' hc' => ?_, fun v hv => ?_, fun z hz => ⟨_, aV.bU _ _ _⟩⟩
 ·by_cases e : j = ai
  ·subst e; rw [hc] at hc'; cases hc'
  ·rw [aV.bf _ _ e] at hj
   exact h.pur j v hj c' hc'
 ·rw [aV.bU] at hv
  cases hv
  refine ⟨w.heap.size, cs, rfl, hz, aj _ _ _ rfl, hcs, fun z hz2 => ?_⟩
  rw [aV.bf _ _ hne] at hz2
  obtain ⟨v', hv'⟩ := h.d z hz2
  rw [hn] at hv'; cases hv'
theorem Ac {w : World} {q : Nat} {cs : Array Value} (hq : w.heap[q]? = some (.cells cs 77 (0, 0))) (hs : cs.size = 6) (t : RSt) : (w.setCells q 0 (stC t)).heap[q]? = some (.cells (stA t) 77 (0, 0)) /\ ∀ y, y ≠ q -> (w.setCells q 0 (stC t)).heap[y]? = w.heap[y]? := by
 constructor
 ·have hb := dS q 77 (stC t) 0 w cs hq
  refine hb.trans ?_
  have key : jX cs 0 (stC t) = stA t := ?_
  ·rw [key]
  apply Array.ext_getElem?
  intro j
  rw [ji _ _ _ _ (by simp [stC]; omega)]
  by_cases hj : j < 6
  ·rw [if_pos (by simp [stC]; omega)]
   have e : (stA t).toList = stC t := rfl
   rw [Nat.sub_zero, ← e, Array.getElem?_toList]
  ·rw [if_neg (by simp [stC]; omega), Array.getElem?_eq_none (by omega), Array.getElem?_eq_none (by simp; omega)]
 ·intro y hy
  show ((((((w.setCell ⟨q, 0, none⟩ _).setCell ⟨q, 0 + 1, none⟩ _).setCell ⟨q, 0 + 1 + 1, none⟩ _).setCell ⟨q, 0 + 1 + 1 + 1, none⟩ _).setCell ⟨q, 0 + 1 + 1 + 1 + 1, none⟩ _).setCell ⟨q, 0 + 1 + 1 + 1 + 1 + 1, none⟩ _).heap[y]? = _
  rw [Below.heap_setCell _ ⟨q, _, none⟩ _ y hy, Below.heap_setCell _ ⟨q, _, none⟩ _ y hy, Below.heap_setCell _ ⟨q, _, none⟩ _ y hy, Below.heap_setCell _ ⟨q, _, none⟩ _ y hy, Below.heap_setCell _ ⟨q, _, none⟩ _ y hy, Below.heap_setCell _ ⟨q, _, none⟩ _ y hy]
theorem MkS.store {w0 : World} {cv : Nat -> Option Value} {ai st : Nat} {fin : RSt} {u : aV} {w : World} (h : MkS w0 cv ai st fin u w) (hne : st ≠ ai) (hc : cv st = none) {q : Nat} (hq : u ai = some (.pointer (some ⟨q, 0, none⟩))) (z0 : Value) : MkS w0 cv ai st fin (u.put st z0) (w.setCells q 0 (stC fin)) := by
 obtain ⟨q', cs, e1, e2, e3, e4, _⟩ := h.al _ hq
 simp only [Value.pointer.injEq, Option.some.injEq, Addr.mk.injEq, and_true] at e1
 subst e1
 obtain ⟨k1, k2⟩ := Ac e3 e4 fin
 refine ⟨h.bel.trans ((((((((Below.refl _ w).setCell (p := ⟨q, 0, none⟩) e2 _).setCell (p := ⟨q, 0 + 1, none⟩) e2 _).setCell (p := ⟨q, 0 + 1 + 1, none⟩) e2 _).setCell (p := ⟨q, 0 + 1 + 1 + 1, none⟩) e2 _).setCell (p := ⟨q, 0 + 1 + 1 + 1 + 1, none⟩) e2 _).setCell (p := ⟨q, 0 + 1 + 1 + 1 + 1 + 1, none⟩) e2 _)), fun j v hj c' hc' => ?_, fun v hv => ?_, fun z hz => ?_⟩
 ·by_cases e : j = st
  ·subst e; rw [hc] at hc'; cases hc'
  ·rw [aV.bf _ _ e] at hj
   exact h.pur j v hj c' hc'
 ·rw [aV.bf _ _ (Ne.symm hne), hq] at hv
  cases hv
  exact ⟨q, _, rfl, e2, k1, rfl, fun _ _ => rfl⟩
 ·rw [aV.bf _ _ (Ne.symm hne)]
  exact ⟨_, hq⟩
theorem RLD.drewN {w X : World} {pg : CPg} {ca : Option Addr} {cc : Nat} {x : CIn} {ka : Option Addr} {kc : Nat} {t : RSt} {ib yb : Nat} (h : RLD w X pg ca cc x ka kc t ib yb) (n : Nat) : RLD w (X.drewN n) pg ca cc x ka kc t ib yb := h.later ⟨rfl, rfl, rfl, Nat.le_refl _, fun _ _ => rfl⟩
abbrev gW (i : Nat) (h : Int) : RSt := ⟨true, false, h, i, -1, false⟩
def cvL (i : Nat) (t : RSt) (x : CIn) (ka : Option Addr) (kc : Nat) (yb : Nat) (k : Nat) : Option Value := ([some (.pointer (some ⟨yb, 2, none⟩)), some (.int .i64 t.height), some (.agg #[.int .i64 x.op, .int .i64 x.a, .int .i64 x.b, .slice ka x.list.length kc]), some (.int .i64 (ax x)), some (.int .i64 (t.height - ax x)), some (.agg #[.int .i64 x.op, .int .i64 x.a, .int .i64 x.b, .slice ka x.list.length kc]), some (.int .i64 (au x)), some (.int .i64 (t.height - ax x + au x)), some (.int .i64 (i : Nat)), some (.agg (stA (gW i (t.height - ax x + au x)))), none, none] : List (Option Value)).getD k none
theorem jv {r0 r1 r2 r3 r4 r5 c : Code} (hbody : Tryd.f38.body = some (.seq r0 (.seq r1 (.seq r2 (.seq r3 (.seq r4 (.seq r5 c))))))) {w X : World} {pg : CPg} {ca : Option Addr} {cc : Nat} {x : CIn} {ka : Option Addr} {kc : Nat} {t : RSt} {ib yb : Nat} (hX : RLD w X pg ca cc x ka kc t ib yb) {B : Nat} (hB : B <= w.heap.size) (hks : aF w B ka kc x.list) (hw : x.Wf) (hll : x.list.length <= 281474976710656) (i : Nat) (h1 : IntKind.i64.wrap (t.height - ax x) = t.height - ax x) (h2 : IntKind.i64.wrap (t.height - ax x + au x) = t.height - ax x + au x)
  (a0 a1 a3 a4 a5 a6 a9 a10 a11 a12 a13 a14 a15 a16 a17 a18 a19 a20 a21 a22 a23 a24 a25 a26 a27 a28 a29 a30 a31 a32 a33 a34 a35 a36 a37 a38 a39 a40 a41 a42 a43 a44 a45 a46 a47 a48 a49 a50 a51 a52 a53 a54 a55 a56 a57 a58 a59 a60 a61 a62 a63 a64 a65 a66 a67 a68 a69 a70 a71 a72 a73 a74 a75 a76 a77 a78 a79 a80 a81 a82 a83 a84 a85 a86 a87 a88 a89 a90 a91 a92 a93 a94 a95 a96 a97 a98 a99 a100 a101 a102 a103 a104 a105 a106 a107 a108 a109 a110 a111 a112 a113 a114 a115 a116 a117 a118 a119 a120 a121 a122 a123 a124 a125 a126 a127 a128 a129 a130 a131 a132 a133 a134 a135 a136 a137 a138 a139 a140 a141 a142 a143 a144 a145 a146 a147 a148 a149 a150 a151 a152 a153 a154 a155 a156 a157 : Value) (Q : Exit -> Act -> World -> Prop) (HQ : ∀ (X' : World) (tb : Nat), RLD w X' pg ca cc x ka kc (gW i (t.height - ax x + au x)) ib tb -> Q .normal { tmps := #[a0, a1, .int .i64 (i : Nat), a3, a4, a5, a6, .pointer (some ⟨ib, 0, none⟩), .pointer (some ⟨yb, 0, none⟩), a9, .pointer (some ⟨tb, 0, none⟩), a11, a12, a13, a14, a15, a16, a17, a18, a19, a20, a21, a22, a23, a24, a25, a26, a27, a28, a29, a30, a31, a32, a33, a34, a35, a36, a37, a38, a39, a40, a41, a42, a43, a44, a45, a46, a47, a48, a49, a50, a51, a52, a53, a54, a55, a56, a57, a58, .pointer (some ⟨yb, 2, none⟩), .int .i64 t.height, .agg #[.int .i64 x.op, .int .i64 x.a, .int .i64 x.b, .slice ka x.list.length kc], .int .i64 (ax x), .int .i64 (t.height - ax x), .agg #[.int .i64 x.op, .int .i64 x.a, .int .i64 x.b, .slice ka x.list.length kc], .int .i64 (au x), .int .i64 (t.height - ax x + au x), .int .i64 (i : Nat), .agg (stA (gW i (t.height - ax x + au x))), a69, a70, a71, a72, a73, a74, a75, a76, a77, a78, a79, a80, a81, a82, a83, a84, a85, a86, a87, a88, a89, a90, a91, a92, a93, a94, a95, a96, a97, a98, a99, a100, a101, a102, a103, a104, a105, a106, a107, a108, a109, a110, a111, a112, a113, a114, a115, a116, a117, a118, a119, a120, a121, a122, a123, a124, a125, a126, a127, a128, a129, a130, a131, a132, a133, a134, a135, a136, a137, a138, a139, a140, a141, a142, a143, a144, a145, a146, a147, a148, a149, a150, a151, a152, a153, a154, a155, a156, a157], defers := [] } X') :
  Code.wp Tryd.prog r5 Q { tmps := #[a0, a1, .int .i64 (i : Nat), a3, a4, a5, a6, .pointer (some ⟨ib, 0, none⟩), .pointer (some ⟨yb, 0, none⟩), a9, a10, a11, a12, a13, a14, a15, a16, a17, a18, a19, a20, a21, a22, a23, a24, a25, a26, a27, a28, a29, a30, a31, a32, a33, a34, a35, a36, a37, a38, a39, a40, a41, a42, a43, a44, a45, a46, a47, a48, a49, a50, a51, a52, a53, a54, a55, a56, a57, a58, a59, a60, a61, a62, a63, a64, a65, a66, a67, a68, a69, a70, a71, a72, a73, a74, a75, a76, a77, a78, a79, a80, a81, a82, a83, a84, a85, a86, a87, a88, a89, a90, a91, a92, a93, a94, a95, a96, a97, a98, a99, a100, a101, a102, a103, a104, a105, a106, a107, a108, a109, a110, a111, a112, a113, a114, a115, a116, a117, a118, a119, a120, a121, a122, a123, a124, a125, a126, a127, a128, a129, a130, a131, a132, a133, a134, a135, a136, a137, a138, a139, a140, a141, a142, a143, a144, a145, a146, a147, a148, a149, a150, a151, a152, a153, a154, a155, a156, a157], defers := [] } X := by
 unfold Tryd.f38 at hbody
 simp only [Option.some.injEq, Code.seq.injEq] at hbody
 obtain ⟨-, -, -, -, -, rfl, -⟩ := hbody
 have HXY : Bx (∀ Y, Below X.heap.size X Y -> RLD w Y pg ca cc x ka kc t ib yb) := ⟨fun Y hY => hX.later hY⟩
 have HPO : Bx (∀ Y, Below X.heap.size X Y -> Calls Tryd.prog 55 #[.agg #[.int .i64 x.op, .int .i64 x.a, .int .i64 x.b, .slice ka x.list.length kc]] Y fun e w' => e = .returned (.int .i64 (ax x)) /\ Below Y.heap.size Y w') := ⟨fun Y hY => by
  have hb := (hX.later hY).bel
  exact gK Y B x ka kc hw (hks.below (hb.mono hB)) hll (Nat.le_trans hB hb.size)⟩
 have HPU : Bx (∀ Y, Below X.heap.size X Y -> Calls Tryd.prog 57 #[.agg #[.int .i64 x.op, .int .i64 x.a, .int .i64 x.b, .slice ka x.list.length kc]] Y fun e w' => e = .returned (.int .i64 (au x)) /\ Below Y.heap.size Y w') := ⟨fun Y hY => pQ Y x ka kc hw⟩
 have HQ2 : Bx _ := ⟨HQ⟩
 clear HQ hks hll
 refine eT (MkS X (cvL i t x ka kc yb) 10 11 (gW i (t.height - ax x + au x))) (by kernel_rfl) (by decide +kernel) ⟨⟨rfl, rfl, rfl, Nat.le_refl _, fun _ _ => rfl⟩, (fun _ _ h => by cases h), (fun _ h => by cases h), fun _ h => by cases h⟩ ?stp ?fin
 case stp =>
  clear HQ2
  intro u wz j op bb hS hnu ho hdep hA
  obtain ⟨⟨p0, p1, p2, p3, p4, p5⟩, ⟨i0, i1, i2, i3, i4⟩, ⟨z0, z1, z2, z3, z4, z5, z6⟩⟩ := (HXY.out wz hS.bel).cells
  rcases j with _ | _ | _ | _ | _ | _ | _ | _ | _ | _ | _ | _ | j
  ·simp only [List.getElem?_cons_succ, List.getElem?_cons_zero, Option.some.injEq] at ho
   subst ho
   have f8 := hA.was (t := 8) (by decide +kernel)
   simp only [Act.eval] at f8
   refine ⟨rfl, .inl ⟨.pointer (some ⟨yb, 2, none⟩), wz, ?_, hS.pure (by decide) (by decide) rfl⟩⟩
   simp only [execOp, f8]
   go_simp
   try rfl
  ·simp only [List.getElem?_cons_succ, List.getElem?_cons_zero, Option.some.injEq] at ho
   subst ho
   have e0 := hA.at_ (j := 0) (t := 59) rfl rfl (hS.get (hdep ⟨0, Ground.data⟩ (by simp) rfl) (c := .pointer (some ⟨yb, 2, none⟩)) rfl) (Nat.le_of_ble_eq_true rfl)
   refine ⟨rfl, .inl ⟨.int .i64 t.height, wz, ?_, hS.pure (by decide) (by decide) rfl⟩⟩
   simp only [execOp, e0]
   go_simp
   try rfl
  ·simp only [List.getElem?_cons_succ, List.getElem?_cons_zero, Option.some.injEq] at ho
   subst ho
   have f7 := hA.was (t := 7) (by decide +kernel)
   simp only [Act.eval] at f7
   refine ⟨rfl, .inl ⟨.agg #[.int .i64 x.op, .int .i64 x.a, .int .i64 x.b, .slice ka x.list.length kc], wz, ?_, hS.pure (by decide) (by decide) rfl⟩⟩
   simp only [execOp, f7]
   go_simp
   try rfl
  ·simp only [List.getElem?_cons_succ, List.getElem?_cons_zero, Option.some.injEq] at ho
   subst ho
   have e2 := hA.at_ (j := 2) (t := 61) rfl rfl (hS.get (hdep ⟨2, Ground.data⟩ (by simp) rfl) (c := .agg #[.int .i64 x.op, .int .i64 x.a, .int .i64 x.b, .slice ka x.list.length kc]) rfl) (Nat.le_of_ble_eq_true rfl)
   refine ⟨rfl, .inr (.inr ⟨55, #[.agg #[.int .i64 x.op, .int .i64 x.a, .int .i64 x.b, .slice ka x.list.length kc]], ?_, ?_⟩)⟩
   ·simp only [execOp]
    go_simp
    simpa [Act.eval, Array.getD_eq_getD_getElem?] using e2
   ·refine Calls.mono (HPO.out wz hS.bel) ?_
    rintro e z ⟨rfl, hb⟩
    exact ⟨_, rfl, hS.call (by decide) (by decide) rfl hb⟩
  ·simp only [List.getElem?_cons_succ, List.getElem?_cons_zero, Option.some.injEq] at ho
   subst ho
   have e1 := hA.at_ (j := 1) (t := 60) rfl rfl (hS.get (hdep ⟨1, Ground.data⟩ (by simp) rfl) (c := .int .i64 t.height) rfl) (Nat.le_of_ble_eq_true rfl)
   have e3 := hA.at_ (j := 3) (t := 62) rfl rfl (hS.get (hdep ⟨3, Ground.data⟩ (by simp) rfl) (c := .int .i64 (ax x)) rfl) (Nat.le_of_ble_eq_true rfl)
   refine ⟨rfl, .inl ⟨.int .i64 (t.height - ax x), wz, ?_, hS.pure (by decide) (by decide) rfl⟩⟩
   simp only [execOp, e1, e3]
   go_simp
   try rfl
  ·simp only [List.getElem?_cons_succ, List.getElem?_cons_zero, Option.some.injEq] at ho
   subst ho
   have f7 := hA.was (t := 7) (by decide +kernel)
   simp only [Act.eval] at f7
   refine ⟨rfl, .inl ⟨.agg #[.int .i64 x.op, .int .i64 x.a, .int .i64 x.b, .slice ka x.list.length kc], wz, ?_, hS.pure (by decide) (by decide) rfl⟩⟩
   simp only [execOp, f7]
   go_simp
   try rfl
  ·simp only [List.getElem?_cons_succ, List.getElem?_cons_zero, Option.some.injEq] at ho
   subst ho
   have e5 := hA.at_ (j := 5) (t := 64) rfl rfl (hS.get (hdep ⟨5, Ground.data⟩ (by simp) rfl) (c := .agg #[.int .i64 x.op, .int .i64 x.a, .int .i64 x.b, .slice ka x.list.length kc]) rfl) (Nat.le_of_ble_eq_true rfl)
   refine ⟨rfl, .inr (.inr ⟨57, #[.agg #[.int .i64 x.op, .int .i64 x.a, .int .i64 x.b, .slice ka x.list.length kc]], ?_, ?_⟩)⟩
   ·simp only [execOp]
    go_simp
    simpa [Act.eval, Array.getD_eq_getD_getElem?] using e5
   ·refine Calls.mono (HPU.out wz hS.bel) ?_
    rintro e z ⟨rfl, hb⟩
    exact ⟨_, rfl, hS.call (by decide) (by decide) rfl hb⟩
  ·simp only [List.getElem?_cons_succ, List.getElem?_cons_zero, Option.some.injEq] at ho
   subst ho
   have e4 := hA.at_ (j := 4) (t := 63) rfl rfl (hS.get (hdep ⟨4, Ground.data⟩ (by simp) rfl) (c := .int .i64 (t.height - ax x)) rfl) (Nat.le_of_ble_eq_true rfl)
   have e6 := hA.at_ (j := 6) (t := 65) rfl rfl (hS.get (hdep ⟨6, Ground.data⟩ (by simp) rfl) (c := .int .i64 (au x)) rfl) (Nat.le_of_ble_eq_true rfl)
   refine ⟨rfl, .inl ⟨.int .i64 (t.height - ax x + au x), wz, ?_, hS.pure (by decide) (by decide) rfl⟩⟩
   simp only [execOp, e4, e6]
   go_simp
   try rfl
  ·simp only [List.getElem?_cons_succ, List.getElem?_cons_zero, Option.some.injEq] at ho
   subst ho
   have f2 := hA.was (t := 2) (by decide +kernel)
   simp only [Act.eval] at f2
   refine ⟨rfl, .inl ⟨.int .i64 (i : Nat), wz, ?_, hS.pure (by decide) (by decide) rfl⟩⟩
   simp only [execOp, f2]
   go_simp
   try rfl
  ·simp only [List.getElem?_cons_succ, List.getElem?_cons_zero, Option.some.injEq] at ho
   subst ho
   have e7 := hA.at_ (j := 7) (t := 66) rfl rfl (hS.get (hdep ⟨7, Ground.data⟩ (by simp) rfl) (c := .int .i64 (t.height - ax x + au x)) rfl) (Nat.le_of_ble_eq_true rfl)
   have e8 := hA.at_ (j := 8) (t := 67) rfl rfl (hS.get (hdep ⟨8, Ground.data⟩ (by simp) rfl) (c := .int .i64 (i : Nat)) rfl) (Nat.le_of_ble_eq_true rfl)
   have e7b : bb.tmps[66]?.getD undef = .int .i64 (t.height - ax x + au x) := by simpa [Act.eval, Array.getD_eq_getD_getElem?] using e7
   have e8b : bb.tmps[67]?.getD undef = .int .i64 (i : Nat) := by simpa [Act.eval, Array.getD_eq_getD_getElem?] using e8
   refine ⟨rfl, .inl ⟨.agg (stA (gW i (t.height - ax x + au x))), wz, ?_, hS.pure (by decide) (by decide) rfl⟩⟩
   simp only [execOp, e7, e8]
   go_simp
   try rfl
  ·simp only [List.getElem?_cons_succ, List.getElem?_cons_zero, Option.some.injEq] at ho
   subst ho
   refine ⟨rfl, .inl ⟨.pointer (some ⟨wz.heap.size, 0, none⟩), wz.alloc (.cells #[.bool false, .bool false, .int .i64 0, .int .i64 0, .int .i64 0, .bool false] 77), ?_, hS.alloc hnu (by decide) rfl rfl⟩⟩
   simp only [execOp]
   go_simp
   try rfl
  ·simp only [List.getElem?_cons_succ, List.getElem?_cons_zero, Option.some.injEq] at ho
   subst ho
   obtain ⟨v10, h10⟩ := hdep ⟨10, Ground.data⟩ (by simp) rfl
   obtain ⟨q, cs, e1, e2, e3, e4, _⟩ := hS.al v10 h10
   subst e1
   have h9 := hS.get (hdep ⟨9, Ground.data⟩ (by simp) rfl) (c := .agg (stA (gW i (t.height - ax x + au x)))) rfl
   have e10 := hA.at_ (j := 10) (t := 10) rfl rfl h10 (Nat.le_of_ble_eq_true rfl)
   have e9 := hA.at_ (j := 9) (t := 68) rfl rfl h9 (Nat.le_of_ble_eq_true rfl)
   have ht : wz.there q 0 6 := fun j hj => ⟨by rw [aa (i := 0 + j) e3 (Array.getElem?_eq_getElem (by omega))]; rfl, aL e3⟩
   refine ⟨rfl, .inr (.inl ⟨_, ?_, hS.store (by decide) rfl h10 undef⟩)⟩
   have hr := run_storeAt_mid (P := Tryd.prog) wz q 0 77 (stA (gW i (t.height - ax x + au x))) ht (by kernel_rfl) (by simp [Value.oneCell'])
   simp only [execOp, e10, e9, Sem.run_bind, hr, Result.andThen_ok, Sem.run_pure]
   try rfl
  ·simp at ho
 case fin =>
  intro u vs wz hvl hvs hS
  match vs, hvl with
  | [x0, x1, x2, x3, x4, x5, x6, x7, x8, x9, x10, x11], _ =>
   have f0 : x0 = .pointer (some ⟨yb, 2, none⟩) := hS.pur 0 x0 (hvs 0 (Nat.le_of_ble_eq_true rfl)) _ rfl
   have f1 : x1 = .int .i64 t.height := hS.pur 1 x1 (hvs 1 (Nat.le_of_ble_eq_true rfl)) _ rfl
   have f2 : x2 = .agg #[.int .i64 x.op, .int .i64 x.a, .int .i64 x.b, .slice ka x.list.length kc] := hS.pur 2 x2 (hvs 2 (Nat.le_of_ble_eq_true rfl)) _ rfl
   have f3 : x3 = .int .i64 (ax x) := hS.pur 3 x3 (hvs 3 (Nat.le_of_ble_eq_true rfl)) _ rfl
   have f4 : x4 = .int .i64 (t.height - ax x) := hS.pur 4 x4 (hvs 4 (Nat.le_of_ble_eq_true rfl)) _ rfl
   have f5 : x5 = .agg #[.int .i64 x.op, .int .i64 x.a, .int .i64 x.b, .slice ka x.list.length kc] := hS.pur 5 x5 (hvs 5 (Nat.le_of_ble_eq_true rfl)) _ rfl
   have f6 : x6 = .int .i64 (au x) := hS.pur 6 x6 (hvs 6 (Nat.le_of_ble_eq_true rfl)) _ rfl
   have f7 : x7 = .int .i64 (t.height - ax x + au x) := hS.pur 7 x7 (hvs 7 (Nat.le_of_ble_eq_true rfl)) _ rfl
   have f8 : x8 = .int .i64 (i : Nat) := hS.pur 8 x8 (hvs 8 (Nat.le_of_ble_eq_true rfl)) _ rfl
   have f9 : x9 = .agg (stA (gW i (t.height - ax x + au x))) := hS.pur 9 x9 (hvs 9 (Nat.le_of_ble_eq_true rfl)) _ rfl
   subst f0
   subst f1
   subst f2
   subst f3
   subst f4
   subst f5
   subst f6
   subst f7
   subst f8
   subst f9
   obtain ⟨q, cs, e10, hq, hqb, _, hqc⟩ := hS.al x10 (hvs 10 (Nat.le_of_ble_eq_true rfl))
   have hcs := hqc x11 (hvs 11 (Nat.le_of_ble_eq_true rfl))
   subst e10
   subst hcs
   refine ⟨_, dG 59 10 (by decide +kernel) (by rfl) (by exact Nat.le_of_ble_eq_true rfl) (by exact Nat.le_of_ble_eq_true rfl) (by simp only [List.drop_succ_cons, List.drop_zero, List.drop_nil, List.take_succ_cons, List.take_zero, List.cons_append, List.nil_append, aH, Act.put, List.setIfInBounds_toArray, List.set_cons_zero, List.set_cons_succ]; rfl), ?_⟩
   have hR := HXY.out wz hS.bel
   exact HQ2.out wz q ⟨hR.bel, hR.bh, hR.bi, hqb, hR.lo.1, Nat.le_trans hX.bel.size hq⟩
theorem yn (w : World) (B : Nat) (hB : B <= w.heap.size) (pg : CPg) (ca : Option Addr) (cc : Nat) (hc : Row (cu w B) B 4 ca cc pg.code) (hcl : pg.code.length <= 268435456) (v : Value) (B' : Nat) (hB' : B' <= w.heap.size) (S : List RSt) (h : StO w B' v S) (hS : S.length = pg.code.length) (i : Nat) (hi : i < S.length) (x : CIn) (hx : pg.code[i]'(by omega) = x) (hw : x.Wf) (hll : x.list.length <= 281474976710656) (hpop : S[i].height < ax x) : Calls Tryd.prog 38 #[.agg (pgC pg ca cc), v, .int .i64 (i : Nat)] w fun e w' => e = .returned (.int .i64 94) /\ Bx (Below w.heap.size w w') := by
 subst hx
 have hi2 : i < pg.code.length := by omega
 refine fZ w B hB pg ca cc hc hcl v B' S h hS i hi2 _ ?_
 intro ka kc hks r0 r1 c hbody X ib yb u14 u15 u16 u17 u18 u19 u20 u21 u22 hX
 unfold Tryd.f38 at hbody
 simp only [Option.some.injEq, Code.seq.injEq] at hbody
 obtain ⟨-, -, rfl⟩ := hbody
 have HPO : Bx (∀ Y ib yb, RLD w Y pg ca cc (pg.code[i]'hi2) ka kc S[i] ib yb -> Calls Tryd.prog 55 #[.agg #[.int .i64 (pg.code[i]'hi2).op, .int .i64 (pg.code[i]'hi2).a, .int .i64 (pg.code[i]'hi2).b, .slice ka (pg.code[i]'hi2).list.length kc]] Y fun e w' => e = .returned (.int .i64 (ax (pg.code[i]'hi2))) /\ Below Y.heap.size Y w') := ⟨fun Y ib yb hY => gK Y B _ ka kc hw (hks.below (hY.bel.mono hB)) hll (Nat.le_trans hB hY.bel.size)⟩
 have hHX : Bx (∀ Y, Below w.heap.size w Y -> StO Y B' v S /\ B' <= Y.heap.size) := ⟨fun Y hY => ⟨aZ h hY, Nat.le_trans hB' hY.size⟩⟩
 have hg : decide (S[i].height < ax (pg.code[i]'hi2)) = true := decide_eq_true hpop
 have H0 : Bx _ := ⟨hX⟩
 generalize hxx : pg.code[i]'hi2 = x at *
 generalize htt : S[i] = t at *
 clear h hc hX hpop hHX
 go_wp2_with fail
 refine aM [?wu1x0, ?wu1x1, ?wu1x2, .int .i64 (ax x), .bool true] (fun Y => RLD w Y pg ca cc x ka kc t ib yb) (by kernel_rfl) (by decide +kernel) (H0.out.drewN 1) (dG 23 5 (by decide +kernel) (by rfl) (by exact Nat.le_of_ble_eq_true rfl) (by exact Nat.le_of_ble_eq_true rfl) (by simp only [List.drop_succ_cons, List.drop_zero, List.drop_nil, List.take_succ_cons, List.take_zero, List.cons_append, List.nil_append, aH, Act.put, List.setIfInBounds_toArray, List.set_cons_zero, List.set_cons_succ]; rfl)) ?wu1st ?wu1en
 case wu1st =>
  refine af (ag (by rfl) (fun Y hY => ?_)) ?_
  ·go_simp; try rfl
  refine af (ag (by rfl) (fun Y hY => ?_)) ?_
  ·obtain ⟨⟨p0, p1, p2, p3, p4, p5⟩, ⟨i0, i1, i2, i3, i4⟩, ⟨z0, z1, z2, z3, z4, z5, z6⟩⟩ := hY.cells; go_simp; try rfl
  refine af (ag (by rfl) (fun Y hY => ?_)) ?_
  ·obtain ⟨⟨p0, p1, p2, p3, p4, p5⟩, ⟨i0, i1, i2, i3, i4⟩, ⟨z0, z1, z2, z3, z4, z5, z6⟩⟩ := hY.cells; go_simp; try rfl
  refine af (bE 55 #[.agg #[.int .i64 x.op, .int .i64 x.a, .int .i64 x.b, .slice ka x.list.length kc]] (by rfl) (fun Y hY => ?_) (fun Y hY => ?_)) ?_
  ·simp only [execOp]; go_simp
  ·refine Calls.mono (HPO.out Y ib yb hY) ?_; rintro e z ⟨rfl, hb⟩; exact ⟨rfl, hY.later hb⟩
  refine af (ag (by rfl) (fun Y hY => ?_)) ?_
  ·go_simp; try rfl
  exact bD
 intro w3 hz3
 obtain ⟨⟨p0, p1, p2, p3, p4, p5⟩, ⟨i0, i1, i2, i3, i4⟩, ⟨z0, z1, z2, z3, z4, z5, z6⟩⟩ := hz3.cells
 have HZ3 : Bx _ := ⟨hz3⟩
 clear hz3 H0 HPO
 go_wp2
 go_ret
 exact ⟨rfl, ⟨HZ3.out.bel⟩⟩
theorem yo (w : World) (B : Nat) (hB : B <= w.heap.size) (pg : CPg) (ca : Option Addr) (cc : Nat) (hc : Row (cu w B) B 4 ca cc pg.code) (hcl : pg.code.length <= 268435456) (v : Value) (B' : Nat) (hB' : B' <= w.heap.size) (S : List RSt) (h : StO w B' v S) (hS : S.length = pg.code.length) (i : Nat) (hi : i < S.length) (x : CIn) (hx : pg.code[i]'(by omega) = x) (hw : x.Wf) (hll : x.list.length <= 281474976710656) (hpop : ¬ S[i].height < ax x) (h25 : x.op = 25) : Calls Tryd.prog 38 #[.agg (pgC pg ca cc), v, .int .i64 (i : Nat)] w fun e w' => e = .returned (.int .i64 (if S[i].height = (if pg.res then 1 else 0) then 0 else 94)) /\ Bx (Below w.heap.size w w') := by
 obtain ⟨R, hR⟩ : ∃ R : Int, (if S[i].height = (if pg.res then 1 else 0) then 0 else 94) = R := ⟨_, rfl⟩
 rw [hR]
 have HR : Bx _ := ⟨hR⟩
 clear hR
 subst hx
 have hi2 : i < pg.code.length := by omega
 refine fZ w B hB pg ca cc hc hcl v B' S h hS i hi2 _ ?_
 intro ka kc hks r0 r1 c hbody X ib yb u14 u15 u16 u17 u18 u19 u20 u21 u22 hX
 unfold Tryd.f38 at hbody
 simp only [Option.some.injEq, Code.seq.injEq] at hbody
 obtain ⟨-, -, rfl⟩ := hbody
 have HPO : Bx (∀ Y ib yb, RLD w Y pg ca cc (pg.code[i]'hi2) ka kc S[i] ib yb -> Calls Tryd.prog 55 #[.agg #[.int .i64 (pg.code[i]'hi2).op, .int .i64 (pg.code[i]'hi2).a, .int .i64 (pg.code[i]'hi2).b, .slice ka (pg.code[i]'hi2).list.length kc]] Y fun e w' => e = .returned (.int .i64 (ax (pg.code[i]'hi2))) /\ Below Y.heap.size Y w') := ⟨fun Y ib yb hY => gK Y B _ ka kc hw (hks.below (hY.bel.mono hB)) hll (Nat.le_trans hB hY.bel.size)⟩
 have hHX : Bx (∀ Y, Below w.heap.size w Y -> StO Y B' v S /\ B' <= Y.heap.size) := ⟨fun Y hY => ⟨aZ h hY, Nat.le_trans hB' hY.size⟩⟩
 have hg : decide (S[i].height < ax (pg.code[i]'hi2)) = false := decide_eq_false hpop
 have h25b : ((pg.code[i]'hi2).op == 25) = true := by simpa using h25
 have H0 : Bx _ := ⟨hX⟩
 generalize hxx : pg.code[i]'hi2 = x at *
 generalize htt : S[i] = t at *
 clear h hc hX hpop hHX h25
 go_wp2_with fail
 refine aM [?wu2x0, ?wu2x1, ?wu2x2, .int .i64 (ax x), .bool false] (fun Y => RLD w Y pg ca cc x ka kc t ib yb) (by kernel_rfl) (by decide +kernel) (H0.out.drewN 1) (dG 23 5 (by decide +kernel) (by rfl) (by exact Nat.le_of_ble_eq_true rfl) (by exact Nat.le_of_ble_eq_true rfl) (by simp only [List.drop_succ_cons, List.drop_zero, List.drop_nil, List.take_succ_cons, List.take_zero, List.cons_append, List.nil_append, aH, Act.put, List.setIfInBounds_toArray, List.set_cons_zero, List.set_cons_succ]; rfl)) ?wu2st ?wu2en
 case wu2st =>
  refine af (ag (by rfl) (fun Y hY => ?_)) ?_
  ·go_simp; try rfl
  refine af (ag (by rfl) (fun Y hY => ?_)) ?_
  ·obtain ⟨⟨p0, p1, p2, p3, p4, p5⟩, ⟨i0, i1, i2, i3, i4⟩, ⟨z0, z1, z2, z3, z4, z5, z6⟩⟩ := hY.cells; go_simp; try rfl
  refine af (ag (by rfl) (fun Y hY => ?_)) ?_
  ·obtain ⟨⟨p0, p1, p2, p3, p4, p5⟩, ⟨i0, i1, i2, i3, i4⟩, ⟨z0, z1, z2, z3, z4, z5, z6⟩⟩ := hY.cells; go_simp; try rfl
  refine af (bE 55 #[.agg #[.int .i64 x.op, .int .i64 x.a, .int .i64 x.b, .slice ka x.list.length kc]] (by rfl) (fun Y hY => ?_) (fun Y hY => ?_)) ?_
  ·simp only [execOp]; go_simp
  ·refine Calls.mono (HPO.out Y ib yb hY) ?_; rintro e z ⟨rfl, hb⟩; exact ⟨rfl, hY.later hb⟩
  refine af (ag (by rfl) (fun Y hY => ?_)) ?_
  ·go_simp; try rfl
  exact bD
 intro w3 hz3
 obtain ⟨⟨p0, p1, p2, p3, p4, p5⟩, ⟨i0, i1, i2, i3, i4⟩, ⟨z0, z1, z2, z3, z4, z5, z6⟩⟩ := hz3.cells
 have HZ3 : Bx _ := ⟨hz3⟩
 clear hz3 H0 HPO
 cases hres : pg.res with
 | true =>
  rw [hres] at p3
  by_cases hh : t.height = 1
  ·have hhb : (t.height != 1) = false := by simpa using hh
   obtain rfl : R = 0 := by rw [← HR.out, hres]; simp [hh]
   clear hh
   go_wp2
   go_ret
   exact ⟨rfl, ⟨HZ3.out.bel⟩⟩
  ·have hhb : (t.height != 1) = true := by simpa using hh
   obtain rfl : R = 94 := by rw [← HR.out, hres]; simp [hh]
   clear hh
   go_wp2
   go_ret
   exact ⟨rfl, ⟨HZ3.out.bel⟩⟩
 | false =>
  rw [hres] at p3
  by_cases hh : t.height = 0
  ·have hhb : (t.height != 0) = false := by simpa using hh
   obtain rfl : R = 0 := by rw [← HR.out, hres]; simp [hh]
   clear hh
   go_wp2
   go_ret
   exact ⟨rfl, ⟨HZ3.out.bel⟩⟩
  ·have hhb : (t.height != 0) = true := by simpa using hh
   obtain rfl : R = 94 := by rw [← HR.out, hres]; simp [hh]
   clear hh
   go_wp2
   go_ret
   exact ⟨rfl, ⟨HZ3.out.bel⟩⟩
theorem yt (w : World) (B : Nat) (hB : B <= w.heap.size) (pg : CPg) (ca : Option Addr) (cc : Nat) (hc : Row (cu w B) B 4 ca cc pg.code) (hcl : pg.code.length <= 268435456) (v : Value) (B' : Nat) (hB' : B' <= w.heap.size) (S : List RSt) (h : StO w B' v S) (hS : S.length = pg.code.length) (i : Nat) (hi : i < S.length) (x : CIn) (hx : pg.code[i]'(by omega) = x) (hw : x.Wf) (hll : x.list.length <= 281474976710656) (hpop : ¬ S[i].height < ax x) (hop : x.op = 4 ∨ x.op = 6 ∨ x.op = 16) (hneed : ∃ (m : Nat) (d : Nat), x.a = (m : Int) /\ Hv pg.params S m d (i : Nat) false) : Calls Tryd.prog 38 #[.agg (pgC pg ca cc), v, .int .i64 (i : Nat)] w fun e w' => e = .returned (.int .i64 93) /\ Bx (Below w.heap.size w w') := by
 subst hx
 have hi2 : i < pg.code.length := by omega
 refine fZ w B hB pg ca cc hc hcl v B' S h hS i hi2 _ ?_
 intro ka kc hks r0 r1 c hbody X ib yb u14 u15 u16 u17 u18 u19 u20 u21 u22 hX
 unfold Tryd.f38 at hbody
 simp only [Option.some.injEq, Code.seq.injEq] at hbody
 obtain ⟨-, -, rfl⟩ := hbody
 have HPO : Bx (∀ Y ib yb, RLD w Y pg ca cc (pg.code[i]'hi2) ka kc S[i] ib yb -> Calls Tryd.prog 55 #[.agg #[.int .i64 (pg.code[i]'hi2).op, .int .i64 (pg.code[i]'hi2).a, .int .i64 (pg.code[i]'hi2).b, .slice ka (pg.code[i]'hi2).list.length kc]] Y fun e w' => e = .returned (.int .i64 (ax (pg.code[i]'hi2))) /\ Below Y.heap.size Y w') := ⟨fun Y ib yb hY => gK Y B _ ka kc hw (hks.below (hY.bel.mono hB)) hll (Nat.le_trans hB hY.bel.size)⟩
 have hHX : Bx (∀ Y, Below w.heap.size w Y -> StO Y B' v S /\ B' <= Y.heap.size) := ⟨fun Y hY => ⟨aZ h hY, Nat.le_trans hB' hY.size⟩⟩
 have hg : decide (S[i].height < ax (pg.code[i]'hi2)) = false := decide_eq_false hpop
 obtain ⟨m, d, ham, hvv⟩ := hneed
 have HVV : Bx (∀ Y, Below w.heap.size w Y -> Calls Tryd.prog 56 #[.agg #[.int .i64 pg.params, .int .i64 pg.slots, .int .i64 pg.caps, .bool pg.res, .slice ca pg.code.length cc], v, .int .i64 (i : Nat), .int .i64 (pg.code[i]'hi2).a] Y fun e w' => e = .returned (.bool false) /\ Bx (Below Y.heap.size Y w')) := ⟨fun Y hY => by
  rw [ham]
  exact lu Y B' (Nat.le_trans hB' hY.size) pg ca cc v S (aZ h hY) (by omega) m d (i : Nat) false hvv⟩
 have H0 : Bx _ := ⟨hX⟩
 generalize hxx : pg.code[i]'hi2 = x at *
 generalize htt : S[i] = t at *
 clear h hc hX hpop hHX hvv ham
 go_wp2_with fail
 refine aM [?wu3x0, ?wu3x1, ?wu3x2, .int .i64 (ax x), .bool false] (fun Y => RLD w Y pg ca cc x ka kc t ib yb) (by kernel_rfl) (by decide +kernel) (H0.out.drewN 1) (dG 23 5 (by decide +kernel) (by rfl) (by exact Nat.le_of_ble_eq_true rfl) (by exact Nat.le_of_ble_eq_true rfl) (by simp only [List.drop_succ_cons, List.drop_zero, List.drop_nil, List.take_succ_cons, List.take_zero, List.cons_append, List.nil_append, aH, Act.put, List.setIfInBounds_toArray, List.set_cons_zero, List.set_cons_succ]; rfl)) ?wu3st ?wu3en
 case wu3st =>
  refine af (ag (by rfl) (fun Y hY => ?_)) ?_
  ·go_simp; try rfl
  refine af (ag (by rfl) (fun Y hY => ?_)) ?_
  ·obtain ⟨⟨p0, p1, p2, p3, p4, p5⟩, ⟨i0, i1, i2, i3, i4⟩, ⟨z0, z1, z2, z3, z4, z5, z6⟩⟩ := hY.cells; go_simp; try rfl
  refine af (ag (by rfl) (fun Y hY => ?_)) ?_
  ·obtain ⟨⟨p0, p1, p2, p3, p4, p5⟩, ⟨i0, i1, i2, i3, i4⟩, ⟨z0, z1, z2, z3, z4, z5, z6⟩⟩ := hY.cells; go_simp; try rfl
  refine af (bE 55 #[.agg #[.int .i64 x.op, .int .i64 x.a, .int .i64 x.b, .slice ka x.list.length kc]] (by rfl) (fun Y hY => ?_) (fun Y hY => ?_)) ?_
  ·simp only [execOp]; go_simp
  ·refine Calls.mono (HPO.out Y ib yb hY) ?_; rintro e z ⟨rfl, hb⟩; exact ⟨rfl, hY.later hb⟩
  refine af (ag (by rfl) (fun Y hY => ?_)) ?_
  ·go_simp; try rfl
  exact bD
 intro w3 hz3
 obtain ⟨⟨p0, p1, p2, p3, p4, p5⟩, ⟨i0, i1, i2, i3, i4⟩, ⟨z0, z1, z2, z3, z4, z5, z6⟩⟩ := hz3.cells
 have HZ3 : Bx _ := ⟨hz3⟩
 clear hz3 H0 HPO
 rcases hop with hop | hop | hop
 all_goals
  have b25 : (x.op == 25) = false := by simp; omega
 ·have b4 : (x.op == 4) = true := by simpa using hop
  clear hop
  go_wp2_with (first
   | (go_at_call 56; refine (HVV.out _ HZ3.out.bel).mono ?_; rintro e w4 ⟨rfl, hb4⟩)
   | fail)
  go_ret
  exact ⟨rfl, ⟨HZ3.out.bel.trans (hb4.out.mono HZ3.out.bel.size)⟩⟩
 ·have b4 : (x.op == 4) = false := by simp; omega
  have b6 : (x.op == 6) = true := by simpa using hop
  clear hop
  go_wp2_with (first
   | (go_at_call 56; refine (HVV.out _ HZ3.out.bel).mono ?_; rintro e w4 ⟨rfl, hb4⟩)
   | fail)
  go_ret
  exact ⟨rfl, ⟨HZ3.out.bel.trans (hb4.out.mono HZ3.out.bel.size)⟩⟩
 ·have b4 : (x.op == 4) = false := by simp; omega
  have b6 : (x.op == 6) = false := by simp; omega
  have b16 : (x.op == 16) = true := by simpa using hop
  clear hop
  go_wp2_with (first
   | (go_at_call 56; refine (HVV.out _ HZ3.out.bel).mono ?_; rintro e w4 ⟨rfl, hb4⟩)
   | fail)
  go_ret
  exact ⟨rfl, ⟨HZ3.out.bel.trans (hb4.out.mono HZ3.out.bel.size)⟩⟩
end Go.Proofs.YtadmpgegolmkgaaDoor
