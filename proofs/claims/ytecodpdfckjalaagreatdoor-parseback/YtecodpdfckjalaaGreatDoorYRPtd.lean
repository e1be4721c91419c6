import Derived.Test.YtecodpdfckjalaaGreatDoorYRBx0
set_option linter.unusedVariables false
set_option linter.unusedSimpArgs false
set_option maxHeartbeats 4000000
set_option maxRecDepth 100000
namespace Go.Proofs.YtecodpdfckjalaaGreatDoor
open Go.RowKit
variable {w0 : World} {rb : Nat} {ae aa : Value} {TL : List Tok} {xs : List UInt8} {U : Nat -> Prop}
def gF (d : Nat) (w0 : World) (rb : Nat) (ae aa : Value) (TL : List Tok) (xs : List UInt8) (U : Nat -> Prop) (W : World) (s : List ai) (ns : List Nd) (res : Res) (e : Ending) (W' : World) : Prop :=
 match res with
 | .ok ts s' => s'.length + sizes ts + d <= s.length /\ ∃ a c, e = .returned (.slice a ts.length c) /\ RSs w0 rb ae aa TL xs (Uv U (.slice a ts.length c)) W' s' (ns ++ ag ts ns.length) /\ aQ W' rb (.slice a ts.length c) (ends ts ns.length) /\ af rb W W' /\ ∀ y, (Value.slice a ts.length c).ownBlock = some y -> W.heap.size <= y
 | .err s' => e = ak (hd s').place /\ Below rb w0 W'
 | .out => False
def iU (o : One) (f' : Nat) (acc : List Tr) (cur : List ai) : Res := if kd cur = 46 then iy acc (pF f' (.parted o) (tl cur)) else .ok acc cur
structure ny (w0 : World) (rb : Nat) (ae aa : Value) (TL : List Tok) (xs : List UInt8) (U : Nat -> Prop) (W : World) (s : List ai) (ns : List Nd) (o : One) (R : Res) (f : Nat) (kv : Value) (wr : World) (f' : Nat) (acc : List Tr) (cur : List ai) : Prop where
 eq : R = iU o f' acc cur
 le : f' < f
 st : RSs w0 rb ae aa TL xs (Uv U kv) wr cur (ns ++ ag acc ns.length)
 row : aQ wr rb kv (ends acc ns.length)
 keep : af rb W wr
 new : ∀ y, kv.ownBlock = some y -> W.heap.size <= y
 sz : cur.length + sizes acc <= s.length
theorem DX (a : List Tr) (x : Res) : (aC x fun b s2 => Res.ok (a ++ b) s2) = iy a x := by cases x <;> rfl
theorem BX (a b : List Tr) (x : Res) : iy a (iy b x) = iy (a ++ b) x := by cases x <;> simp [iy]
theorem jJ (o : One) (f : Nat) (s : List ai) : pF (f + 1) (.parted o) s = aC (pF f (.of o) s) fun a s1 => iU o f a s1 := by
 show body (pF f) (.parted o) s = _
 have e : (fun (a : List Tr) (s1 : List ai) => iU o f a s1) = fun a s1 => if kd s1 = 46 then aC (pF f (.parted o) (tl s1)) fun b s2 => Res.ok (a ++ b) s2 else Res.ok a s1 := by
  funext a s1
  unfold iU
  rw [DX]
 rw [e]
 rfl
theorem qh (o : One) (f : Nat) (acc a : List Tr) (s1 : List ai) : iy acc (iU o f a s1) = iU o f (acc ++ a) s1 := by
 unfold iU
 split
 ·exact BX _ _ _
 ·rfl
theorem row_one {W : World} {v : Nat} (hr : rb < W.heap.size) : aQ (W.alloc (.cells #[.int .i64 (v : Int)] 3)) rb (.slice (some ⟨W.heap.size, 0, none⟩) 1 1) [(v : Int)] := dz (n := 1) rfl (by omega) (by omega) hr rfl
theorem RSs.jd {W : World} {s : List ai} {ns : List Nd} (h : RSs w0 rb ae aa TL xs U W s ns) (o : Obj) : RSs w0 rb ae aa TL xs (Uv U (.slice (some ⟨W.heap.size, 0, none⟩) 1 1)) (W.alloc o) s ns := by
 have h' := h.ext (ah W o)
 obtain ⟨i, rfl, hi, hS, hni, hU⟩ := h'
 obtain ⟨j, e, hj, hS0, hnj, hU0⟩ := h
 obtain ⟨nv, h1, h2⟩ := hS.rd
 obtain ⟨nv0, h10, h20⟩ := hS0.rd
 have hlt := aY h10
 have env : nv = nv0 /\ i = j := by
  rw [(ah W o).block rb hlt, h10] at h1
  unfold rdO at h1
  simp only [Option.some.injEq, Obj.cells.injEq] at h1
  have := congrArg Array.toList h1.1
  simp at this
  exact ⟨this.2.symm, by omega⟩
 obtain ⟨rfl, rfl⟩ := env
 obtain ⟨ks, k1, k2, k3⟩ := h20.ex
 refine ⟨i, rfl, hi, ⟨⟨nv, h1, ⟨ks, k1, bO k2 (ah W o), fun q hq hq' => ⟨bO (k3 q hq hq').1 (ah W o), fun g hg hgU => ?_⟩⟩⟩, hS.bel⟩, hni, fun g hg => ?_⟩
 ·rcases hgU with hgU | hgU
  ·exact (k3 q hq hq').2 g hg hgU
  ·simp [Value.ownBlock] at hgU
   subst hgU
   obtain ⟨q1, q2⟩ := (k3 q hq hq').1
   rcases q2 with ⟨q2, _⟩ | ⟨gg, cp, cur, hv2, hg2, hh, hr2⟩
   ·simp only [Value.slice.injEq] at q2
    rw [q2.1] at hg
    cases hg
   ·simp only [Value.slice.injEq] at hv2
    rw [hv2.1] at hg
    simp at hg
    subst hg
    have := aY hh
    omega
 ·rcases hg with hg | hg
  ·have := hU0 g hg; simp; omega
  ·simp [Value.ownBlock] at hg
   subst hg
   simp
theorem yD (hT : RT w0 rb ae aa TL xs) (hK : aR TL) {f : Nat} (HO : ∀ f', f' < f -> RC w0 rb ae aa TL xs (pF f' (.of .typ)) 87 #[]) (U : Nat -> Prop) (W : World) (s : List ai) (ns : List Nd) (hS : RSs w0 rb ae aa TL xs U W s ns) (hne : pF f (.parted .typ) s ≠ .out) :
  Calls Tryz.prog 122 #[.pointer (some ⟨rb, 0, none⟩), .func (.func 87) #[.pointer (some ⟨rb, 0, none⟩)] #[]] W (gF 0 w0 rb ae aa TL xs U W s ns (pF f (.parted .typ) s)) := by
 match f, HO, hne with
 | 0, _, hne => exact absurd rfl hne
 | f + 1, HO, hne =>
 obtain ⟨i0, hi, hz0, hz1, hz2⟩ := info_parts gu
 have hslen : s.length <= 65537 := by
  obtain ⟨i, rfl, hi, _⟩ := hS
  have := hT.small
  unfold pts
  simp
  omega
 have hrW := hS.lt
 rw [jJ] at hne ⊢
 have B1 : Bx (pF f (.of .typ) s ≠ .out -> Calls Tryz.prog 87 #[.pointer (some ⟨rb, 0, none⟩)] W (aj w0 rb ae aa TL xs U W s ns (pF f (.of .typ) s))) := ⟨fun h => HO f (by omega) U W s ns hS h⟩
 match r1 : pF f (.of .typ) s with
 | .out => rw [r1] at hne; exact absurd rfl hne
 | .err s1 =>
  rw [r1] at B1
  go_enter Tryz.func122, Tryz.ntmps122
  go_wp2_with (first
   | (go_at_call 87; refine Calls.mono (B1.out (by simp)) ?_; rintro e W1 ⟨rfl, b1⟩; unfold ak))
  exact ⟨rfl, rfl, b1⟩
 | .ok a1 s1 =>
  rw [r1] at B1 hne
  simp only [aC] at hne ⊢
  generalize hR : iU .typ f a1 s1 = R at hne ⊢
  have HR : Bx (R ≠ .out) := ⟨hne⟩
  have HA : Bx (∀ W1 (v : Nat), a1.length = 1 -> v = ns.length + sizes a1 - 1 -> s1.length + sizes a1 <= s.length -> RSs w0 rb ae aa TL xs U W1 s1 (ns ++ ag a1 ns.length) -> af rb W W1 -> ny w0 rb ae aa TL xs U W s ns .typ R (f + 1) (.slice (some ⟨W1.heap.size, 0, none⟩) 1 1) (W1.alloc (.cells #[.int .i64 (v : Int)] 3)) f a1 s1) := ⟨fun W1 v n1 hv l1 q1 k1 => by
   refine ⟨hR.symm, by omega, q1.jd _, ?_, k1.trans (af.alloc q1.lt _), fun y hy => ?_, l1⟩
   ·rw [aK n1, ← hv]
    exact row_one q1.lt
   ·simp [Value.ownBlock] at hy
    subst hy
    exact k1.size⟩
  clear hR hne
  go_enter Tryz.func122, Tryz.ntmps122
  go_wp2_with (first
   | (go_at_call 87; refine Calls.mono (B1.out (by simp)) ?_; rintro e W1 ⟨n1, l1, he, q1, k1⟩; obtain ⟨v1, hv1⟩ : ∃ r : Nat, r = (ns.length + sizes a1 - 1) := ⟨_, rfl⟩; rw [← hv1] at he; subst he; have L0 := HA.out W1 v1 n1 hv1 l1 q1 k1; have LB : Bx _ := ⟨L0⟩; clear L0 HA B1 q1 k1 hv1))
  go_loopw [5] (fun kv wr => ∃ f' : Nat, ∃ acc cur, ∃ a c, kv = .slice a acc.length c /\ Bx (ny w0 rb ae aa TL xs U W s ns .typ R (f + 1) kv wr f' acc cur)) (fun kv _ => s.length - sliceLen kv)
  case atStart => exact ⟨f, a1, s1, _, _, by rw [n1], LB⟩
  case round =>
   obtain ⟨f', acc, cur, a, c, rfl, HL⟩ := hrel
   clear LB
   have hsz := HL.out.sz
   have hac := dR acc
   have B2 : Bx (∀ W1, RSs w0 rb ae aa TL xs (Uv U (.slice a acc.length c)) W1 cur (ns ++ ag acc ns.length) -> _) := ⟨fun W1 h => iP hT hK h 46 (by decide) ⟨#[44]⟩ (by decide)⟩
   have hst : Bx _ := ⟨HL.out.st⟩
   by_cases h2 : kd cur = 46
   ·match f', HL with
    | 0, HL =>
     have := HL.out.eq
     unfold iU at this
     rw [if_pos h2] at this
     exact absurd this HR.out
    | g + 1, HL =>
     have e1 : R = iy acc (aC (pF g (.of .typ) (tl cur)) fun a s1 => iU .typ g a s1) := by
      rw [← jJ, HL.out.eq]
      unfold iU
      rw [if_pos h2]
     have hgf : g < f + 1 := by have := HL.out.le; omega
     have B3 : Bx (∀ W1, RSs w0 rb ae aa TL xs (Uv U (.slice a acc.length c)) W1 (tl cur) (ns ++ ag acc ns.length) -> pF g (.of .typ) (tl cur) ≠ .out -> Calls Tryz.prog 87 #[.pointer (some ⟨rb, 0, none⟩)] W1 (aj w0 rb ae aa TL xs (Uv U (.slice a acc.length c)) W1 (tl cur) (ns ++ ag acc ns.length) (pF g (.of .typ) (tl cur)))) := ⟨fun W1 h hn => HO g hgf _ W1 (tl cur) _ h hn⟩
     match r3 : pF g (.of .typ) (tl cur) with
     | .out =>
      rw [r3] at e1
      exact absurd e1 HR.out
     | .err s' =>
      rw [r3] at B3 e1
      have eR : Bx (R = .err s') := ⟨e1⟩
      clear HL HR HO e1
      go_wp2_with (first
       | (go_at_call 102; refine Calls.mono (B2.out _ hst.out) ?_; rintro e W2 (⟨_, rfl, q2, l2, k2⟩ | ⟨h, _⟩); rotate_left 1; exact absurd h2 h; clear B2)
       | (go_at_call 87; refine Calls.mono (B3.out _ q2 (by simp)) ?_; rintro e W3 ⟨rfl, b3⟩; unfold ak))
      exact ⟨rfl, by rw [eR.out]; exact ⟨rfl, b3⟩⟩
     | .ok ts s' =>
      rw [r3] at B3 e1
      have eR : Bx (R = iU .typ g (acc ++ ts) s') := ⟨by rw [e1]; exact qh _ _ _ _ _⟩
      have HN : Bx (∀ W2 W3, af rb wr W2 -> af rb W2 W3 -> RSs w0 rb ae aa TL xs (Uv U (.slice a acc.length c)) W3 s' ((ns ++ ag acc ns.length) ++ ag ts (ns ++ ag acc ns.length).length) -> ts.length = 1 -> (tl cur).length + 1 = cur.length -> s'.length + sizes ts <= (tl cur).length -> ∀ v : Nat, v = ((ns ++ ag acc ns.length).length + sizes ts - 1) ->
        aQ W3 rb (.slice a acc.length c) (ends acc ns.length) /\ ∀ g2 cp w4, (W3.alloc (.cells #[.int .i64 (v : Int)] 3)).grownBy w4 (Value.slice a acc.length c).ownBlock -> ((Value.slice a acc.length c).ownBlock = some g2 ∨ g2 = W3.heap.size + 1) -> g2 < w4.heap.size -> w4.ownsRow (rb + 1) 3 1 (.slice (some ⟨g2, 0, none⟩) (acc.length + 1) cp) (acc.length + 1) (bM (ends acc ns.length) ++ [.int .i64 (v : Int)]) -> ny w0 rb ae aa TL xs U W s ns .typ R (f + 1) (.slice (some ⟨g2, 0, none⟩) (acc.length + 1) cp) w4 g (acc ++ ts) s') := ⟨fun W2 W3 k2 k3 q3 n3 l2 l3 v hv => by
       have hrow := HL.out.st.ints HL.out.row (k2.trans k3)
       refine ⟨hrow, fun g2 cp w4 hg hat hl4 hown => ?_⟩
       obtain ⟨p1, p2⟩ := q3.grown hrow hg g2 (acc.length + 1) cp hat hl4
       obtain ⟨p3, p4⟩ := p2 W (HL.out.keep.trans (k2.trans k3)) HL.out.new
       have hends : ends (acc ++ ts) ns.length = ends acc ns.length ++ [(v : Int)] := by rw [bD, aK n3, hv, dV]
       refine ⟨eR.out, by omega, ?_, ?_, p3, fun y hy => ?_, ?_⟩
       ·rw [bP] at p1
        exact p1
       ·unfold aQ
        rw [hends, List.length_append, cz, bM, List.map_append]
        exact hown
       ·simp [Value.ownBlock] at hy
        subst hy
        exact p4
       ·rw [aI]
        omega⟩
      clear HL HR HO e1
      go_wp2_with (first
       | (go_at_call 102; refine Calls.mono (B2.out _ hst.out) ?_; rintro e W2 (⟨_, rfl, q2, l2, k2⟩ | ⟨h, _⟩); rotate_left 1; exact absurd h2 h; clear B2)
       | (go_at_call 87; refine Calls.mono (B3.out _ q2 (by simp)) ?_; rintro e W3 ⟨n3, l3, he, q3, k3⟩; obtain ⟨v3, hv⟩ : ∃ r : Nat, r = ((ns ++ ag acc ns.length).length + sizes ts - 1) := ⟨_, rfl⟩; rw [← hv] at he; subst he; obtain ⟨hrow, hnx⟩ := HN.out W2 W3 k2 k3 q3 n3 l2 l3 v3 hv; have NX : Bx _ := ⟨hnx⟩; have RW : Bx _ := ⟨hrow⟩; have hr3 := q3.lt; clear HN hnx hrow hv q3 q2 B3)
       | (at_builtin; refine wpList_append_lies _ rfl (.tmp 11) (.tmp 14) 39 rfl (rb + 1) 3 i0 (.int .i64 0) 1 8 Tryz.underlying39 hi hz0 hz1 hz2 rfl (by decide) (.slice a acc.length c) acc.length (bM (ends acc ns.length)) rfl (by have := bO RW.out (ah W3 (.cells #[.int .i64 (v3 : Int)] 3)); rw [cz] at this; exact this) ⟨W3.heap.size, 0, none⟩ 1 1 [.int .i64 (v3 : Int)] rfl rfl (dD _ _ rfl _) (eF _) (by decide) (by unfold maxLen; omega) (by omega) (by simp; omega) (W3.heap.size + 1) (by simp) ?_; intro g2 cp w4 hown hgrow hat hlt4; have LN := NX.out g2 cp w4 hgrow hat hlt4 hown; have LNB : Bx _ := ⟨LN⟩; clear hgrow hat hown LN))
      go_roundw
      case rel => exact ⟨g, acc ++ ts, s', some ⟨g2, 0, none⟩, cp, by simp [n3], LNB⟩
      case measure => simp [sliceLen]; omega
   ·have eR : Bx (R = .ok acc cur) := ⟨by
     rw [HL.out.eq]
     unfold iU
     rw [if_neg h2]⟩
    have HP : Bx (∀ W2, RSs w0 rb ae aa TL xs (Uv U (.slice a acc.length c)) W2 cur (ns ++ ag acc ns.length) -> af rb wr W2 -> gF 0 w0 rb ae aa TL xs U W s ns R (.returned (.slice a acc.length c)) W2) := ⟨fun W2 q2 k2 => by
     rw [eR.out]
     exact ⟨hsz, a, c, rfl, q2, HL.out.st.ints HL.out.row k2, HL.out.keep.trans k2, HL.out.new⟩⟩
    clear HL HR HO eR
    go_wp2_with (first
     | (go_at_call 102; refine Calls.mono (B2.out _ hst.out) ?_; rintro e W2 (⟨h, _⟩ | ⟨_, rfl, q2, k2⟩); exact absurd h h2; clear B2))
    go_ret
    exact HP.out _ q2 k2
theorem wS (hT : RT w0 rb ae aa TL xs) (hK : aR TL) {f : Nat} (HO : ∀ f', f' < f -> RC w0 rb ae aa TL xs (pF f' (.of .expr)) 109 #[]) (U : Nat -> Prop) (W : World) (s : List ai) (ns : List Nd) (hS : RSs w0 rb ae aa TL xs U W s ns) (hne : pF f (.parted .expr) s ≠ .out) :
  Calls Tryz.prog 122 #[.pointer (some ⟨rb, 0, none⟩), .func (.func 109) #[.pointer (some ⟨rb, 0, none⟩)] #[]] W (gF 0 w0 rb ae aa TL xs U W s ns (pF f (.parted .expr) s)) := by
 match f, HO, hne with
 | 0, _, hne => exact absurd rfl hne
 | f + 1, HO, hne =>
 obtain ⟨i0, hi, hz0, hz1, hz2⟩ := info_parts gu
 have hslen : s.length <= 65537 := by
  obtain ⟨i, rfl, hi, _⟩ := hS
  have := hT.small
  unfold pts
  simp
  omega
 have hrW := hS.lt
 rw [jJ] at hne ⊢
 have B1 : Bx (pF f (.of .expr) s ≠ .out -> Calls Tryz.prog 109 #[.pointer (some ⟨rb, 0, none⟩)] W (aj w0 rb ae aa TL xs U W s ns (pF f (.of .expr) s))) := ⟨fun h => HO f (by omega) U W s ns hS h⟩
 match r1 : pF f (.of .expr) s with
 | .out => rw [r1] at hne; exact absurd rfl hne
 | .err s1 =>
  rw [r1] at B1
  go_enter Tryz.func122, Tryz.ntmps122
  go_wp2_with (first
   | (go_at_call 109; refine Calls.mono (B1.out (by simp)) ?_; rintro e W1 ⟨rfl, b1⟩; unfold ak))
  exact ⟨rfl, rfl, b1⟩
 | .ok a1 s1 =>
  rw [r1] at B1 hne
  simp only [aC] at hne ⊢
  generalize hR : iU .expr f a1 s1 = R at hne ⊢
  have HR : Bx (R ≠ .out) := ⟨hne⟩
  have HA : Bx (∀ W1 (v : Nat), a1.length = 1 -> v = ns.length + sizes a1 - 1 -> s1.length + sizes a1 <= s.length -> RSs w0 rb ae aa TL xs U W1 s1 (ns ++ ag a1 ns.length) -> af rb W W1 -> ny w0 rb ae aa TL xs U W s ns .expr R (f + 1) (.slice (some ⟨W1.heap.size, 0, none⟩) 1 1) (W1.alloc (.cells #[.int .i64 (v : Int)] 3)) f a1 s1) := ⟨fun W1 v n1 hv l1 q1 k1 => by
   refine ⟨hR.symm, by omega, q1.jd _, ?_, k1.trans (af.alloc q1.lt _), fun y hy => ?_, l1⟩
   ·rw [aK n1, ← hv]
    exact row_one q1.lt
   ·simp [Value.ownBlock] at hy
    subst hy
    exact k1.size⟩
  clear hR hne
  go_enter Tryz.func122, Tryz.ntmps122
  go_wp2_with (first
   | (go_at_call 109; refine Calls.mono (B1.out (by simp)) ?_; rintro e W1 ⟨n1, l1, he, q1, k1⟩; obtain ⟨v1, hv1⟩ : ∃ r : Nat, r = (ns.length + sizes a1 - 1) := ⟨_, rfl⟩; rw [← hv1] at he; subst he; have L0 := HA.out W1 v1 n1 hv1 l1 q1 k1; have LB : Bx _ := ⟨L0⟩; clear L0 HA B1 q1 k1 hv1))
  go_loopw [5] (fun kv wr => ∃ f' : Nat, ∃ acc cur, ∃ a c, kv = .slice a acc.length c /\ Bx (ny w0 rb ae aa TL xs U W s ns .expr R (f + 1) kv wr f' acc cur)) (fun kv _ => s.length - sliceLen kv)
  case atStart => exact ⟨f, a1, s1, _, _, by rw [n1], LB⟩
  case round =>
   obtain ⟨f', acc, cur, a, c, rfl, HL⟩ := hrel
   clear LB
   have hsz := HL.out.sz
   have hac := dR acc
   have B2 : Bx (∀ W1, RSs w0 rb ae aa TL xs (Uv U (.slice a acc.length c)) W1 cur (ns ++ ag acc ns.length) -> _) := ⟨fun W1 h => iP hT hK h 46 (by decide) ⟨#[44]⟩ (by decide)⟩
   have hst : Bx _ := ⟨HL.out.st⟩
   by_cases h2 : kd cur = 46
   ·match f', HL with
    | 0, HL =>
     have := HL.out.eq
     unfold iU at this
     rw [if_pos h2] at this
     exact absurd this HR.out
    | g + 1, HL =>
     have e1 : R = iy acc (aC (pF g (.of .expr) (tl cur)) fun a s1 => iU .expr g a s1) := by
      rw [← jJ, HL.out.eq]
      unfold iU
      rw [if_pos h2]
     have hgf : g < f + 1 := by have := HL.out.le; omega
     have B3 : Bx (∀ W1, RSs w0 rb ae aa TL xs (Uv U (.slice a acc.length c)) W1 (tl cur) (ns ++ ag acc ns.length) -> pF g (.of .expr) (tl cur) ≠ .out -> Calls Tryz.prog 109 #[.pointer (some ⟨rb, 0, none⟩)] W1 (aj w0 rb ae aa TL xs (Uv U (.slice a acc.length c)) W1 (tl cur) (ns ++ ag acc ns.length) (pF g (.of .expr) (tl cur)))) := ⟨fun W1 h hn => HO g hgf _ W1 (tl cur) _ h hn⟩
     match r3 : pF g (.of .expr) (tl cur) with
     | .out =>
      rw [r3] at e1
      exact absurd e1 HR.out
     | .err s' =>
      rw [r3] at B3 e1
      have eR : Bx (R = .err s') := ⟨e1⟩
      clear HL HR HO e1
      go_wp2_with (first
       | (go_at_call 102; refine Calls.mono (B2.out _ hst.out) ?_; rintro e W2 (⟨_, rfl, q2, l2, k2⟩ | ⟨h, _⟩); rotate_left 1; exact absurd h2 h; clear B2)
       | (go_at_call 109; refine Calls.mono (B3.out _ q2 (by simp)) ?_; rintro e W3 ⟨rfl, b3⟩; unfold ak))
      exact ⟨rfl, by rw [eR.out]; exact ⟨rfl, b3⟩⟩
     | .ok ts s' =>
      rw [r3] at B3 e1
      have eR : Bx (R = iU .expr g (acc ++ ts) s') := ⟨by rw [e1]; exact qh _ _ _ _ _⟩
      have HN : Bx (∀ W2 W3, af rb wr W2 -> af rb W2 W3 -> RSs w0 rb ae aa TL xs (Uv U (.slice a acc.length c)) W3 s' ((ns ++ ag acc ns.length) ++ ag ts (ns ++ ag acc ns.length).length) -> ts.length = 1 -> (tl cur).length + 1 = cur.length -> s'.length + sizes ts <= (tl cur).length -> ∀ v : Nat, v = ((ns ++ ag acc ns.length).length + sizes ts - 1) ->
        aQ W3 rb (.slice a acc.length c) (ends acc ns.length) /\ ∀ g2 cp w4, (W3.alloc (.cells #[.int .i64 (v : Int)] 3)).grownBy w4 (Value.slice a acc.length c).ownBlock -> ((Value.slice a acc.length c).ownBlock = some g2 ∨ g2 = W3.heap.size + 1) -> g2 < w4.heap.size -> w4.ownsRow (rb + 1) 3 1 (.slice (some ⟨g2, 0, none⟩) (acc.length + 1) cp) (acc.length + 1) (bM (ends acc ns.length) ++ [.int .i64 (v : Int)]) -> ny w0 rb ae aa TL xs U W s ns .expr R (f + 1) (.slice (some ⟨g2, 0, none⟩) (acc.length + 1) cp) w4 g (acc ++ ts) s') := ⟨fun W2 W3 k2 k3 q3 n3 l2 l3 v hv => by
       have hrow := HL.out.st.ints HL.out.row (k2.trans k3)
       refine ⟨hrow, fun g2 cp w4 hg hat hl4 hown => ?_⟩
       obtain ⟨p1, p2⟩ := q3.grown hrow hg g2 (acc.length + 1) cp hat hl4
       obtain ⟨p3, p4⟩ := p2 W (HL.out.keep.trans (k2.trans k3)) HL.out.new
       have hends : ends (acc ++ ts) ns.length = ends acc ns.length ++ [(v : Int)] := by rw [bD, aK n3, hv, dV]
       refine ⟨eR.out, by omega, ?_, ?_, p3, fun y hy => ?_, ?_⟩
       ·rw [bP] at p1
        exact p1
       ·unfold aQ
        rw [hends, List.length_append, cz, bM, List.map_append]
        exact hown
       ·simp [Value.ownBlock] at hy
        subst hy
        exact p4
       ·rw [aI]
        omega⟩
      clear HL HR HO e1
      go_wp2_with (first
       | (go_at_call 102; refine Calls.mono (B2.out _ hst.out) ?_; rintro e W2 (⟨_, rfl, q2, l2, k2⟩ | ⟨h, _⟩); rotate_left 1; exact absurd h2 h; clear B2)
       | (go_at_call 109; refine Calls.mono (B3.out _ q2 (by simp)) ?_; rintro e W3 ⟨n3, l3, he, q3, k3⟩; obtain ⟨v3, hv⟩ : ∃ r : Nat, r = ((ns ++ ag acc ns.length).length + sizes ts - 1) := ⟨_, rfl⟩; rw [← hv] at he; subst he; obtain ⟨hrow, hnx⟩ := HN.out W2 W3 k2 k3 q3 n3 l2 l3 v3 hv; have NX : Bx _ := ⟨hnx⟩; have RW : Bx _ := ⟨hrow⟩; have hr3 := q3.lt; clear HN hnx hrow hv q3 q2 B3)
       | (at_builtin; refine wpList_append_lies _ rfl (.tmp 11) (.tmp 14) 39 rfl (rb + 1) 3 i0 (.int .i64 0) 1 8 Tryz.underlying39 hi hz0 hz1 hz2 rfl (by decide) (.slice a acc.length c) acc.length (bM (ends acc ns.length)) rfl (by have := bO RW.out (ah W3 (.cells #[.int .i64 (v3 : Int)] 3)); rw [cz] at this; exact this) ⟨W3.heap.size, 0, none⟩ 1 1 [.int .i64 (v3 : Int)] rfl rfl (dD _ _ rfl _) (eF _) (by decide) (by unfold maxLen; omega) (by omega) (by simp; omega) (W3.heap.size + 1) (by simp) ?_; intro g2 cp w4 hown hgrow hat hlt4; have LN := NX.out g2 cp w4 hgrow hat hlt4 hown; have LNB : Bx _ := ⟨LN⟩; clear hgrow hat hown LN))
      go_roundw
      case rel => exact ⟨g, acc ++ ts, s', some ⟨g2, 0, none⟩, cp, by simp [n3], LNB⟩
      case measure => simp [sliceLen]; omega
   ·have eR : Bx (R = .ok acc cur) := ⟨by
     rw [HL.out.eq]
     unfold iU
     rw [if_neg h2]⟩
    have HP : Bx (∀ W2, RSs w0 rb ae aa TL xs (Uv U (.slice a acc.length c)) W2 cur (ns ++ ag acc ns.length) -> af rb wr W2 -> gF 0 w0 rb ae aa TL xs U W s ns R (.returned (.slice a acc.length c)) W2) := ⟨fun W2 q2 k2 => by
     rw [eR.out]
     exact ⟨hsz, a, c, rfl, q2, HL.out.st.ints HL.out.row k2, HL.out.keep.trans k2, HL.out.new⟩⟩
    clear HL HR HO eR
    go_wp2_with (first
     | (go_at_call 102; refine Calls.mono (B2.out _ hst.out) ?_; rintro e W2 (⟨h, _⟩ | ⟨_, rfl, q2, k2⟩); exact absurd h h2; clear B2))
    go_ret
    exact HP.out _ q2 k2
theorem uY (hT : RT w0 rb ae aa TL xs) (hK : aR TL) {f : Nat} (HO : ∀ f', f' < f -> RC w0 rb ae aa TL xs (pF f' (.of .param)) 152 #[]) (U : Nat -> Prop) (W : World) (s : List ai) (ns : List Nd) (hS : RSs w0 rb ae aa TL xs U W s ns) (hne : pF f (.parted .param) s ≠ .out) :
  Calls Tryz.prog 122 #[.pointer (some ⟨rb, 0, none⟩), .func (.func 152) #[.pointer (some ⟨rb, 0, none⟩)] #[]] W (gF 0 w0 rb ae aa TL xs U W s ns (pF f (.parted .param) s)) := by
 match f, HO, hne with
 | 0, _, hne => exact absurd rfl hne
 | f + 1, HO, hne =>
 obtain ⟨i0, hi, hz0, hz1, hz2⟩ := info_parts gu
 have hslen : s.length <= 65537 := by
  obtain ⟨i, rfl, hi, _⟩ := hS
  have := hT.small
  unfold pts
  simp
  omega
 have hrW := hS.lt
 rw [jJ] at hne ⊢
 have B1 : Bx (pF f (.of .param) s ≠ .out -> Calls Tryz.prog 152 #[.pointer (some ⟨rb, 0, none⟩)] W (aj w0 rb ae aa TL xs U W s ns (pF f (.of .param) s))) := ⟨fun h => HO f (by omega) U W s ns hS h⟩
 match r1 : pF f (.of .param) s with
 | .out => rw [r1] at hne; exact absurd rfl hne
 | .err s1 =>
  rw [r1] at B1
  go_enter Tryz.func122, Tryz.ntmps122
  go_wp2_with (first
   | (go_at_call 152; refine Calls.mono (B1.out (by simp)) ?_; rintro e W1 ⟨rfl, b1⟩; unfold ak))
  exact ⟨rfl, rfl, b1⟩
 | .ok a1 s1 =>
  rw [r1] at B1 hne
  simp only [aC] at hne ⊢
  generalize hR : iU .param f a1 s1 = R at hne ⊢
  have HR : Bx (R ≠ .out) := ⟨hne⟩
  have HA : Bx (∀ W1 (v : Nat), a1.length = 1 -> v = ns.length + sizes a1 - 1 -> s1.length + sizes a1 <= s.length -> RSs w0 rb ae aa TL xs U W1 s1 (ns ++ ag a1 ns.length) -> af rb W W1 -> ny w0 rb ae aa TL xs U W s ns .param R (f + 1) (.slice (some ⟨W1.heap.size, 0, none⟩) 1 1) (W1.alloc (.cells #[.int .i64 (v : Int)] 3)) f a1 s1) := ⟨fun W1 v n1 hv l1 q1 k1 => by
   refine ⟨hR.symm, by omega, q1.jd _, ?_, k1.trans (af.alloc q1.lt _), fun y hy => ?_, l1⟩
   ·rw [aK n1, ← hv]
    exact row_one q1.lt
   ·simp [Value.ownBlock] at hy
    subst hy
    exact k1.size⟩
  clear hR hne
  go_enter Tryz.func122, Tryz.ntmps122
  go_wp2_with (first
   | (go_at_call 152; refine Calls.mono (B1.out (by simp)) ?_; rintro e W1 ⟨n1, l1, he, q1, k1⟩; obtain ⟨v1, hv1⟩ : ∃ r : Nat, r = (ns.length + sizes a1 - 1) := ⟨_, rfl⟩; rw [← hv1] at he; subst he; have L0 := HA.out W1 v1 n1 hv1 l1 q1 k1; have LB : Bx _ := ⟨L0⟩; clear L0 HA B1 q1 k1 hv1))
  go_loopw [5] (fun kv wr => ∃ f' : Nat, ∃ acc cur, ∃ a c, kv = .slice a acc.length c /\ Bx (ny w0 rb ae aa TL xs U W s ns .param R (f + 1) kv wr f' acc cur)) (fun kv _ => s.length - sliceLen kv)
  case atStart => exact ⟨f, a1, s1, _, _, by rw [n1], LB⟩
  case round =>
   obtain ⟨f', acc, cur, a, c, rfl, HL⟩ := hrel
   clear LB
   have hsz := HL.out.sz
   have hac := dR acc
   have B2 : Bx (∀ W1, RSs w0 rb ae aa TL xs (Uv U (.slice a acc.length c)) W1 cur (ns ++ ag acc ns.length) -> _) := ⟨fun W1 h => iP hT hK h 46 (by decide) ⟨#[44]⟩ (by decide)⟩
   have hst : Bx _ := ⟨HL.out.st⟩
   by_cases h2 : kd cur = 46
   ·match f', HL with
    | 0, HL =>
     have := HL.out.eq
     unfold iU at this
     rw [if_pos h2] at this
     exact absurd this HR.out
    | g + 1, HL =>
     have e1 : R = iy acc (aC (pF g (.of .param) (tl cur)) fun a s1 => iU .param g a s1) := by
      rw [← jJ, HL.out.eq]
      unfold iU
      rw [if_pos h2]
     have hgf : g < f + 1 := by have := HL.out.le; omega
     have B3 : Bx (∀ W1, RSs w0 rb ae aa TL xs (Uv U (.slice a acc.length c)) W1 (tl cur) (ns ++ ag acc ns.length) -> pF g (.of .param) (tl cur) ≠ .out -> Calls Tryz.prog 152 #[.pointer (some ⟨rb, 0, none⟩)] W1 (aj w0 rb ae aa TL xs (Uv U (.slice a acc.length c)) W1 (tl cur) (ns ++ ag acc ns.length) (pF g (.of .param) (tl cur)))) := ⟨fun W1 h hn => HO g hgf _ W1 (tl cur) _ h hn⟩
     match r3 : pF g (.of .param) (tl cur) with
     | .out =>
      rw [r3] at e1
      exact absurd e1 HR.out
     | .err s' =>
      rw [r3] at B3 e1
      have eR : Bx (R = .err s') := ⟨e1⟩
      clear HL HR HO e1
      go_wp2_with (first
       | (go_at_call 102; refine Calls.mono (B2.out _ hst.out) ?_; rintro e W2 (⟨_, rfl, q2, l2, k2⟩ | ⟨h, _⟩); rotate_left 1; exact absurd h2 h; clear B2)
       | (go_at_call 152; refine Calls.mono (B3.out _ q2 (by simp)) ?_; rintro e W3 ⟨rfl, b3⟩; unfold ak))
      exact ⟨rfl, by rw [eR.out]; exact ⟨rfl, b3⟩⟩
     | .ok ts s' =>
      rw [r3] at B3 e1
      have eR : Bx (R = iU .param g (acc ++ ts) s') := ⟨by rw [e1]; exact qh _ _ _ _ _⟩
      have HN : Bx (∀ W2 W3, af rb wr W2 -> af rb W2 W3 -> RSs w0 rb ae aa TL xs (Uv U (.slice a acc.length c)) W3 s' ((ns ++ ag acc ns.length) ++ ag ts (ns ++ ag acc ns.length).length) -> ts.length = 1 -> (tl cur).length + 1 = cur.length -> s'.length + sizes ts <= (tl cur).length -> ∀ v : Nat, v = ((ns ++ ag acc ns.length).length + sizes ts - 1) ->
        aQ W3 rb (.slice a acc.length c) (ends acc ns.length) /\ ∀ g2 cp w4, (W3.alloc (.cells #[.int .i64 (v : Int)] 3)).grownBy w4 (Value.slice a acc.length c).ownBlock -> ((Value.slice a acc.length c).ownBlock = some g2 ∨ g2 = W3.heap.size + 1) -> g2 < w4.heap.size -> w4.ownsRow (rb + 1) 3 1 (.slice (some ⟨g2, 0, none⟩) (acc.length + 1) cp) (acc.length + 1) (bM (ends acc ns.length) ++ [.int .i64 (v : Int)]) -> ny w0 rb ae aa TL xs U W s ns .param R (f + 1) (.slice (some ⟨g2, 0, none⟩) (acc.length + 1) cp) w4 g (acc ++ ts) s') := ⟨fun W2 W3 k2 k3 q3 n3 l2 l3 v hv => by
       have hrow := HL.out.st.ints HL.out.row (k2.trans k3)
       refine ⟨hrow, fun g2 cp w4 hg hat hl4 hown => ?_⟩
       obtain ⟨p1, p2⟩ := q3.grown hrow hg g2 (acc.length + 1) cp hat hl4
       obtain ⟨p3, p4⟩ := p2 W (HL.out.keep.trans (k2.trans k3)) HL.out.new
       have hends : ends (acc ++ ts) ns.length = ends acc ns.length ++ [(v : Int)] := by rw [bD, aK n3, hv, dV]
       refine ⟨eR.out, by omega, ?_, ?_, p3, fun y hy => ?_, ?_⟩
       ·rw [bP] at p1
        exact p1
       ·unfold aQ
        rw [hends, List.length_append, cz, bM, List.map_append]
        exact hown
       ·simp [Value.ownBlock] at hy
        subst hy
        exact p4
       ·rw [aI]
        omega⟩
      clear HL HR HO e1
      go_wp2_with (first
       | (go_at_call 102; refine Calls.mono (B2.out _ hst.out) ?_; rintro e W2 (⟨_, rfl, q2, l2, k2⟩ | ⟨h, _⟩); rotate_left 1; exact absurd h2 h; clear B2)
       | (go_at_call 152; refine Calls.mono (B3.out _ q2 (by simp)) ?_; rintro e W3 ⟨n3, l3, he, q3, k3⟩; obtain ⟨v3, hv⟩ : ∃ r : Nat, r = ((ns ++ ag acc ns.length).length + sizes ts - 1) := ⟨_, rfl⟩; rw [← hv] at he; subst he; obtain ⟨hrow, hnx⟩ := HN.out W2 W3 k2 k3 q3 n3 l2 l3 v3 hv; have NX : Bx _ := ⟨hnx⟩; have RW : Bx _ := ⟨hrow⟩; have hr3 := q3.lt; clear HN hnx hrow hv q3 q2 B3)
       | (at_builtin; refine wpList_append_lies _ rfl (.tmp 11) (.tmp 14) 39 rfl (rb + 1) 3 i0 (.int .i64 0) 1 8 Tryz.underlying39 hi hz0 hz1 hz2 rfl (by decide) (.slice a acc.length c) acc.length (bM (ends acc ns.length)) rfl (by have := bO RW.out (ah W3 (.cells #[.int .i64 (v3 : Int)] 3)); rw [cz] at this; exact this) ⟨W3.heap.size, 0, none⟩ 1 1 [.int .i64 (v3 : Int)] rfl rfl (dD _ _ rfl _) (eF _) (by decide) (by unfold maxLen; omega) (by omega) (by simp; omega) (W3.heap.size + 1) (by simp) ?_; intro g2 cp w4 hown hgrow hat hlt4; have LN := NX.out g2 cp w4 hgrow hat hlt4 hown; have LNB : Bx _ := ⟨LN⟩; clear hgrow hat hown LN))
      go_roundw
      case rel => exact ⟨g, acc ++ ts, s', some ⟨g2, 0, none⟩, cp, by simp [n3], LNB⟩
      case measure => simp [sliceLen]; omega
   ·have eR : Bx (R = .ok acc cur) := ⟨by
     rw [HL.out.eq]
     unfold iU
     rw [if_neg h2]⟩
    have HP : Bx (∀ W2, RSs w0 rb ae aa TL xs (Uv U (.slice a acc.length c)) W2 cur (ns ++ ag acc ns.length) -> af rb wr W2 -> gF 0 w0 rb ae aa TL xs U W s ns R (.returned (.slice a acc.length c)) W2) := ⟨fun W2 q2 k2 => by
     rw [eR.out]
     exact ⟨hsz, a, c, rfl, q2, HL.out.st.ints HL.out.row k2, HL.out.keep.trans k2, HL.out.new⟩⟩
    clear HL HR HO eR
    go_wp2_with (first
     | (go_at_call 102; refine Calls.mono (B2.out _ hst.out) ?_; rintro e W2 (⟨h, _⟩ | ⟨_, rfl, q2, k2⟩); exact absurd h h2; clear B2))
    go_ret
    exact HP.out _ q2 k2
end Go.Proofs.YtecodpdfckjalaaGreatDoor
