import Derived.Test.YtecpknpcjoiliaaDoorCJTn
import Derived.Test.YtecpknpcjoiliaaDoorCJTg
import Derived.Test.YtecpknpcjoiliaaDoorCJSa
import Derived.Test.YtecpknpcjoiliaaDoorCJSh
import Derived.Test.YtecpknpcjoiliaaDoorCJBk
namespace Go.Proofs.YtecpknpcjoiliaaDoor
open Go.RowKit Go.Shelf
set_option linter.unusedVariables false
set_option linter.unusedSimpArgs false

/-- what Parse tells, in one form -/
def resG : Got (List Ev) Nat → List Ev × Int × Int
  | .no n => ([], (n : Int), 180)
  | .yes es => (es, 0, 0)
def ParG (w : World) (r : List Ev × Int × Int) (e : Ending) (w' : World) : Prop := ∃ a n c ls, e = .returned (.tuple #[.slice a n c, .int .i64 r.2.1, .int .i64 r.2.2]) ∧ Bx (Below w.heap.size w w' ∧ EvX w' w.heap.size w'.heap.size (.slice a n c) r.1 ls)
theorem ParP.g {w w' : World} {r : Got (List Ev) Nat} {e : Ending} (h : ParP w r e w') : ParG w (resG r) e w' := by
  obtain ⟨h1, h2⟩ := h
  cases r with
  | no n => exact ⟨none, 0, 0, [], h2, ⟨h1.out, (EvO.nil w' w.heap.size).x⟩⟩
  | yes es =>
    obtain ⟨a, n, c, ls, h3, h4⟩ := h2
    exact ⟨a, n, c, ls, h3, ⟨h1.out, h4.out.x⟩⟩
theorem res_few {tx : List UInt8} (hx : tx.length ≤ 1073741824) : (resG (readE tx)).1.length ≤ 1099511627776 ∧ ∀ j (h : j < (resG (readE tx)).1.length), (resG (readE tx)).1[j].list.length ≤ 1099511627776 := by
  cases hr : readE tx with
  | no n => exact ⟨by simp [resG], fun j h => by simp [resG] at h⟩
  | yes es =>
    obtain ⟨h2, h1, _⟩ := readE_yes hr
    have h3 := totE_text h1
    rw [h2] at h3
    have h4 := totE_len es
    refine ⟨by show es.length ≤ _; omega, fun j h => ?_⟩
    have h' : j < es.length := h
    have := totE_at h'
    show es[j].list.length ≤ _
    omega
def Tr (B : Nat) (w : World) (e : Ending) (w' : World) : Prop := e = .returned (.bool true) ∧ Bx (Below B w w')
/-- all that is asked behind the two marks -/
def M10 (Q : Ending → World → Prop) (va vb vc vw : Value) (w10 : World) : Prop :=
  Calls Tryd.prog 20 #[vc, vw] w10 (Tr w10.heap.size w10) ∧ ∀ Y, Below w10.heap.size w10 Y →
    (Calls Tryd.prog 22 #[va, .int .i64 (-3)] Y fun e w' => e = .returned (.bool true) ∧ w' = Y) ∧ (Calls Tryd.prog 22 #[vb, .int .i64 (-4)] Y fun e w' => e = .returned (.bool true) ∧ w' = Y) ∧ Q (.returned (.bool true)) Y
def M9 (Q : Ending → World → Prop) (va vb vc vw : Value) (w9 : World) : Prop :=
  Calls Tryd.prog 21 #[vb, .int .i64 (-4)] w9 fun e w' => e = .returned (.tuple #[]) ∧ Bx (M10 Q va vb vc vw w')
def M5 (Q : Ending → World → Prop) (va vb vc vw vs : Value) (w5 : World) : Prop :=
  ∀ Y, Below w5.heap.size w5 Y → Calls Tryd.prog 20 #[va, vw] Y (Tr w5.heap.size w5) ∧ Calls Tryd.prog 20 #[vb, vs] Y (Tr w5.heap.size w5) ∧ Calls Tryd.prog 20 #[vc, vw] Y (Tr w5.heap.size w5) ∧ Calls Tryd.prog 21 #[va, .int .i64 (-3)] Y fun e w' => e = .returned (.tuple #[]) ∧ Bx (M9 Q va vb vc vw w')
theorem same_x {Y : World} {h1 e1 h2 e2 n1 c1 n2 c2 : Nat} {a1 a2 : Option Addr} {es : List Ev} {l1 l2 : List (Option Addr × Nat)} (x1 : EvX Y h1 e1 (.slice a1 n1 c1) es l1) (x2 : EvX Y h2 e2 (.slice a2 n2 c2) es l2) {B : Nat} {w : World} (hB : B ≤ Y.heap.size) (hb : Below B w Y) : Calls Tryd.prog 20 #[.slice a1 n1 c1, .slice a2 n2 c2] Y (Tr B w) := by
  obtain ⟨q1, v1⟩ := x1.evo.view
  obtain ⟨q2, v2⟩ := x2.evo.view
  rw [q1, q2]
  exact (sameEvents_yes Y es rfl a1 a2 c1 c2 v1 v2).mono fun e w' h => ⟨h.1, ⟨hb.trans (h.2.mono hB)⟩⟩
set_option maxHeartbeats 2000000 in
theorem m5_of (Q : Ending → World → Prop) (w : World) (H : Nat) (w5 : World) (hb5 : Below H w w5) (HQ : ∀ W, Below H w W → Q (.returned (.bool true)) W)
    {h1 e1 h2 e2 h3 e3 h4 e4 h5 e5 : Nat} {a1 a2 a3 a4 a5 : Option Addr} {n1 c1 n2 c2 n3 c3 n4 c4 n5 c5 : Nat} {E1 E2 : List Ev} {l1 l2 l3 l4 l5 : List (Option Addr × Nat)}
    (x1 : EvX w5 h1 e1 (.slice a1 n1 c1) E1 l1) (x2 : EvX w5 h2 e2 (.slice a2 n2 c2) E2 l2) (x3 : EvX w5 h3 e3 (.slice a3 n3 c3) E1 l3) (x4 : EvX w5 h4 e4 (.slice a4 n4 c4) E1 l4) (x5 : EvX w5 h5 e5 (.slice a5 n5 c5) E2 l5)
    (o0 : H ≤ h1) (o1 : h1 ≤ e1) (o2 : e1 = h2) (o3 : h2 ≤ e2) (o4 : e2 ≤ h3) (o5 : h3 ≤ e3) (o6 : e3 ≤ h4) (o7 : h4 ≤ e4) (o8 : e4 ≤ h5) (o9 : h5 ≤ e5) (o10 : e5 ≤ w5.heap.size)
    (f1 : E1.length ≤ 1099511627776 ∧ ∀ j (h : j < E1.length), E1[j].list.length ≤ 1099511627776) (f2 : E2.length ≤ 1099511627776 ∧ ∀ j (h : j < E2.length), E2[j].list.length ≤ 1099511627776) :
    M5 Q (.slice a1 n1 c1) (.slice a2 n2 c2) (.slice a3 n3 c3) (.slice a4 n4 c4) (.slice a5 n5 c5) w5 := by
  intro Y hY
  have hs := hY.size
  have y1 := x1.below (by omega) hY
  have y2 := x2.below (by omega) hY
  have y3 := x3.below (by omega) hY
  have y4 := x4.below (by omega) hY
  have y5 := x5.below (by omega) hY
  have hwY : Below H w Y := hb5.trans (hY.mono (by omega))
  refine ⟨same_x y1 y4 hs hY, same_x y2 y5 hs hY, same_x y3 y4 hs hY, ?_⟩
  refine (mark_any Y h1 e1 a1 n1 c1 E1 l1 (-3) ⟨by omega, by omega⟩ y1 (by omega) f1.1 f1.2).mono ?_
  rintro e w9 ⟨rfl, B9⟩
  obtain ⟨s9, F1, z1, k1⟩ := B9.out
  have hs9 := s9.bel.size
  refine ⟨rfl, ⟨?_⟩⟩
  have z2 : EvX w9 h2 e2 (.slice a2 n2 c2) E2 l2 := y2.keep fun g g1 g2 => s9.up g (by omega) (by omega)
  have z3 : EvX w9 h3 e3 (.slice a3 n3 c3) E1 l3 := y3.keep fun g g1 g2 => s9.up g (by omega) (by omega)
  have z4 : EvX w9 h4 e4 (.slice a4 n4 c4) E1 l4 := y4.keep fun g g1 g2 => s9.up g (by omega) (by omega)
  refine (mark_any w9 h2 e2 a2 n2 c2 E2 l2 (-4) ⟨by omega, by omega⟩ z2 (by omega) f2.1 f2.2).mono ?_
  rintro e w10 ⟨rfl, B10⟩
  obtain ⟨s10, F2, u2, k2⟩ := B10.out
  have hs10 := s10.bel.size
  have u1 : EvX w10 h1 e1 (.slice a1 n1 c1) F1 l1 := z1.keep fun g g1 g2 => s10.bel.block g (by omega)
  have u3 : EvX w10 h3 e3 (.slice a3 n3 c3) E1 l3 := z3.keep fun g g1 g2 => s10.up g (by omega) (by omega)
  have u4 : EvX w10 h4 e4 (.slice a4 n4 c4) E1 l4 := z4.keep fun g g1 g2 => s10.up g (by omega) (by omega)
  have hw10 : Below H w w10 := hwY.trans ((s9.bel.mono (by omega)).trans (s10.bel.mono (by omega)))
  refine ⟨rfl, ⟨same_x u3 u4 (Nat.le_refl _) (Below.refl _ _), fun Z hZ => ?_⟩⟩
  have t1 := u1.below (by omega) hZ
  have t2 := u2.below (by omega) hZ
  obtain ⟨q1, v1⟩ := t1.evo.view
  obtain ⟨q2, v2⟩ := t2.evo.view
  have ln1 : n1 = E1.length := (x1.evo.view).1
  have ln2 : n2 = E2.length := (x2.evo.view).1
  refine ⟨marked_any Z _ a1 n1 c1 F1 (-3) ⟨by omega, by omega⟩ v1 q1 k1 (by have := f1.1; omega), marked_any Z _ a2 n2 c2 F2 (-4) ⟨by omega, by omega⟩ v2 q2 k2 (by have := f2.1; omega), HQ _ (hw10.trans (hZ.mono (by omega)))⟩
end Go.Proofs.YtecpknpcjoiliaaDoor
namespace Go.Proofs.YtecpknpcjoiliaaDoor
open Go.RowKit Go.Shelf
set_option linter.unusedVariables false
set_option linter.unusedSimpArgs false

set_option maxRecDepth 100000 in
set_option maxHeartbeats 8000000 in
theorem parses_walk (w : World) (hL : LW w) (t1 : List UInt8) (hx1 : t1.length ≤ 1073741824) (t2 : List UInt8) (hx2 : t2.length ≤ 1073741824) :
    Calls Tryd.prog 5 #[strV t1, strV t2] w fun e w' => e = .returned (.bool true) ∧ Below w.heap.size w w' := by
  obtain ⟨Q, hQ⟩ : ∃ Q : Ending → World → Prop, Q = fun e w' => e = .returned (.bool true) ∧ Below w.heap.size w w' := ⟨_, rfl⟩
  rw [← hQ]
  obtain ⟨H, hH⟩ : ∃ H, w.heap.size = H := ⟨_, rfl⟩
  have HQ : Bx (∀ W, Below H w W → Q (.returned (.bool true)) W) := ⟨fun W hb => by rw [hQ, hH]; exact ⟨rfl, hb⟩⟩
  have HSH : Bx (Calls Tryd.prog 9 #[] w fun e w' => e = .returned (.bool true) ∧ Bx (Below H w w')) := ⟨(shown_any w hL).mono fun e w' h => ⟨h.1, ⟨by rw [← hH]; exact h.2.out⟩⟩⟩
  have HP1 : Bx (∀ W, Below H w W → Calls Tryd.prog 18 #[strV t1] W (ParG W (resG (readE t1)))) := ⟨fun W hb => (Parse_any t1 W (hL.below (by rw [hH]; exact hb)) (by omega)).mono fun e w' h => h.g⟩
  have HP2 : Bx (∀ W, Below H w W → Calls Tryd.prog 18 #[strV t2] W (ParG W (resG (readE t2)))) := ⟨fun W hb => (Parse_any t2 W (hL.below (by rw [hH]; exact hb)) (by omega)).mono fun e w' h => h.g⟩
  have HPa : Bx _ := ⟨HP1.out⟩
  have HR1 : Bx (∀ W, Calls Tryd.prog 19 #[strV t1] W (ParG W (resG (readE t1)))) := ⟨fun W => (rParse_any t1 W (by omega)).mono fun e w' h => h.g⟩
  have HR2 : Bx (∀ W, Calls Tryd.prog 19 #[strV t2] W (ParG W (resG (readE t2)))) := ⟨fun W => (rParse_any t2 W (by omega)).mono fun e w' h => h.g⟩
  have HF1 : Bx _ := ⟨res_few hx1⟩
  have HF2 : Bx _ := ⟨res_few hx2⟩
  clear hQ hL hx1 hx2
  generalize resG (readE t1) = R1 at *
  generalize resG (readE t2) = R2 at *
  obtain ⟨E1, N1, X1⟩ := R1
  obtain ⟨E2, N2, X2⟩ := R2
  generalize strV t1 = s1 at *
  generalize strV t2 = s2 at *
  have hle0 : ∀ W, Below H w W → H ≤ W.heap.size := fun W hb => by have := hb.size; omega
  have HLE : Bx _ := ⟨hle0⟩
  clear hle0
  go_enter Tryd.func5, Tryd.ntmps5
  go_wp2_with (first
    | (go_at_call 9; refine HSH.out.mono ?_; rintro e w0 ⟨rfl, B0⟩; clear HSH)
    | (go_at_call 18; refine (HPa.out _ B0.out).mono ?_; clear HPa; rintro e w1 ⟨a1, n1, c1, l1, rfl, D1⟩; have B1 : Bx _ := ⟨B0.out.trans (D1.out.1.mono (HLE.out _ B0.out))⟩)
    | (go_at_call 18; refine (HP2.out _ B1.out).mono ?_; clear HP2; rintro e w2 ⟨a2, n2, c2, l2, rfl, D2⟩; have B2 : Bx _ := ⟨B1.out.trans (D2.out.1.mono (HLE.out _ B1.out))⟩)
    | (go_at_call 18; refine (HP1.out _ B2.out).mono ?_; clear HP1; rintro e w3 ⟨a3, n3, c3, l3, rfl, D3⟩; have B3 : Bx _ := ⟨B2.out.trans (D3.out.1.mono (HLE.out _ B2.out))⟩)
    | (go_at_call 19; refine (HR1.out w3).mono ?_; clear HR1; rintro e w4 ⟨a4, n4, c4, l4, rfl, D4⟩)
    | (go_at_call 19; refine (HR2.out w4).mono ?_; rintro e w5 ⟨a5, n5, c5, l5, rfl, D5⟩; clear HR2
       have HM : Bx (M5 Q (.slice a1 n1 c1) (.slice a2 n2 c2) (.slice a3 n3 c3) (.slice a4 n4 c4) (.slice a5 n5 c5) w5) := ⟨by
         obtain ⟨b1, x1⟩ := D1.out
         obtain ⟨b2, x2⟩ := D2.out
         obtain ⟨b3, x3⟩ := D3.out
         obtain ⟨b4, x4⟩ := D4.out
         obtain ⟨b5, x5⟩ := D5.out
         have z0 := HLE.out _ B0.out
         have z1 := b1.size
         have z2 := b2.size
         have z3 := b3.size
         have z4 := b4.size
         have z5 := b5.size
         have b35 : Below w3.heap.size w3 w5 := b4.trans (b5.mono (by omega))
         have b25 : Below w2.heap.size w2 w5 := b3.trans (b35.mono (by omega))
         have b15 : Below w1.heap.size w1 w5 := b2.trans (b25.mono (by omega))
         exact m5_of Q w H w5 (B3.out.trans (b35.mono (by omega))) HQ.out (x1.below (Nat.le_refl _) b15) (x2.below (Nat.le_refl _) b25) (x3.below (Nat.le_refl _) b35) (x4.below (Nat.le_refl _) b5) x5 z0 z1 rfl z2 (Nat.le_refl _) z3 (Nat.le_refl _) z4 (Nat.le_refl _) z5 (Nat.le_refl _) HF1.out HF2.out⟩
       have B5 : Bx (Below w5.heap.size w5 w5) := ⟨Below.refl _ _⟩
       clear D1 D2 D3 D4 D5 B0 B1 B2 B3 HQ HF1 HF2 HLE)
    | (go_at_call 20; refine (HM.out _ B5.out).1.mono ?_; clear B5; rintro e w6 ⟨rfl, B6⟩)
    | (go_at_call 20; refine (HM.out _ B6.out).2.1.mono ?_; clear B6; rintro e w7 ⟨rfl, B7⟩)
    | (go_at_call 20; refine (HM.out _ B7.out).2.2.1.mono ?_; clear B7; rintro e w8 ⟨rfl, B8⟩)
    | (go_at_call 21; refine (HM.out _ B8.out).2.2.2.mono ?_; clear B8 HM; rintro e w9 ⟨rfl, HM9⟩)
    | (go_at_call 21; refine HM9.out.mono ?_; clear HM9; rintro e w10 ⟨rfl, HM10⟩; have HK1 : Bx _ := ⟨HM10.out.2⟩; have HK2 : Bx _ := ⟨HM10.out.2⟩)
    | (go_at_call 20; refine HM10.out.1.mono ?_; rintro e w11 ⟨rfl, B11⟩)
    | (go_at_call 22; refine (HK1.out _ B11.out).1.mono ?_; clear HK1; rintro e w12 ⟨rfl, h12⟩; subst w12)
    | (go_at_call 22; refine (HK2.out _ B11.out).2.1.mono ?_; clear HK2; rintro e w13 ⟨rfl, h13⟩; subst w13))
  exact (HM10.out.2 _ B11.out).2.2
end Go.Proofs.YtecpknpcjoiliaaDoor
