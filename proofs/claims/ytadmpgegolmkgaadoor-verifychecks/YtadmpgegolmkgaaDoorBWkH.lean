import Derived.Test.YtadmpgegolmkgaaDoorBWkE
import Derived.Test.YtadmpgegolmkgaaDoorBWlA
import Derived.Test.YtadmpgegolmkgaaDoorBWlD
import Derived.Test.YtadmpgegolmkgaaDoorBWlE
import Derived.Test.YtadmpgegolmkgaaDoorBWlF
import Derived.Test.YtadmpgegolmkgaaDoorBWlG
set_option linter.unusedVariables false
set_option linter.unusedSimpArgs false
set_option maxHeartbeats 4000000
set_option maxRecDepth 100000
namespace Go.Proofs.YtadmpgegolmkgaaDoor
open Go.RowKit Go.MapKept Go.ChangeMaps Go.WideShapes
theorem wH {w : World} {wb : Nat} {g : WG} {A : WA} {L gb : Nat} {P : Prs} {K : List Wy} {D : Nat -> Bool} {B : Nat} {code : List CIn} {ca : Option Addr} {cc i : Nat} {x : CIn} {p : Wy} {res : Bool} (h : LkE w wb g A L gb P K D B code ca cc i x p res) (hl : ¬ (p.1 : Int) - 1 < ax x) (ho : x.op = 25) (hr : (p.1 : Int) - 1 ≠ if res then 1 else 0) :
  Calls Tryd.prog 44 #[.pointer (some ⟨wb, 0, none⟩), .int .i64 (i : Int)] w fun e w' => e = .returned (.int .i64 94) /\ Bx (Below w.heap.size w w') := by
 obtain ⟨b, o, ka, kc, rfl, hb, u0, u1, u2, u3, hks, hil, hcc, hig⟩ := h.ins
 obtain ⟨v0, v1⟩ := h.wk.known h.hp
 obtain ⟨_, _, _, c3, c4, c5, _, _⟩ := h.wk.cells
 rw [h.a3] at c3
 rw [h.a4] at c4
 have hcl := h.len
 have hp1 := h.p1
 have hp2 := h.p2
 have HP : Bx (∀ X ib yb, LD w X ib yb x ka kc p -> _) := ⟨fun X ib yb hX => h.iT hks hX⟩
 have H1 : Bx _ := ⟨LD.one w x ka kc p⟩
 have H2 : Bx _ := ⟨LD.two w x ka kc p⟩
 have hiI : (i : Int) < (code.length : Int) := by omega
 have hgI : (i : Int) < (g.n : Int) := by omega
 have hkl := h.wk.lt.2.2.2.1
 have hwl := h.wk.lt.1
 have HR : Bx (∀ X, Below w.heap.size w X -> Calls Tryd.prog 65 #[.pointer (some ⟨wb, 0, none⟩)] X fun e w' => e = .returned (.int .i64 (if res then 1 else 0)) /\ X = w') := ⟨fun X hX => jO X wb res (by have := (h.wk.below hX).cells.2.2.2.1; rw [h.a3] at this; exact this)⟩
 have H4 : Bx (∀ X, Below w.heap.size w X -> X.cell? ⟨wb, 4, none⟩ = some (.slice (some ⟨b, o, none⟩) code.length cc)) := ⟨fun X hX => by have := (h.wk.below hX).cells.2.2.2.2.1; rw [h.a4] at this; exact this⟩
 have hwr : IntKind.i64.wrap ((p.1 : Int) - 1) = (p.1 : Int) - 1 := by rw [IntKind.wrap_i64]; omega
 have HN : Bx (∀ X, _) := ⟨fun X => bO x.op X⟩
 have HB : Bx (∀ X, _) := ⟨fun X => bP x.op X⟩
 have b25 : (x.op == 25) = true := by simp [ho]
 generalize hrs : (if res then (1 : Int) else 0) = rs at *
 have hne : ((p.1 : Int) - 1 != rs) = true := by simp [hr]
 have HO : Bx (x.op = 25) := ⟨ho⟩
 clear h hks ho hr hrs
 unfold aR at HP
 generalize ax x = tk at *
 go_enter Tryd.func44, Tryd.ntmps44
 go_wp2
 go_region
 ·clear c3 c4 c5 u0 u1 u2 u3 v0 v1
  go_wp2_with (first
   | (go_at_call 16; refine (HP.out _ _ _ H1.out).mono ?_; rintro e w2 ⟨rfl, hc2⟩; have HC2 : Bx _ := ⟨hc2⟩; clear hc2))
  obtain ⟨z0, _, _, _, z4, _, _, _⟩ := HC2.out.cells
  rw [HO.out] at z0
  go_quiet (first | (go_at_call 65; exact Calls.quiet_of_same ((HR.out _ (HC2.out.drewN _).bel).mono fun e w' h => ⟨h.1, h.2.symm⟩)))
  clear z0 z4
  go_wp2
  go_ret
  exact ⟨rfl, ⟨(HC2.out.drewN _).bel⟩⟩
 ·clear c3 c4 c5 u0 u1 u2 u3 v0 v1
  go_wp2_with (first
   | (go_at_call 16; refine (HP.out _ _ _ H2.out).mono ?_; rintro e w2 ⟨rfl, hc2⟩; have HC2 : Bx _ := ⟨hc2⟩; clear hc2))
  obtain ⟨z0, _, _, _, z4, _, _, _⟩ := HC2.out.cells
  rw [HO.out] at z0
  go_quiet (first | (go_at_call 65; exact Calls.quiet_of_same ((HR.out _ (HC2.out.drewN _).bel).mono fun e w' h => ⟨h.1, h.2.symm⟩)))
  clear z0 z4
  go_wp2
  go_ret
  exact ⟨rfl, ⟨(HC2.out.drewN _).bel⟩⟩
theorem wI {w : World} {wb : Nat} {g : WG} {A : WA} {L gb : Nat} {P : Prs} {K : List Wy} {D : Nat -> Bool} {B : Nat} {code : List CIn} {ca : Option Addr} {cc i : Nat} {x : CIn} {p : Wy} {res : Bool} (h : LkE w wb g A L gb P K D B code ca cc i x p res) (hL : L < 60) (hP : P.length + L < 1099511627776) {sl : Int} (hx : LkX code.length sl i x) (hsl : sl <= 65536) (hng : code.length <= g.n) (hs : vsP L P p.2) (hp2 : p.1 < 2305843009213693952) :
  Calls Tryd.prog 44 #[.pointer (some ⟨wb, 0, none⟩), .int .i64 (i : Int)] w fun e w' => e = .returned (.int .i64 (bY code.length res L i x p ⟨P, K, D⟩).1) /\ Bx (aK w wb g A L gb (bY code.length res L i x p ⟨P, K, D⟩).2.P (bY code.length res L i x p ⟨P, K, D⟩).2.K (bY code.length res L i x p ⟨P, K, D⟩).2.D w') := by
 have hil := (List.getElem?_eq_some_iff.1 h.hx).1
 unfold bY
 by_cases hl : (p.1 : Int) - 1 < ax x
 ·simp only [if_pos hl]
  refine (tN h hl).mono ?_
  rintro e w' ⟨rfl, hb⟩
  exact ⟨rfl, ⟨aK.refl h.wk hb.out⟩⟩
 ·simp only [if_neg hl]
  obtain ⟨a1, a2, a3⟩ := ni hl hx.pop hx.push
  have ha5 : x.op = 5 ∨ x.op = 6 -> 0 <= x.a /\ x.a <= 2147483648 := fun e => by have := hx.a (by omega); omega
  by_cases h25 : x.op = 25
  ·simp only [if_pos h25]
   have ho : (x.op == 4 || x.op == 6 || x.op == 16) = false := by simp [h25]
   have hg : (!(x.op == 19 || x.op == 21 || x.op == 25 || x.op == 27)) = false := by simp [h25]
   by_cases hr : (p.1 : Int) - 1 = if res then 1 else 0
   ·simp only [if_pos hr]
    have ht : jW g.n i x := ⟨fun e => by omega, fun e => by omega, fun e1 e2 e3 e4 => absurd h25 e3⟩
    have hn : ∀ q, aQ i x q = [] := fun q => by unfold aQ; rw [if_pos h25]
    have hpa : past L P p.2 x.op x.a = (P, p.2) := by unfold past; rw [if_neg (by omega), if_neg (by omega)]
    have := tT h hl ho h25 hg hr hL hP ha5 hs ht hx.push hx.pop (abN x p) (by omega) a1 true (by rw [hn]; rfl)
    rw [hn, hpa] at this
    exact this
   ·simp only [if_neg hr]
    refine (wH h hl h25 hr).mono ?_
    rintro e w' ⟨rfl, hb⟩
    exact ⟨rfl, ⟨aK.refl h.wk hb.out⟩⟩
  ·simp only [if_neg h25]
   by_cases hn : iB x.op = true
   ·have ho : (x.op == 4 || x.op == 6 || x.op == 16) = true := hn
    have hop : x.op = 4 ∨ x.op = 6 ∨ x.op = 16 := by
     simp at ho
     omega
    have hg : (!(x.op == 19 || x.op == 21 || x.op == 25 || x.op == 27)) = true := by
     simp
     omega
    have ha4 : 0 <= x.a /\ x.a <= 2147483648 := by have := hx.a (by omega); omega
    cases hd : den L P p.2 x.a.toNat with
    | false =>
     rw [if_pos ⟨hn, rfl⟩]
     exact zu h hl ho hL ha4 hs hd
    | true =>
     rw [if_neg (fun e => by cases e.2)]
     by_cases he : i + 1 = code.length
     ·rw [if_pos ⟨hg, he⟩]
      exact ww h hl ho hg he hL ha4 hs hd
     ·rw [if_neg (fun e => he e.2)]
      have ht0 := hx.tY hil fun e => he e.2
      have ht : jW g.n i x := ⟨fun e => by have := ht0.a e; omega, fun e => ⟨(ht0.arms e).1, fun j q => by have := (ht0.arms e).2 j q; omega⟩, fun e1 e2 e3 e4 => by have := ht0.on e1 e2 e3 e4; omega⟩
      cases hr : (goP L i x p ⟨P, K, D⟩).1 with
      | true => exact ma h hl ho h25 hg he hL hP ha5 hs ht hx.push hx.pop (abN x p) (by omega) a1 true hr ha4 hd
      | false => exact ma h hl ho h25 hg he hL hP ha5 hs ht hx.push hx.pop (abN x p) (by omega) a1 false hr ha4 hd
   ·have ho : (x.op == 4 || x.op == 6 || x.op == 16) = false := by
     cases hh : (x.op == 4 || x.op == 6 || x.op == 16) with
     | false => rfl
     | true => exact absurd hh hn
    rw [if_neg fun e => hn e.1]
    by_cases hb : oL x.op = true
    ·have hg : (!(x.op == 19 || x.op == 21 || x.op == 25 || x.op == 27)) = true := hb
     by_cases he : i + 1 = code.length
     ·rw [if_pos ⟨hb, he⟩]
      exact wu h hl ho hg he
     ·rw [if_neg fun e => he e.2]
      have ht0 := hx.tY hil fun e => he e.2
      have ht : jW g.n i x := ⟨fun e => by have := ht0.a e; omega, fun e => ⟨(ht0.arms e).1, fun j q => by have := (ht0.arms e).2 j q; omega⟩, fun e1 e2 e3 e4 => by have := ht0.on e1 e2 e3 e4; omega⟩
      cases hr : (goP L i x p ⟨P, K, D⟩).1 with
      | true => exact kL h hl ho h25 hg he hL hP ha5 hs ht hx.push hx.pop (abN x p) (by omega) a1 true hr
      | false => exact kL h hl ho h25 hg he hL hP ha5 hs ht hx.push hx.pop (abN x p) (by omega) a1 false hr
    ·have hg : (!(x.op == 19 || x.op == 21 || x.op == 25 || x.op == 27)) = false := by
      cases hh : (!(x.op == 19 || x.op == 21 || x.op == 25 || x.op == 27)) with
      | false => rfl
      | true => exact absurd hh hb
     rw [if_neg fun e => hb e.1]
     have ht0 := hx.tY hil fun e => hb e.1
     have ht : jW g.n i x := ⟨fun e => by have := ht0.a e; omega, fun e => ⟨(ht0.arms e).1, fun j q => by have := (ht0.arms e).2 j q; omega⟩, fun e1 e2 e3 e4 => by have := ht0.on e1 e2 e3 e4; omega⟩
     cases hr : (goP L i x p ⟨P, K, D⟩).1 with
     | true => exact kM h hl ho h25 hg hL hP ha5 hs ht hx.push hx.pop (abN x p) (by omega) a1 true hr
     | false => exact kM h hl ho h25 hg hL hP ha5 hs ht hx.push hx.pop (abN x p) (by omega) a1 false hr
end Go.Proofs.YtadmpgegolmkgaaDoor
