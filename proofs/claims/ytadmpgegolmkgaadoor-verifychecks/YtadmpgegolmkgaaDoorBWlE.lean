import Derived.Test.YtadmpgegolmkgaaDoorBWlA
set_option linter.unusedVariables false
set_option linter.unusedSimpArgs false
set_option maxHeartbeats 4000000
set_option maxRecDepth 100000
namespace Go.Proofs.YtadmpgegolmkgaaDoor
open Go.RowKit Go.MapKept Go.ChangeMaps Go.WideShapes
theorem kM {w : World} {wb : Nat} {g : WG} {A : WA} {L gb : Nat} {P : Prs} {K : List Wy} {D : Nat -> Bool} {B : Nat} {code : List CIn} {ca : Option Addr} {cc i : Nat} {x : CIn} {p : Wy} {res : Bool} (h : LkE w wb g A L gb P K D B code ca cc i x p res) (hl : ¬ (p.1 : Int) - 1 < ax x) (ho : (x.op == 4 || x.op == 6 || x.op == 16) = false) (h25 : x.op ≠ 25) (hg : (!(x.op == 19 || x.op == 21 || x.op == 25 || x.op == 27)) = false) (hL : L < 60) (hP : P.length + L < 1099511627776) (ha : x.op = 5 ∨ x.op = 6 -> 0 <= x.a /\ x.a <= 2147483648) (hs : vsP L P p.2) (ht : jW g.n i x) (hpu : 0 <= au x /\ au x <= 1) (hpo : 0 <= ax x) (ab : Nat) (hab2 : ab < 4611686018427387904) (hab : (ab : Int) = (p.1 : Int) + (au x - ax x)) (r : Bool) (hr : (aC (aQ i x (ab, (past L P p.2 x.op x.a).2)) K D).1 = r)
  : Calls Tryd.prog 44 #[.pointer (some ⟨wb, 0, none⟩), .int .i64 (i : Int)] w fun e w' => e = .returned (.int .i64 (if r then 0 else 95)) /\ Bx (aK w wb g A L gb (past L P p.2 x.op x.a).1 (aC (aQ i x (ab, (past L P p.2 x.op x.a).2)) K D).2.1 (aC (aQ i x (ab, (past L P p.2 x.op x.a).2)) K D).2.2 w') := by
 refine eB h _ ?_
 intro ka kc hks r0 r1 c hbody X ib yb u8 u9 u10 u11 u12 u13 u14 u15 u16 u17 u18 u19 u20 u21 u22 hX
 unfold Tryd.f44 at hbody
 simp only [Option.some.injEq, Code.seq.injEq] at hbody
 obtain ⟨-, -, rfl⟩ := hbody
 have hp1 := h.p1
 have hp2 := h.p2
 have HPO : Bx (∀ X ib yb, LD w X ib yb x ka kc p -> _) := ⟨fun X ib yb hX => h.iT hks hX⟩
 have hwr : IntKind.i64.wrap ((p.1 : Int) - 1) = (p.1 : Int) - 1 := by rw [IntKind.wrap_i64]; omega
 have HN : Bx (∀ X, _) := ⟨fun X => bO x.op X⟩
 have HB : Bx (∀ X, _) := ⟨fun X => bP x.op X⟩
 have H0 : Bx _ := ⟨hX⟩
 have H4 : Bx (∀ X, Below w.heap.size w X -> X.cell? ⟨wb, 4, none⟩ = some (.slice ca code.length cc)) := ⟨fun X hX => by have := (h.wk.below hX).cells.2.2.2.2.1; rw [h.a4] at this; exact this⟩
 have HQ : Bx (∀ X ib yb, LD w X ib yb x ka kc p -> _) := ⟨fun X ib yb hX => h.pushes hX⟩
 have HG : Bx (∀ X ib yb, LD w X ib yb x ka kc (ab, p.2) -> _) := ⟨fun X ib yb hX => h.rest hL hP ha hs ht ab (by omega) X hX⟩
 rw [hr] at HG
 have hwa : IntKind.i64.wrap (au x - ax x) = au x - ax x := by rw [IntKind.wrap_i64]; omega
 have hwb : IntKind.i64.wrap ((p.1 : Int) + (au x - ax x)) = (ab : Int) := by rw [hab, IntKind.wrap_i64]; omega
 have b25 : (x.op == 25) = false := by simp [h25]
 rw [hg] at HB
 unfold aR at HQ
 generalize au x = pu at *
 generalize past L P p.2 x.op x.a = RR at *
 generalize aC (aQ i x (ab, RR.2)) K D = CC at *
 clear hg hr hab h25 hs ht ha hpu hpo
 unfold aR at HPO
 clear h hks hX
 generalize ax x = tk at *
 obtain ⟨z0, z1, z2, z3, z4, z5, _, _⟩ := H0.out.cells
 go_wp2_with (first
  | (go_at_call 16; refine (HPO.out _ _ _ H0.out).mono ?_; rintro e w2 ⟨rfl, hc2⟩; have HC2 : Bx _ := ⟨hc2⟩; clear hc2 z0 z1 z2 z3 z4 z5 H0))
 refine aM [?wl9x0, ?wl9x1, .int .i64 ((p.1 : Int) - 1), ?wl9x3, .bool false, ?wl9x5, ?wl9x6, ?wl9x7, .bool false, ?wl9x9, undef, undef, undef, undef, undef, undef, .bool false, .bool false, .bool false] (fun Y => LD w Y ib yb x ka kc p) (by kernel_rfl) (by decide +kernel) (HC2.out.drewN 1) (dG 26 18 (by decide +kernel) (by rfl) (by exact Nat.le_of_ble_eq_true rfl) (by exact Nat.le_of_ble_eq_true rfl) (by simp only [List.drop_succ_cons, List.drop_zero, List.drop_nil, List.take_succ_cons, List.take_zero, List.cons_append, List.nil_append, aH, Act.put, List.setIfInBounds_toArray, List.set_cons_zero, List.set_cons_succ]; rfl)) ?wl9st ?wl9en
 case wl9st =>
  refine af (ag (by rfl) (fun Y hY => ?_)) ?_
  ·go_simp; try rfl
  refine af (ag (by rfl) (fun Y hY => ?_)) ?_
  ·obtain ⟨z0, z1, z2, z3, z4, z5, _, _⟩ := hY.cells; go_simp; try rfl
  refine af (ag (by rfl) (fun Y hY => ?_)) ?_
  ·go_simp; try rfl
  refine af (ag (by rfl) (fun Y hY => ?_)) ?_
  ·go_simp; try rfl
  refine af (ag (by rfl) (fun Y hY => ?_)) ?_
  ·go_simp; try rfl
  refine af (ag (by rfl) (fun Y hY => ?_)) ?_
  ·go_simp; try rfl
  refine af (ag (by rfl) (fun Y hY => ?_)) ?_
  ·go_simp; try rfl
  refine af (ag (by rfl) (fun Y hY => ?_)) ?_
  ·obtain ⟨z0, z1, z2, z3, z4, z5, _, _⟩ := hY.cells; go_simp; try rfl
  refine af (ag (by rfl) (fun Y hY => ?_)) ?_
  ·go_simp; try rfl
  refine af (ag (by rfl) (fun Y hY => ?_)) ?_
  ·go_simp; try rfl
  refine af (ay (by rfl)) ?_
  refine af (ay (by rfl)) ?_
  refine af (ay (by rfl)) ?_
  refine af (ay (by rfl)) ?_
  refine af (ay (by rfl)) ?_
  refine af (ay (by rfl)) ?_
  refine af (ag (by rfl) (fun Y hY => ?_)) ?_
  ·go_simp; try rfl
  refine af (ag (by rfl) (fun Y hY => ?_)) ?_
  ·go_simp; try rfl
  refine af (ag (by rfl) (fun Y hY => ?_)) ?_
  ·go_simp; try rfl
  exact bD
 intro w3 hz3
 have HC3 : Bx _ := ⟨hz3⟩
 clear hz3 HC2
 go_wp2
 refine aM [?wl10x0, ?wl10x1, .bool false, ?wl10x3, undef, undef, undef, undef, undef, undef, undef, undef, undef, .bool false, .bool false] (fun Y => LD w Y ib yb x ka kc p) (by kernel_rfl) (by decide +kernel) (HC3.out.drewN 1) (dG 45 14 (by decide +kernel) (by rfl) (by exact Nat.le_of_ble_eq_true rfl) (by exact Nat.le_of_ble_eq_true rfl) (by simp only [List.drop_succ_cons, List.drop_zero, List.drop_nil, List.take_succ_cons, List.take_zero, List.cons_append, List.nil_append, aH, Act.put, List.setIfInBounds_toArray, List.set_cons_zero, List.set_cons_succ]; rfl)) ?wl10st ?wl10en
 case wl10st =>
  refine af (ag (by rfl) (fun Y hY => ?_)) ?_
  ·go_simp; try rfl
  refine af (ag (by rfl) (fun Y hY => ?_)) ?_
  ·obtain ⟨z0, z1, z2, z3, z4, z5, _, _⟩ := hY.cells; go_simp; try rfl
  refine af (bE 66 #[.int .i64 x.op] (by rfl) (fun Y hY => ?_) (fun Y hY => ?_)) ?_
  ·simp only [execOp]; go_simp
  ·refine Calls.mono (HN.out Y) ?_; rintro e z ⟨rfl, rfl⟩; exact ⟨by rw [ho], hY⟩
  refine af (ag (by rfl) (fun Y hY => ?_)) ?_
  ·go_simp; try rfl
  refine af (ay (by rfl)) ?_
  refine af (ay (by rfl)) ?_
  refine af (ay (by rfl)) ?_
  refine af (ay (by rfl)) ?_
  refine af (ay (by rfl)) ?_
  refine af (ay (by rfl)) ?_
  refine af (ay (by rfl)) ?_
  refine af (ay (by rfl)) ?_
  refine af (ay (by rfl)) ?_
  refine af (ag (by rfl) (fun Y hY => ?_)) ?_
  ·go_simp; try rfl
  refine af (ag (by rfl) (fun Y hY => ?_)) ?_
  ·go_simp; try rfl
  exact bD
 intro w5 hz5
 have HC5 : Bx _ := ⟨hz5⟩
 clear hz5 HC3
 obtain ⟨y0, y1, y2, y3, y4, y5, y6, y7⟩ := HC5.out.cells
 go_wp2_with (first
  | (go_at_call 68; refine (HB.out _).mono ?_; rintro e z3 ⟨rfl, rfl⟩))
 go_region_with (first
  | (go_at_call 30; refine (HQ.out _ _ _ (HC5.out.drewN _)).mono ?_; rintro e w3 ⟨rfl, hc3⟩; have HC3 : Bx _ := ⟨hc3⟩; clear hc3; obtain ⟨x0, x1, x2, x3, x4, x5, x6, x7⟩ := HC3.out.cells))
 all_goals
  clear y0 y1 y2 y3 y4 y5 y6 y7 
  have HS0 : Bx _ := ⟨HC3.out.set0 ab⟩
  clear x0 x1 x2 x3 x4 x5 x6 x7 HC3
  obtain ⟨x0, x1, x2, x3, x4, x5, x6, x7⟩ := HS0.out.cells
  cases r with
  | true =>
   go_wp2_with (first
    | (go_at_call 69; refine (HG.out _ _ _ HS0.out).mono ?_; rintro e w5 ⟨rfl, q1, q2, q3, q4, HGO⟩; clear x0 x1 x2 x3 x4 x5 x6 x7)
    | (go_at_call 70; refine HGO.mono ?_; rintro e w7 ⟨rfl, HX⟩))
   go_ret
   exact ⟨rfl, HX⟩
  | false =>
   go_wp2_with (first
    | (go_at_call 69; refine (HG.out _ _ _ HS0.out).mono ?_; rintro e w5 ⟨rfl, q1, q2, q3, q4, HGO⟩; clear x0 x1 x2 x3 x4 x5 x6 x7)
    | (go_at_call 70; refine HGO.mono ?_; rintro e w7 ⟨rfl, HX⟩))
   go_ret
   exact ⟨rfl, HX⟩
end Go.Proofs.YtadmpgegolmkgaaDoor
