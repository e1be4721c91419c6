import Derived.Test.YtadmpgegolmkgaaDoorBWkE
set_option linter.unusedVariables false
set_option linter.unusedSimpArgs false
set_option maxHeartbeats 4000000
set_option maxRecDepth 100000
namespace Go.Proofs.YtadmpgegolmkgaaDoor
open Go.RowKit Go.MapKept Go.ChangeMaps Go.WideShapes
theorem eB {w : World} {wb : Nat} {g : WG} {A : WA} {L gb : Nat} {P : Prs} {K : List Wy} {D : Nat -> Bool} {B : Nat} {code : List CIn} {ca : Option Addr} {cc i : Nat} {x : CIn} {p : Wy} {res : Bool} (h : LkE w wb g A L gb P K D B code ca cc i x p res) (Q : Ending -> World -> Prop) (H : ∀ ka kc, aF w B ka kc x.list -> ∀ r0 r1 c, Tryd.f44.body = some (.seq r0 (.seq r1 c)) -> ∀ (X : World) (ib yb : Nat) (u8 u9 u10 u11 u12 u13 u14 u15 u16 u17 u18 u19 u20 u21 u22 : Value), LD w X ib yb x ka kc p -> Code.wp Tryd.prog c (bodyPost Tryd.prog Tryd.f44 Q) { tmps := #[.pointer (some ⟨wb, 0, none⟩), .int .i64 (i : Int), undef, undef, .int .i64 0, .pointer (some ⟨ib, 0, none⟩), .pointer (some ⟨yb, 0, none⟩), undef, u8, u9, u10, u11, u12, u13, u14, u15, u16, u17, u18, u19, u20, u21, u22, undef, undef, undef, undef, undef, undef, undef, undef, undef, undef, undef, undef, undef, undef, undef, undef, undef, undef, undef, undef, undef, undef, undef, undef, undef, undef, undef, undef, undef, undef, undef, undef, undef, undef, undef, undef, undef, undef, undef, undef, undef, undef, undef, undef, undef, undef, undef, undef, undef, undef, undef, undef, undef, undef, undef, undef, undef, undef, undef, undef, undef, undef, undef, undef, undef, undef, undef, undef, undef, undef], defers := [] } X) :
  Calls Tryd.prog 44 #[.pointer (some ⟨wb, 0, none⟩), .int .i64 (i : Int)] w Q := by
 obtain ⟨b, o, ka, kc, rfl, hb, u0, u1, u2, u3, hks, hil, hcc, hig⟩ := h.ins
 obtain ⟨v0, v1⟩ := h.wk.known h.hp
 obtain ⟨_, _, _, c3, c4, c5, _, _⟩ := h.wk.cells
 rw [h.a3] at c3
 rw [h.a4] at c4
 have hcl := h.len
 have H1 : Bx _ := ⟨LD.one w x ka kc p⟩
 have H2 : Bx _ := ⟨LD.two w x ka kc p⟩
 have hiI : (i : Int) < (code.length : Int) := by omega
 have hgI : (i : Int) < (g.n : Int) := by omega
 have hkl := h.wk.lt.2.2.2.1
 have hwl := h.wk.lt.1
 have HH : Bx _ := ⟨H ka kc hks⟩
 clear h hks H
 go_enter Tryd.func44, Tryd.ntmps44
 go_wp2_with fail
 rename_i K2 hK
 go_region
 ·simp only [Exit.then]
  exact hK _ _ (HH.out _ _ _ rfl _ _ _ _ _ _ _ _ _ _ _ _ _ _ _ _ _ _ H1.out)
 ·simp only [Exit.then]
  exact hK _ _ (HH.out _ _ _ rfl _ _ _ _ _ _ _ _ _ _ _ _ _ _ _ _ _ _ H2.out)
theorem zu {w : World} {wb : Nat} {g : WG} {A : WA} {L gb : Nat} {P : Prs} {K : List Wy} {D : Nat -> Bool} {B : Nat} {code : List CIn} {ca : Option Addr} {cc i : Nat} {x : CIn} {p : Wy} {res : Bool} (h : LkE w wb g A L gb P K D B code ca cc i x p res) (hl : ¬ (p.1 : Int) - 1 < ax x) (ho : (x.op == 4 || x.op == 6 || x.op == 16) = true) (hL : L < 60) (ha : 0 <= x.a /\ x.a <= 2147483648) (hs : vsP L P p.2) (hd : den L P p.2 x.a.toNat = false)
  : Calls Tryd.prog 44 #[.pointer (some ⟨wb, 0, none⟩), .int .i64 (i : Int)] w fun e w' => e = .returned (.int .i64 93) /\ Bx (aK w wb g A L gb P K D w') := by
 refine eB h _ ?_
 intro ka kc hks r0 r1 c hbody X ib yb u8 u9 u10 u11 u12 u13 u14 u15 u16 u17 u18 u19 u20 u21 u22 hX
 unfold Tryd.f44 at hbody
 simp only [Option.some.injEq, Code.seq.injEq] at hbody
 obtain ⟨-, -, rfl⟩ := hbody
 have hp1 := h.p1
 have hp2 := h.p2
 have HPO : Bx (∀ X ib yb, LD w X ib yb x ka kc p -> _) := ⟨fun X ib yb hX => h.iT hks hX⟩
 have hwr : IntKind.i64.wrap ((p.1 : Int) - 1) = (p.1 : Int) - 1 := by rw [IntKind.wrap_i64]; omega
 have HN : Bx (∀ X, _) := ⟨fun X => bO x.op X⟩
 have HB : Bx (∀ X, _) := ⟨fun X => bP x.op X⟩
 have H0 : Bx _ := ⟨hX⟩
 have H4 : Bx (∀ X, Below w.heap.size w X -> X.cell? ⟨wb, 4, none⟩ = some (.slice ca code.length cc)) := ⟨fun X hX => by have := (h.wk.below hX).cells.2.2.2.2.1; rw [h.a4] at this; exact this⟩
 obtain ⟨dn, hdn⟩ : ∃ dn, den L P p.2 x.a.toNat = dn := ⟨_, rfl⟩
 have HV : Bx (∀ X, Below w.heap.size w X -> Calls Tryd.prog 67 #[.pointer (some ⟨wb, 7, none⟩), .int .u64 (p.2 : Int), .int .i64 x.a] X fun e w' => e = .returned (.bool dn) /\ Bx (Below X.heap.size X w')) := ⟨fun X hX => by
  obtain ⟨gc, ss⟩ := (h.wk.below hX).se
  obtain ⟨n, hn⟩ : ∃ n : Nat, x.a = n := ⟨x.a.toNat, by have := ha.1; omega⟩
  have := mV X wb (g.h A) L gb gc g.mb P ss hL p.2 n (by have := ha.2; omega) hs
  rw [hn] at hdn ⊢
  rw [← hdn, show ((n : Int)).toNat = n by omega]
  exact this⟩
 have HF : Bx (∀ X, Below w.heap.size w X -> aK w wb g A L gb P K D X) := ⟨fun X hX => aK.refl h.wk hX⟩
 rw [hd] at hdn
 subst hdn
 have b25 : (x.op == 25) = false := by
  simp at ho ⊢
  omega
 clear hs hd ha
 unfold aR at HPO
 clear h hks hX
 generalize ax x = tk at *
 obtain ⟨z0, z1, z2, z3, z4, z5, _, _⟩ := H0.out.cells
 go_wp2_with (first
  | (go_at_call 16; refine (HPO.out _ _ _ H0.out).mono ?_; rintro e w2 ⟨rfl, hc2⟩; have HC2 : Bx _ := ⟨hc2⟩; clear hc2 z0 z1 z2 z3 z4 z5 H0))
 refine aM [?wl1x0, ?wl1x1, .int .i64 ((p.1 : Int) - 1), ?wl1x3, .bool false, ?wl1x5, ?wl1x6, ?wl1x7, .bool false, ?wl1x9, undef, undef, undef, undef, undef, undef, .bool false, .bool false, .bool false] (fun Y => LD w Y ib yb x ka kc p) (by kernel_rfl) (by decide +kernel) (HC2.out.drewN 1) (dG 26 18 (by decide +kernel) (by rfl) (by exact Nat.le_of_ble_eq_true rfl) (by exact Nat.le_of_ble_eq_true rfl) (by simp only [List.drop_succ_cons, List.drop_zero, List.drop_nil, List.take_succ_cons, List.take_zero, List.cons_append, List.nil_append, aH, Act.put, List.setIfInBounds_toArray, List.set_cons_zero, List.set_cons_succ]; rfl)) ?wl1st ?wl1en
 case wl1st =>
  refine af (ag (by rfl) (fun Y hY => ?_)) ?_
  ·go_simp; try rfl
  refine af (ag (by rfl) (fun Y hY => ?_)) ?_
  ·obtain ⟨z0, z1, z2, z3, z4, z5, _, _⟩ := hY.cells; go_simp; try rfl
  refine af (ag (by rfl) (fun Y hY => ?_)) ?_
  ·go_simp; try rfl
  refine af (ag (by rfl) (fun Y hY => ?_)) ?_
  ·go_simp; try rfl
  refine af (ag (by rfl) (fun Y hY => ?_)) ?_
  ·go_simp; try rfl
  refine af (ag (by rfl) (fun Y hY => ?_)) ?_
  ·go_simp; try rfl
  refine af (ag (by rfl) (fun Y hY => ?_)) ?_
  ·go_simp; try rfl
  refine af (ag (by rfl) (fun Y hY => ?_)) ?_
  ·obtain ⟨z0, z1, z2, z3, z4, z5, _, _⟩ := hY.cells; go_simp; try rfl
  refine af (ag (by rfl) (fun Y hY => ?_)) ?_
  ·go_simp; try rfl
  refine af (ag (by rfl) (fun Y hY => ?_)) ?_
  ·go_simp; try rfl
  refine af (ay (by rfl)) ?_
  refine af (ay (by rfl)) ?_
  refine af (ay (by rfl)) ?_
  refine af (ay (by rfl)) ?_
  refine af (ay (by rfl)) ?_
  refine af (ay (by rfl)) ?_
  refine af (ag (by rfl) (fun Y hY => ?_)) ?_
  ·go_simp; try rfl
  refine af (ag (by rfl) (fun Y hY => ?_)) ?_
  ·go_simp; try rfl
  refine af (ag (by rfl) (fun Y hY => ?_)) ?_
  ·go_simp; try rfl
  exact bD
 intro w3 hz3
 have HC3 : Bx _ := ⟨hz3⟩
 clear hz3 HC2
 go_wp2
 refine aM [?wl2x0, ?wl2x1, .bool true, ?wl2x3, ?wl2x4, ?wl2x5, ?wl2x6, ?wl2x7, ?wl2x8, ?wl2x9, ?wl2x10, .bool false, .bool true, .bool true, .bool true] (fun Y => LD w Y ib yb x ka kc p) (by kernel_rfl) (by decide +kernel) (HC3.out.drewN 1) (dG 45 14 (by decide +kernel) (by rfl) (by exact Nat.le_of_ble_eq_true rfl) (by exact Nat.le_of_ble_eq_true rfl) (by simp only [List.drop_succ_cons, List.drop_zero, List.drop_nil, List.take_succ_cons, List.take_zero, List.cons_append, List.nil_append, aH, Act.put, List.setIfInBounds_toArray, List.set_cons_zero, List.set_cons_succ]; rfl)) ?wl2st ?wl2en
 case wl2st =>
  refine af (ag (by rfl) (fun Y hY => ?_)) ?_
  ·go_simp; try rfl
  refine af (ag (by rfl) (fun Y hY => ?_)) ?_
  ·obtain ⟨z0, z1, z2, z3, z4, z5, _, _⟩ := hY.cells; go_simp; try rfl
  refine af (bE 66 #[.int .i64 x.op] (by rfl) (fun Y hY => ?_) (fun Y hY => ?_)) ?_
  ·simp only [execOp]; go_simp
  ·refine Calls.mono (HN.out Y) ?_; rintro e z ⟨rfl, rfl⟩; exact ⟨by rw [ho], hY⟩
  refine af (ag (by rfl) (fun Y hY => ?_)) ?_
  ·go_simp; try rfl
  refine af (ag (by rfl) (fun Y hY => ?_)) ?_
  ·go_simp; try rfl
  refine af (ag (by rfl) (fun Y hY => ?_)) ?_
  ·go_simp; try rfl
  refine af (ag (by rfl) (fun Y hY => ?_)) ?_
  ·go_simp; try rfl
  refine af (ag (by rfl) (fun Y hY => ?_)) ?_
  ·go_simp; try rfl
  refine af (ag (by rfl) (fun Y hY => ?_)) ?_
  ·obtain ⟨z0, z1, z2, z3, z4, z5, _, _⟩ := hY.cells; go_simp; try rfl
  refine af (ag (by rfl) (fun Y hY => ?_)) ?_
  ·go_simp; try rfl
  refine af (ag (by rfl) (fun Y hY => ?_)) ?_
  ·obtain ⟨z0, z1, z2, z3, z4, z5, _, _⟩ := hY.cells; go_simp; try rfl
  refine af (bE 67 #[.pointer (some ⟨wb, 7, none⟩), .int .u64 (p.2 : Int), .int .i64 x.a] (by rfl) (fun Y hY => ?_) (fun Y hY => ?_)) ?_
  ·simp only [execOp]; go_simp
  ·refine Calls.mono (HV.out Y hY.bel) ?_; rintro e z ⟨rfl, hb⟩; exact ⟨rfl, hY.below hb.out⟩
  refine af (ag (by rfl) (fun Y hY => ?_)) ?_
  ·go_simp; try rfl
  refine af (ag (by rfl) (fun Y hY => ?_)) ?_
  ·go_simp; try rfl
  refine af (ag (by rfl) (fun Y hY => ?_)) ?_
  ·go_simp; try rfl
  exact bD
 intro w5 hz5
 have HC5 : Bx _ := ⟨hz5⟩
 clear hz5 HC3
 go_wp2
 go_ret
 exact ⟨rfl, ⟨HF.out _ HC5.out.bel⟩⟩
theorem wu {w : World} {wb : Nat} {g : WG} {A : WA} {L gb : Nat} {P : Prs} {K : List Wy} {D : Nat -> Bool} {B : Nat} {code : List CIn} {ca : Option Addr} {cc i : Nat} {x : CIn} {p : Wy} {res : Bool} (h : LkE w wb g A L gb P K D B code ca cc i x p res) (hl : ¬ (p.1 : Int) - 1 < ax x) (ho : (x.op == 4 || x.op == 6 || x.op == 16) = false) (hg : (!(x.op == 19 || x.op == 21 || x.op == 25 || x.op == 27)) = true) (he : i + 1 = code.length)
  : Calls Tryd.prog 44 #[.pointer (some ⟨wb, 0, none⟩), .int .i64 (i : Int)] w fun e w' => e = .returned (.int .i64 96) /\ Bx (aK w wb g A L gb P K D w') := by
 refine eB h _ ?_
 intro ka kc hks r0 r1 c hbody X ib yb u8 u9 u10 u11 u12 u13 u14 u15 u16 u17 u18 u19 u20 u21 u22 hX
 unfold Tryd.f44 at hbody
 simp only [Option.some.injEq, Code.seq.injEq] at hbody
 obtain ⟨-, -, rfl⟩ := hbody
 have hp1 := h.p1
 have hp2 := h.p2
 have HPO : Bx (∀ X ib yb, LD w X ib yb x ka kc p -> _) := ⟨fun X ib yb hX => h.iT hks hX⟩
 have hwr : IntKind.i64.wrap ((p.1 : Int) - 1) = (p.1 : Int) - 1 := by rw [IntKind.wrap_i64]; omega
 have HN : Bx (∀ X, _) := ⟨fun X => bO x.op X⟩
 have HB : Bx (∀ X, _) := ⟨fun X => bP x.op X⟩
 have H0 : Bx _ := ⟨hX⟩
 have H4 : Bx (∀ X, Below w.heap.size w X -> X.cell? ⟨wb, 4, none⟩ = some (.slice ca code.length cc)) := ⟨fun X hX => by have := (h.wk.below hX).cells.2.2.2.2.1; rw [h.a4] at this; exact this⟩
 have HF : Bx (∀ X, Below w.heap.size w X -> aK w wb g A L gb P K D X) := ⟨fun X hX => aK.refl h.wk hX⟩
 have hwl : IntKind.i64.wrap ((code.length : Int) - 1) = (code.length : Int) - 1 := by have := h.len; rw [IntKind.wrap_i64]; omega
 have hend : ((i : Int) == (code.length : Int) - 1) = true := by simp; omega
 have b25 : (x.op == 25) = false := by
  simp at hg ⊢
  omega
 rw [hg] at HB
 clear hg he
 unfold aR at HPO
 clear h hks hX
 generalize ax x = tk at *
 obtain ⟨z0, z1, z2, z3, z4, z5, _, _⟩ := H0.out.cells
 go_wp2_with (first
  | (go_at_call 16; refine (HPO.out _ _ _ H0.out).mono ?_; rintro e w2 ⟨rfl, hc2⟩; have HC2 : Bx _ := ⟨hc2⟩; clear hc2 z0 z1 z2 z3 z4 z5 H0))
 refine aM [?wl3x0, ?wl3x1, .int .i64 ((p.1 : Int) - 1), ?wl3x3, .bool false, ?wl3x5, ?wl3x6, ?wl3x7, .bool false, ?wl3x9, undef, undef, undef, undef, undef, undef, .bool false, .bool false, .bool false] (fun Y => LD w Y ib yb x ka kc p) (by kernel_rfl) (by decide +kernel) (HC2.out.drewN 1) (dG 26 18 (by decide +kernel) (by rfl) (by exact Nat.le_of_ble_eq_true rfl) (by exact Nat.le_of_ble_eq_true rfl) (by simp only [List.drop_succ_cons, List.drop_zero, List.drop_nil, List.take_succ_cons, List.take_zero, List.cons_append, List.nil_append, aH, Act.put, List.setIfInBounds_toArray, List.set_cons_zero, List.set_cons_succ]; rfl)) ?wl3st ?wl3en
 case wl3st =>
  refine af (ag (by rfl) (fun Y hY => ?_)) ?_
  ·go_simp; try rfl
  refine af (ag (by rfl) (fun Y hY => ?_)) ?_
  ·obtain ⟨z0, z1, z2, z3, z4, z5, _, _⟩ := hY.cells; go_simp; try rfl
  refine af (ag (by rfl) (fun Y hY => ?_)) ?_
  ·go_simp; try rfl
  refine af (ag (by rfl) (fun Y hY => ?_)) ?_
  ·go_simp; try rfl
  refine af (ag (by rfl) (fun Y hY => ?_)) ?_
  ·go_simp; try rfl
  refine af (ag (by rfl) (fun Y hY => ?_)) ?_
  ·go_simp; try rfl
  refine af (ag (by rfl) (fun Y hY => ?_)) ?_
  ·go_simp; try rfl
  refine af (ag (by rfl) (fun Y hY => ?_)) ?_
  ·obtain ⟨z0, z1, z2, z3, z4, z5, _, _⟩ := hY.cells; go_simp; try rfl
  refine af (ag (by rfl) (fun Y hY => ?_)) ?_
  ·go_simp; try rfl
  refine af (ag (by rfl) (fun Y hY => ?_)) ?_
  ·go_simp; try rfl
  refine af (ay (by rfl)) ?_
  refine af (ay (by rfl)) ?_
  refine af (ay (by rfl)) ?_
  refine af (ay (by rfl)) ?_
  refine af (ay (by rfl)) ?_
  refine af (ay (by rfl)) ?_
  refine af (ag (by rfl) (fun Y hY => ?_)) ?_
  ·go_simp; try rfl
  refine af (ag (by rfl) (fun Y hY => ?_)) ?_
  ·go_simp; try rfl
  refine af (ag (by rfl) (fun Y hY => ?_)) ?_
  ·go_simp; try rfl
  exact bD
 intro w3 hz3
 have HC3 : Bx _ := ⟨hz3⟩
 clear hz3 HC2
 go_wp2
 refine aM [?wl4x0, ?wl4x1, .bool false, ?wl4x3, undef, undef, undef, undef, undef, undef, undef, undef, undef, .bool false, .bool false] (fun Y => LD w Y ib yb x ka kc p) (by kernel_rfl) (by decide +kernel) (HC3.out.drewN 1) (dG 45 14 (by decide +kernel) (by rfl) (by exact Nat.le_of_ble_eq_true rfl) (by exact Nat.le_of_ble_eq_true rfl) (by simp only [List.drop_succ_cons, List.drop_zero, List.drop_nil, List.take_succ_cons, List.take_zero, List.cons_append, List.nil_append, aH, Act.put, List.setIfInBounds_toArray, List.set_cons_zero, List.set_cons_succ]; rfl)) ?wl4st ?wl4en
 case wl4st =>
  refine af (ag (by rfl) (fun Y hY => ?_)) ?_
  ·go_simp; try rfl
  refine af (ag (by rfl) (fun Y hY => ?_)) ?_
  ·obtain ⟨z0, z1, z2, z3, z4, z5, _, _⟩ := hY.cells; go_simp; try rfl
  refine af (bE 66 #[.int .i64 x.op] (by rfl) (fun Y hY => ?_) (fun Y hY => ?_)) ?_
  ·simp only [execOp]; go_simp
  ·refine Calls.mono (HN.out Y) ?_; rintro e z ⟨rfl, rfl⟩; exact ⟨by rw [ho], hY⟩
  refine af (ag (by rfl) (fun Y hY => ?_)) ?_
  ·go_simp; try rfl
  refine af (ay (by rfl)) ?_
  refine af (ay (by rfl)) ?_
  refine af (ay (by rfl)) ?_
  refine af (ay (by rfl)) ?_
  refine af (ay (by rfl)) ?_
  refine af (ay (by rfl)) ?_
  refine af (ay (by rfl)) ?_
  refine af (ay (by rfl)) ?_
  refine af (ay (by rfl)) ?_
  refine af (ag (by rfl) (fun Y hY => ?_)) ?_
  ·go_simp; try rfl
  refine af (ag (by rfl) (fun Y hY => ?_)) ?_
  ·go_simp; try rfl
  exact bD
 intro w5 hz5
 have HC5 : Bx _ := ⟨hz5⟩
 clear hz5 HC3
 obtain ⟨y0, y1, y2, y3, y4, y5, y6, y7⟩ := HC5.out.cells
 have y8 := H4.out _ HC5.out.bel
 go_wp2_with (first
  | (go_at_call 68; refine (HB.out _).mono ?_; rintro e z3 ⟨rfl, rfl⟩))
 go_ret
 exact ⟨rfl, ⟨HF.out _ HC5.out.bel⟩⟩
theorem ww {w : World} {wb : Nat} {g : WG} {A : WA} {L gb : Nat} {P : Prs} {K : List Wy} {D : Nat -> Bool} {B : Nat} {code : List CIn} {ca : Option Addr} {cc i : Nat} {x : CIn} {p : Wy} {res : Bool} (h : LkE w wb g A L gb P K D B code ca cc i x p res) (hl : ¬ (p.1 : Int) - 1 < ax x) (ho : (x.op == 4 || x.op == 6 || x.op == 16) = true) (hg : (!(x.op == 19 || x.op == 21 || x.op == 25 || x.op == 27)) = true) (he : i + 1 = code.length) (hL : L < 60) (ha : 0 <= x.a /\ x.a <= 2147483648) (hs : vsP L P p.2) (hd : den L P p.2 x.a.toNat = true)
  : Calls Tryd.prog 44 #[.pointer (some ⟨wb, 0, none⟩), .int .i64 (i : Int)] w fun e w' => e = .returned (.int .i64 96) /\ Bx (aK w wb g A L gb P K D w') := by
 refine eB h _ ?_
 intro ka kc hks r0 r1 c hbody X ib yb u8 u9 u10 u11 u12 u13 u14 u15 u16 u17 u18 u19 u20 u21 u22 hX
 unfold Tryd.f44 at hbody
 simp only [Option.some.injEq, Code.seq.injEq] at hbody
 obtain ⟨-, -, rfl⟩ := hbody
 have hp1 := h.p1
 have hp2 := h.p2
 have HPO : Bx (∀ X ib yb, LD w X ib yb x ka kc p -> _) := ⟨fun X ib yb hX => h.iT hks hX⟩
 have hwr : IntKind.i64.wrap ((p.1 : Int) - 1) = (p.1 : Int) - 1 := by rw [IntKind.wrap_i64]; omega
 have HN : Bx (∀ X, _) := ⟨fun X => bO x.op X⟩
 have HB : Bx (∀ X, _) := ⟨fun X => bP x.op X⟩
 have H0 : Bx _ := ⟨hX⟩
 have H4 : Bx (∀ X, Below w.heap.size w X -> X.cell? ⟨wb, 4, none⟩ = some (.slice ca code.length cc)) := ⟨fun X hX => by have := (h.wk.below hX).cells.2.2.2.2.1; rw [h.a4] at this; exact this⟩
 obtain ⟨dn, hdn⟩ : ∃ dn, den L P p.2 x.a.toNat = dn := ⟨_, rfl⟩
 have HV : Bx (∀ X, Below w.heap.size w X -> Calls Tryd.prog 67 #[.pointer (some ⟨wb, 7, none⟩), .int .u64 (p.2 : Int), .int .i64 x.a] X fun e w' => e = .returned (.bool dn) /\ Bx (Below X.heap.size X w')) := ⟨fun X hX => by
  obtain ⟨gc, ss⟩ := (h.wk.below hX).se
  obtain ⟨n, hn⟩ : ∃ n : Nat, x.a = n := ⟨x.a.toNat, by have := ha.1; omega⟩
  have := mV X wb (g.h A) L gb gc g.mb P ss hL p.2 n (by have := ha.2; omega) hs
  rw [hn] at hdn ⊢
  rw [← hdn, show ((n : Int)).toNat = n by omega]
  exact this⟩
 have HF : Bx (∀ X, Below w.heap.size w X -> aK w wb g A L gb P K D X) := ⟨fun X hX => aK.refl h.wk hX⟩
 have hwl : IntKind.i64.wrap ((code.length : Int) - 1) = (code.length : Int) - 1 := by have := h.len; rw [IntKind.wrap_i64]; omega
 have hend : ((i : Int) == (code.length : Int) - 1) = true := by simp; omega
 have b25 : (x.op == 25) = false := by
  simp at hg ⊢
  omega
 rw [hg] at HB
 rw [hd] at hdn
 subst hdn
 clear hs hd ha
 clear hg he
 unfold aR at HPO
 clear h hks hX
 generalize ax x = tk at *
 obtain ⟨z0, z1, z2, z3, z4, z5, _, _⟩ := H0.out.cells
 go_wp2_with (first
  | (go_at_call 16; refine (HPO.out _ _ _ H0.out).mono ?_; rintro e w2 ⟨rfl, hc2⟩; have HC2 : Bx _ := ⟨hc2⟩; clear hc2 z0 z1 z2 z3 z4 z5 H0))
 refine aM [?wl5x0, ?wl5x1, .int .i64 ((p.1 : Int) - 1), ?wl5x3, .bool false, ?wl5x5, ?wl5x6, ?wl5x7, .bool false, ?wl5x9, undef, undef, undef, undef, undef, undef, .bool false, .bool false, .bool false] (fun Y => LD w Y ib yb x ka kc p) (by kernel_rfl) (by decide +kernel) (HC2.out.drewN 1) (dG 26 18 (by decide +kernel) (by rfl) (by exact Nat.le_of_ble_eq_true rfl) (by exact Nat.le_of_ble_eq_true rfl) (by simp only [List.drop_succ_cons, List.drop_zero, List.drop_nil, List.take_succ_cons, List.take_zero, List.cons_append, List.nil_append, aH, Act.put, List.setIfInBounds_toArray, List.set_cons_zero, List.set_cons_succ]; rfl)) ?wl5st ?wl5en
 case wl5st =>
  refine af (ag (by rfl) (fun Y hY => ?_)) ?_
  ·go_simp; try rfl
  refine af (ag (by rfl) (fun Y hY => ?_)) ?_
  ·obtain ⟨z0, z1, z2, z3, z4, z5, _, _⟩ := hY.cells; go_simp; try rfl
  refine af (ag (by rfl) (fun Y hY => ?_)) ?_
  ·go_simp; try rfl
  refine af (ag (by rfl) (fun Y hY => ?_)) ?_
  ·go_simp; try rfl
  refine af (ag (by rfl) (fun Y hY => ?_)) ?_
  ·go_simp; try rfl
  refine af (ag (by rfl) (fun Y hY => ?_)) ?_
  ·go_simp; try rfl
  refine af (ag (by rfl) (fun Y hY => ?_)) ?_
  ·go_simp; try rfl
  refine af (ag (by rfl) (fun Y hY => ?_)) ?_
  ·obtain ⟨z0, z1, z2, z3, z4, z5, _, _⟩ := hY.cells; go_simp; try rfl
  refine af (ag (by rfl) (fun Y hY => ?_)) ?_
  ·go_simp; try rfl
  refine af (ag (by rfl) (fun Y hY => ?_)) ?_
  ·go_simp; try rfl
  refine af (ay (by rfl)) ?_
  refine af (ay (by rfl)) ?_
  refine af (ay (by rfl)) ?_
  refine af (ay (by rfl)) ?_
  refine af (ay (by rfl)) ?_
  refine af (ay (by rfl)) ?_
  refine af (ag (by rfl) (fun Y hY => ?_)) ?_
  ·go_simp; try rfl
  refine af (ag (by rfl) (fun Y hY => ?_)) ?_
  ·go_simp; try rfl
  refine af (ag (by rfl) (fun Y hY => ?_)) ?_
  ·go_simp; try rfl
  exact bD
 intro w3 hz3
 have HC3 : Bx _ := ⟨hz3⟩
 clear hz3 HC2
 go_wp2
 refine aM [?wl6x0, ?wl6x1, .bool true, ?wl6x3, ?wl6x4, ?wl6x5, ?wl6x6, ?wl6x7, ?wl6x8, ?wl6x9, ?wl6x10, .bool true, .bool false, .bool false, .bool false] (fun Y => LD w Y ib yb x ka kc p) (by kernel_rfl) (by decide +kernel) (HC3.out.drewN 1) (dG 45 14 (by decide +kernel) (by rfl) (by exact Nat.le_of_ble_eq_true rfl) (by exact Nat.le_of_ble_eq_true rfl) (by simp only [List.drop_succ_cons, List.drop_zero, List.drop_nil, List.take_succ_cons, List.take_zero, List.cons_append, List.nil_append, aH, Act.put, List.setIfInBounds_toArray, List.set_cons_zero, List.set_cons_succ]; rfl)) ?wl6st ?wl6en
 case wl6st =>
  refine af (ag (by rfl) (fun Y hY => ?_)) ?_
  ·go_simp; try rfl
  refine af (ag (by rfl) (fun Y hY => ?_)) ?_
  ·obtain ⟨z0, z1, z2, z3, z4, z5, _, _⟩ := hY.cells; go_simp; try rfl
  refine af (bE 66 #[.int .i64 x.op] (by rfl) (fun Y hY => ?_) (fun Y hY => ?_)) ?_
  ·simp only [execOp]; go_simp
  ·refine Calls.mono (HN.out Y) ?_; rintro e z ⟨rfl, rfl⟩; exact ⟨by rw [ho], hY⟩
  refine af (ag (by rfl) (fun Y hY => ?_)) ?_
  ·go_simp; try rfl
  refine af (ag (by rfl) (fun Y hY => ?_)) ?_
  ·go_simp; try rfl
  refine af (ag (by rfl) (fun Y hY => ?_)) ?_
  ·go_simp; try rfl
  refine af (ag (by rfl) (fun Y hY => ?_)) ?_
  ·go_simp; try rfl
  refine af (ag (by rfl) (fun Y hY => ?_)) ?_
  ·go_simp; try rfl
  refine af (ag (by rfl) (fun Y hY => ?_)) ?_
  ·obtain ⟨z0, z1, z2, z3, z4, z5, _, _⟩ := hY.cells; go_simp; try rfl
  refine af (ag (by rfl) (fun Y hY => ?_)) ?_
  ·go_simp; try rfl
  refine af (ag (by rfl) (fun Y hY => ?_)) ?_
  ·obtain ⟨z0, z1, z2, z3, z4, z5, _, _⟩ := hY.cells; go_simp; try rfl
  refine af (bE 67 #[.pointer (some ⟨wb, 7, none⟩), .int .u64 (p.2 : Int), .int .i64 x.a] (by rfl) (fun Y hY => ?_) (fun Y hY => ?_)) ?_
  ·simp only [execOp]; go_simp
  ·refine Calls.mono (HV.out Y hY.bel) ?_; rintro e z ⟨rfl, hb⟩; exact ⟨rfl, hY.below hb.out⟩
  refine af (ag (by rfl) (fun Y hY => ?_)) ?_
  ·go_simp; try rfl
  refine af (ag (by rfl) (fun Y hY => ?_)) ?_
  ·go_simp; try rfl
  refine af (ag (by rfl) (fun Y hY => ?_)) ?_
  ·go_simp; try rfl
  exact bD
 intro w5 hz5
 have HC5 : Bx _ := ⟨hz5⟩
 clear hz5 HC3
 obtain ⟨y0, y1, y2, y3, y4, y5, y6, y7⟩ := HC5.out.cells
 have y8 := H4.out _ HC5.out.bel
 go_wp2_with (first
  | (go_at_call 68; refine (HB.out _).mono ?_; rintro e z3 ⟨rfl, rfl⟩))
 go_ret
 exact ⟨rfl, ⟨HF.out _ HC5.out.bel⟩⟩
end Go.Proofs.YtadmpgegolmkgaaDoor
