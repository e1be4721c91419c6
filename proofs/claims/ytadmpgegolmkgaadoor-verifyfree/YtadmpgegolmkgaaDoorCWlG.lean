import Derived.Test.YtadmpgegolmkgaaDoorCFL
namespace Go.Proofs.YtadmpgegolmkgaaDoor
open Go.RowKit Go.MapKept Go.ChangeMaps Go.WideShapes
set_option linter.unusedVariables false
set_option linter.unusedSimpArgs false

set_option maxRecDepth 100000 in
set_option maxHeartbeats 8000000 in
/-- on -/
theorem look_on_r {w : World} {wb : Nat} {g : WG} {A : WA} {L gb : Nat} {P : Prs} {K : List Wy} {D : Nat → Bool} {B : Nat} {code : List CIn} {ca : Option Addr} {cc i : Nat} {x : CIn} {p : Wy} {res : Bool} (h : LkE w wb g A L gb P K D B code ca cc i x p res) (hl : ¬ (p.1 : Int) - 1 < popsI x) (ho : (x.op == 4 || x.op == 6 || x.op == 16) = false) (h25 : x.op = 25) (hg : (!(x.op == 19 || x.op == 21 || x.op == 25 || x.op == 27)) = false) (hrs : (p.1 : Int) - 1 = if res then 1 else 0) (hL : L < 60) (hP : P.length + L < 1099511627776) (ha : x.op = 5 ∨ x.op = 6 → 0 ≤ x.a ∧ x.a ≤ 2147483648) (hs : vsP L P p.2) (ht : TgOk g.n i x) (hpu : 0 ≤ pushesI x ∧ pushesI x ≤ 1) (hpo : 0 ≤ popsI x) (ab : Nat) (hab2 : ab < 4611686018427387904) (hab : (ab : Int) = (p.1 : Int) + (pushesI x - popsI x)) (r : Bool) (hr : (comeL (nextsI i x (ab, (past L P p.2 x.op x.a).2)) K D).1 = r)
    : Calls Tryd.prog 44 #[.pointer (some ⟨wb, 0, none⟩), .int .i64 (i : Int)] w fun e w' => e = .returned (.int .i64 (if r then 0 else 95)) ∧ Bx (WkPost w wb g A L gb (past L P p.2 x.op x.a).1 (comeL (nextsI i x (ab, (past L P p.2 x.op x.a).2)) K D).2.1 (comeL (nextsI i x (ab, (past L P p.2 x.op x.a).2)) K D).2.2 w') := by
  refine look_start h _ ?_
  intro ka kc hks r0 r1 c hbody X ib yb u8 u9 u10 u11 u12 u13 u14 u15 u16 u17 u18 u19 u20 u21 u22 hX
  unfold Tryd.f44 at hbody
  simp only [Option.some.injEq, Code.seq.injEq] at hbody
  obtain ⟨-, -, rfl⟩ := hbody
  have hp1 := h.p1
  have hp2 := h.p2
  have HPO : Bx (∀ X ib yb, LD w X ib yb x ka kc p → _) := ⟨fun X ib yb hX => h.pops hks hX⟩
  have hwr : IntKind.i64.wrap ((p.1 : Int) - 1) = (p.1 : Int) - 1 := by rw [IntKind.wrap_i64]; omega
  have HN : Bx (∀ X, _) := ⟨fun X => needsValue_any x.op X⟩
  have HB : Bx (∀ X, _) := ⟨fun X => goesBehind_any x.op X⟩
  have H0 : Bx _ := ⟨hX⟩
  have H4 : Bx (∀ X, Below w.heap.size w X → X.cell? ⟨wb, 4, none⟩ = some (.slice ca code.length cc)) := ⟨fun X hX => by have := (h.wk.below hX).cells.2.2.2.2.1; rw [h.a4] at this; exact this⟩
  have HQ : Bx (∀ X ib yb, LD w X ib yb x ka kc p → _) := ⟨fun X ib yb hX => h.pushes hX⟩
  have HG : Bx (∀ X ib yb, LD w X ib yb x ka kc (ab, p.2) → _) := ⟨fun X ib yb hX => h.rest hL hP ha hs ht ab (by omega) X hX⟩
  rw [hr] at HG
  have hwa : IntKind.i64.wrap (pushesI x - popsI x) = pushesI x - popsI x := by rw [IntKind.wrap_i64]; omega
  have hwb : IntKind.i64.wrap ((p.1 : Int) + (pushesI x - popsI x)) = (ab : Int) := by rw [hab, IntKind.wrap_i64]; omega
  have b25 : (x.op == 25) = true := by simp [h25]
  rw [hg] at HB
  have HRS : Bx (∀ X, Below w.heap.size w X → Calls Tryd.prog 65 #[.pointer (some ⟨wb, 0, none⟩)] X fun e w' => e = .returned (.int .i64 ((p.1 : Int) - 1)) ∧ X = w') := ⟨fun X hX => by rw [hrs]; exact results_any X wb res (by have := (h.wk.below hX).cells.2.2.2.1; rw [h.a3] at this; exact this)⟩
  unfold insV at HQ
  generalize pushesI x = pu at *
  generalize past L P p.2 x.op x.a = RR at *
  generalize comeL (nextsI i x (ab, RR.2)) K D = CC at *
  clear hg hrs hr hab h25 hs ht ha hpu hpo
  unfold insV at HPO
  clear h hks hX
  generalize popsI x = tk at *
  obtain ⟨z0, z1, z2, z3, z4, z5, _, _⟩ := H0.out.cells
  go_wp2_with (first
    | (go_at_call 16; refine (HPO.out _ _ _ H0.out).mono ?_; rintro e w2 ⟨rfl, hc2⟩; have HC2 : Bx _ := ⟨hc2⟩; clear hc2 z0 z1 z2 z3 z4 z5 H0))
  refine region_flowL [?wl13x0, ?wl13x1, .int .i64 ((p.1 : Int) - 1), ?wl13x3, .bool false, ?wl13x5, ?wl13x6, ?wl13x7, .bool true, ?wl13x9, ?wl13x10, ?wl13x11, .int .i64 ((p.1 : Int) - 1), ?wl13x13, .int .i64 ((p.1 : Int) - 1), .bool false, .bool false, .bool false, .bool false] (fun Y => LD w Y ib yb x ka kc p) (by kernel_rfl) (by decide +kernel) (HC2.out.drewN 1) (flowF 26 18 (by decide +kernel) (by rfl) (by exact Nat.le_of_ble_eq_true rfl) (by exact Nat.le_of_ble_eq_true rfl) (by simp only [List.drop_succ_cons, List.drop_zero, List.drop_nil, List.take_succ_cons, List.take_zero, List.cons_append, List.nil_append, flowEnd, Act.put, List.setIfInBounds_toArray, List.set_cons_zero, List.set_cons_succ]; rfl)) ?wl13st ?wl13en
  case wl13st =>
    refine flow_cons (flow_pure (by rfl) (fun Y hY => ?_)) ?_
    · go_simp; try rfl
    refine flow_cons (flow_pure (by rfl) (fun Y hY => ?_)) ?_
    · obtain ⟨z0, z1, z2, z3, z4, z5, _, _⟩ := hY.cells; go_simp; try rfl
    refine flow_cons (flow_pure (by rfl) (fun Y hY => ?_)) ?_
    · go_simp; try rfl
    refine flow_cons (flow_pure (by rfl) (fun Y hY => ?_)) ?_
    · go_simp; try rfl
    refine flow_cons (flow_pure (by rfl) (fun Y hY => ?_)) ?_
    · go_simp; try rfl
    refine flow_cons (flow_pure (by rfl) (fun Y hY => ?_)) ?_
    · go_simp; try rfl
    refine flow_cons (flow_pure (by rfl) (fun Y hY => ?_)) ?_
    · go_simp; try rfl
    refine flow_cons (flow_pure (by rfl) (fun Y hY => ?_)) ?_
    · obtain ⟨z0, z1, z2, z3, z4, z5, _, _⟩ := hY.cells; go_simp; try rfl
    refine flow_cons (flow_pure (by rfl) (fun Y hY => ?_)) ?_
    · go_simp; try rfl
    refine flow_cons (flow_pure (by rfl) (fun Y hY => ?_)) ?_
    · go_simp; try rfl
    refine flow_cons (flow_pure (by rfl) (fun Y hY => ?_)) ?_
    · go_simp; try rfl
    refine flow_cons (flow_pure (by rfl) (fun Y hY => ?_)) ?_
    · obtain ⟨z0, z1, z2, z3, z4, z5, _, _⟩ := hY.cells; go_simp; try rfl
    refine flow_cons (flow_pure (by rfl) (fun Y hY => ?_)) ?_
    · go_simp; try rfl
    refine flow_cons (flow_pure (by rfl) (fun Y hY => ?_)) ?_
    · go_simp; try rfl
    refine flow_cons (flow_call 65 #[.pointer (some ⟨wb, 0, none⟩)] (by rfl) (fun Y hY => ?_) (fun Y hY => ?_)) ?_
    · simp only [execOp]; go_simp
    · refine Calls.mono (HRS.out Y hY.bel) ?_; rintro e z ⟨rfl, rfl⟩; exact ⟨rfl, hY⟩
    refine flow_cons (flow_pure (by rfl) (fun Y hY => ?_)) ?_
    · go_simp; try rfl
    refine flow_cons (flow_pure (by rfl) (fun Y hY => ?_)) ?_
    · go_simp; try rfl
    refine flow_cons (flow_pure (by rfl) (fun Y hY => ?_)) ?_
    · go_simp; try rfl
    refine flow_cons (flow_pure (by rfl) (fun Y hY => ?_)) ?_
    · go_simp; try rfl
    exact flow_nil
  intro w3 hz3
  have HC3 : Bx _ := ⟨hz3⟩
  clear hz3 HC2
  go_wp2
  refine region_flowL [?wl14x0, ?wl14x1, .bool false, ?wl14x3, undef, undef, undef, undef, undef, undef, undef, undef, undef, .bool false, .bool false] (fun Y => LD w Y ib yb x ka kc p) (by kernel_rfl) (by decide +kernel) (HC3.out.drewN 1) (flowF 45 14 (by decide +kernel) (by rfl) (by exact Nat.le_of_ble_eq_true rfl) (by exact Nat.le_of_ble_eq_true rfl) (by simp only [List.drop_succ_cons, List.drop_zero, List.drop_nil, List.take_succ_cons, List.take_zero, List.cons_append, List.nil_append, flowEnd, Act.put, List.setIfInBounds_toArray, List.set_cons_zero, List.set_cons_succ]; rfl)) ?wl14st ?wl14en
  case wl14st =>
    refine flow_cons (flow_pure (by rfl) (fun Y hY => ?_)) ?_
    · go_simp; try rfl
    refine flow_cons (flow_pure (by rfl) (fun Y hY => ?_)) ?_
    · obtain ⟨z0, z1, z2, z3, z4, z5, _, _⟩ := hY.cells; go_simp; try rfl
    refine flow_cons (flow_call 66 #[.int .i64 x.op] (by rfl) (fun Y hY => ?_) (fun Y hY => ?_)) ?_
    · simp only [execOp]; go_simp
    · refine Calls.mono (HN.out Y) ?_; rintro e z ⟨rfl, rfl⟩; exact ⟨by rw [ho], hY⟩
    refine flow_cons (flow_pure (by rfl) (fun Y hY => ?_)) ?_
    · go_simp; try rfl
    refine flow_cons (flow_not (by rfl)) ?_
    refine flow_cons (flow_not (by rfl)) ?_
    refine flow_cons (flow_not (by rfl)) ?_
    refine flow_cons (flow_not (by rfl)) ?_
    refine flow_cons (flow_not (by rfl)) ?_
    refine flow_cons (flow_not (by rfl)) ?_
    refine flow_cons (flow_not (by rfl)) ?_
    refine flow_cons (flow_not (by rfl)) ?_
    refine flow_cons (flow_not (by rfl)) ?_
    refine flow_cons (flow_pure (by rfl) (fun Y hY => ?_)) ?_
    · go_simp; try rfl
    refine flow_cons (flow_pure (by rfl) (fun Y hY => ?_)) ?_
    · go_simp; try rfl
    exact flow_nil
  intro w5 hz5
  have HC5 : Bx _ := ⟨hz5⟩
  clear hz5 HC3
  obtain ⟨y0, y1, y2, y3, y4, y5, y6, y7⟩ := HC5.out.cells
  go_wp2_with (first
    | (go_at_call 68; refine (HB.out _).mono ?_; rintro e z3 ⟨rfl, rfl⟩))
  go_region_with (first
    | (go_at_call 30; refine (HQ.out _ _ _ (HC5.out.drewN _)).mono ?_; rintro e w3 ⟨rfl, hc3⟩; have HC3 : Bx _ := ⟨hc3⟩; clear hc3; obtain ⟨x0, x1, x2, x3, x4, x5, x6, x7⟩ := HC3.out.cells))
  all_goals
    clear y0 y1 y2 y3 y4 y5 y6 y7 
    have HS0 : Bx _ := ⟨HC3.out.set0 ab⟩
    clear x0 x1 x2 x3 x4 x5 x6 x7 HC3
    obtain ⟨x0, x1, x2, x3, x4, x5, x6, x7⟩ := HS0.out.cells
    cases r with
    | true =>
      go_wp2_with (first
        | (go_at_call 69; refine (HG.out _ _ _ HS0.out).mono ?_; rintro e w5 ⟨rfl, q1, q2, q3, q4, HGO⟩; clear x0 x1 x2 x3 x4 x5 x6 x7)
        | (go_at_call 70; refine HGO.mono ?_; rintro e w7 ⟨rfl, HX⟩))
      go_ret
      exact ⟨rfl, HX⟩
    | false =>
      go_wp2_with (first
        | (go_at_call 69; refine (HG.out _ _ _ HS0.out).mono ?_; rintro e w5 ⟨rfl, q1, q2, q3, q4, HGO⟩; clear x0 x1 x2 x3 x4 x5 x6 x7)
        | (go_at_call 70; refine HGO.mono ?_; rintro e w7 ⟨rfl, HX⟩))
      go_ret
      exact ⟨rfl, HX⟩
end Go.Proofs.YtadmpgegolmkgaaDoor
