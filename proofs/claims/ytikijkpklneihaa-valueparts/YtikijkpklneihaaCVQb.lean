import Derived.Test.YtikijkpklneihaaCVDp
import Derived.Deep.RegionHeld3
namespace Go.Proofs.Ytikijkpklneihaa
open Go.RowKit
set_option linter.unusedVariables false
set_option linter.unusedSimpArgs false

set_option maxRecDepth 100000 in
set_option maxHeartbeats 2000000 in
/-- the reference's goes -/
theorem rgoes_any (w : World) (B : Nat) (v : Value) (x : V) (k : Int) (hv : IsV w B v x) : Calls Try.prog 24 #[v, .int .i64 k] w fun e w' => e = .returned (.bool (goesI x k)) ∧ Below w.heap.size w w' := by
  obtain ⟨⟨p, c, rfl, h1⟩, _, _⟩ := hv
  have hlc : x.l.length ≤ c := h1.1
  have hcm : c ≤ maxLen := h1.2.1
  unfold maxLen at hcm
  have hb := below1 w (.cells #[.int .i64 x.k, .int .i64 x.n, .slice p x.l.length c] 24)
  have HB : Bx _ := ⟨hb⟩
  have HG : Bx (goesI x k = (((x.k == 3) || (x.k == 4)) && (decide (0 ≤ k) && decide (k < (x.l.length : Int))))) := ⟨rfl⟩
  clear h1 hb
  generalize goesI x k = G at *
  generalize x.k = xk at *
  generalize x.l.length = xl at *
  cases h3 : (xk == 3) <;> cases h4 : (xk == 4) <;> cases h0 : decide (0 ≤ k) <;> cases hl : decide (k < (xl : Int))
  all_goals
    rw [h3, h4, h0, hl] at HG
    have e : G = _ := HG.out
    subst e
    clear HG
    have h0' : (k ≥ 0) = (0 ≤ k) := rfl
    first | have q0 : 0 ≤ k := of_decide_eq_true h0 | have q0 : ¬ (0 ≤ k) := of_decide_eq_false h0
    first | have ql : k < (xl : Int) := of_decide_eq_true hl | have ql : ¬ (k < (xl : Int)) := of_decide_eq_false hl
    first
      | (exfalso; omega)
      | (go_enter Try.func24, Try.ntmps24
         go_wp2
         go_ret
         exact ⟨rfl, HB.out⟩)
/-- the rest of a path -/
theorem Pth.tail {W : World} {B : Nat} {p : Option Addr} {pc : Nat} {k : Int} {ks : List Int} (h : Pth W B p pc (k :: ks)) : ∃ b o, p = some ⟨b, o, none⟩ ∧ b < B ∧ W.cell? ⟨b, o, none⟩ = some (.int .i64 k) ∧ I64 k ∧ Pth W B (if pc = 1 then some ⟨b, o, none⟩ else some ⟨b, o + 1, none⟩) (pc - 1) ks := by
  obtain ⟨b, o, e, hb, h1, h2⟩ := h.at_ 0 (by simp)
  have hl := h.len
  have hm := h.max
  simp only [List.length_cons] at hl
  refine ⟨b, o, e, hb, by simpa using h1, by simpa using h2, by omega, by omega, fun i hi => ?_⟩
  obtain ⟨b', o', e', hb', g1, g2⟩ := h.at_ (i + 1) (by simp; omega)
  rw [e] at e'
  simp only [Option.some.injEq, Addr.mk.injEq, and_true] at e'
  obtain ⟨rfl, rfl⟩ := e'
  refine ⟨b, o + 1, by rw [if_neg (by omega)], hb, ?_, by simpa using g2⟩
  rw [show o + 1 + i = o + (i + 1) by omega]
  simpa using g1
theorem set3_cell {W : World} {A b o : Nat} {v : Value} (x y z : Value) (h : W.cell? ⟨b, o, none⟩ = some v) (hb : b ≠ A) : (((W.setCell ⟨A, 0, none⟩ x).setCell ⟨A, 1, none⟩ y).setCell ⟨A, 2, none⟩ z).cell? ⟨b, o, none⟩ = some v := (World.cell?_of_block (a := ⟨b, o, none⟩) (set3_other x y z hb)).trans h
/-- what Part and With answer -/
def RPp (w : World) (z : Option V) (e : Ending) (w' : World) : Prop := Below w.heap.size w w' ∧ ((z = none ∧ e = .returned (.tuple #[pv 0 0, .bool false])) ∨ ∃ y u, z = some y ∧ e = .returned (.tuple #[u, .bool true]) ∧ ∀ W', Mid w.heap.size w'.heap.size w' W' → IsV W' w'.heap.size u y)
theorem RPp.shape {w w' : World} {z : Option V} {e : Ending} (h : RPp w z e w') : ∃ (u0 u1 : Int) (p : Option Addr) (n c : Nat) (ok : Bool), e = .returned (.tuple #[.agg #[.int .i64 u0, .int .i64 u1, .slice p n c], .bool ok]) := by
  rcases h.2 with ⟨_, e1⟩ | ⟨y, u, _, e1, e2⟩
  · exact ⟨0, 0, none, 0, 0, false, e1⟩
  · obtain ⟨⟨p, c, e3, _⟩, _, _⟩ := e2 w' (Mid.refl _ _ _)
    exact ⟨_, _, p, _, c, true, by rw [e1, e3]⟩
theorem ROp.isv {w w' : World} {x : V} {g cap : Nat} (h : ROw w x w' g cap) (hk : I64 x.k) (hn : I64 x.n) : IsV w' w'.heap.size (.agg #[.int .i64 x.k, .int .i64 x.n, .slice (some ⟨g, 0, none⟩) x.l.length cap]) x := ⟨⟨_, _, rfl, h.slv w' (Mid.refl _ _ _)⟩, hk, hn⟩
set_option maxRecDepth 100000 in
set_option maxHeartbeats 4000000 in
theorem rPart_any : ∀ (ks : List Int) (w : World) (B : Nat) (v : Value) (x : V) (pp : Option Addr) (pc : Nat), IsV w B v x → Pth w B pp pc ks → B ≤ w.heap.size → x.sz ≤ 1000000 →
    Calls Try.prog 9 #[v, .slice pp ks.length pc] w (RPp w (findV x ks))
  | [], w, B, v, x, pp, pc, hv, hp, hB, hx => by
    obtain ⟨⟨p, cap, rfl, h1⟩, h2, h3⟩ := hv
    obtain ⟨W0, hW0⟩ : ∃ W0, (w.alloc (Obj.cells #[.int .i64 x.k, .int .i64 x.n, .slice p x.l.length cap] 24)).alloc z3 = W0 := ⟨_, rfl⟩
    have hz0 : W0.heap.size = w.heap.size + 2 := by rw [← hW0]; simp
    have ha0 : W0.heap[w.heap.size]? = some (Obj.cells #[.int .i64 x.k, .int .i64 x.n, .slice p x.l.length cap] 24) := by rw [← hW0]; exact (Below.heap_alloc _ _ _ (by simp)).trans (World.alloc_heap_new _ _)
    have ha1 : W0.heap[w.heap.size + 1]? = some z3 := by rw [← hW0]; exact alloc_at _ _ _
    have hb0 : Below w.heap.size w W0 := by rw [← hW0]; exact two_new _ _ _
    obtain ⟨c0, c1, c2, f0, f1, f2, cl⟩ := c3 ha0
    have HC : Bx _ := ⟨rown_any W0 B (.agg #[.int .i64 x.k, .int .i64 x.n, .slice p x.l.length cap]) x ⟨⟨p, cap, rfl, h1.lo (Lo.of (hb0.mono hB))⟩, h2, h3⟩ (by omega) hx⟩
    have HB0 : Bx _ := ⟨hb0⟩
    have HA1 : Bx (W0.heap[w.heap.size + 1]? = some z3 ∧ W0.heap.size = w.heap.size + 2) := ⟨ha1, hz0⟩
    have HK : Bx (I64 x.k ∧ I64 x.n) := ⟨h2, h3⟩
    rw [show (findV x []) = some x from rfl]
    clear h1 h2 h3 hp hb0 ha0 ha1 hz0
    rw [show ([] : List Int).length = 0 from rfl]
    go_enter Try.func9, Try.ntmps9
    go_wp2_with (first
      | (go_at_call 23; refine Calls.mono HC.out ?_; rintro e w2 ⟨g, gc, rfl, hr⟩; have hr1 : w2.heap[w.heap.size + 1]? = some z3 := (hr.bel.block _ (by have := HA1.out.2; omega)).trans HA1.out.1; obtain ⟨r0, r1, r2, s0, s1, s2, hAl⟩ := c3 hr1; have HR : Bx _ := ⟨hr⟩; clear hr hr1))
    refine bodyPost_ret (v := .tuple #[.agg #[.int .i64 x.k, .int .i64 x.n, .slice (some ⟨g, 0, none⟩) x.l.length gc], .bool true]) (by simp [results, Try.results9, go_sem, r0, r1, r2, hAl]) rfl ⟨below3 (HB0.out.trans (HR.out.bel.mono HB0.out.size)) (by omega) _ _ _, .inr ⟨x, _, rfl, rfl, fun W' hm => ⟨⟨_, _, rfl, ?_⟩, HK.out.1, HK.out.2⟩⟩⟩
    have hz := HA1.out.2
    simp only [World.size_setCell] at hm ⊢
    exact HR.out.slv _ (Mid.trans (Mid.blocks fun b q1 q2 => set3_other _ _ _ (by omega)) (hm.narrow (by omega) (Nat.le_refl _)))
  | k :: ks, w, B, v, x, pp, pc, hv, hp, hB, hx => by
    obtain ⟨b, o, rfl, hbB, p0, pk, ht⟩ := hp.tail
    have hpl := hp.len
    have hpm := hp.max
    unfold maxLen at hpm
    obtain ⟨⟨p, cap, rfl, h1⟩, h2, h3⟩ := hv
    obtain ⟨W0, hW0⟩ : ∃ W0, (w.alloc (Obj.cells #[.int .i64 x.k, .int .i64 x.n, .slice p x.l.length cap] 24)).alloc z3 = W0 := ⟨_, rfl⟩
    have hz0 : W0.heap.size = w.heap.size + 2 := by rw [← hW0]; simp
    have ha0 : W0.heap[w.heap.size]? = some (Obj.cells #[.int .i64 x.k, .int .i64 x.n, .slice p x.l.length cap] 24) := by rw [← hW0]; exact (Below.heap_alloc _ _ _ (by simp)).trans (World.alloc_heap_new _ _)
    have ha1 : W0.heap[w.heap.size + 1]? = some z3 := by rw [← hW0]; exact alloc_at _ _ _
    have hb0 : Below w.heap.size w W0 := by rw [← hW0]; exact two_new _ _ _
    obtain ⟨c0, c1, c2, f0, f1, f2, cl⟩ := c3 ha0
    have hLo : Lo B w W0 := Lo.of (hb0.mono hB)
    have HG : Bx _ := ⟨rgoes_any W0.drew B (.agg #[.int .i64 x.k, .int .i64 x.n, .slice p x.l.length cap]) x k ⟨⟨p, cap, rfl, h1.lo (Lo.of (hb0.mono hB).drew)⟩, h2, h3⟩⟩
    have hp0 : W0.cell? ⟨b, o, none⟩ = some (.int .i64 k) := by rw [hLo.cell _ _ hbB]; exact p0
    have HZ0 : Bx (W0.heap.size = w.heap.size + 2) := ⟨hz0⟩
    have hbw : b < w.heap.size := by omega
    have hw1z : w.heap.size + 1 < W0.heap.size := by omega
    have HW : Bx (∀ Y, Below W0.heap.size W0 Y → Y.cell? ⟨w.heap.size, 0, none⟩ = some (.int .i64 x.k) ∧ Y.cell? ⟨w.heap.size, 1, none⟩ = some (.int .i64 x.n) ∧ Y.cell? ⟨w.heap.size, 2, none⟩ = some (.slice p x.l.length cap) ∧ Y.cell? ⟨b, o, none⟩ = some (.int .i64 k) ∧ Y.heap[w.heap.size + 1]? = some z3) := ⟨fun Y hY => by
      have e := (hY.block _ cl).trans ha0
      exact ⟨cell_blk e rfl, cell_blk e rfl, cell_blk e rfl, (hY.cell (p := ⟨b, o, none⟩) (by show b < W0.heap.size; omega)).trans hp0, (hY.block _ hw1z).trans ha1⟩⟩
    have HB0 : Bx _ := ⟨hb0⟩
    have hbr : Below W0.heap.size W0 W0 := Below.refl _ _
    cases hg : goesI x k with
    | false =>
      rw [hg] at HG
      have HF : Bx (findV x (k :: ks) = none) := ⟨by simp [findV, hg]⟩
      clear h1 h2 h3 ht hg p0 hb0 ha0 ha1 hLo hp
      go_enter Try.func9, Try.ntmps9
      go_wp2_with fail
      go_region_held3 (fun Y => Y.cell? ⟨w.heap.size, 0, none⟩ = some (.int .i64 x.k) ∧ Y.cell? ⟨w.heap.size, 1, none⟩ = some (.int .i64 x.n) ∧ Y.cell? ⟨w.heap.size, 2, none⟩ = some (.slice p x.l.length cap) ∧ Y.cell? ⟨b, o, none⟩ = some (.int .i64 k))
        (first | exact ⟨c0, c1, c2, hp0⟩ | exact HC4.out | go_keep)
        (first
          | (go_at_call 24; refine Calls.mono HG.out ?_; rintro e w4 ⟨rfl, hb4⟩; have HB4 : Bx (Below W0.heap.size W0 w4) := ⟨hbr.drew.trans (hb4.mono (Nat.le_refl _))⟩; obtain ⟨j0, j1, j2, j3, j4⟩ := HW.out w4 HB4.out; have HC4 : Bx _ := ⟨(⟨j0, j1, j2, j3⟩ : _ ∧ _ ∧ _ ∧ _)⟩; obtain ⟨r0, r1, r2, s0, s1, s2, hAl⟩ := c3 j4; clear hb4 j0 j1 j2 j3 j4))
      clear HC4 HW c0 c1 c2 f0 f1 f2 cl hp0 HG
      go_wp2
      refine bodyPost_ret (v := .tuple #[pv 0 0, .bool false]) (by simp [results, Try.results9, go_sem, r0, r1, r2, hAl]) rfl ⟨below3 (HB0.out.trans (HB4.out.mono HB0.out.size)) (by omega) _ _ _, .inl ⟨HF.out, rfl⟩⟩
    | true =>
      rw [hg] at HG
      obtain ⟨q0, ql⟩ := goes_lt hg
      obtain ⟨j, rfl⟩ : ∃ j : Nat, k = j := ⟨k.toNat, by omega⟩
      have hj : j < x.l.length := by omega
      obtain ⟨b', o', r, rc, rfl, hb', d0, d1, d2, hR, e1, e2⟩ := h1.at3 j hj
      have hjI : (j : Int) < (x.l.length : Int) := by omega
      have hxl : x.l.length ≤ cap := h1.1
      have hxm : cap ≤ maxLen := h1.2.1
      unfold maxLen at hxm
      have HF : Bx (findV x ((j : Int) :: ks) = findV x.l[j] ks) := ⟨by simp [findV, hg, List.getD, List.getElem?_eq_getElem hj]⟩
      have HE : Bx (∀ Y, Below W0.heap.size W0 Y → Y.cell? ⟨b', o' + j * 3, none⟩ = some (.int .i64 x.l[j].k) ∧ Y.cell? ⟨b', o' + j * 3 + 1, none⟩ = some (.int .i64 x.l[j].n) ∧ Y.cell? ⟨b', o' + j * 3 + 2, none⟩ = some (.slice r x.l[j].l.length rc)) := ⟨fun Y hY => by
        have hL : Lo B w Y := Lo.of ((hb0.trans (hY.mono hb0.size)).mono hB)
        exact ⟨by rw [hL.cell _ _ hb']; exact d0, by rw [hL.cell _ _ hb']; exact d1, by rw [hL.cell _ _ hb']; exact d2⟩⟩
      obtain ⟨pa, hpa⟩ : ∃ pa, (if pc = 1 then some (⟨b, o, none⟩ : Addr) else some ⟨b, o + 1, none⟩) = pa := ⟨_, rfl⟩
      rw [hpa] at ht
      have HIH : Bx (∀ Y, Below W0.heap.size W0 Y → Calls Try.prog 9 #[.agg #[.int .i64 x.l[j].k, .int .i64 x.l[j].n, .slice r x.l[j].l.length rc], .slice pa ks.length (pc - 1)] Y (RPp Y (findV x.l[j] ks))) := ⟨fun Y hY => by
        have hL : Lo B w Y := Lo.of ((hb0.trans (hY.mono hb0.size)).mono hB)
        exact rPart_any ks Y B _ x.l[j] pa (pc - 1) ⟨⟨r, rc, rfl, hR.lo hL⟩, e1, e2⟩ (ht.lo hL) (by have := hY.size; omega) (by have := szs_mem (List.getElem_mem hj); have := V.sz_eq x; omega)⟩
      clear h1 h2 h3 ht hg p0 hb0 ha0 ha1 hLo hp d0 d1 d2 hR e1 e2
      generalize x.l[j].k = yk at *
      generalize x.l[j].n = yn at *
      generalize x.l[j].l.length = yl at *
      generalize findV x.l[j] ks = z at *
      go_enter Try.func9, Try.ntmps9
      go_wp2_with fail
      go_region_held3 (fun Y => Y.cell? ⟨w.heap.size, 0, none⟩ = some (.int .i64 x.k) ∧ Y.cell? ⟨w.heap.size, 1, none⟩ = some (.int .i64 x.n) ∧ Y.cell? ⟨w.heap.size, 2, none⟩ = some (.slice (some ⟨b', o', none⟩) x.l.length cap) ∧ Y.cell? ⟨b, o, none⟩ = some (.int .i64 j))
        (first | exact ⟨c0, c1, c2, hp0⟩ | exact HC4.out | go_keep)
        (first
          | (go_at_call 24; refine Calls.mono HG.out ?_; rintro e w4 ⟨rfl, hb4⟩; have HB4 : Bx (Below W0.heap.size W0 w4) := ⟨hbr.drew.trans (hb4.mono (Nat.le_refl _))⟩; obtain ⟨j0, j1, j2, j3, j4⟩ := HW.out w4 HB4.out; have HC4 : Bx _ := ⟨(⟨j0, j1, j2, j3⟩ : _ ∧ _ ∧ _ ∧ _)⟩; have HJ4 : Bx _ := ⟨j4⟩; clear hb4 j0 j1 j2 j3 j4))
      obtain ⟨k0, k1, k2, k3⟩ := HC4.out
      obtain ⟨g0, g1, g2⟩ := HE.out w4 HB4.out
      obtain ⟨r0, r1, r2, s0, s1, s2, hAl⟩ := c3 HJ4.out
      have hbne : b ≠ w.heap.size + 1 := by omega
      have hbHH : w.heap.size ≠ w.heap.size + 1 := by omega
      have hbne' : b' ≠ w.heap.size + 1 := by omega
      have hb4r : Below w4.heap.size w4 w4 := Below.refl _ _
      have HN : Bx (∀ Y, Below w4.heap.size w4 Y → Below W0.heap.size W0 Y) := ⟨fun Y hY => HB4.out.trans (hY.mono HB4.out.size)⟩
      have HEND : Bx (∀ e X, RPp w4.drew z e X → ∀ (u0 u1 : Int) (p : Option Addr) (n c : Nat) (ok : Bool), e = .returned (.tuple #[.agg #[.int .i64 u0, .int .i64 u1, .slice p n c], .bool ok]) → RPp w z e (((X.setCell ⟨w.heap.size + 1, 0, none⟩ (.int .i64 u0)).setCell ⟨w.heap.size + 1, 1, none⟩ (.int .i64 u1)).setCell ⟨w.heap.size + 1, 2, none⟩ (.slice p n c))) := ⟨fun e X hP u0 u1 p n c ok he => by
        have hX : Below W0.heap.size W0 X := HN.out X (hb4r.drew.trans hP.1)
        have hs4 := HB4.out.size
        refine ⟨below3 (HB0.out.trans (hX.mono HB0.out.size)) (by omega) _ _ _, ?_⟩
        rcases hP.2 with ⟨e1, e2⟩ | ⟨y, u, e1, e2, e3⟩
        · exact .inl ⟨e1, e2⟩
        · refine .inr ⟨y, u, e1, e2, fun W' hm => ?_⟩
          simp only [World.size_setCell] at hm ⊢
          have hw4 : W0.heap.size ≤ w4.drew.heap.size := hs4
          exact e3 W' (Mid.trans (Mid.blocks fun b q1 q2 => set3_other _ _ _ (by omega)) (hm.narrow (by omega) (Nat.le_refl _)))⟩
      clear HC4 HG c0 c1 c2 f0 f1 f2 cl hp0
      rw [← HF.out] at *
      have hk1 : (1 : Int) ≤ (ks.length : Int) + 1 := by omega
      have hk2 : (1 : Int) ≤ ((ks.length + 1 : Nat) : Int) := by omega
      have hpc1 : ks.length + 1 ≤ pc := hpl
      go_wp2_with fail
      go_region_held3 (fun Y => Y.cell? ⟨w.heap.size, 2, none⟩ = some (.slice (some ⟨b', o', none⟩) x.l.length cap) ∧ Y.cell? ⟨b, o, none⟩ = some (.int .i64 j) ∧ Y.cell? ⟨b', o' + j * 3, none⟩ = some (.int .i64 yk) ∧ Y.cell? ⟨b', o' + j * 3 + 1, none⟩ = some (.int .i64 yn) ∧ Y.cell? ⟨b', o' + j * 3 + 2, none⟩ = some (.slice r yl rc))
        (first | exact ⟨k2, k3, g0, g1, g2⟩ | exact HC5.out | exact HC6.out | go_keep)
        (first
          | (go_at_call 9; refine Calls.mono (HIH.out _ (HN.out _ hb4r.drew)) ?_; rintro e w5 hP5; obtain ⟨u0, u1, up, un, uc, ok, he⟩ := hP5.shape; have HP5 : Bx _ := ⟨HEND.out e w5 hP5 u0 u1 up un uc ok he⟩; have HB5 : Bx (Below w4.heap.size w4 w5) := ⟨hb4r.drew.trans hP5.1⟩; obtain ⟨j0, j1, j2, j3, j4⟩ := HW.out w5 (HN.out _ HB5.out); obtain ⟨l0, l1, l2⟩ := HE.out w5 (HN.out _ HB5.out); have HC5 : Bx _ := ⟨(⟨j2, j3, l0, l1, l2⟩ : _ ∧ _ ∧ _ ∧ _ ∧ _)⟩; have HC6 : Bx _ := ⟨(⟨set3_cell (.int .i64 u0) (.int .i64 u1) (.slice up un uc) j2 hbHH, set3_cell (.int .i64 u0) (.int .i64 u1) (.slice up un uc) j3 hbne, set3_cell (.int .i64 u0) (.int .i64 u1) (.slice up un uc) l0 hbne', set3_cell (.int .i64 u0) (.int .i64 u1) (.slice up un uc) l1 hbne', set3_cell (.int .i64 u0) (.int .i64 u1) (.slice up un uc) l2 hbne'⟩ : _ ∧ _ ∧ _ ∧ _ ∧ _)⟩; subst he; obtain ⟨m0, m1, m2, n0, n1, n2, hAm⟩ := c3 j4; have HR6 : Bx _ := ⟨set3 (a := .int .i64 u0) (b := .int .i64 u1) (c := .slice up un uc) j4⟩; clear hP5 j0 j1 j2 j3 j4 l0 l1 l2))
      clear HC5 HC6 m0 m1 m2 n0 n1 n2 hAm HIH HEND HE HW HN k0 k1 k2 k3 g0 g1 g2 r0 r1 r2 s0 s1 s2 hAl HJ4
      generalize (((w5.setCell ⟨w.heap.size + 1, 0, none⟩ (.int .i64 u0)).setCell ⟨w.heap.size + 1, 1, none⟩ (.int .i64 u1)).setCell ⟨w.heap.size + 1, 2, none⟩ (.slice up un uc)) = W9 at *
      obtain ⟨r0, r1, r2, s0, s1, s2, hAl⟩ := c3 HR6.out
      have HP9 : Bx _ := ⟨HP5.out⟩
      clear HR6 HP5
      go_wp2
      exact bodyPost_ret (v := .tuple #[.agg #[.int .i64 u0, .int .i64 u1, .slice up un uc], .bool ok]) (by simp [results, Try.results9, go_sem, r0, r1, r2, hAl]) rfl HP9.out
end Go.Proofs.Ytikijkpklneihaa
