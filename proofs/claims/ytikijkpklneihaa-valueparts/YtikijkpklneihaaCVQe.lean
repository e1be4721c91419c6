import Derived.Test.YtikijkpklneihaaCVQc
import Derived.Test.YtikijkpklneihaaCVWx
namespace Go.Proofs.Ytikijkpklneihaa
open Go.RowKit
set_option linter.unusedVariables false
set_option linter.unusedSimpArgs false

set_option maxRecDepth 100000 in
set_option maxHeartbeats 4000000 in
theorem rWith_any : ∀ (ks : List Int) (w : World) (B : Nat) (v u : Value) (x y : V) (pp : Option Addr) (pc : Nat), IsV w B v x → IsV w B u y → Pth w B pp pc ks → B ≤ w.heap.size → x.sz ≤ 1000000 → y.sz ≤ 1000000 →
    Calls Try.prog 10 #[v, .slice pp ks.length pc, u] w (RPp w (wzV x ks y))
  | [], w, B, v, u, x, y, pp, pc, hv, hu, hp, hB, hx, hy => by
    obtain ⟨⟨p, cap, rfl, h1⟩, h2, h3⟩ := hv
    obtain ⟨⟨r, rcap, rfl, k1⟩, k2, k3⟩ := hu
    obtain ⟨W0, hW0⟩ : ∃ W0, ((w.alloc (Obj.cells #[.int .i64 x.k, .int .i64 x.n, .slice p x.l.length cap] 24)).alloc (Obj.cells #[.int .i64 y.k, .int .i64 y.n, .slice r y.l.length rcap] 24)).alloc z3 = W0 := ⟨_, rfl⟩
    have hz0 : W0.heap.size = w.heap.size + 3 := by rw [← hW0]; simp
    have ha1 : W0.heap[w.heap.size + 1]? = some (Obj.cells #[.int .i64 y.k, .int .i64 y.n, .slice r y.l.length rcap] 24) := by rw [← hW0]; exact (Below.heap_alloc _ _ _ (by simp)).trans (alloc_at _ _ _)
    have ha2 : W0.heap[w.heap.size + 1 + 1]? = some z3 := by
      rw [← hW0]; have := World.alloc_heap_new ((w.alloc (Obj.cells #[.int .i64 x.k, .int .i64 x.n, .slice p x.l.length cap] 24)).alloc (Obj.cells #[.int .i64 y.k, .int .i64 y.n, .slice r y.l.length rcap] 24)) z3; simpa using this
    have hb0 : Below w.heap.size w W0 := by rw [← hW0]; exact (two_new _ _ _).trans ((below1 _ _).mono (by simp; omega))
    obtain ⟨c0, c1, c2, f0, f1, f2, cl⟩ := c3 ha1
    have HC : Bx _ := ⟨rown_any W0 B (.agg #[.int .i64 y.k, .int .i64 y.n, .slice r y.l.length rcap]) y ⟨⟨r, rcap, rfl, k1.lo (Lo.of (hb0.mono hB))⟩, k2, k3⟩ (by omega) hy⟩
    have HB0 : Bx _ := ⟨hb0⟩
    have HA1 : Bx (W0.heap[w.heap.size + 1 + 1]? = some z3 ∧ W0.heap.size = w.heap.size + 3) := ⟨ha2, hz0⟩
    have HK : Bx (I64 y.k ∧ I64 y.n) := ⟨k2, k3⟩
    rw [show (wzV x [] y) = some y from rfl]
    clear h1 h2 h3 k1 k2 k3 hp hb0 ha1 ha2 hz0
    rw [show ([] : List Int).length = 0 from rfl]
    go_enter Try.func10, Try.ntmps10
    go_wp2_with (first
      | (go_at_call 23; refine Calls.mono HC.out ?_; rintro e w2 ⟨g, gc, rfl, hr⟩; have hr1 : w2.heap[w.heap.size + 1 + 1]? = some z3 := (hr.bel.block _ (by have := HA1.out.2; omega)).trans HA1.out.1; obtain ⟨r0, r1, r2, s0, s1, s2, hAl⟩ := c3 hr1; have HR : Bx _ := ⟨hr⟩; clear hr hr1))
    refine bodyPost_ret (v := .tuple #[.agg #[.int .i64 y.k, .int .i64 y.n, .slice (some ⟨g, 0, none⟩) y.l.length gc], .bool true]) (by simp [results, Try.results10, go_sem, r0, r1, r2, hAl]) rfl ⟨below3 (HB0.out.trans (HR.out.bel.mono HB0.out.size)) (by omega) _ _ _, .inr ⟨y, _, rfl, rfl, fun W' hm => ⟨⟨_, _, rfl, ?_⟩, HK.out.1, HK.out.2⟩⟩⟩
    have hz := HA1.out.2
    simp only [World.size_setCell] at hm ⊢
    exact HR.out.slv _ (Mid.trans (Mid.blocks fun b q1 q2 => set3_other _ _ _ (by omega)) (hm.narrow (by omega) (Nat.le_refl _)))
  | k :: ks, w, B, v, u, x, y, pp, pc, hv, hu, hp, hB, hx, hy => by
    obtain ⟨b, o, rfl, hbB, p0, pk, ht⟩ := hp.tail
    have hpl := hp.len
    have hpm := hp.max
    unfold maxLen at hpm
    obtain ⟨⟨p, cap, rfl, h1⟩, h2, h3⟩ := hv
    obtain ⟨⟨r, rcap, rfl, k1⟩, k2, k3⟩ := hu
    obtain ⟨W0, hW0⟩ : ∃ W0, ((w.alloc (Obj.cells #[.int .i64 x.k, .int .i64 x.n, .slice p x.l.length cap] 24)).alloc (Obj.cells #[.int .i64 y.k, .int .i64 y.n, .slice r y.l.length rcap] 24)).alloc z3 = W0 := ⟨_, rfl⟩
    have hz0 : W0.heap.size = w.heap.size + 3 := by rw [← hW0]; simp
    have ha0 : W0.heap[w.heap.size]? = some (Obj.cells #[.int .i64 x.k, .int .i64 x.n, .slice p x.l.length cap] 24) := by
      rw [← hW0]; exact (Below.heap_alloc _ _ _ (by simp; omega)).trans ((Below.heap_alloc _ _ _ (by simp)).trans (World.alloc_heap_new _ _))
    have ha1 : W0.heap[w.heap.size + 1]? = some (Obj.cells #[.int .i64 y.k, .int .i64 y.n, .slice r y.l.length rcap] 24) := by rw [← hW0]; exact (Below.heap_alloc _ _ _ (by simp)).trans (alloc_at _ _ _)
    have ha2 : W0.heap[w.heap.size + 1 + 1]? = some z3 := by
      rw [← hW0]; have := World.alloc_heap_new ((w.alloc (Obj.cells #[.int .i64 x.k, .int .i64 x.n, .slice p x.l.length cap] 24)).alloc (Obj.cells #[.int .i64 y.k, .int .i64 y.n, .slice r y.l.length rcap] 24)) z3; simpa using this
    have hb0 : Below w.heap.size w W0 := by rw [← hW0]; exact (two_new _ _ _).trans ((below1 _ _).mono (by simp; omega))
    obtain ⟨c0, c1, c2, f0, f1, f2, cl⟩ := c3 ha0
    have hLo : Lo B w W0 := Lo.of (hb0.mono hB)
    have HG : Bx _ := ⟨rgoes_any W0.drew B (.agg #[.int .i64 x.k, .int .i64 x.n, .slice p x.l.length cap]) x k ⟨⟨p, cap, rfl, h1.lo (Lo.of (hb0.mono hB).drew)⟩, h2, h3⟩⟩
    have hp0 : W0.cell? ⟨b, o, none⟩ = some (.int .i64 k) := by rw [hLo.cell _ _ hbB]; exact p0
    have HZ0 : Bx (W0.heap.size = w.heap.size + 3) := ⟨hz0⟩
    have hbw : b < w.heap.size := by omega
    have HW : Bx (∀ Y, Below W0.heap.size W0 Y → Y.heap[w.heap.size]? = some (Obj.cells #[.int .i64 x.k, .int .i64 x.n, .slice p x.l.length cap] 24) ∧ Y.heap[w.heap.size + 1]? = some (Obj.cells #[.int .i64 y.k, .int .i64 y.n, .slice r y.l.length rcap] 24) ∧ Y.cell? ⟨b, o, none⟩ = some (.int .i64 k) ∧ Y.heap[w.heap.size + 1 + 1]? = some z3) := ⟨fun Y hY => ⟨(hY.block _ (by omega)).trans ha0, (hY.block _ (by omega)).trans ha1, (hY.cell (p := ⟨b, o, none⟩) (by show b < W0.heap.size; omega)).trans hp0, (hY.block _ (by omega)).trans ha2⟩⟩
    have HB0 : Bx _ := ⟨hb0⟩
    have hbr : Below W0.heap.size W0 W0 := Below.refl _ _
    cases hg : goesI x k with
    | false =>
      rw [hg] at HG
      have HF : Bx (wzV x (k :: ks) y = none) := ⟨by simp [wzV, findV, hg]⟩
      clear h1 h2 h3 k1 k2 k3 ht hg p0 hb0 ha0 ha1 ha2 hLo hp
      go_enter Try.func10, Try.ntmps10
      go_wp2_with fail
      go_region_held3 (fun Y => Y.cell? ⟨w.heap.size, 0, none⟩ = some (.int .i64 x.k) ∧ Y.cell? ⟨w.heap.size, 1, none⟩ = some (.int .i64 x.n) ∧ Y.cell? ⟨w.heap.size, 2, none⟩ = some (.slice p x.l.length cap) ∧ Y.cell? ⟨b, o, none⟩ = some (.int .i64 k))
        (first | exact ⟨c0, c1, c2, hp0⟩ | exact HC4.out | go_keep)
        (first
          | (go_at_call 24; refine Calls.mono HG.out ?_; rintro e w4 ⟨rfl, hb4⟩; have HB4 : Bx (Below W0.heap.size W0 w4) := ⟨hbr.drew.trans (hb4.mono (Nat.le_refl _))⟩; obtain ⟨j0, j1, j2, j4⟩ := HW.out w4 HB4.out; have HC4 : Bx _ := ⟨(⟨(c3 j0).1, (c3 j0).2.1, (c3 j0).2.2.1, j2⟩ : _ ∧ _ ∧ _ ∧ _)⟩; obtain ⟨r0, r1, r2, s0, s1, s2, hAl⟩ := c3 j4; clear hb4 j0 j1 j2 j4))
      clear HC4 HW c0 c1 c2 f0 f1 f2 cl hp0 HG
      go_wp2
      refine bodyPost_ret (v := .tuple #[pv 0 0, .bool false]) (by simp [results, Try.results10, go_sem, r0, r1, r2, hAl]) rfl ⟨below3 (HB0.out.trans (HB4.out.mono HB0.out.size)) (by omega) _ _ _, .inl ⟨HF.out, rfl⟩⟩
    | true =>
      rw [hg] at HG
      obtain ⟨q0, ql⟩ := goes_lt hg
      obtain ⟨j, rfl⟩ : ∃ j : Nat, k = j := ⟨k.toNat, by omega⟩
      have hj : j < x.l.length := by omega
      obtain ⟨b', o', r', rc, rfl, hb', d0, d1, d2, hR, e1, e2⟩ := h1.at3 j hj
      have hjI : (j : Int) < (x.l.length : Int) := by omega
      have hxl : x.l.length ≤ cap := h1.1
      have hxm : cap ≤ maxLen := h1.2.1
      unfold maxLen at hxm
      have HF : Bx _ := ⟨wz_cons (y := y) (ks := ks) hg hj⟩
      have HE : Bx (∀ Y, Below W0.heap.size W0 Y → Y.cell? ⟨b', o' + j * 3, none⟩ = some (.int .i64 x.l[j].k) ∧ Y.cell? ⟨b', o' + j * 3 + 1, none⟩ = some (.int .i64 x.l[j].n) ∧ Y.cell? ⟨b', o' + j * 3 + 2, none⟩ = some (.slice r' x.l[j].l.length rc)) := ⟨fun Y hY => by
        have hL : Lo B w Y := Lo.of ((hb0.trans (hY.mono hb0.size)).mono hB)
        exact ⟨by rw [hL.cell _ _ hb']; exact d0, by rw [hL.cell _ _ hb']; exact d1, by rw [hL.cell _ _ hb']; exact d2⟩⟩
      obtain ⟨pa, hpa⟩ : ∃ pa, (if pc = 1 then some (⟨b, o, none⟩ : Addr) else some ⟨b, o + 1, none⟩) = pa := ⟨_, rfl⟩
      rw [hpa] at ht
      have HIH : Bx (∀ Y, Below W0.heap.size W0 Y → Calls Try.prog 10 #[.agg #[.int .i64 x.l[j].k, .int .i64 x.l[j].n, .slice r' x.l[j].l.length rc], .slice pa ks.length (pc - 1), .agg #[.int .i64 y.k, .int .i64 y.n, .slice r y.l.length rcap]] Y (RPp Y (wzV x.l[j] ks y))) := ⟨fun Y hY => by
        have hL : Lo B w Y := Lo.of ((hb0.trans (hY.mono hb0.size)).mono hB)
        exact rWith_any ks Y B _ _ x.l[j] y pa (pc - 1) ⟨⟨r', rc, rfl, hR.lo hL⟩, e1, e2⟩ ⟨⟨r, rcap, rfl, k1.lo hL⟩, k2, k3⟩ (ht.lo hL) (by have := hY.size; omega) (by have := szs_mem (List.getElem_mem hj); have := V.sz_eq x; omega) hy⟩
      have HOW : Bx (∀ Y, Below W0.heap.size W0 Y → Calls Try.prog 23 #[.agg #[.int .i64 x.k, .int .i64 x.n, .slice (some ⟨b', o', none⟩) x.l.length cap]] Y (ROp Y x)) := ⟨fun Y hY => by
        have hL : Lo B w Y := Lo.of ((hb0.trans (hY.mono hb0.size)).mono hB)
        exact rown_any Y B _ x ⟨⟨_, _, rfl, h1.lo hL⟩, h2, h3⟩ (by have := hY.size; omega) hx⟩
      have HX : Bx ((I64 x.k ∧ I64 x.n) ∧ j < x.l.length) := ⟨⟨h2, h3⟩, hj⟩
      clear h1 h2 h3 k1 k2 k3 ht hg p0 hb0 ha0 ha1 ha2 hLo hp d0 d1 d2 hR e1 e2
      generalize x.l[j].k = yk at *
      generalize x.l[j].n = yn at *
      generalize x.l[j].l.length = yl at *
      generalize hzz : wzV x.l[j] ks y = z at *
      clear hzz
      go_enter Try.func10, Try.ntmps10
      go_wp2_with fail
      go_region_held3 (fun Y => Y.cell? ⟨w.heap.size, 0, none⟩ = some (.int .i64 x.k) ∧ Y.cell? ⟨w.heap.size, 1, none⟩ = some (.int .i64 x.n) ∧ Y.cell? ⟨w.heap.size, 2, none⟩ = some (.slice (some ⟨b', o', none⟩) x.l.length cap) ∧ Y.cell? ⟨b, o, none⟩ = some (.int .i64 j))
        (first | exact ⟨c0, c1, c2, hp0⟩ | exact HC4.out | go_keep)
        (first
          | (go_at_call 24; refine Calls.mono HG.out ?_; rintro e w4 ⟨rfl, hb4⟩; have HB4 : Bx (Below W0.heap.size W0 w4) := ⟨hbr.drew.trans (hb4.mono (Nat.le_refl _))⟩; obtain ⟨j0, j1, j2, j4⟩ := HW.out w4 HB4.out; have HC4 : Bx _ := ⟨(⟨(c3 j0).1, (c3 j0).2.1, (c3 j0).2.2.1, j2⟩ : _ ∧ _ ∧ _ ∧ _)⟩; have HJ0 : Bx _ := ⟨j0⟩; have HJ1 : Bx _ := ⟨j1⟩; have HJ4 : Bx _ := ⟨j4⟩; clear hb4 j0 j1 j2 j4))
      obtain ⟨k0, k1, k2, k3⟩ := HC4.out
      obtain ⟨g0, g1, g2⟩ := HE.out w4 HB4.out
      obtain ⟨v0, v1, v2, _, _, _, _⟩ := c3 HJ1.out
      have hb4r : Below w4.heap.size w4 w4 := Below.refl _ _
      have HN : Bx (∀ Y, Below w4.heap.size w4 Y → Below W0.heap.size W0 Y) := ⟨fun Y hY => HB4.out.trans (hY.mono HB4.out.size)⟩
      have hk1 : (1 : Int) ≤ (ks.length : Int) + 1 := by omega
      have hk2 : (1 : Int) ≤ ((ks.length + 1 : Nat) : Int) := by omega
      have hpc1 : ks.length + 1 ≤ pc := hpl
      clear HC4 HG c0 c1 c2 f0 f1 f2 cl hp0
      have HCE : Bx (∀ Y, Below w4.drew.heap.size w4.drew Y → Y.cell? ⟨w.heap.size, 0, none⟩ = some (.int .i64 x.k) ∧ Y.cell? ⟨w.heap.size, 1, none⟩ = some (.int .i64 x.n) ∧ Y.cell? ⟨w.heap.size, 2, none⟩ = some (.slice (some ⟨b', o', none⟩) x.l.length cap) ∧ Y.cell? ⟨b, o, none⟩ = some (.int .i64 j) ∧ Y.cell? ⟨w.heap.size + 1, 0, none⟩ = some (.int .i64 y.k) ∧ Y.cell? ⟨w.heap.size + 1, 1, none⟩ = some (.int .i64 y.n) ∧ Y.cell? ⟨w.heap.size + 1, 2, none⟩ = some (.slice r y.l.length rcap) ∧ Y.cell? ⟨b', o' + j * 3, none⟩ = some (.int .i64 yk) ∧ Y.cell? ⟨b', o' + j * 3 + 1, none⟩ = some (.int .i64 yn) ∧ Y.cell? ⟨b', o' + j * 3 + 2, none⟩ = some (.slice r' yl rc)) := ⟨fun Y hY => by
        have hY0 := HN.out Y (hb4r.drew.trans hY)
        obtain ⟨q0, q1, q2, _⟩ := HW.out Y hY0
        obtain ⟨l0, l1, l2⟩ := HE.out Y hY0
        exact ⟨(c3 q0).1, (c3 q0).2.1, (c3 q0).2.2.1, q2, (c3 q1).1, (c3 q1).2.1, (c3 q1).2.2.1, l0, l1, l2⟩⟩
      clear k0 k1 k2 k3 v0 v1 v2 g0 g1 g2
      go_wp2_with fail
      refine region_flowV (WiS w4.drew z (fun zz => ([some (.pointer (some ⟨w.heap.size, 2, none⟩)), some (.slice (some ⟨b', o', none⟩) x.l.length cap), some (.slice (some ⟨b, o, none⟩) (ks.length + 1) pc), some (.pointer (some ⟨b, o, none⟩)), some (.int .i64 j), some (.pointer (some ⟨b', o' + j * 3, none⟩)), some (.agg #[.int .i64 yk, .int .i64 yn, .slice r' yl rc]), some (.slice (some ⟨b, o, none⟩) (ks.length + 1) pc), some (.slice pa ks.length (pc - 1)), some (.agg #[.int .i64 y.k, .int .i64 y.n, .slice r y.l.length rcap]), none, none, none, none, none, none, none] : List (Option Value)).getD zz none)) (by kernel_rfl) (by decide +kernel) ⟨(Below.refl _ _), (fun _ _ h => by cases h), (fun _ h => by cases h), (fun _ h => by cases h), (fun _ h => by cases h), (fun _ h => by cases h), (fun _ h => by cases h), (fun _ h => by cases h), fun h => absurd rfl h⟩ ?stp ?fin
      case stp =>
        intro u9 wz jj op bb hS hnu ho hdep hA
        rcases jj with _ | _ | _ | _ | _ | _ | _ | _ | _ | _ | _ | _ | _ | _ | _ | _ | _ | jj
        · simp only [List.getElem?_cons_succ, List.getElem?_cons_zero, Option.some.injEq] at ho
          subst ho
          have f3 := hA.was (t := 3) (by decide +kernel)
          simp only [Act.eval] at f3
          refine ⟨rfl, .inl ⟨.pointer (some ⟨w.heap.size, 2, none⟩), wz, ?_, hS.low (by decide) rfl⟩⟩
          simp only [execOp, f3]
          go_simp
          try first | rfl | (intro hq; exfalso; omega)
        · simp only [List.getElem?_cons_succ, List.getElem?_cons_zero, Option.some.injEq] at ho
          subst ho
          have e0 := hA.at_ (j := 0) (t := 24) rfl rfl (hS.get (hdep ⟨0, Ground.data⟩ (by simp) rfl) (c := .pointer (some ⟨w.heap.size, 2, none⟩)) rfl) (Nat.le_of_ble_eq_true rfl)
          obtain ⟨k0, k1, k2, k3, v0, v1, v2, g0, g1, g2⟩ := HCE.out wz hS.bel
          refine ⟨rfl, .inl ⟨.slice (some ⟨b', o', none⟩) x.l.length cap, wz, ?_, hS.low (by decide) rfl⟩⟩
          simp only [execOp, e0]
          go_simp
          try first | rfl | (intro hq; exfalso; omega)
        · simp only [List.getElem?_cons_succ, List.getElem?_cons_zero, Option.some.injEq] at ho
          subst ho
          have f1 := hA.was (t := 1) (by decide +kernel)
          simp only [Act.eval] at f1
          refine ⟨rfl, .inl ⟨.slice (some ⟨b, o, none⟩) (ks.length + 1) pc, wz, ?_, hS.low (by decide) rfl⟩⟩
          simp only [execOp, f1]
          go_simp
          try first | rfl | (intro hq; exfalso; omega)
        · simp only [List.getElem?_cons_succ, List.getElem?_cons_zero, Option.some.injEq] at ho
          subst ho
          have e2 := hA.at_ (j := 2) (t := 26) rfl rfl (hS.get (hdep ⟨2, Ground.data⟩ (by simp) rfl) (c := .slice (some ⟨b, o, none⟩) (ks.length + 1) pc) rfl) (Nat.le_of_ble_eq_true rfl)
          refine ⟨rfl, .inl ⟨.pointer (some ⟨b, o, none⟩), wz, ?_, hS.low (by decide) rfl⟩⟩
          simp only [execOp, e2]
          go_simp
          try first | rfl | (intro hq; exfalso; omega)
        · simp only [List.getElem?_cons_succ, List.getElem?_cons_zero, Option.some.injEq] at ho
          subst ho
          have e3 := hA.at_ (j := 3) (t := 27) rfl rfl (hS.get (hdep ⟨3, Ground.data⟩ (by simp) rfl) (c := .pointer (some ⟨b, o, none⟩)) rfl) (Nat.le_of_ble_eq_true rfl)
          obtain ⟨k0, k1, k2, k3, v0, v1, v2, g0, g1, g2⟩ := HCE.out wz hS.bel
          refine ⟨rfl, .inl ⟨.int .i64 j, wz, ?_, hS.low (by decide) rfl⟩⟩
          simp only [execOp, e3]
          go_simp
          try first | rfl | (intro hq; exfalso; omega)
        · simp only [List.getElem?_cons_succ, List.getElem?_cons_zero, Option.some.injEq] at ho
          subst ho
          have e1 := hA.at_ (j := 1) (t := 25) rfl rfl (hS.get (hdep ⟨1, Ground.data⟩ (by simp) rfl) (c := .slice (some ⟨b', o', none⟩) x.l.length cap) rfl) (Nat.le_of_ble_eq_true rfl)
          have e4 := hA.at_ (j := 4) (t := 28) rfl rfl (hS.get (hdep ⟨4, Ground.data⟩ (by simp) rfl) (c := .int .i64 j) rfl) (Nat.le_of_ble_eq_true rfl)
          refine ⟨rfl, .inl ⟨.pointer (some ⟨b', o' + j * 3, none⟩), wz, ?_, hS.low (by decide) rfl⟩⟩
          simp only [execOp, e1, e4]
          go_simp
          try first | rfl | (intro hq; exfalso; omega)
        · simp only [List.getElem?_cons_succ, List.getElem?_cons_zero, Option.some.injEq] at ho
          subst ho
          have e5 := hA.at_ (j := 5) (t := 29) rfl rfl (hS.get (hdep ⟨5, Ground.data⟩ (by simp) rfl) (c := .pointer (some ⟨b', o' + j * 3, none⟩)) rfl) (Nat.le_of_ble_eq_true rfl)
          obtain ⟨k0, k1, k2, k3, v0, v1, v2, g0, g1, g2⟩ := HCE.out wz hS.bel
          refine ⟨rfl, .inl ⟨.agg #[.int .i64 yk, .int .i64 yn, .slice r' yl rc], wz, ?_, hS.low (by decide) rfl⟩⟩
          simp only [execOp, e5]
          go_simp
          try first | rfl | (intro hq; exfalso; omega)
        · simp only [List.getElem?_cons_succ, List.getElem?_cons_zero, Option.some.injEq] at ho
          subst ho
          have f1 := hA.was (t := 1) (by decide +kernel)
          simp only [Act.eval] at f1
          refine ⟨rfl, .inl ⟨.slice (some ⟨b, o, none⟩) (ks.length + 1) pc, wz, ?_, hS.low (by decide) rfl⟩⟩
          simp only [execOp, f1]
          go_simp
          try first | rfl | (intro hq; exfalso; omega)
        · simp only [List.getElem?_cons_succ, List.getElem?_cons_zero, Option.some.injEq] at ho
          subst ho
          have e7 := hA.at_ (j := 7) (t := 31) rfl rfl (hS.get (hdep ⟨7, Ground.data⟩ (by simp) rfl) (c := .slice (some ⟨b, o, none⟩) (ks.length + 1) pc) rfl) (Nat.le_of_ble_eq_true rfl)
          refine ⟨rfl, .inl ⟨.slice pa ks.length (pc - 1), wz, ?_, hS.low (by decide) rfl⟩⟩
          simp only [execOp, e7]
          go_simp
          try first | rfl | (intro hq; exfalso; omega)
        · simp only [List.getElem?_cons_succ, List.getElem?_cons_zero, Option.some.injEq] at ho
          subst ho
          have f5 := hA.was (t := 5) (by decide +kernel)
          simp only [Act.eval] at f5
          obtain ⟨k0, k1, k2, k3, v0, v1, v2, g0, g1, g2⟩ := HCE.out wz hS.bel
          refine ⟨rfl, .inl ⟨.agg #[.int .i64 y.k, .int .i64 y.n, .slice r y.l.length rcap], wz, ?_, hS.low (by decide) rfl⟩⟩
          simp only [execOp, f5]
          go_simp
          try first | rfl | (intro hq; exfalso; omega)
        · simp only [List.getElem?_cons_succ, List.getElem?_cons_zero, Option.some.injEq] at ho
          subst ho
          have e6 := hA.at_ (j := 6) (t := 30) rfl rfl (hS.get (hdep ⟨6, Ground.data⟩ (by simp) rfl) (c := .agg #[.int .i64 yk, .int .i64 yn, .slice r' yl rc]) rfl) (Nat.le_of_ble_eq_true rfl)
          have e8 := hA.at_ (j := 8) (t := 32) rfl rfl (hS.get (hdep ⟨8, Ground.data⟩ (by simp) rfl) (c := .slice pa ks.length (pc - 1)) rfl) (Nat.le_of_ble_eq_true rfl)
          have e9 := hA.at_ (j := 9) (t := 33) rfl rfl (hS.get (hdep ⟨9, Ground.data⟩ (by simp) rfl) (c := .agg #[.int .i64 y.k, .int .i64 y.n, .slice r y.l.length rcap]) rfl) (Nat.le_of_ble_eq_true rfl)
          have b6 : bb.tmps[30]?.getD undef = .agg #[.int .i64 yk, .int .i64 yn, .slice r' yl rc] := by simpa [Act.eval, Array.getD_eq_getD_getElem?] using e6
          have b8 : bb.tmps[32]?.getD undef = .slice pa ks.length (pc - 1) := by simpa [Act.eval, Array.getD_eq_getD_getElem?] using e8
          have b9 : bb.tmps[33]?.getD undef = .agg #[.int .i64 y.k, .int .i64 y.n, .slice r y.l.length rcap] := by simpa [Act.eval, Array.getD_eq_getD_getElem?] using e9
          refine ⟨rfl, .inr (.inr ⟨_, _, ?_, Calls.mono (HIH.out wz (HN.out wz (hb4r.drew.trans hS.bel))) ?_⟩)⟩
          · simp only [execOp, e6, e8, e9]
            go_simp
            try first | rfl | simp [b6, b8, b9]
          · rintro e w2 hP
            obtain ⟨u0, u1, up, un, uc, ok, he⟩ := hP.shape
            subst he
            exact ⟨_, rfl, hS.called rfl hnu hP⟩
        · simp only [List.getElem?_cons_succ, List.getElem?_cons_zero, Option.some.injEq] at ho
          subst ho
          obtain ⟨vc, hvc⟩ := hdep ⟨10, Ground.data⟩ (by simp) rfl
          have ec := hA.at_ (j := 10) (t := 34) rfl rfl hvc (Nat.le_of_ble_eq_true rfl)
          refine ⟨rfl, .inl ⟨vc, wz, ?_, hS.part (.inl rfl) rfl hnu (fun _ => hvc) (fun e => by cases e) (fun e => by cases e) (fun e => by cases e)⟩⟩
          simp only [execOp, ec]
          go_simp
          try rfl
        · simp only [List.getElem?_cons_succ, List.getElem?_cons_zero, Option.some.injEq] at ho
          subst ho
          obtain ⟨vc, hvc⟩ := hdep ⟨11, Ground.data⟩ (by simp) rfl
          have h10 := hS.e11 vc hvc
          obtain ⟨u0, u1, up, un, uc, ok, a, bb9, hv, _⟩ := hS.call vc h10
          subst hv
          have ec := hA.at_ (j := 11) (t := 23) rfl rfl hvc (Nat.le_of_ble_eq_true rfl)
          refine ⟨rfl, .inl ⟨.agg #[.int .i64 u0, .int .i64 u1, .slice up un uc], wz, ?_, hS.part (.inr (.inl rfl)) rfl hnu (fun e => by cases e) (fun _ => ⟨_, h10⟩) (fun e => by cases e) (fun e => by cases e)⟩⟩
          simp only [execOp, ec, tpV]
          go_simp
          try rfl
        · simp only [List.getElem?_cons_succ, List.getElem?_cons_zero, Option.some.injEq] at ho
          subst ho
          obtain ⟨vc, hvc⟩ := hdep ⟨11, Ground.data⟩ (by simp) rfl
          have h10 := hS.e11 vc hvc
          obtain ⟨u0, u1, up, un, uc, ok, a, bb9, hv, _⟩ := hS.call vc h10
          subst hv
          have ec := hA.at_ (j := 11) (t := 23) rfl rfl hvc (Nat.le_of_ble_eq_true rfl)
          refine ⟨rfl, .inl ⟨.bool ok, wz, ?_, hS.part (.inr (.inr (.inl rfl))) rfl hnu (fun e => by cases e) (fun e => by cases e) (fun _ => ⟨_, h10⟩) (fun e => by cases e)⟩⟩
          simp only [execOp, ec, tpV]
          go_simp
          try rfl
        · simp only [List.getElem?_cons_succ, List.getElem?_cons_zero, Option.some.injEq] at ho
          subst ho
          refine ⟨rfl, .inl ⟨.pointer (some ⟨wz.heap.size, 0, none⟩), wz.alloc z3, ?_, hS.boxed rfl hnu⟩⟩
          simp only [execOp]
          go_simp
          try rfl
        · simp only [List.getElem?_cons_succ, List.getElem?_cons_zero, Option.some.injEq] at ho
          subst ho
          obtain ⟨va, hva⟩ := hdep ⟨14, Ground.data⟩ (by simp) rfl
          obtain ⟨vp, hvp⟩ := hdep ⟨12, Ground.data⟩ (by simp) rfl
          obtain ⟨vb, h10⟩ := hS.e12 vp hvp
          obtain ⟨u0, u1, up, un, uc, ok, a, bb9, hv, _⟩ := hS.call _ h10
          obtain ⟨A, hA1, _, hA3, hA4, _⟩ := hS.al va hva
          subst hA1
          simp only [tpV, Value.tuple.injEq, Array.mk.injEq, List.cons.injEq, and_true] at hv
          obtain ⟨hv1, hv2⟩ := hv
          subst hv1 hv2
          have ea := hA.at_ (j := 14) (t := 8) rfl rfl hva (Nat.le_of_ble_eq_true rfl)
          have ep := hA.at_ (j := 12) (t := 35) rfl rfl hvp (Nat.le_of_ble_eq_true rfl)
          obtain ⟨x0, x1, x2, f0, f1, f2, hAl⟩ := c3 (hA4 hnu)
          refine ⟨rfl, .inr (.inl ⟨_, ?_, hS.stored rfl hva h10 hnu undef⟩)⟩
          simp only [execOp, ea, ep]
          go_simp
          try rfl
        · simp only [List.getElem?_cons_succ, List.getElem?_cons_zero, Option.some.injEq] at ho
          subst ho
          obtain ⟨vc, hvc⟩ := hdep ⟨13, Ground.data⟩ (by simp) rfl
          have ec := hA.at_ (j := 13) (t := 36) rfl rfl hvc (Nat.le_of_ble_eq_true rfl)
          refine ⟨rfl, .inl ⟨vc, wz, ?_, hS.part (.inr (.inr (.inr rfl))) rfl hnu (fun e => by cases e) (fun e => by cases e) (fun e => by cases e) (fun _ => hvc)⟩⟩
          simp only [execOp, ec]
          go_simp
          try rfl
        · simp at ho
      case fin =>
        intro u9 vs w6 hvl hvs hS
        match vs, hvl with
        | [y0, y1, y2, y3, y4, y5, y6, y7, y8, y9, y10, y11, y12, y13, y14, y15, y16], _ =>
          have f0 : y0 = .pointer (some ⟨w.heap.size, 2, none⟩) := hS.pur 0 y0 (hvs 0 (Nat.le_of_ble_eq_true rfl)) _ rfl
          have f1 : y1 = .slice (some ⟨b', o', none⟩) x.l.length cap := hS.pur 1 y1 (hvs 1 (Nat.le_of_ble_eq_true rfl)) _ rfl
          have f2 : y2 = .slice (some ⟨b, o, none⟩) (ks.length + 1) pc := hS.pur 2 y2 (hvs 2 (Nat.le_of_ble_eq_true rfl)) _ rfl
          have f3 : y3 = .pointer (some ⟨b, o, none⟩) := hS.pur 3 y3 (hvs 3 (Nat.le_of_ble_eq_true rfl)) _ rfl
          have f4 : y4 = .int .i64 j := hS.pur 4 y4 (hvs 4 (Nat.le_of_ble_eq_true rfl)) _ rfl
          have f5 : y5 = .pointer (some ⟨b', o' + j * 3, none⟩) := hS.pur 5 y5 (hvs 5 (Nat.le_of_ble_eq_true rfl)) _ rfl
          have f6 : y6 = .agg #[.int .i64 yk, .int .i64 yn, .slice r' yl rc] := hS.pur 6 y6 (hvs 6 (Nat.le_of_ble_eq_true rfl)) _ rfl
          have f7 : y7 = .slice (some ⟨b, o, none⟩) (ks.length + 1) pc := hS.pur 7 y7 (hvs 7 (Nat.le_of_ble_eq_true rfl)) _ rfl
          have f8 : y8 = .slice pa ks.length (pc - 1) := hS.pur 8 y8 (hvs 8 (Nat.le_of_ble_eq_true rfl)) _ rfl
          have f9 : y9 = .agg #[.int .i64 y.k, .int .i64 y.n, .slice r y.l.length rcap] := hS.pur 9 y9 (hvs 9 (Nat.le_of_ble_eq_true rfl)) _ rfl
          have g10 : u9 10 = some y10 := hvs 10 (Nat.le_of_ble_eq_true rfl)
          have g11 : u9 11 = some y11 := hvs 11 (Nat.le_of_ble_eq_true rfl)
          have g12 : u9 12 = some y12 := hvs 12 (Nat.le_of_ble_eq_true rfl)
          have g13 : u9 13 = some y13 := hvs 13 (Nat.le_of_ble_eq_true rfl)
          have g14 : u9 14 = some y14 := hvs 14 (Nat.le_of_ble_eq_true rfl)
          have g15 : u9 15 = some y15 := hvs 15 (Nat.le_of_ble_eq_true rfl)
          have g16 : u9 16 = some y16 := hvs 16 (Nat.le_of_ble_eq_true rfl)
          obtain ⟨u0, u1, up, un, uc, ok, a, bb, h10, ha, hab, hb, hab2, htold⟩ := hS.call _ g10
          obtain ⟨A, h14, hAl, hAs, _, hbx⟩ := hS.al _ g14
          subst h10 h14
          have hbx2 := hbx (by rw [g15]; simp) _ _ _ _ _ _ g10
          have hA2 := hab2 A g14
          have hbel := hS.bel
          have i11 := hS.e11 _ g11
          rw [g10] at i11
          obtain rfl := Option.some.inj i11
          obtain ⟨_, i12⟩ := hS.e12 _ g12
          rw [g10] at i12
          simp only [Option.some.injEq, tpV, Value.tuple.injEq, Array.mk.injEq, List.cons.injEq, and_true] at i12
          obtain ⟨i12, -⟩ := i12
          subst i12
          obtain ⟨_, i13⟩ := hS.e13 _ g13
          rw [g10] at i13
          simp only [Option.some.injEq, tpV, Value.tuple.injEq, Array.mk.injEq, List.cons.injEq, and_true] at i13
          obtain ⟨-, i13⟩ := i13
          subst i13
          have i16 := hS.e16 _ g16
          rw [g13] at i16
          obtain rfl := Option.some.inj i16
          clear i11 i16 hbx hab2
          subst f0
          subst f1
          subst f2
          subst f3
          subst f4
          subst f5
          subst f6
          subst f7
          subst f8
          subst f9
          clear hS hvs g10 g11 g12 g13 g14 g15 g16
          refine ⟨_, flowF 24 10 (by decide +kernel) (by rfl) (by exact Nat.le_of_ble_eq_true rfl) (by exact Nat.le_of_ble_eq_true rfl) (by simp only [List.drop_succ_cons, List.drop_zero, List.drop_nil, List.take_succ_cons, List.take_zero, List.cons_append, List.nil_append, flowEnd, Act.put, List.setIfInBounds_toArray, List.set_cons_zero, List.set_cons_succ]; rfl), ?_⟩
          have hb6 : Below w4.heap.size w4 w6 := hb4r.drew.trans hbel
          have hB6 := HN.out w6 hb6
          obtain ⟨q0, q1, q2, q4⟩ := HW.out w6 hB6
          have ha' : w4.heap.size ≤ a := ha
          have hAl' : w4.heap.size ≤ A := hAl
          have hs4 : W0.heap.size ≤ w4.heap.size := HB4.out.size
          have hs6 : w4.heap.size ≤ w6.heap.size := hb6.size
          have HZ6 : Bx (Below W0.heap.size W0 w6 ∧ w.heap.size + 3 ≤ w4.heap.size ∧ w4.heap.size ≤ a ∧ a ≤ bb ∧ bb ≤ w6.heap.size ∧ w4.heap.size ≤ A ∧ A < w6.heap.size ∧ b < w.heap.size) := ⟨hB6, by have := HZ0.out; omega, ha', hab, hb, hAl', hAs, hbw⟩
          have HTO : Bx (Told z a bb w6 u0 u1 up un uc ok) := ⟨htold⟩
          have HA6 : Bx (w6.heap[A]? = some (.cells #[.int .i64 u0, .int .i64 u1, .slice up un uc] 24 (0, 0)) ∧ w6.heap[w.heap.size + 1 + 1]? = some z3 ∧ w6.cell? ⟨b, o, none⟩ = some (.int .i64 j)) := ⟨hbx2, q4, q2⟩
          obtain ⟨c0, c1, c2, _, _, _, _⟩ := c3 q0
          obtain ⟨r0, r1, r2, s0, s1, s2, hAl2⟩ := c3 q4
          clear HCE HIH HE HW HN HJ0 HJ1 HJ4 HB4 hbx2 htold hab ha hb hA2 hbel hb6 hB6 q1 q4 q0 ha' hAl' hs4 hs6 hAl hAs
          cases ok with
          | false =>
            have HF2 : Bx (wzV x ((j : Int) :: ks) y = none) := ⟨by
              rw [HF.out]
              rcases HTO.out with ⟨h, _⟩ | ⟨_, _, h, _⟩
              · rw [h]; rfl
              · cases h⟩
            clear HTO HF HA6 c0 c1 c2 q2
            go_wp2
            refine bodyPost_ret (v := .tuple #[pv 0 0, .bool false]) (by simp [results, Try.results10, go_sem, r0, r1, r2, hAl2]) rfl ⟨below3 (HB0.out.trans (HZ6.out.1.mono HB0.out.size)) (by omega) _ _ _, .inl ⟨HF2.out, rfl⟩⟩
          | true =>
            obtain ⟨zz, hz1, hz2⟩ : ∃ zz, z = some zz ∧ ∀ W', Mid a bb w6 W' → IsV W' bb (.agg #[.int .i64 u0, .int .i64 u1, .slice up un uc]) zz := by
              rcases HTO.out with ⟨_, h⟩ | ⟨zz, h, _, h2⟩
              · cases h
              · exact ⟨zz, h, h2⟩
            have hzs : u0 = zz.k ∧ u1 = zz.n ∧ un = zz.l.length := by
              obtain ⟨⟨p9, c9, h9, _⟩, _, _⟩ := hz2 w6 (Mid.refl _ _ _)
              simp at h9
              exact ⟨h9.1, h9.2.1, h9.2.2.2.1⟩
            obtain ⟨rfl, rfl, rfl⟩ := hzs
            have HZZ : Bx (z = some zz ∧ (∀ W', Mid a bb w6 W' → SlV W' bb up uc zz.l) ∧ I64 zz.k ∧ I64 zz.n) := ⟨hz1, fun W' hm => by
              obtain ⟨⟨p9, c9, h9, h8⟩, _, _⟩ := hz2 W' hm
              simp at h9
              obtain ⟨rfl, rfl⟩ := h9
              exact h8, (hz2 w6 (Mid.refl _ _ _)).k64, (hz2 w6 (Mid.refl _ _ _)).n64⟩
            have HF2 : Bx (wzV x ((j : Int) :: ks) y = some (V.mk x.k x.n (x.l.set j zz))) := ⟨by rw [HF.out, hz1]; rfl⟩
            clear hz1 hz2 HTO HF r0 r1 r2 s0 s1 s2 hAl2 q2
            generalize hzk : zz.k = zk at *
            generalize hzn : zz.n = zn at *
            generalize hzl : zz.l.length = zl at *
            have HZK : Bx (zz.k = zk ∧ zz.n = zn ∧ zz.l.length = zl) := ⟨hzk, hzn, hzl⟩
            clear hzk hzn hzl
            go_wp2_with (first
              | (go_at_call 23; refine Calls.mono (HOW.out w6 HZ6.out.1) ?_; clear HOW; rintro e w7 ⟨g, gc, rfl, hr⟩; have HR : Bx _ := ⟨hr⟩; clear hr c0 c1 c2))
            have h7 := HR.out.bel
            have h7s := h7.size
            obtain ⟨cs, o1, o2⟩ := HR.out.ex
            obtain ⟨W8, hW8⟩ : ∃ W8, w7.alloc (.cells #[.int .i64 x.k, .int .i64 x.n, .slice (some ⟨g, 0, none⟩) x.l.length gc] 24) = W8 := ⟨_, rfl⟩
            have b8 : Below w7.heap.size w7 W8 := by rw [← hW8]; exact below1 _ _
            have a8 : W8.heap[w7.heap.size]? = some (.cells #[.int .i64 x.k, .int .i64 x.n, .slice (some ⟨g, 0, none⟩) x.l.length gc] 24 (0, 0)) := by rw [← hW8]; exact World.alloc_heap_new _ _
            have s8 : W8.heap.size = w7.heap.size + 1 := by rw [← hW8]; simp
            obtain ⟨z6, z6b, z6c, z6d, z6e, z6f, z6g, z6h⟩ := HZ6.out
            have k8 : ∀ {y : Nat} {ob : Obj}, w6.heap[y]? = some ob → W8.heap[y]? = some ob := fun {y ob} h => (b8.block y (by have := heap_lt h; omega)).trans ((h7.block y (heap_lt h)).trans h)
            have hx0 := a8
            obtain ⟨x0, x1, x2, _, _, _, hx8⟩ := c3 a8
            obtain ⟨t0, t1, t2, _, _, _, ht8⟩ := c3 (k8 HA6.out.1)
            have hr0 := k8 HA6.out.2.1
            obtain ⟨r0, r1, r2, s0, s1, s2, hr8⟩ := c3 hr0
            have p8 : W8.cell? ⟨b, o, none⟩ = some (.int .i64 j) := by
              rw [b8.cell (p := ⟨b, o, none⟩) (by show b < w7.heap.size; omega), h7.cell (p := ⟨b, o, none⟩) (by show b < w6.heap.size; omega)]
              exact HA6.out.2.2
            have hjl := HX.out.2
            have hg : w6.heap.size ≤ g ∧ g < w7.heap.size := owns_block o1 rfl
            obtain ⟨cg, hcg, hcgs⟩ : ∃ cg, w7.heap[g]? = some (.cells cg 24 (0, 0)) ∧ x.l.length * 3 ≤ cg.size := by
              rcases o1.2 with ⟨e, _⟩ | ⟨g', cap', cur, e, h1, h2, h3, h4, h5, h6⟩
              · cases e
              · simp only [Value.slice.injEq, Option.some.injEq, Addr.mk.injEq, and_true, true_and] at e
                obtain ⟨rfl, rfl⟩ := e
                exact ⟨cur, h2, by omega⟩
            have hcg8 : W8.heap[g]? = some (.cells cg 24 (0, 0)) := (b8.block g hg.2).trans hcg
            obtain ⟨w90, l0⟩ : ∃ v, W8.cell? ⟨g, j * 3, none⟩ = some v := ⟨cg[j * 3]'(by omega), cell_blk hcg8 (Array.getElem?_eq_getElem _)⟩
            obtain ⟨w91, l1⟩ : ∃ v, W8.cell? ⟨g, j * 3 + 1, none⟩ = some v := ⟨cg[j * 3 + 1]'(by omega), cell_blk hcg8 (Array.getElem?_eq_getElem _)⟩
            obtain ⟨w92, l2⟩ : ∃ v, W8.cell? ⟨g, j * 3 + 2, none⟩ = some v := ⟨cg[j * 3 + 2]'(by omega), cell_blk hcg8 (Array.getElem?_eq_getElem _)⟩
            have m0 : W8.frozen? ⟨g, j * 3, none⟩ = false := frz_blk hcg8
            have m1 : W8.frozen? ⟨g, j * 3 + 1, none⟩ = false := frz_blk hcg8
            have m2 : W8.frozen? ⟨g, j * 3 + 2, none⟩ = false := frz_blk hcg8
            have hg8 : g < W8.heap.size := by omega
            have hgc : x.l.length ≤ gc ∧ gc ≤ maxLen := by
              rcases o1.2 with ⟨e, _⟩ | ⟨g', cap', cur, e, h1, h2, h3, h4, h5, h6⟩
              · cases e
              · simp only [Value.slice.injEq, Option.some.injEq, Addr.mk.injEq, and_true, true_and] at e
                obtain ⟨rfl, rfl⟩ := e
                exact ⟨h3, h4⟩
            obtain ⟨hgc1, hgc2⟩ := hgc
            unfold maxLen at hgc2
            have HEND : Bx (∀ Z W9 : World, (∀ y : Nat, Z.heap[y]? = (((W8.setCell ⟨g, j * 3, none⟩ (.int .i64 zk)).setCell ⟨g, j * 3 + 1, none⟩ (.int .i64 zn)).setCell ⟨g, j * 3 + 2, none⟩ (.slice up zl uc)).heap[y]?) → Z.heap.size = W8.heap.size → Below w.heap.size w Z → W9 = (((Z.setCell ⟨w.heap.size + 1 + 1, 0, none⟩ (.int .i64 x.k)).setCell ⟨w.heap.size + 1 + 1, 1, none⟩ (.int .i64 x.n)).setCell ⟨w.heap.size + 1 + 1, 2, none⟩ (.slice (some ⟨g, 0, none⟩) x.l.length gc)) → RPp w (wzV x ((j : Int) :: ks) y) (.returned (.tuple #[.agg #[.int .i64 x.k, .int .i64 x.n, .slice (some ⟨g, 0, none⟩) x.l.length gc], .bool true])) W9) := ⟨fun Z W9 hZ hZs hZb hW9 => by
              have hk := HZK.out
              have hset : ∀ y, y ≠ g → y ≠ w.heap.size + 1 + 1 → W9.heap[y]? = W8.heap[y]? := fun y h1 h2 => by rw [hW9, set3_other _ _ _ h2, hZ, set3o _ _ _ h1]
              have hgH : g ≠ w.heap.size + 1 + 1 := by omega
              have hcell : ∀ t, W9.cell? ⟨g, t, none⟩ = (((W8.setCell ⟨g, j * 3, none⟩ (.int .i64 zk)).setCell ⟨g, j * 3 + 1, none⟩ (.int .i64 zn)).setCell ⟨g, j * 3 + 2, none⟩ (.slice up zl uc)).cell? ⟨g, t, none⟩ := fun t => World.cell?_of_block (a := ⟨g, t, none⟩) (by rw [hW9]; exact (set3_other _ _ _ hgH).trans (hZ g))
              have ne : ∀ {s t : Nat}, s ≠ t → (⟨g, s, none⟩ : Addr) ≠ ⟨g, t, none⟩ := fun h e => h (by injection e)
              have hs9 : W9.heap.size = W8.heap.size := by rw [hW9]; simp only [World.size_setCell]; exact hZs
              have hbel : Below w.heap.size w W9 := by
                rw [hW9]
                exact below3 hZb (by omega) _ _ _
              refine ⟨hbel, .inr ⟨_, _, HF2.out, rfl, fun W' hm => ⟨⟨some ⟨g, 0, none⟩, gc, by simp [V.k, V.n, V.l], ?_⟩, HX.out.1.1, HX.out.1.2⟩⟩⟩
              refine rw_end (X := w6) (S := w6.heap.size) (a0 := a) (b0 := bb) (lo := w.heap.size) (q := up) (d := uc) o1 o2 hjl HZZ.out.2.1 (Mid.blocks fun y h1 h2 => ?_) (by rw [hk.1]; exact HZZ.out.2.2.1) (by rw [hk.2.1]; exact HZZ.out.2.2.2) ?_ ?_ ?_ (fun t n0 n1 n2 => ?_) (fun y h1 h2 h3 => ?_) (by omega) (by omega) (by omega) (by omega) W' hm
              · rw [hset y (by omega) (by omega), b8.block y (by omega), h7.block y (by omega)]
              · rw [hcell, World.cell?_setCell_other _ _ _ _ (ne (by omega)), World.cell?_setCell_other _ _ _ _ (ne (by omega)), hk.1]
                exact World.cell?_setCell_same _ _ _ l0
              · rw [hcell, World.cell?_setCell_other _ _ _ _ (ne (by omega)), hk.2.1]
                exact World.cell?_setCell_same _ _ _ (by rw [World.cell?_setCell_other _ _ _ _ (ne (by omega))]; exact l1)
              · rw [hcell, hk.2.2]
                exact World.cell?_setCell_same _ _ _ (by rw [World.cell?_setCell_other _ _ _ _ (ne (by omega)), World.cell?_setCell_other _ _ _ _ (ne (by omega))]; exact l2)
              · rw [hcell, World.cell?_setCell_other _ _ _ _ (ne (by omega)), World.cell?_setCell_other _ _ _ _ (ne (by omega)), World.cell?_setCell_other _ _ _ _ (ne (by omega))]
                exact b8.cell (p := ⟨g, t, none⟩) hg.2
              · rw [hset y h3 (by omega), b8.block y h2]⟩
            have HBZ : Bx (Below w.heap.size w (((W8.setCell ⟨g, j * 3, none⟩ (.int .i64 zk)).setCell ⟨g, j * 3 + 1, none⟩ (.int .i64 zn)).setCell ⟨g, j * 3 + 2, none⟩ (.slice up zl uc))) := ⟨below3o (HB0.out.trans ((z6.trans ((h7.trans (b8.mono h7s)).mono (by omega))).mono HB0.out.size)) (by omega) _ _ _⟩
            have n1 : w7.heap.size ≠ g := by omega
            have n2 : A ≠ g := by omega
            have n3 : b ≠ g := by omega
            have n4 : w.heap.size + 1 + 1 ≠ g := by omega
            have n5 : w7.heap.size ≠ w.heap.size + 1 + 1 := by omega
            rw [hW8]
            clear hW8 b8 a8 k8 h7 o1 o2 HR hcg hcgs HA6 z6
            have n6 : (j : Int) < (x.l.length : Int) := by omega
            have HS9 : Bx (∀ y t v, y ≠ g → W8.cell? ⟨y, t, none⟩ = some v → (((W8.setCell ⟨g, j * 3, none⟩ (.int .i64 zk)).setCell ⟨g, j * 3 + 1, none⟩ (.int .i64 zn)).setCell ⟨g, j * 3 + 2, none⟩ (.slice up zl uc)).cell? ⟨y, t, none⟩ = some v) := ⟨fun y t v h1 h2 => (World.cell?_of_block (a := ⟨y, t, none⟩) (set3o _ _ _ h1)).trans h2⟩
            have HC9 : Bx _ := ⟨(⟨HS9.out _ _ _ n1 x2, HS9.out _ _ _ n3 p8, HS9.out _ _ _ n2 t0, HS9.out _ _ _ n2 t1, HS9.out _ _ _ n2 t2⟩ : _ ∧ _ ∧ _ ∧ _ ∧ _)⟩
            go_wp2_with fail
            go_region_held3 (fun Y => Y.cell? ⟨w7.heap.size, 2, none⟩ = some (.slice (some ⟨g, 0, none⟩) x.l.length gc) ∧ Y.cell? ⟨b, o, none⟩ = some (.int .i64 j) ∧ Y.cell? ⟨A, 0, none⟩ = some (.int .i64 zk) ∧ Y.cell? ⟨A, 1, none⟩ = some (.int .i64 zn) ∧ Y.cell? ⟨A, 2, none⟩ = some (.slice up zl uc))
              (first | exact ⟨x2, p8, t0, t1, t2⟩ | exact HC9.out | go_keep)
              (first | fail)
            have HR9 : Bx ((((W8.setCell ⟨g, j * 3, none⟩ (.int .i64 zk)).setCell ⟨g, j * 3 + 1, none⟩ (.int .i64 zn)).setCell ⟨g, j * 3 + 2, none⟩ (.slice up zl uc)).drew.heap[w.heap.size + 1 + 1]? = some z3) := ⟨(set3o _ _ _ n4).trans hr0⟩
            have HX9 : Bx ((((W8.setCell ⟨g, j * 3, none⟩ (.int .i64 zk)).setCell ⟨g, j * 3 + 1, none⟩ (.int .i64 zn)).setCell ⟨g, j * 3 + 2, none⟩ (.slice up zl uc)).drew.heap[w7.heap.size]? = some (.cells #[.int .i64 x.k, .int .i64 x.n, .slice (some ⟨g, 0, none⟩) x.l.length gc] 24 (0, 0))) := ⟨(set3o _ _ _ n1).trans hx0⟩
            have HE9 : Bx (∀ W9, W9 = ((((((W8.setCell ⟨g, j * 3, none⟩ (.int .i64 zk)).setCell ⟨g, j * 3 + 1, none⟩ (.int .i64 zn)).setCell ⟨g, j * 3 + 2, none⟩ (.slice up zl uc)).drew.setCell ⟨w.heap.size + 1 + 1, 0, none⟩ (.int .i64 x.k)).setCell ⟨w.heap.size + 1 + 1, 1, none⟩ (.int .i64 x.n)).setCell ⟨w.heap.size + 1 + 1, 2, none⟩ (.slice (some ⟨g, 0, none⟩) x.l.length gc)) → RPp w (wzV x ((j : Int) :: ks) y) (.returned (.tuple #[.agg #[.int .i64 x.k, .int .i64 x.n, .slice (some ⟨g, 0, none⟩) x.l.length gc], .bool true])) W9) := ⟨fun W9 h => HEND.out (((W8.setCell ⟨g, j * 3, none⟩ (.int .i64 zk)).setCell ⟨g, j * 3 + 1, none⟩ (.int .i64 zn)).setCell ⟨g, j * 3 + 2, none⟩ (.slice up zl uc)).drew W9 (fun _ => rfl) (by simp [World.size_setCell]) HBZ.out.drew h⟩
            clear HEND HBZ HC9 HS9 x0 x1 x2 t0 t1 t2 r0 r1 r2 s0 s1 s2 p8 l0 l1 l2 m0 m1 m2
            generalize (((W8.setCell ⟨g, j * 3, none⟩ (.int .i64 zk)).setCell ⟨g, j * 3 + 1, none⟩ (.int .i64 zn)).setCell ⟨g, j * 3 + 2, none⟩ (.slice up zl uc)).drew = W9 at *
            obtain ⟨x0, x1, x2, _, _, _, hx9⟩ := c3 HX9.out
            obtain ⟨r0, r1, r2, s0, s1, s2, hr9⟩ := c3 HR9.out
            have n8 : w.heap.size + 1 + 1 ≠ w7.heap.size := by omega
            clear HX9
            go_wp2
            have HE10 : Bx _ := ⟨HE9.out _ rfl⟩
            have hr10 := set3 (a := .int .i64 x.k) (b := .int .i64 x.n) (c := .slice (some ⟨g, 0, none⟩) x.l.length gc) HR9.out
            obtain ⟨t0, t1, t2, _, _, _, ht⟩ := c3 hr10
            exact bodyPost_ret (v := .tuple #[.agg #[.int .i64 x.k, .int .i64 x.n, .slice (some ⟨g, 0, none⟩) x.l.length gc], .bool true]) (by simp [results, Try.results10, go_sem, t0, t1, t2, ht]) rfl HE10.out
end Go.Proofs.Ytikijkpklneihaa
