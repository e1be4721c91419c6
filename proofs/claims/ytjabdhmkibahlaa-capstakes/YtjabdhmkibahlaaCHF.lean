import Derived.Test.YtjabdhmkibahlaaCHA
import Derived.Test.YtjabdhmkibahlaaCFL
namespace Go.Proofs.Ytjabdhmkibahlaa
open Go.RowKit
set_option linter.unusedVariables false
set_option linter.unusedSimpArgs false

set_option maxRecDepth 100000 in
set_option maxHeartbeats 4000000 in
theorem sameAgents_yes (W : World) (p1 p2 : Option Addr) (c1 c2 : Nat) (s : List Ag) (h1 : AgsR W p1 c1 s) (h2 : AgsR W p2 c2 s) :
    Calls Try.prog 20 #[.slice p1 s.length c1, .slice p2 s.length c2] W fun e w' => e = .returned (.bool true) ∧ Below W.heap.size W w' := by
  have a1 := h1.len
  have a2 := h1.max
  have a3 := h2.len
  have a4 := h2.max
  unfold maxLen at a2 a4
  have H1 : Bx _ := ⟨h1⟩
  have H2 : Bx _ := ⟨h2⟩
  clear h1 h2
  go_enter Try.func20, Try.ntmps20
  go_wp2
  go_loopg [5] (s.length + 1) (fun g v5 wr => ∃ i : Nat, g = s.length + 1 - i ∧ i ≤ s.length ∧ v5 = .int .i64 i ∧ Bx (Below W.heap.size W wr))
  case atStart => exact ⟨0, by simp, by omega, rfl, ⟨Below.refl _ _⟩⟩
  case round =>
    obtain ⟨i, hg, hil, rfl, HR⟩ := hrel
    by_cases hlt : i < s.length
    · obtain ⟨b, o, ap, ac, hp, hc, rfl, hA, hcl⟩ := H1.out.at_ i hlt
      obtain ⟨b', o', bp, bc, kp, kc, rfl, hB, hcl'⟩ := H2.out.at_ i hlt
      have KH : Bx (∀ Y, Below W.heap.size W Y → Calls Try.prog 46 #[.slice ap s[i].arms.length ac, .slice bp s[i].arms.length bc] Y fun e w' => e = .returned (.bool true) ∧ ∃ k, w' = Y.drewN k) := ⟨fun Y hY => sameHands_yes Y ap bp ac bc s[i].arms (hA.later hY).arms (hB.later hY).arms⟩
      have KI : Bx (∀ Y, Below W.heap.size W Y → Calls Try.prog 47 #[.slice hp s[i].held.length hc, .slice kp s[i].held.length kc] Y fun e w' => e = .returned (.bool true) ∧ ∃ k, w' = Y.drewN k) := ⟨fun Y hY => sameInts_yes Y hp kp hc kc s[i].held (hA.later hY).held (hB.later hY).held⟩
      have K1 : Bx _ := ⟨hcl⟩
      have K2 : Bx _ := ⟨hcl'⟩
      have hiI : (i : Int) < (s.length : Int) := by omega
      have hi0 : (0 : Int) ≤ (i : Int) := by omega
      clear hcl hcl' hA hB H1 H2
      generalize s[i] = a at *
      go_wp2
      refine region_flowL [?hf1x0, ?hf1x1, ?hf1x2, ?hf1x3, ?hf1x4, ?hf1x5, ?hf1x6, ?hf1x7, ?hf1x8, ?hf1x9, .bool false, ?hf1x11, ?hf1x12, ?hf1x13, ?hf1x14, ?hf1x15, ?hf1x16, ?hf1x17, ?hf1x18, ?hf1x19, ?hf1x20, ?hf1x21, .bool false, ?hf1x23, ?hf1x24, ?hf1x25, ?hf1x26, ?hf1x27, ?hf1x28, ?hf1x29, ?hf1x30, ?hf1x31, ?hf1x32, ?hf1x33, ?hf1x34, .bool true, ?hf1x36, ?hf1x37, ?hf1x38, ?hf1x39, ?hf1x40, ?hf1x41, ?hf1x42, ?hf1x43, ?hf1x44, ?hf1x45, ?hf1x46, ?hf1x47, ?hf1x48, .bool true, ?hf1x50, ?hf1x51] (fun Y => Below W.heap.size W Y) (by kernel_rfl) (by decide +kernel) (HR.out.drew) (flowF 17 52 (by decide +kernel) (by rfl) (by exact Nat.le_of_ble_eq_true rfl) (by exact Nat.le_of_ble_eq_true rfl) (by simp only [List.drop_succ_cons, List.drop_zero, List.drop_nil, List.take_succ_cons, List.take_zero, List.cons_append, List.nil_append, flowEnd, Act.put, List.setIfInBounds_toArray, List.set_cons_zero, List.set_cons_succ]; rfl)) ?hf1st ?hf1en
      case hf1st =>
        refine flow_cons (flow_pure (by rfl) (fun Y hY => ?_)) ?_
        · go_simp; try rfl
        refine flow_cons (flow_pure (by rfl) (fun Y hY => ?_)) ?_
        · go_simp; try rfl
        refine flow_cons (flow_pure (by rfl) (fun Y hY => ?_)) ?_
        · go_simp; try rfl
        refine flow_cons (flow_pure (by rfl) (fun Y hY => ?_)) ?_
        · go_simp; try rfl
        refine flow_cons (flow_pure (by rfl) (fun Y hY => ?_)) ?_
        · obtain ⟨a0, a1, a2, a3⟩ := K1.out Y hY; go_simp; try rfl
        refine flow_cons (flow_pure (by rfl) (fun Y hY => ?_)) ?_
        · go_simp; try rfl
        refine flow_cons (flow_pure (by rfl) (fun Y hY => ?_)) ?_
        · go_simp; try rfl
        refine flow_cons (flow_pure (by rfl) (fun Y hY => ?_)) ?_
        · go_simp; try rfl
        refine flow_cons (flow_pure (by rfl) (fun Y hY => ?_)) ?_
        · go_simp; try rfl
        refine flow_cons (flow_pure (by rfl) (fun Y hY => ?_)) ?_
        · obtain ⟨b0, b1, b2, b3⟩ := K2.out Y hY; go_simp; try rfl
        refine flow_cons (flow_pure (by rfl) (fun Y hY => ?_)) ?_
        · go_simp; try rfl
        refine flow_cons (flow_pure (by rfl) (fun Y hY => ?_)) ?_
        · go_simp; try rfl
        refine flow_cons (flow_pure (by rfl) (fun Y hY => ?_)) ?_
        · go_simp; try rfl
        refine flow_cons (flow_pure (by rfl) (fun Y hY => ?_)) ?_
        · go_simp; try rfl
        refine flow_cons (flow_pure (by rfl) (fun Y hY => ?_)) ?_
        · go_simp; try rfl
        refine flow_cons (flow_pure (by rfl) (fun Y hY => ?_)) ?_
        · go_simp; try rfl
        refine flow_cons (flow_pure (by rfl) (fun Y hY => ?_)) ?_
        · obtain ⟨a0, a1, a2, a3⟩ := K1.out Y hY; go_simp; try rfl
        refine flow_cons (flow_pure (by rfl) (fun Y hY => ?_)) ?_
        · go_simp; try rfl
        refine flow_cons (flow_pure (by rfl) (fun Y hY => ?_)) ?_
        · go_simp; try rfl
        refine flow_cons (flow_pure (by rfl) (fun Y hY => ?_)) ?_
        · go_simp; try rfl
        refine flow_cons (flow_pure (by rfl) (fun Y hY => ?_)) ?_
        · go_simp; try rfl
        refine flow_cons (flow_pure (by rfl) (fun Y hY => ?_)) ?_
        · obtain ⟨b0, b1, b2, b3⟩ := K2.out Y hY; go_simp; try rfl
        refine flow_cons (flow_pure (by rfl) (fun Y hY => ?_)) ?_
        · go_simp; try rfl
        refine flow_cons (flow_pure (by rfl) (fun Y hY => ?_)) ?_
        · go_simp; try rfl
        refine flow_cons (flow_pure (by rfl) (fun Y hY => ?_)) ?_
        · go_simp; try rfl
        refine flow_cons (flow_pure (by rfl) (fun Y hY => ?_)) ?_
        · go_simp; try rfl
        refine flow_cons (flow_pure (by rfl) (fun Y hY => ?_)) ?_
        · go_simp; try rfl
        refine flow_cons (flow_pure (by rfl) (fun Y hY => ?_)) ?_
        · go_simp; try rfl
        refine flow_cons (flow_pure (by rfl) (fun Y hY => ?_)) ?_
        · go_simp; try rfl
        refine flow_cons (flow_pure (by rfl) (fun Y hY => ?_)) ?_
        · obtain ⟨a0, a1, a2, a3⟩ := K1.out Y hY; go_simp; try rfl
        refine flow_cons (flow_pure (by rfl) (fun Y hY => ?_)) ?_
        · go_simp; try rfl
        refine flow_cons (flow_pure (by rfl) (fun Y hY => ?_)) ?_
        · go_simp; try rfl
        refine flow_cons (flow_pure (by rfl) (fun Y hY => ?_)) ?_
        · go_simp; try rfl
        refine flow_cons (flow_pure (by rfl) (fun Y hY => ?_)) ?_
        · go_simp; try rfl
        refine flow_cons (flow_pure (by rfl) (fun Y hY => ?_)) ?_
        · obtain ⟨b0, b1, b2, b3⟩ := K2.out Y hY; go_simp; try rfl
        refine flow_cons (flow_call 46 #[.slice ap a.arms.length ac, .slice bp a.arms.length bc] (by rfl) (fun Y hY => ?_) (fun Y hY => ?_)) ?_
        · simp only [execOp]; go_simp
        · refine Calls.mono (KH.out Y hY) ?_; rintro e z ⟨rfl, k, rfl⟩; exact ⟨rfl, below_drewN hY k⟩
        refine flow_cons (flow_pure (by rfl) (fun Y hY => ?_)) ?_
        · go_simp; try rfl
        refine flow_cons (flow_pure (by rfl) (fun Y hY => ?_)) ?_
        · go_simp; try rfl
        refine flow_cons (flow_pure (by rfl) (fun Y hY => ?_)) ?_
        · go_simp; try rfl
        refine flow_cons (flow_pure (by rfl) (fun Y hY => ?_)) ?_
        · go_simp; try rfl
        refine flow_cons (flow_pure (by rfl) (fun Y hY => ?_)) ?_
        · go_simp; try rfl
        refine flow_cons (flow_pure (by rfl) (fun Y hY => ?_)) ?_
        · go_simp; try rfl
        refine flow_cons (flow_pure (by rfl) (fun Y hY => ?_)) ?_
        · go_simp; try rfl
        refine flow_cons (flow_pure (by rfl) (fun Y hY => ?_)) ?_
        · obtain ⟨a0, a1, a2, a3⟩ := K1.out Y hY; go_simp; try rfl
        refine flow_cons (flow_pure (by rfl) (fun Y hY => ?_)) ?_
        · go_simp; try rfl
        refine flow_cons (flow_pure (by rfl) (fun Y hY => ?_)) ?_
        · go_simp; try rfl
        refine flow_cons (flow_pure (by rfl) (fun Y hY => ?_)) ?_
        · go_simp; try rfl
        refine flow_cons (flow_pure (by rfl) (fun Y hY => ?_)) ?_
        · go_simp; try rfl
        refine flow_cons (flow_pure (by rfl) (fun Y hY => ?_)) ?_
        · obtain ⟨b0, b1, b2, b3⟩ := K2.out Y hY; go_simp; try rfl
        refine flow_cons (flow_call 47 #[.slice hp a.held.length hc, .slice kp a.held.length kc] (by rfl) (fun Y hY => ?_) (fun Y hY => ?_)) ?_
        · simp only [execOp]; go_simp
        · refine Calls.mono (KI.out Y hY) ?_; rintro e z ⟨rfl, k, rfl⟩; exact ⟨rfl, below_drewN hY k⟩
        refine flow_cons (flow_pure (by rfl) (fun Y hY => ?_)) ?_
        · go_simp; try rfl
        refine flow_cons (flow_pure (by rfl) (fun Y hY => ?_)) ?_
        · go_simp; try rfl
        exact flow_nil
      intro w5 hz5
      have B5 : Bx _ := ⟨hz5⟩
      clear hz5
      go_wp2
      go_roundg (s.length + 1 - (i + 1))
      case measure => omega
      case rel => exact ⟨i + 1, rfl, by omega, by simp, B5⟩
    · have hie : i = s.length := by omega
      subst hie
      go_wp2
      go_ret
      exact ⟨rfl, HR.out⟩
set_option maxRecDepth 100000 in
set_option maxHeartbeats 4000000 in
theorem still_any (W0 W : World) (B : Nat) (s : List Ag) (va vm vh : Value) (gs : List Gh) (h0 : Lent W0 B s va vm vh gs) (hb0 : Below W0.heap.size W0 W) (p : Option Addr) (cap : Nat) (hp : AgsR W p cap s) (hs : s.length ≤ 2147483647) (hll : ∀ i (h : i < s.length), s[i].arms.length ≤ 2147483647 ∧ s[i].held.length ≤ 2147483647) :
    Calls Try.prog 16 #[.agg #[va, vm, vh], .slice p s.length cap] W fun e w' => e = .returned (.bool true) ∧ Below W.heap.size W w' := by
  obtain ⟨X, hX⟩ : ∃ X, W.heap.size = X := ⟨_, rfl⟩
  have h6 := hp.a64
  have hpl := hp.len
  have hpm := hp.max
  unfold maxLen at hpm
  have h : Lent W B s va vm vh gs := h0.on fun y _ hy => hb0.block y hy
  obtain ⟨W1, hW1⟩ : ∃ W1, W.alloc (lnX va vm vh) = W1 := ⟨_, rfl⟩
  have hb1 : Below X W W1 := by rw [← hW1, ← hX]; exact below1 _ _
  have hs1 : W1.heap.size = X + 1 := by rw [← hW1, ← hX]; simp
  have hx1 : W1.heap[X]? = some (lnX va vm vh) := by rw [← hW1]; exact heap_newH _ _ _ hX
  have hL1 : Lent W1 B s va vm vh gs := h.on fun y _ hy => hb1.block y (by omega)
  have hp1 : AgsR W1 p cap s := hp.later (by rw [hX]; exact hb1)
  obtain ⟨ga, ca, hva, hca, hcm, _, hgl, hra, h9⟩ := hL1.read h6
  rw [hs1] at hgl h9
  unfold maxLen at hcm
  obtain ⟨am, cm, hvm⟩ := owns_slice hL1.arms
  obtain ⟨ah, chh, hvh⟩ := owns_slice hL1.held
  have hgn := hL1.len
  subst hva
  subst hvm
  subst hvh
  have hcc : s.length ≤ cm ∧ s.length ≤ chh := by
    constructor
    · rcases hL1.arms.2 with ⟨q, q2⟩ | ⟨g, cap, cur, q, _, _, q3, q4, _⟩
      · omega
      · simp only [Value.slice.injEq] at q; omega
    · rcases hL1.held.2 with ⟨q, q2⟩ | ⟨g, cap, cur, q, _, _, q3, q4, _⟩
      · omega
      · simp only [Value.slice.injEq] at q; omega
  obtain ⟨hcm1, hcm2⟩ := hcc
  have HX : Bx (∀ Y, Below (X + 1) W1 Y → Y.cell? ⟨X, 0, none⟩ = some (.slice (some ⟨ga, 0, none⟩) (s.length + 1) ca) ∧ Y.cell? ⟨X, 1, none⟩ = some (.slice am s.length cm) ∧ Y.cell? ⟨X, 2, none⟩ = some (.slice ah s.length chh) ∧ Y.cell? ⟨ga, s.length * 4, none⟩ = some (.int .i64 (-9))) := ⟨fun Y hY => by
    have := hY.block X (by omega)
    rw [hx1] at this
    exact ⟨cell_blk this rfl, cell_blk this rfl, cell_blk this rfl, h9 Y hY⟩⟩
  have HSE : Bx (∀ Y, Below (X + 1) W1 Y → Calls Try.prog 20 #[.slice (some ⟨ga, 0, none⟩) s.length ca, .slice p s.length cap] Y fun e w' => e = .returned (.bool true) ∧ Bx (Below (X + 1) W1 w')) := ⟨fun Y hY => by
    have hz := hY.size
    rw [hs1] at hz
    have hY' : Below W1.heap.size W1 Y := by rw [hs1]; exact hY
    exact (sameAgents_yes Y _ _ _ _ s (hra.later hY') (hp1.later hY')).mono fun e w' hh => ⟨hh.1, ⟨hY.trans (hh.2.mono hz)⟩⟩⟩
  have HI : Bx (∀ i (hi : i < s.length), ∃ gm gh g1 cc1 g2 cc2 b o la lac lh lhc n1 n2, am = some ⟨gm, 0, none⟩ ∧ ah = some ⟨gh, 0, none⟩ ∧ p = some ⟨b, o, none⟩ ∧ n1 ≤ 2147483647 ∧ n2 ≤ 2147483647 ∧ n1 + 1 ≤ cc1 ∧ n2 + 1 ≤ cc2 ∧
      Bx (∀ Y, Below (X + 1) W1 Y → Y.cell? ⟨X, 1, none⟩ = some (.slice (some ⟨gm, 0, none⟩) s.length cm) ∧ Y.cell? ⟨X, 2, none⟩ = some (.slice (some ⟨gh, 0, none⟩) s.length chh) ∧ Y.cell? ⟨gm, i, none⟩ = some (.slice (some ⟨g1, 0, none⟩) (n1 + 1) cc1) ∧ Y.cell? ⟨gh, i, none⟩ = some (.slice (some ⟨g2, 0, none⟩) (n2 + 1) cc2) ∧ Y.cell? ⟨b, o + i * 4 + 2, none⟩ = some (.slice la n1 lac) ∧ Y.cell? ⟨b, o + i * 4 + 3, none⟩ = some (.slice lh n2 lhc) ∧ Y.cell? ⟨g1, n1 * 2, none⟩ = some (.int .i64 (-77)) ∧ Y.cell? ⟨g2, n2, none⟩ = some (.int .i64 (-78))) ∧
      Bx (∀ Y, Below (X + 1) W1 Y → Calls Try.prog 46 #[.slice (some ⟨g1, 0, none⟩) n1 cc1, .slice la n1 lac] Y fun e w' => e = .returned (.bool true) ∧ ∃ k, w' = Y.drewN k) ∧
      Bx (∀ Y, Below (X + 1) W1 Y → Calls Try.prog 47 #[.slice (some ⟨g2, 0, none⟩) n2 cc2, .slice lh n2 lhc] Y fun e w' => e = .returned (.bool true) ∧ ∃ k, w' = Y.drewN k)) := ⟨fun i hi => by
    have hgi : i < gs.length := by omega
    obtain ⟨gm, e1, hl1, q1⟩ := row_at hL1.arms hi (amC_at hi hgi)
    obtain ⟨gh, e2, hl2, q2⟩ := row_at hL1.held hi (hlC_at hi hgi)
    rw [hs1] at hl1 hl2
    have htw := hL1.two i hi hgi
    obtain ⟨r1, r2⟩ := htw.read (h6 _ (List.getElem_mem hi)).arms (h6 _ (List.getElem_mem hi)).held
    obtain ⟨⟨_, t1⟩, _, t2⟩ := htw.lt
    rw [hs1] at t1 t2
    obtain ⟨b, o, la, lac, lh, lhc, e3, hA, hcl⟩ := hp1.at_ i hi
    rw [hs1] at hcl
    have m1 : W1.cell? ⟨gs[i].1.1, s[i].arms.length * 2, none⟩ = some (.int .i64 (-77)) := owns_cellj htw.arms (by rw [List.getElem?_append_right (by rw [hdsC_len]; omega), hdsC_len, Nat.sub_self]; rfl)
    have m2 : W1.cell? ⟨gs[i].2.1, s[i].held.length, none⟩ = some (.int .i64 (-78)) := owns_cellj htw.held (by rw [List.getElem?_append_right (by rw [rowC_ln]; omega), rowC_ln, Nat.sub_self]; rfl)
    have z1 : s[i].arms.length + 1 ≤ gs[i].1.2 := by
      rcases htw.arms.2 with ⟨e, _⟩ | ⟨g, c, cur, e, _, _, q, _⟩
      · cases e
      · simp only [Value.slice.injEq] at e; omega
    have z2 : s[i].held.length + 1 ≤ gs[i].2.2 := by
      rcases htw.held.2 with ⟨e, _⟩ | ⟨g, c, cur, e, _, _, q, _⟩
      · cases e
      · simp only [Value.slice.injEq] at e; omega
    obtain ⟨l1, l2⟩ := hll i hi
    refine ⟨gm, gh, gs[i].1.1, gs[i].1.2, gs[i].2.1, gs[i].2.2, b, o, la, lac, lh, lhc, s[i].arms.length, s[i].held.length, e1, e2, e3, l1, l2, z1, z2, ⟨fun Y hY => ?_⟩, ⟨fun Y hY => ?_⟩, ⟨fun Y hY => ?_⟩⟩
    · obtain ⟨_, x1, x2, _⟩ := HX.out Y hY
      obtain ⟨_, _, k2, k3⟩ := hcl Y hY
      rw [e1] at x1
      rw [e2] at x2
      exact ⟨x1, x2, by rw [hY.cell (p := ⟨gm, i, none⟩) hl1]; exact q1, by rw [hY.cell (p := ⟨gh, i, none⟩) hl2]; exact q2, k2, k3, by rw [hY.cell (p := ⟨gs[i].1.1, s[i].arms.length * 2, none⟩) t1]; exact m1, by rw [hY.cell (p := ⟨gs[i].2.1, s[i].held.length, none⟩) t2]; exact m2⟩
    · have hY' : Below W1.heap.size W1 Y := by rw [hs1]; exact hY
      exact sameHands_yes Y _ _ _ _ s[i].arms (r1.later hY') (hA.arms.later hY')
    · have hY' : Below W1.heap.size W1 Y := by rw [hs1]; exact hY
      exact sameInts_yes Y _ _ _ _ s[i].held (r2.later hY') (hA.held.later hY')⟩
  have HE : Bx (∀ Y, Below (X + 1) W1 Y → Below X W Y) := ⟨fun Y hY => hb1.trans (hY.mono (by omega))⟩
  have HR : Bx (Below (X + 1) W1 W1) := ⟨Below.refl _ _⟩
  have HW : Bx _ := ⟨hW1⟩
  rw [hX]
  clear h hp hll hb1 hx1 hL1 hp1 hgl hra h9 h0 hb0 h6 hgn hW1
  generalize s.length = n at *
  go_enter Try.func16, Try.ntmps16
  obtain ⟨x0, x1, x2, x9⟩ := HX.out _ HR.out
  have hW2 := HW.out
  have hn1 : (n : Int) ≤ (ca : Int) := by omega
  have hn2 : (n : Int) < (n : Int) + 1 := by omega
  go_wp2_with (first
    | (go_at_call 20; refine (HSE.out _ HR.out).mono ?_; rintro e w1 ⟨rfl, HK⟩; clear x0 x1 x2 x9; obtain ⟨x0, x1, x2, x9⟩ := HX.out _ HK.out))
  clear x0 x1 x2 x9 hW2
  go_loopg [6] (n + 1) (fun g v6 wr => ∃ i : Nat, g = n + 1 - i ∧ i ≤ n ∧ v6 = .int .i64 i ∧ Bx (Below (X + 1) W1 wr))
  case atStart => exact ⟨0, by simp, by omega, rfl, HK⟩
  case round =>
    obtain ⟨i, hg, hi, rfl, HJ⟩ := hrel
    clear HK HSE HX
    by_cases hlt : i < n
    · obtain ⟨gm, gh, g1, cc1, g2, cc2, b, o, la, lac, lh, lhc, n1, n2, rfl, rfl, rfl, l1, l2, z1, z2, HF, HCa, HCh⟩ := HI.out i hlt
      obtain ⟨y1, y2, ya, yh, y3, y4, y7, y8⟩ := HF.out _ HJ.out
      have g1' : (0 : Int) ≤ ↑i := by omega
      have g2' : (↑i : Int) < ↑n := by omega
      have g3' : (n1 : Int) < (n1 : Int) + 1 := by omega
      have g4' : (0 : Int) ≤ ↑n1 := by omega
      have g5' : (↑n1 : Int) ≤ ↑cc1 := by omega
      have g6' : (n2 : Int) < (n2 : Int) + 1 := by omega
      have g7' : (0 : Int) ≤ ↑n2 := by omega
      have g8' : (↑n2 : Int) ≤ ↑cc2 := by omega
      clear HI
      go_wp2
      clear y1 y2 ya yh y3 y4 y7 y8
      refine region_flowL [?hg2x0, ?hg2x1, ?hg2x2, ?hg2x3, ?hg2x4, ?hg2x5, ?hg2x6, ?hg2x7, ?hg2x8, ?hg2x9, ?hg2x10, ?hg2x11, .bool true, ?hg2x13, ?hg2x14, ?hg2x15, ?hg2x16, ?hg2x17, ?hg2x18, ?hg2x19, ?hg2x20, ?hg2x21, ?hg2x22, ?hg2x23, .bool false, ?hg2x25, ?hg2x26, ?hg2x27, ?hg2x28, ?hg2x29, ?hg2x30, ?hg2x31, ?hg2x32, ?hg2x33, ?hg2x34, ?hg2x35, ?hg2x36, ?hg2x37, ?hg2x38, .bool true, ?hg2x40, ?hg2x41, ?hg2x42, ?hg2x43, ?hg2x44, ?hg2x45, ?hg2x46, ?hg2x47, ?hg2x48, ?hg2x49, ?hg2x50, .bool false, ?hg2x52] (fun Y => Below (X + 1) W1 Y) (by kernel_rfl) (by decide +kernel) (HJ.out.drew) (flowF 44 53 (by decide +kernel) (by rfl) (by exact Nat.le_of_ble_eq_true rfl) (by exact Nat.le_of_ble_eq_true rfl) (by simp only [List.drop_succ_cons, List.drop_zero, List.drop_nil, List.take_succ_cons, List.take_zero, List.cons_append, List.nil_append, flowEnd, Act.put, List.setIfInBounds_toArray, List.set_cons_zero, List.set_cons_succ]; rfl)) ?hg2st ?hg2en
      case hg2st =>
        refine flow_cons (flow_pure (by rfl) (fun Y hY => ?_)) ?_
        · go_simp; try rfl
        refine flow_cons (flow_pure (by rfl) (fun Y hY => ?_)) ?_
        · obtain ⟨y1, y2, ya, yh, y3, y4, y7, y8⟩ := HF.out Y hY; go_simp; try rfl
        refine flow_cons (flow_pure (by rfl) (fun Y hY => ?_)) ?_
        · go_simp; try rfl
        refine flow_cons (flow_pure (by rfl) (fun Y hY => ?_)) ?_
        · go_simp; try rfl
        refine flow_cons (flow_pure (by rfl) (fun Y hY => ?_)) ?_
        · obtain ⟨y1, y2, ya, yh, y3, y4, y7, y8⟩ := HF.out Y hY; go_simp; try rfl
        refine flow_cons (flow_pure (by rfl) (fun Y hY => ?_)) ?_
        · go_simp; try rfl
        refine flow_cons (flow_pure (by rfl) (fun Y hY => ?_)) ?_
        · go_simp; try rfl
        refine flow_cons (flow_pure (by rfl) (fun Y hY => ?_)) ?_
        · go_simp; try rfl
        refine flow_cons (flow_pure (by rfl) (fun Y hY => ?_)) ?_
        · go_simp; try rfl
        refine flow_cons (flow_pure (by rfl) (fun Y hY => ?_)) ?_
        · go_simp; try rfl
        refine flow_cons (flow_pure (by rfl) (fun Y hY => ?_)) ?_
        · go_simp; try rfl
        refine flow_cons (flow_pure (by rfl) (fun Y hY => ?_)) ?_
        · obtain ⟨y1, y2, ya, yh, y3, y4, y7, y8⟩ := HF.out Y hY; go_simp; try rfl
        refine flow_cons (flow_call 46 #[.slice (some ⟨g1, 0, none⟩) n1 cc1, .slice la n1 lac] (by rfl) (fun Y hY => ?_) (fun Y hY => ?_)) ?_
        · simp only [execOp]; go_simp
        · refine Calls.mono (HCa.out Y hY) ?_; rintro e z ⟨rfl, k, rfl⟩; exact ⟨rfl, below_drewN hY k⟩
        refine flow_cons (flow_pure (by rfl) (fun Y hY => ?_)) ?_
        · go_simp; try rfl
        refine flow_cons (flow_pure (by rfl) (fun Y hY => ?_)) ?_
        · go_simp; try rfl
        refine flow_cons (flow_pure (by rfl) (fun Y hY => ?_)) ?_
        · go_simp; try rfl
        refine flow_cons (flow_pure (by rfl) (fun Y hY => ?_)) ?_
        · obtain ⟨y1, y2, ya, yh, y3, y4, y7, y8⟩ := HF.out Y hY; go_simp; try rfl
        refine flow_cons (flow_pure (by rfl) (fun Y hY => ?_)) ?_
        · go_simp; try rfl
        refine flow_cons (flow_pure (by rfl) (fun Y hY => ?_)) ?_
        · go_simp; try rfl
        refine flow_cons (flow_pure (by rfl) (fun Y hY => ?_)) ?_
        · obtain ⟨y1, y2, ya, yh, y3, y4, y7, y8⟩ := HF.out Y hY; go_simp; try rfl
        refine flow_cons (flow_pure (by rfl) (fun Y hY => ?_)) ?_
        · go_simp; try rfl
        refine flow_cons (flow_pure (by rfl) (fun Y hY => ?_)) ?_
        · go_simp; try rfl
        refine flow_cons (flow_pure (by rfl) (fun Y hY => ?_)) ?_
        · go_simp; try rfl
        refine flow_cons (flow_pure (by rfl) (fun Y hY => ?_)) ?_
        · obtain ⟨y1, y2, ya, yh, y3, y4, y7, y8⟩ := HF.out Y hY; go_simp; try rfl
        refine flow_cons (flow_pure (by rfl) (fun Y hY => ?_)) ?_
        · go_simp; try rfl
        refine flow_cons (flow_pure (by rfl) (fun Y hY => ?_)) ?_
        · go_simp; try rfl
        refine flow_cons (flow_pure (by rfl) (fun Y hY => ?_)) ?_
        · go_simp; try rfl
        refine flow_cons (flow_pure (by rfl) (fun Y hY => ?_)) ?_
        · go_simp; try rfl
        refine flow_cons (flow_pure (by rfl) (fun Y hY => ?_)) ?_
        · obtain ⟨y1, y2, ya, yh, y3, y4, y7, y8⟩ := HF.out Y hY; go_simp; try rfl
        refine flow_cons (flow_pure (by rfl) (fun Y hY => ?_)) ?_
        · go_simp; try rfl
        refine flow_cons (flow_pure (by rfl) (fun Y hY => ?_)) ?_
        · go_simp; try rfl
        refine flow_cons (flow_pure (by rfl) (fun Y hY => ?_)) ?_
        · obtain ⟨y1, y2, ya, yh, y3, y4, y7, y8⟩ := HF.out Y hY; go_simp; try rfl
        refine flow_cons (flow_pure (by rfl) (fun Y hY => ?_)) ?_
        · go_simp; try rfl
        refine flow_cons (flow_pure (by rfl) (fun Y hY => ?_)) ?_
        · go_simp; try rfl
        refine flow_cons (flow_pure (by rfl) (fun Y hY => ?_)) ?_
        · go_simp; try rfl
        refine flow_cons (flow_pure (by rfl) (fun Y hY => ?_)) ?_
        · go_simp; try rfl
        refine flow_cons (flow_pure (by rfl) (fun Y hY => ?_)) ?_
        · go_simp; try rfl
        refine flow_cons (flow_pure (by rfl) (fun Y hY => ?_)) ?_
        · go_simp; try rfl
        refine flow_cons (flow_pure (by rfl) (fun Y hY => ?_)) ?_
        · obtain ⟨y1, y2, ya, yh, y3, y4, y7, y8⟩ := HF.out Y hY; go_simp; try rfl
        refine flow_cons (flow_call 47 #[.slice (some ⟨g2, 0, none⟩) n2 cc2, .slice lh n2 lhc] (by rfl) (fun Y hY => ?_) (fun Y hY => ?_)) ?_
        · simp only [execOp]; go_simp
        · refine Calls.mono (HCh.out Y hY) ?_; rintro e z ⟨rfl, k, rfl⟩; exact ⟨rfl, below_drewN hY k⟩
        refine flow_cons (flow_pure (by rfl) (fun Y hY => ?_)) ?_
        · go_simp; try rfl
        refine flow_cons (flow_pure (by rfl) (fun Y hY => ?_)) ?_
        · go_simp; try rfl
        refine flow_cons (flow_pure (by rfl) (fun Y hY => ?_)) ?_
        · go_simp; try rfl
        refine flow_cons (flow_pure (by rfl) (fun Y hY => ?_)) ?_
        · go_simp; try rfl
        refine flow_cons (flow_pure (by rfl) (fun Y hY => ?_)) ?_
        · obtain ⟨y1, y2, ya, yh, y3, y4, y7, y8⟩ := HF.out Y hY; go_simp; try rfl
        refine flow_cons (flow_pure (by rfl) (fun Y hY => ?_)) ?_
        · go_simp; try rfl
        refine flow_cons (flow_pure (by rfl) (fun Y hY => ?_)) ?_
        · go_simp; try rfl
        refine flow_cons (flow_pure (by rfl) (fun Y hY => ?_)) ?_
        · obtain ⟨y1, y2, ya, yh, y3, y4, y7, y8⟩ := HF.out Y hY; go_simp; try rfl
        refine flow_cons (flow_pure (by rfl) (fun Y hY => ?_)) ?_
        · go_simp; try rfl
        refine flow_cons (flow_pure (by rfl) (fun Y hY => ?_)) ?_
        · go_simp; try rfl
        refine flow_cons (flow_pure (by rfl) (fun Y hY => ?_)) ?_
        · obtain ⟨y1, y2, ya, yh, y3, y4, y7, y8⟩ := HF.out Y hY; go_simp; try rfl
        refine flow_cons (flow_pure (by rfl) (fun Y hY => ?_)) ?_
        · go_simp; try rfl
        refine flow_cons (flow_pure (by rfl) (fun Y hY => ?_)) ?_
        · go_simp; try rfl
        exact flow_nil
      intro w5 hz5
      have B5 : Bx _ := ⟨hz5⟩
      clear hz5
      go_wp2
      go_roundg (n + 1 - (i + 1))
      case measure => omega
      case rel => exact ⟨i + 1, rfl, by omega, by simp, B5⟩
    · go_wp2
      go_ret
      exact ⟨rfl, HE.out _ HJ.out⟩
end Go.Proofs.Ytjabdhmkibahlaa
