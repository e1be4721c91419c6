import Derived.Test.YtecpknpcjoiliaaDoorCJLf
import Derived.Test.YtecpknpcjoiliaaDoorCJSa
namespace Go.Proofs.YtecpknpcjoiliaaDoor
open Go.RowKit Go.Shelf
set_option linter.unusedVariables false
set_option linter.unusedSimpArgs false

theorem nro_two {W : World} {B g n c : Nat} {ks : List Int} (h : NRo W B (.slice (some ⟨g, 0, none⟩) n c) (ks ++ [-77])) : IntsV W W.heap.size (some ⟨g, 0, none⟩) c ks ∧ W.cell? ⟨g, ks.length, none⟩ = some (.int .i64 (-77)) ∧ g < W.heap.size ∧ ks.length + 1 ≤ c := by
  obtain ⟨g', cap, e, hB, hlt, hc⟩ := h.at_ (by simp)
  simp only [Value.slice.injEq, Option.some.injEq, Addr.mk.injEq] at e
  obtain ⟨⟨rfl, _⟩, _, rfl⟩ := e
  have hcap : ks.length + 1 ≤ c ∧ c ≤ maxLen := by
    have h' : W.ownsRow B 3 1 (.slice (some ⟨g, 0, none⟩) n c) (ks ++ [-77]).length ((ks ++ [-77]).map (Value.int .i64)) := h
    rcases h'.2 with ⟨e1, _⟩ | ⟨g', cap', cur, e1, _, _, q1, q2, _⟩
    · cases e1
    · simp only [Value.slice.injEq] at e1
      obtain ⟨_, _, rfl⟩ := e1
      exact ⟨by simpa using q1, q2⟩
  refine ⟨⟨by omega, by omega, fun h0 => ⟨g, 0, rfl, hlt, fun i hi => ?_⟩⟩, ?_, hlt, hcap.1⟩
  · have := hc i (by simp; omega)
    rw [List.getElem_append_left hi] at this
    rw [Nat.zero_add]
    exact this
  · have := hc ks.length (by simp)
    rw [List.getElem_append_right (Nat.le_refl _)] at this
    simpa using this
theorem evs_pre {w : World} {B : Nat} {a : Option Addr} {l r : List Ev} (h : EvsV w B a (l ++ r)) : EvsV w B a l := by
  refine ⟨by have := h.max; rw [List.length_append] at this; omega, fun h0 => ?_⟩
  obtain ⟨b, o, e, hlt, hc⟩ := h.at_ (by rw [List.length_append]; omega)
  refine ⟨b, o, e, hlt, fun i hi => ?_⟩
  have := hc i (by rw [List.length_append]; omega)
  rw [List.getElem_append_left hi] at this
  exact this
theorem Lent.at_ {W : World} {B : Nat} {es : List Ev} {va : Value} {ln lc : Nat} {ad : Option Addr} {gs : List (Nat × Nat)} (h : Lent W B es va (.slice ad ln lc) gs) {i : Nat} (hi : i < es.length) : ∃ gl, ad = some ⟨gl, 0, none⟩ ∧ gl < W.heap.size ∧ W.cell? ⟨gl, i, none⟩ = some (.slice (some ⟨(gs[i]'(by have := h.len; omega)).1, 0, none⟩) (es[i].list.length + 1) (gs[i]'(by have := h.len; omega)).2) := by
  have hg := h.len
  rcases h.row.2 with ⟨_, q⟩ | ⟨g, cap, c2, q0, q1, q2, q3, q4, q5, q6⟩
  · omega
  · simp only [Value.slice.injEq] at q0
    refine ⟨g, q0.1, heap_lt q2, cell_blk q2 ?_⟩
    have e := congrArg (fun L : List Value => L[i]?) q6
    rw [List.getElem?_take_of_lt (by omega), Array.getElem?_toList] at e
    rw [e]
    unfold lsC
    have hz : i < (es.zip gs).length := by rw [List.length_zip]; omega
    rw [List.getElem?_map, List.getElem?_eq_getElem hz]
    simp
theorem Lent.on {W W' : World} {B : Nat} {es : List Ev} {va vl : Value} {gs : List (Nat × Nat)} (h : Lent W B es va vl gs) (hb : ∀ y, B ≤ y → y < W.heap.size → W'.heap[y]? = W.heap[y]?) : Lent W' B es va vl gs :=
  ⟨h.len, h.evo.on fun y h1 h2 _ => hb y h1 h2, owns_same h.row hb, fun i h1 h2 => owns_same (h.two i h1 h2) hb⟩
set_option maxRecDepth 100000 in
set_option maxHeartbeats 4000000 in
theorem still_any (W : World) (B : Nat) (es : List Ev) (va vl : Value) (gs : List (Nat × Nat)) (h : Lent W B es va vl gs) (a : Option Addr) (cap : Nat) (hp : EvsV W W.heap.size a es) (hes : es.length ≤ 1099511627776) (hll : ∀ e ∈ es, e.list.length ≤ 8796093022000) :
    Calls Tryd.prog 16 #[.agg #[va, vl], .slice a es.length cap] W fun e w' => e = .returned (.bool true) ∧ Below W.heap.size W w' := by
  obtain ⟨X, hX⟩ : ∃ X, W.heap.size = X := ⟨_, rfl⟩
  obtain ⟨al, ln, cl, hvl⟩ := owns_slice h.row
  obtain ⟨aa, an, ca, hva⟩ := owns_slice h.evo.row
  have hln : ln = es.length := by
    rcases h.row.2 with ⟨q, q2⟩ | ⟨g, cap, cur, q, _⟩
    · rw [hvl] at q
      simp only [Value.slice.injEq] at q
      omega
    · rw [hvl] at q
      simp only [Value.slice.injEq] at q
      exact q.2.1
  have hga : an = es.length + 1 ∧ es.length + 1 ≤ ca ∧ ca ≤ maxLen := by
    rcases h.evo.row.2 with ⟨_, q⟩ | ⟨g, cap, cur, q, _, _, q3, q4, _⟩
    · simp at q
    · rw [hva] at q
      simp only [Value.slice.injEq] at q
      rw [List.length_append] at q3
      obtain ⟨q5, q6, q7⟩ := q
      exact ⟨by simpa using q6, by rw [q7]; exact q3, by rw [q7]; exact q4⟩
  obtain ⟨han, hca, hcm⟩ := hga
  subst hva
  subst hvl
  subst hln
  subst han
  unfold maxLen at hcm
  obtain ⟨W1, hW1⟩ : ∃ W1, W1 = W.alloc (lnX (.slice aa (es.length + 1) ca) (.slice al es.length cl)) := ⟨_, rfl⟩
  have hb1 : Below X W W1 := by rw [hW1, ← hX]; exact below1 _ _
  have hs1 : W1.heap.size = X + 1 := by rw [hW1, ← hX]; simp
  have hx1 : W1.heap[X]? = some (lnX (.slice aa (es.length + 1) ca) (.slice al es.length cl)) := by rw [hW1]; exact heap_newH _ _ _ hX
  have hL1 : Lent W1 B es (.slice aa (es.length + 1) ca) (.slice al es.length cl) gs := h.on fun y _ hy => hb1.block y (by omega)
  have hp1 : EvsV W1 (X + 1) a es := ((hX ▸ hp : EvsV W X a es).below hb1).up (by omega)
  obtain ⟨hvn, hve⟩ := hL1.evo.view
  rw [hs1] at hve
  obtain ⟨ga, oa, hgo, hgl, hge⟩ := hve.at_ (by simp)
  subst hgo
  have he9 := hge es.length (by simp)
  rw [List.getElem_append_right (Nat.le_refl _)] at he9
  obtain ⟨l9, c9, h9⟩ := he9
  have hc9 : W1.cell? ⟨ga, oa + es.length * 8, none⟩ = some (.int .i64 (-9)) := by
    have := h9.c0
    simpa [ev9] using this
  have HX : Bx (∀ Y, Below (X + 1) W1 Y → Y.cell? ⟨X, 0, none⟩ = some (.slice (some ⟨ga, oa, none⟩) (es.length + 1) ca) ∧ Y.cell? ⟨X, 1, none⟩ = some (.slice al es.length cl) ∧ Y.cell? ⟨ga, oa + es.length * 8, none⟩ = some (.int .i64 (-9))) := ⟨fun Y hY => by
    have := hY.block X (by omega)
    rw [hx1] at this
    exact ⟨cell_blk this rfl, cell_blk this rfl, by rw [hY.cell (p := ⟨ga, oa + es.length * 8, none⟩) hgl]; exact hc9⟩⟩
  have HSE : Bx (∀ Y, Below (X + 1) W1 Y → Calls Tryd.prog 20 #[.slice (some ⟨ga, oa, none⟩) es.length ca, .slice a es.length cap] Y fun e w' => e = .returned (.bool true) ∧ Bx (Below (X + 1) W1 w')) := ⟨fun Y hY => by
    have hz := hY.size
    exact (sameEvents_yes Y es rfl (some ⟨ga, oa, none⟩) a ca cap (((evs_pre hve).below hY).up (by omega)) ((hp1.below hY).up (by omega))).mono fun e w' hh => ⟨hh.1, ⟨hY.trans (hh.2.mono (by omega))⟩⟩⟩
  have HI : Bx (∀ i (hi : i < es.length), ∃ gl g c b o la lc k, al = some ⟨gl, 0, none⟩ ∧ a = some ⟨b, o, none⟩ ∧ k ≤ 8796093022000 ∧ k + 1 ≤ c ∧ Bx (∀ Y, Below (X + 1) W1 Y → (Y.cell? ⟨X, 1, none⟩ = some (.slice al es.length cl) ∧ Y.cell? ⟨gl, i, none⟩ = some (.slice (some ⟨g, 0, none⟩) (k + 1) c) ∧ Y.cell? ⟨b, o + i * 8 + 7, none⟩ = some (.slice la k lc) ∧ Y.cell? ⟨g, k, none⟩ = some (.int .i64 (-77))) ∧ Calls Tryd.prog 35 #[.slice (some ⟨g, 0, none⟩) k c, .slice la k lc] Y fun e w' => e = .returned (.bool true) ∧ Below (X + 1) W1 w')) := ⟨fun i hi => by
    obtain ⟨gl, hal, hgl', hcl⟩ := hL1.at_ hi
    have hgi : i < gs.length := by have := h.len; omega
    obtain ⟨hI1, hI2, hI3, hI4⟩ := nro_two (hL1.two i hi hgi)
    rw [hs1] at hI1 hI3 hgl'
    obtain ⟨b, o, hao, hbl, hc⟩ := hp1.at_ (by omega)
    obtain ⟨la, lc, hev⟩ := hc i hi
    refine ⟨gl, gs[i].1, gs[i].2, b, o, la, lc, es[i].list.length, hal, hao, hll _ (List.getElem_mem hi), hI4, ⟨fun Y hY => ⟨⟨(HX.out Y hY).2.1, ?_, ?_, ?_⟩, ?_⟩⟩⟩
    · rw [hY.cell (p := ⟨gl, i, none⟩) hgl']; exact hcl
    · exact (hev.below hbl hY).c7
    · rw [hY.cell (p := ⟨gs[i].1, es[i].list.length, none⟩) hI3]; exact hI2
    · have hz := hY.size
      exact (sameInts_yes Y (some ⟨gs[i].1, 0, none⟩) la gs[i].2 lc es[i].list ((hI1.below hY).up (by omega)) ((hev.li.below hY).up (by omega)) rfl).mono fun e w' hh => ⟨hh.1, hY.trans (hh.2.mono (by omega))⟩⟩
  have HE : Bx (∀ Y, Below (X + 1) W1 Y → Below X W Y) := ⟨fun Y hY => hb1.trans (hY.mono (by omega))⟩
  have HR : Bx (Below (X + 1) W1 W1) := ⟨Below.refl _ _⟩
  rw [hX]
  clear h hp hll hb1 hx1 hL1 hp1 hvn hve hgl hge l9 c9 h9 hc9
  generalize es.length = n at *
  go_enter Tryd.func16, Tryd.ntmps16
  obtain ⟨x0, x1, x9⟩ := HX.out _ HR.out
  subst hW1
  go_wp2_with (first
    | (go_at_call 20; refine (HSE.out _ HR.out).mono ?_; rintro e w1 ⟨rfl, HK⟩; clear x0 x1 x9; obtain ⟨x0, x1, x9⟩ := HX.out _ HK.out))
  go_loopw [6] (fun x wr => ∃ i : Nat, i ≤ n ∧ x = .int .i64 i ∧ Bx (Below (X + 1) (W.alloc (lnX (.slice (some ⟨ga, oa, none⟩) (n + 1) ca) (.slice al n cl))) wr)) (fun x _ => n - (intOf x).toNat)
  case atStart => exact ⟨0, Nat.zero_le _, rfl, HK⟩
  case round =>
    obtain ⟨i, hi, rfl, HJ⟩ := hrel
    clear x0 x1 x9 HK
    by_cases hlt : i < n
    · obtain ⟨gl, g, c, b, o, la, lc, k, rfl, rfl, hk1, hk2, HY⟩ := HI.out i hlt
      have HF : Bx (∀ Y, Below (X + 1) _ Y → _) := ⟨fun Y hY => (HY.out Y hY).1⟩
      have HC : Bx (∀ Y, Below (X + 1) _ Y → _) := ⟨fun Y hY => (HY.out Y hY).2⟩
      obtain ⟨y1, y2, y3, y4⟩ := HF.out _ HJ.out
      have hbr := HJ.out
      have g1 : (0 : Int) ≤ ↑i := by omega
      have g2 : (↑i : Int) < ↑n := by omega
      have g3 : (k : Int) < (k : Int) + 1 := by omega
      have g4 : (0 : Int) ≤ ↑k := by omega
      have g5 : (↑k : Int) ≤ ↑c := by omega
      clear HY HI HX HSE
      go_wp2
      go_region_held3 (fun Y => Y.cell? ⟨X, 1, none⟩ = some (.slice (some ⟨gl, 0, none⟩) n cl) ∧ Y.cell? ⟨gl, i, none⟩ = some (.slice (some ⟨g, 0, none⟩) (k + 1) c) ∧ Y.cell? ⟨b, o + i * 8 + 7, none⟩ = some (.slice la k lc) ∧ Y.cell? ⟨g, k, none⟩ = some (.int .i64 (-77)))
        (first | exact HF.out _ hz1 | exact HF.out _ hbr.drew)
        (first | (go_at_call 35; refine Calls.mono (HC.out _ hbr.drew) ?_; rintro e z9 ⟨rfl, hz1⟩))
      go_wp2
      go_roundw
      case rel => exact ⟨i + 1, by omega, by go_num, ⟨hz1⟩⟩
      case measure => simp [intOf]; omega
    · go_wp2
      go_ret
      exact ⟨rfl, HE.out _ HJ.out⟩
end Go.Proofs.YtecpknpcjoiliaaDoor
