import Derived.Test.YtjfabholalnbeabCEG
namespace Go.Proofs.Ytjfabholalnbeab
open Go.RowKit Go.MapKept Go.ChangeMaps Go.WideShapes
set_option linter.unusedVariables false
set_option linter.unusedSimpArgs false

/-! ### the outset -/
def wk1 (H : Int → Option Int) (B : Hd → List Int) (aid : Int) (x : Hd) : Option Int := if wldI x then some (-1) else match H x.chan with
  | some i => some i
  | none => otI (B ⟨x.chan, !x.send⟩) aid
/-- hands, read in every later world -/
def HaR (W : World) (mb : Nat) (B : Hd → List Int) : Prop := ∃ n V, MpH W mb n V ∧ ∀ c, ∃ p d, V c = .slice p (B c).length d ∧ IntsR W p d (B c)
theorem HaR.below {W X : World} {mb : Nat} {B : Hd → List Int} (h : HaR W mb B) (hb : Below W.heap.size W X) : HaR X mb B := by
  obtain ⟨n, V, h1, h2⟩ := h
  exact ⟨n, V, h1.below hb, fun c => by
    obtain ⟨p, d, e, h3⟩ := h2 c
    exact ⟨p, d, e, h3.later hb⟩⟩
theorem HaI.read {w W : World} {n : Nat} {B : Hd → List Int} (h : HaI w W n B) : HaR W w.heap.size B := by
  obtain ⟨m, V, own, _, h2, _, h4, _⟩ := h
  refine ⟨m, V, h2.map, fun c => ?_⟩
  have h1 := h2.row c
  rcases h1.2 with ⟨x1, x2⟩ | ⟨g, cap, cur, x1, _⟩
  · exact ⟨none, 0, by rw [x1, x2], by omega, by simp [maxLen], fun i hi => by omega⟩
  · rw [x1] at h1
    exact ⟨_, _, x1, ints_own h1 (h4 c)⟩
set_option maxRecDepth 100000 in
set_option maxHeartbeats 2000000 in
theorem outset1_any (X : World) (x : Hd) (hc : I64 x.chan) (b1 b2 b3 hm n hb : Nat) (H : Int → Option Int) (B : Hd → List Int) (aid : Int) (v1 v2 v3 : Value) (hk1 : X.heap[b1]? = some (.cells #[.map (some hm)] 84 (0, 0))) (hk2 : X.heap[b2]? = some (.cells #[.map (some hb)] 96 (0, 0))) (hk3 : X.heap[b3]? = some (.cells #[.int .i64 aid, v1, v2, v3] 32 (0, 0))) (hh : HoM X hm n H) (hr : HaR X hb B) :
    Calls Try.prog 52 #[hdV x, .pointer (some ⟨b1, 0, none⟩), .pointer (some ⟨b2, 0, none⟩), .pointer (some ⟨b3, 0, none⟩)] X fun e w' => e = .returned (oT (wk1 H B aid x)) ∧ Below X.heap.size X w' := by
  obtain ⟨ch, sd⟩ := x
  simp only [hdV] at hc ⊢
  obtain ⟨Y, hY⟩ : ∃ Y, X.alloc (.cells #[.int .i64 ch, .bool sd] 53) = Y := ⟨_, rfl⟩
  have hb0 : Below X.heap.size X Y := by rw [← hY]; exact below1 _ _
  have hkY : Y.heap[X.heap.size]? = some (.cells #[.int .i64 ch, .bool sd] 53 (0, 0)) := by rw [← hY]; exact World.alloc_heap_new _ _
  obtain ⟨m, V, hm1, hrow⟩ := hr
  obtain ⟨rp, rd, hVe, hVr⟩ := hrow ⟨ch, !sd⟩
  have HCE : Bx (∀ Z, Below Y.heap.size Y Z → Z.cell? ⟨X.heap.size, 0, none⟩ = some (.int .i64 ch) ∧ Z.cell? ⟨X.heap.size, 1, none⟩ = some (.bool sd) ∧ Z.cell? ⟨b1, 0, none⟩ = some (.map (some hm)) ∧ Z.cell? ⟨b2, 0, none⟩ = some (.map (some hb)) ∧ Z.cell? ⟨b3, 0, none⟩ = some (.int .i64 aid) ∧ (Instr.lookup 84 (.map (some hm)) (.int .i64 ch) true).run Try.prog Z = .ok (.tuple #[.int .i64 ((H ch).getD 0), .bool (H ch).isSome]) Z ∧ (Instr.lookup 96 (.map (some hb)) (.agg #[.int .i64 ch, .bool (!sd)]) false).run Try.prog Z = .ok (.slice rp (B ⟨ch, !sd⟩).length rd) Z) := ⟨fun Z hZ => by
    have b := hb0.trans (hZ.mono hb0.size)
    refine ⟨cell_of ((hZ.block _ (Array.getElem?_eq_some_iff.1 hkY).1).trans hkY) rfl, cell_of ((hZ.block _ (Array.getElem?_eq_some_iff.1 hkY).1).trans hkY) rfl, cell_of ((b.block _ (Array.getElem?_eq_some_iff.1 hk1).1).trans hk1) rfl, cell_of ((b.block _ (Array.getElem?_eq_some_iff.1 hk2).1).trans hk2) rfl, cell_of ((b.block _ (Array.getElem?_eq_some_iff.1 hk3).1).trans hk3) rfl, HoM.look2 (MpI.below hh b) Try.underlying84 Try.zeroValue3 hc, ?_⟩
    have := (hm1.below b).look ⟨ch, !sd⟩ hc
    rw [hVe] at this
    exact this⟩
  have HOT : Bx (∀ Z, Below Y.heap.size Y Z → Calls Try.prog 54 #[.slice rp (B ⟨ch, !sd⟩).length rd, .int .i64 aid] Z fun e w' => e = .returned (oT (otI (B ⟨ch, !sd⟩) aid)) ∧ w' = Z) := ⟨fun Z hZ => other_any Z rp rd _ aid (hVr.later (hb0.trans (hZ.mono hb0.size)))⟩
  have HWL : Bx (Calls Try.prog 53 #[.agg #[.int .i64 ch, .bool sd]] Y fun e w' => e = .returned (.bool (wldI ⟨ch, sd⟩)) ∧ Below Y.heap.size Y w') := ⟨worldly_any Y ⟨ch, sd⟩⟩
  have HB : Bx (Below X.heap.size X Y) := ⟨hb0⟩
  have HYE : Bx (_ = Y) := ⟨hY⟩
  obtain ⟨c0, c1, _⟩ := HCE.out Y (Below.refl _ _)
  rw [← hY] at c0 c1
  clear hb0 hkY hY hk1 hk2 hk3 hh hrow hVe hVr hm1
  go_enter Try.func52, Try.ntmps52
  cases hw : wldI ⟨ch, sd⟩ with
  | true =>
    rw [hw] at HWL
    have HE : Bx (oT (wk1 H B aid ⟨ch, sd⟩) = .tuple #[.int .i64 (-1), .bool true]) := ⟨by unfold wk1; rw [hw]; rfl⟩
    clear hw
    go_wp2_with (first | (go_at_call 53; rw [HYE.out]; refine Calls.mono HWL.out ?_; rintro e w2 ⟨rfl, hb2⟩; have B2 : Bx (Below X.heap.size X w2) := ⟨HB.out.trans (hb2.mono HB.out.size)⟩; clear hb2))
    exact bodyPost_ret (v := .tuple #[.int .i64 (-1), .bool true]) (by simp [results, Try.results52, go_sem]) rfl ⟨by rw [HE.out], B2.out⟩
  | false =>
    rw [hw] at HWL
    cases hH : H ch with
    | some i =>
      have HE : Bx (oT (wk1 H B aid ⟨ch, sd⟩) = .tuple #[.int .i64 i, .bool true]) := ⟨by unfold wk1; rw [hw]; simp [hH, oT]⟩
      rw [hH] at HCE
      clear hw hH
      go_wp2_with (first | (go_at_call 53; rw [HYE.out]; refine Calls.mono HWL.out ?_; rintro e w2 ⟨rfl, hb2⟩; have B2 : Bx (Below X.heap.size X w2) := ⟨HB.out.trans (hb2.mono HB.out.size)⟩; obtain ⟨d0, d1, d2, d3, d4, d5, d6⟩ := HCE.out w2 hb2; simp only [Option.getD_some, Option.isSome_some] at d5; clear hb2))
      exact bodyPost_ret (v := .tuple #[.int .i64 i, .bool true]) (by simp [results, Try.results52, go_sem]) rfl ⟨by rw [HE.out], B2.out⟩
    | none =>
      have HE : Bx (oT (wk1 H B aid ⟨ch, sd⟩) = oT (otI (B ⟨ch, !sd⟩) aid)) := ⟨by unfold wk1; rw [hw]; simp [hH]⟩
      rw [hH] at HCE
      clear hw hH
      go_wp2_with (first | (go_at_call 53; rw [HYE.out]; refine Calls.mono HWL.out ?_; rintro e w2 ⟨rfl, hb2⟩; have B2 : Bx (Below X.heap.size X w2 ∧ Below Y.heap.size Y w2) := ⟨HB.out.trans (hb2.mono HB.out.size), hb2⟩; have d7 := (fun k => (HCE.out (w2.drewN k) (below_drewN hb2 k)).2.2.2.2.2.2); obtain ⟨d0, d1, d2, d3, d4, d5, d6⟩ := HCE.out w2 hb2; simp only [Option.getD_none, Option.isSome_none] at d5; clear hb2))
      simp only [oT] at HOT
      generalize (otI (B ⟨ch, !sd⟩) aid) = oo at *
      go_quiet (first | (go_at_call 54; exact Calls.quiet_of_same ((HOT.out _ (below_drewN B2.out.2 _)).mono fun e w' h => ⟨h.1, h.2⟩)))
      go_wp2
      exact bodyPost_ret (v := oT oo) (by simp [results, Try.results52, go_sem, oT]) rfl ⟨by rw [HE.out], below_drewN B2.out.1 _⟩
end Go.Proofs.Ytjfabholalnbeab
