import Derived.Test.YtjabdhmkibahlaaCEGa
import Derived.Orders
namespace Go.Proofs.Ytjabdhmkibahlaa
open Go.RowKit Go.MapKept Go.ChangeMaps Go.WideShapes
set_option linter.unusedVariables false
set_option linter.unusedSimpArgs false

/-! ### the outset -/
def wk1 (H : Int → Option Int) (B : Hd → List Int) (aid : Int) (x : Hd) : Option Int := if wldI x then some (-1) else match H x.chan with
  | some i => some i
  | none => otI (B ⟨x.chan, !x.send⟩) aid
/-- hands, read in every later world -/
def HaR (W : World) (mb : Nat) (B : Hd → List Int) : Prop := ∃ n V, MpH W mb n V ∧ ∀ c, ∃ p d, V c = .slice p (B c).length d ∧ IntsR W p d (B c)
theorem HaR.below {W X : World} {mb : Nat} {B : Hd → List Int} (h : HaR W mb B) (hb : Below W.heap.size W X) : HaR X mb B := by
  obtain ⟨n, V, h1, h2⟩ := h
  exact ⟨n, V, h1.below hb, fun c => by
    obtain ⟨p, d, e, h3⟩ := h2 c
    exact ⟨p, d, e, h3.later hb⟩⟩
theorem HaI.read {w W : World} {n : Nat} {B : Hd → List Int} (h : HaI w W n B) : HaR W w.heap.size B := by
  obtain ⟨m, V, own, _, h2, _, h4, _⟩ := h
  refine ⟨m, V, h2.map, fun c => ?_⟩
  have h1 := h2.row c
  rcases h1.2 with ⟨x1, x2⟩ | ⟨g, cap, cur, x1, _⟩
  · exact ⟨none, 0, by rw [x1, x2], by omega, by simp [maxLen], fun i hi => by omega⟩
  · rw [x1] at h1
    exact ⟨_, _, x1, ints_own h1 (h4 c)⟩
set_option maxRecDepth 100000 in
set_option maxHeartbeats 2000000 in
theorem outset1_any (X : World) (x : Hd) (hc : I64 x.chan) (b1 b2 b3 hm n hb : Nat) (H : Int → Option Int) (B : Hd → List Int) (aid : Int) (v1 v2 v3 : Value) (hk1 : X.heap[b1]? = some (.cells #[.map (some hm)] 104 (0, 0))) (hk2 : X.heap[b2]? = some (.cells #[.map (some hb)] 115 (0, 0))) (hk3 : X.heap[b3]? = some (.cells #[.int .i64 aid, v1, v2, v3] 53 (0, 0))) (hh : HoM X hm n H) (hr : HaR X hb B) :
    Calls Try.prog 78 #[hdV x, .pointer (some ⟨b1, 0, none⟩), .pointer (some ⟨b2, 0, none⟩), .pointer (some ⟨b3, 0, none⟩)] X fun e w' => e = .returned (oT (wk1 H B aid x)) ∧ Below X.heap.size X w' := by
  obtain ⟨ch, sd⟩ := x
  simp only [hdV] at hc ⊢
  obtain ⟨Y, hY⟩ : ∃ Y, X.alloc (.cells #[.int .i64 ch, .bool sd] 58) = Y := ⟨_, rfl⟩
  have hb0 : Below X.heap.size X Y := by rw [← hY]; exact below1 _ _
  have hkY : Y.heap[X.heap.size]? = some (.cells #[.int .i64 ch, .bool sd] 58 (0, 0)) := by rw [← hY]; exact World.alloc_heap_new _ _
  obtain ⟨m, V, hm1, hrow⟩ := hr
  obtain ⟨rp, rd, hVe, hVr⟩ := hrow ⟨ch, !sd⟩
  have HCE : Bx (∀ Z, Below Y.heap.size Y Z → Z.cell? ⟨X.heap.size, 0, none⟩ = some (.int .i64 ch) ∧ Z.cell? ⟨X.heap.size, 1, none⟩ = some (.bool sd) ∧ Z.cell? ⟨b1, 0, none⟩ = some (.map (some hm)) ∧ Z.cell? ⟨b2, 0, none⟩ = some (.map (some hb)) ∧ Z.cell? ⟨b3, 0, none⟩ = some (.int .i64 aid) ∧ (Instr.lookup 104 (.map (some hm)) (.int .i64 ch) true).run Try.prog Z = .ok (.tuple #[.int .i64 ((H ch).getD 0), .bool (H ch).isSome]) Z ∧ (Instr.lookup 115 (.map (some hb)) (.agg #[.int .i64 ch, .bool (!sd)]) false).run Try.prog Z = .ok (.slice rp (B ⟨ch, !sd⟩).length rd) Z) := ⟨fun Z hZ => by
    have b := hb0.trans (hZ.mono hb0.size)
    refine ⟨cell_of ((hZ.block _ (Array.getElem?_eq_some_iff.1 hkY).1).trans hkY) rfl, cell_of ((hZ.block _ (Array.getElem?_eq_some_iff.1 hkY).1).trans hkY) rfl, cell_of ((b.block _ (Array.getElem?_eq_some_iff.1 hk1).1).trans hk1) rfl, cell_of ((b.block _ (Array.getElem?_eq_some_iff.1 hk2).1).trans hk2) rfl, cell_of ((b.block _ (Array.getElem?_eq_some_iff.1 hk3).1).trans hk3) rfl, HoM.look2 (MpI.below hh b) Try.underlying104 Try.zeroValue3 hc, ?_⟩
    have := (hm1.below b).look ⟨ch, !sd⟩ hc
    rw [hVe] at this
    exact this⟩
  have HOT : Bx (∀ Z, Below Y.heap.size Y Z → Calls Try.prog 80 #[.slice rp (B ⟨ch, !sd⟩).length rd, .int .i64 aid] Z fun e w' => e = .returned (oT (otI (B ⟨ch, !sd⟩) aid)) ∧ w' = Z) := ⟨fun Z hZ => other_any Z rp rd _ aid (hVr.later (hb0.trans (hZ.mono hb0.size)))⟩
  have HWL : Bx (Calls Try.prog 79 #[.agg #[.int .i64 ch, .bool sd]] Y fun e w' => e = .returned (.bool (wldI ⟨ch, sd⟩)) ∧ Below Y.heap.size Y w') := ⟨worldly_any Y ⟨ch, sd⟩⟩
  have HB : Bx (Below X.heap.size X Y) := ⟨hb0⟩
  have HYE : Bx (_ = Y) := ⟨hY⟩
  obtain ⟨c0, c1, _⟩ := HCE.out Y (Below.refl _ _)
  rw [← hY] at c0 c1
  clear hb0 hkY hY hk1 hk2 hk3 hh hrow hVe hVr hm1
  go_enter Try.func78, Try.ntmps78
  cases hw : wldI ⟨ch, sd⟩ with
  | true =>
    rw [hw] at HWL
    have HE : Bx (oT (wk1 H B aid ⟨ch, sd⟩) = .tuple #[.int .i64 (-1), .bool true]) := ⟨by unfold wk1; rw [hw]; rfl⟩
    clear hw
    go_wp2_with (first | (go_at_call 79; rw [HYE.out]; refine Calls.mono HWL.out ?_; rintro e w2 ⟨rfl, hb2⟩; have B2 : Bx (Below X.heap.size X w2) := ⟨HB.out.trans (hb2.mono HB.out.size)⟩; clear hb2))
    exact bodyPost_ret (v := .tuple #[.int .i64 (-1), .bool true]) (by simp [results, Try.results78, go_sem]) rfl ⟨by rw [HE.out], B2.out⟩
  | false =>
    rw [hw] at HWL
    cases hH : H ch with
    | some i =>
      have HE : Bx (oT (wk1 H B aid ⟨ch, sd⟩) = .tuple #[.int .i64 i, .bool true]) := ⟨by unfold wk1; rw [hw]; simp [hH, oT]⟩
      rw [hH] at HCE
      clear hw hH
      go_wp2_with (first | (go_at_call 79; rw [HYE.out]; refine Calls.mono HWL.out ?_; rintro e w2 ⟨rfl, hb2⟩; have B2 : Bx (Below X.heap.size X w2) := ⟨HB.out.trans (hb2.mono HB.out.size)⟩; obtain ⟨d0, d1, d2, d3, d4, d5, d6⟩ := HCE.out w2 hb2; simp only [Option.getD_some, Option.isSome_some] at d5; clear hb2))
      exact bodyPost_ret (v := .tuple #[.int .i64 i, .bool true]) (by simp [results, Try.results78, go_sem]) rfl ⟨by rw [HE.out], B2.out⟩
    | none =>
      have HE : Bx (oT (wk1 H B aid ⟨ch, sd⟩) = oT (otI (B ⟨ch, !sd⟩) aid)) := ⟨by unfold wk1; rw [hw]; simp [hH]⟩
      rw [hH] at HCE
      clear hw hH
      go_wp2_with (first | (go_at_call 79; rw [HYE.out]; refine Calls.mono HWL.out ?_; rintro e w2 ⟨rfl, hb2⟩; have B2 : Bx (Below X.heap.size X w2 ∧ Below Y.heap.size Y w2) := ⟨HB.out.trans (hb2.mono HB.out.size), hb2⟩; have d7 := (fun k => (HCE.out (w2.drewN k) (below_drewN hb2 k)).2.2.2.2.2.2); obtain ⟨d0, d1, d2, d3, d4, d5, d6⟩ := HCE.out w2 hb2; simp only [Option.getD_none, Option.isSome_none] at d5; clear hb2))
      simp only [oT] at HOT
      generalize (otI (B ⟨ch, !sd⟩) aid) = oo at *
      go_quiet (first | (go_at_call 80; exact Calls.quiet_of_same ((HOT.out _ (below_drewN B2.out.2 _)).mono fun e w' h => ⟨h.1, h.2⟩)))
      go_wp2
      exact bodyPost_ret (v := oT oo) (by simp [results, Try.results78, go_sem, oT]) rfl ⟨by rw [HE.out], below_drewN B2.out.1 _⟩
end Go.Proofs.Ytjabdhmkibahlaa
namespace Go.Proofs.Ytjabdhmkibahlaa
open Go.RowKit Go.MapKept Go.ChangeMaps Go.WideShapes
set_option linter.unusedVariables false
set_option linter.unusedSimpArgs false

/-! ### a region that draws its order and calls, by what holds of what has come up -/
def unl (L : Array Bool) : Nat := L.toList.count false
theorem getD_true {L : Array Bool} {i : Nat} (h : L.getD i true = false) : ∃ h : i < L.size, L[i] = false := by
  rw [Array.getD_eq_getD_getElem?] at h
  by_cases hi : i < L.size
  · rw [Array.getElem?_eq_getElem hi] at h
    exact ⟨hi, h⟩
  · rw [Array.getElem?_eq_none (by omega)] at h
    cases h
theorem unl_set {L : Array Bool} {i : Nat} (h : L.getD i true = false) : unl (L.setIfInBounds i true) + 1 = unl L := by
  obtain ⟨hi, he⟩ := getD_true h
  unfold unl
  rw [Array.toList_setIfInBounds]
  have hl : i < L.toList.length := by simpa using hi
  have he' : L.toList[i] = false := by simpa using he
  have : 0 < L.toList.count false := List.count_pos_iff.2 (by rw [← he']; exact List.getElem_mem hl)
  rw [List.count_set hl, he']
  show L.toList.count false - (if false == false then 1 else 0) + (if true == false then 1 else 0) + 1 = _
  rw [if_pos (by rfl), if_neg (by decide)]
  omega
theorem wpAny_inv2 {P : Program} {ops : Array Oper} {Q : Exit → Act → World → Prop} (I : Array Bool → Act → World → Prop)
    (hstep : ∀ L a w i o, I L a w → L.getD i true = false → ops[i]? = some o → (∀ e ∈ o.after, Region.binds .any e = true → L.getD e.on false = true) → o.guard = none ∧ o.wp P a w (I (L.setIfInBounds i true)) Q)
    (hfin : ∀ L a w, I L a w → Region.ready .any ops L = [] → Q .normal a w) : ∀ (fuel : Nat) (L : Array Bool) (a : Act) (w : World), unl L ≤ fuel → I L a w → wpAny P .any ops Q fuel L a w
  | 0, L, a, w, hf, h => by
    have hr : Region.ready .any ops L = [] := by
      rw [List.eq_nil_iff_forall_not_mem]
      intro i hi
      obtain ⟨hu, _⟩ := mem_ready.1 hi
      have := unl_set hu
      omega
    exact ⟨hr, hfin L a w h hr⟩
  | fuel + 1, L, a, w, hf, h => by
    refine ⟨fun hr => hfin L a w h hr, fun i hi => ?_⟩
    obtain ⟨hu, o, ho, hall⟩ := mem_ready.1 hi
    obtain ⟨hg, hw⟩ := hstep L a w i o h hu ho hall
    unfold wpOp
    rw [ho]
    simp only []
    rw [if_pos (by simp [Region.wanted, hg])]
    left
    exact Oper.wp_mono (fun a' w' hI => wpAny_inv2 I hstep hfin fuel (L.setIfInBounds i true) a' w' (by have := unl_set hu; omega) hI) hw
/-- if nothing may come up, all has -/
theorem all_listed {ops : Array Oper} {L : Array Bool} {n : Nat} (hn : ops.size = n) (hL : L.size = n) (hdown : ∀ (i : Nat) (o : Oper), ops[i]? = some o → ∀ e ∈ o.after, e.on < i) (hr : Region.ready .any ops L = []) : ∀ i, i < n → L.getD i false = true := by
  intro i
  induction i using Nat.strongRecOn with
  | ind i ih =>
    intro hi
    cases h : L.getD i false with
    | true => rfl
    | false =>
      have hio : i < ops.size := by omega
      have hmem : i ∈ Region.ready .any ops L := by
        refine mem_ready.2 ⟨?_, ops[i], Array.getElem?_eq_getElem hio, fun e he _ => ?_⟩
        · rw [Array.getD_eq_getD_getElem?, Array.getElem?_eq_getElem (by omega)] at h ⊢
          exact h
        · have := hdown i ops[i] (Array.getElem?_eq_getElem hio) e he
          exact ih e.on this (by omega)
      rw [hr] at hmem
      cases hmem
theorem L_same {L : Array Bool} {i : Nat} (h : i < L.size) : (L.setIfInBounds i true).getD i false = true := by
  rw [Array.getD_eq_getD_getElem?, Array.getElem?_setIfInBounds]
  simp [h]
theorem L_other {L : Array Bool} {i k : Nat} (h : k ≠ i) : (L.setIfInBounds i true).getD k false = L.getD k false := by
  rw [Array.getD_eq_getD_getElem?, Array.getD_eq_getD_getElem?, Array.getElem?_setIfInBounds, if_neg (fun e => h e.symm)]
/-- hands in rows of one's own -/
def HaQ (X : World) (mb : Nat) (B : Hd → List Int) : Prop := ∃ base m V own, HaW base X mb m V B own ∧ ∀ c, ∀ x ∈ B c, I64 x
theorem HaQ.below {X Y : World} {mb : Nat} {B : Hd → List Int} (h : HaQ X mb B) (hb : Below X.heap.size X Y) : HaQ Y mb B := by
  obtain ⟨base, m, V, own, h1, h2⟩ := h
  exact ⟨base, m, V, own, h1.below hb, h2⟩
theorem HaQ.set {X Y : World} {mb b : Nat} {B : Hd → List Int} {us : Array Value} {t : TypeId} (h : HaQ X mb B) (hk : X.heap[b]? = some (.cells us t (0, 0))) (ht : t ≠ 3) (hb : ∀ g, g ≠ b → Y.heap[g]? = X.heap[g]?) : HaQ Y mb B := by
  obtain ⟨base, m, V, own, h1, h2⟩ := h
  refine ⟨base, m, V, own, ⟨h1.map.same (hb mb (fun e => ?_)), fun c => own_same (h1.row c) (fun g o hgo hgb => (hb g (fun e => ?_)).trans hgb), h1.lab⟩, h2⟩
  · subst e
    obtain ⟨D, ⟨es, clock, h0, _⟩, _⟩ := h1.map.ex
    rw [hk] at h0
    cases h0
  · subst e
    obtain ⟨us', hu⟩ := own_blk_lt (h1.row c) hgo
    rw [hk] at hu
    injection hu with hu
    injection hu with _ hu
    exact ht hu
theorem HaQ.read {X : World} {mb : Nat} {B : Hd → List Int} (h : HaQ X mb B) : HaR X mb B := by
  obtain ⟨base, m, V, own, h2, h4⟩ := h
  refine ⟨m, V, h2.map, fun c => ?_⟩
  have h1 := h2.row c
  rcases h1.2 with ⟨x1, x2⟩ | ⟨g, cap, cur, x1, _⟩
  · exact ⟨none, 0, by rw [x1, x2], by omega, by simp [maxLen], fun i hi => by omega⟩
  · rw [x1] at h1
    exact ⟨_, _, x1, ints_own h1 (h4 c)⟩
def ouFr (wm am ym b0 : Nat) (sl v5 v6 v12 v13 v14 v15 v16 v17 : Value) : Act := { tmps := #[.agg #[.map (some wm), .map (some am), .map (some ym)], sl, .pointer (some ⟨b0, 0, none⟩), undef, .map none, v5, v6, undef, undef, undef, undef, undef, v12, v13, v14, v15, v16, v17, undef, undef, undef, undef, undef, undef, undef, undef, undef, undef, undef, undef, undef, undef, undef, undef, undef, undef, undef, undef], defers := [] }
def fl (F : Nat → Bool) (i : Nat) : Nat → Bool := fun k => if k = i then true else F k
/-- what holds of what has come up -/
structure OuG (W : World) (wm am ym : Nat) (sl : Value) (aw : List Int) (H : Int → Option Int) (B : Hd → List Int) (F : Nat → Bool) (v5 v6 v12 v13 v14 v15 v16 v17 : Value) (X : World) : Prop where
  bel : Below W.heap.size W X
  g0 : F 0 = true → v12 = .agg #[.map (some wm), .map (some am), .map (some ym)]
  g1 : F 1 = true → v13 = sl
  g2 : F 2 = true → F 3 = false → ∃ q d, v14 = .slice q aw.length d ∧ IntsR X q d aw
  g3 : F 3 = true → ∃ hm n, v15 = .map (some hm) ∧ HoM X hm n H
  g4 : F 4 = true → v16 = sl
  g5 : F 5 = true → ∃ hb, v17 = .map (some hb) ∧ HaQ X hb B
  g6 : F 6 = true → ∃ b y, v5 = .pointer (some ⟨b, 0, none⟩) ∧ W.heap.size ≤ b ∧ X.heap[b]? = some (.cells #[y] 104 (0, 0)) ∧ (F 8 = true → y = v15)
  g7 : F 7 = true → ∃ b y, v6 = .pointer (some ⟨b, 0, none⟩) ∧ W.heap.size ≤ b ∧ X.heap[b]? = some (.cells #[y] 115 (0, 0)) ∧ (F 9 = true → y = v17)
  g8 : F 8 = true → F 3 = true ∧ F 6 = true
  g9 : F 9 = true → F 5 = true ∧ F 7 = true
section
variable {W : World} {wm am ym : Nat} {sl : Value} {aw : List Int} {H : Int → Option Int} {B : Hd → List Int} {F : Nat → Bool} {v5 v6 v12 v13 v14 v15 v16 v17 : Value} {X Y : World}
theorem OuG.later (h : OuG W wm am ym sl aw H B F v5 v6 v12 v13 v14 v15 v16 v17 X) (hb : Below X.heap.size X Y) : OuG W wm am ym sl aw H B F v5 v6 v12 v13 v14 v15 v16 v17 Y :=
  ⟨h.bel.trans (hb.mono h.bel.size), h.g0, h.g1, fun a b => by obtain ⟨q, d, e, h1⟩ := h.g2 a b; exact ⟨q, d, e, h1.later hb⟩, fun a => by obtain ⟨hm, n, e, h1⟩ := h.g3 a; exact ⟨hm, n, e, MpI.below h1 hb⟩, h.g4, fun a => by obtain ⟨q, e, h1⟩ := h.g5 a; exact ⟨q, e, h1.below hb⟩, fun a => by
    obtain ⟨b, y, e, h1, h2, h3⟩ := h.g6 a
    exact ⟨b, y, e, h1, (hb.block b (Array.getElem?_eq_some_iff.1 h2).1).trans h2, h3⟩, fun a => by
    obtain ⟨b, y, e, h1, h2, h3⟩ := h.g7 a
    exact ⟨b, y, e, h1, (hb.block b (Array.getElem?_eq_some_iff.1 h2).1).trans h2, h3⟩, h.g8, h.g9⟩
theorem OuG.s0 (h : OuG W wm am ym sl aw H B F v5 v6 v12 v13 v14 v15 v16 v17 X) : OuG W wm am ym sl aw H B (fl F 0) v5 v6 (.agg #[.map (some wm), .map (some am), .map (some ym)]) v13 v14 v15 v16 v17 X := ⟨h.bel, fun _ => rfl, h.g1, h.g2, h.g3, h.g4, h.g5, h.g6, h.g7, h.g8, h.g9⟩
theorem OuG.s1 (h : OuG W wm am ym sl aw H B F v5 v6 v12 v13 v14 v15 v16 v17 X) : OuG W wm am ym sl aw H B (fl F 1) v5 v6 v12 sl v14 v15 v16 v17 X := ⟨h.bel, h.g0, fun _ => rfl, h.g2, h.g3, h.g4, h.g5, h.g6, h.g7, h.g8, h.g9⟩
theorem OuG.s4 (h : OuG W wm am ym sl aw H B F v5 v6 v12 v13 v14 v15 v16 v17 X) : OuG W wm am ym sl aw H B (fl F 4) v5 v6 v12 v13 v14 v15 sl v17 X := ⟨h.bel, h.g0, h.g1, h.g2, h.g3, fun _ => rfl, h.g5, h.g6, h.g7, h.g8, h.g9⟩
theorem OuG.s2 (h0 : OuG W wm am ym sl aw H B F v5 v6 v12 v13 v14 v15 v16 v17 X) (hb : Below X.heap.size X Y) {q : Option Addr} {d : Nat} (hq : IntsR Y q d aw) : OuG W wm am ym sl aw H B (fl F 2) v5 v6 v12 v13 (.slice q aw.length d) v15 v16 v17 Y := by
  have h := h0.later hb
  exact ⟨h.bel, h.g0, h.g1, fun _ _ => ⟨q, d, rfl, hq⟩, h.g3, h.g4, h.g5, h.g6, h.g7, h.g8, h.g9⟩
theorem OuG.s3 (h0 : OuG W wm am ym sl aw H B F v5 v6 v12 v13 v14 v15 v16 v17 X) (hF : F 3 = false) (hb : Below X.heap.size X Y) {hm n : Nat} (hq : HoM Y hm n H) : OuG W wm am ym sl aw H B (fl F 3) v5 v6 v12 v13 v14 (.map (some hm)) v16 v17 Y := by
  have h := h0.later hb
  exact ⟨h.bel, h.g0, h.g1, (fun _ h3 => by cases h3), fun _ => ⟨hm, n, rfl, hq⟩, h.g4, h.g5, fun a => by
    obtain ⟨b, y, e, h1, h2, h3⟩ := h.g6 a
    exact ⟨b, y, e, h1, h2, fun h8 => by have := (h.g8 h8).1; rw [hF] at this; cases this⟩, h.g7, fun h8 => ⟨rfl, (h.g8 h8).2⟩, h.g9⟩
theorem OuG.s5 (h0 : OuG W wm am ym sl aw H B F v5 v6 v12 v13 v14 v15 v16 v17 X) (hF : F 5 = false) (hb : Below X.heap.size X Y) {hm : Nat} (hq : HaQ Y hm B) : OuG W wm am ym sl aw H B (fl F 5) v5 v6 v12 v13 v14 v15 v16 (.map (some hm)) Y := by
  have h := h0.later hb
  exact ⟨h.bel, h.g0, h.g1, h.g2, h.g3, h.g4, fun _ => ⟨hm, rfl, hq⟩, h.g6, fun a => by
    obtain ⟨b, y, e, h1, h2, h3⟩ := h.g7 a
    exact ⟨b, y, e, h1, h2, fun h8 => by have := (h.g9 h8).1; rw [hF] at this; cases this⟩, h.g8, fun h8 => ⟨rfl, (h.g9 h8).2⟩⟩
theorem OuG.s6 (h0 : OuG W wm am ym sl aw H B F v5 v6 v12 v13 v14 v15 v16 v17 X) (hF : F 6 = false) : OuG W wm am ym sl aw H B (fl F 6) (.pointer (some ⟨X.heap.size, 0, none⟩)) v6 v12 v13 v14 v15 v16 v17 (X.alloc (.cells #[.map none] 104)) := by
  have h := h0.later (below1 X (.cells #[.map none] 104))
  exact ⟨h.bel, h.g0, h.g1, h.g2, h.g3, h.g4, h.g5, fun _ => ⟨_, _, rfl, h0.bel.size, World.alloc_heap_new _ _, fun h8 => by have := (h.g8 h8).2; rw [hF] at this; cases this⟩, h.g7, fun h8 => ⟨(h.g8 h8).1, rfl⟩, h.g9⟩
theorem OuG.s7 (h0 : OuG W wm am ym sl aw H B F v5 v6 v12 v13 v14 v15 v16 v17 X) (hF : F 7 = false) : OuG W wm am ym sl aw H B (fl F 7) v5 (.pointer (some ⟨X.heap.size, 0, none⟩)) v12 v13 v14 v15 v16 v17 (X.alloc (.cells #[.map none] 115)) := by
  have h := h0.later (below1 X (.cells #[.map none] 115))
  exact ⟨h.bel, h.g0, h.g1, h.g2, h.g3, h.g4, h.g5, h.g6, fun _ => ⟨_, _, rfl, h0.bel.size, World.alloc_heap_new _ _, fun h8 => by have := (h.g9 h8).2; rw [hF] at this; cases this⟩, h.g8, fun h8 => ⟨(h.g9 h8).1, rfl⟩⟩
theorem OuG.s8 (h : OuG W wm am ym sl aw H B F v5 v6 v12 v13 v14 v15 v16 v17 X) (h3 : F 3 = true) (h6 : F 6 = true) : ∃ b y, v5 = .pointer (some ⟨b, 0, none⟩) ∧ X.heap[b]? = some (.cells #[y] 104 (0, 0)) ∧ OuG W wm am ym sl aw H B (fl F 8) v5 v6 v12 v13 v14 v15 v16 v17 (X.setCell ⟨b, 0, none⟩ v15) := by
  obtain ⟨b, y, e, hb, hk, _⟩ := h.g6 h6
  have hs : ∀ g, g ≠ b → (X.setCell ⟨b, 0, none⟩ v15).heap[g]? = X.heap[g]? := fun g hg => Below.heap_setCell X ⟨b, 0, none⟩ v15 g hg
  refine ⟨b, y, e, hk, h.bel.setCell (p := ⟨b, 0, none⟩) hb _, h.g0, h.g1, fun _ h3' => ?_, fun _ => ?_, h.g4, fun a => ?_, fun _ => ⟨b, v15, e, hb, blk_set hk 0 _, fun _ => rfl⟩, fun a => ?_, fun _ => ⟨h3, h6⟩, h.g9⟩
  · rw [show fl F 8 3 = F 3 from rfl, h3] at h3'; cases h3'
  · obtain ⟨hm, n, e1, h1⟩ := h.g3 h3
    refine ⟨hm, n, e1, MpI.same h1 (hs hm (fun e2 => ?_))⟩
    subst e2
    obtain ⟨D, ⟨es, clock, h0, _⟩, _⟩ := MpI.ex h1
    rw [hk] at h0
    cases h0
  · obtain ⟨q, e1, h1⟩ := h.g5 a
    exact ⟨q, e1, h1.set hk (by decide) hs⟩
  · obtain ⟨b2, y2, e2, hb2, hk2, h4⟩ := h.g7 a
    refine ⟨b2, y2, e2, hb2, (hs b2 (fun e3 => ?_)).trans hk2, h4⟩
    subst e3
    rw [hk] at hk2
    cases hk2
theorem OuG.s9 (h : OuG W wm am ym sl aw H B F v5 v6 v12 v13 v14 v15 v16 v17 X) (h3 : F 5 = true) (h6 : F 7 = true) (h33 : F 3 = true) : ∃ b y, v6 = .pointer (some ⟨b, 0, none⟩) ∧ X.heap[b]? = some (.cells #[y] 115 (0, 0)) ∧ OuG W wm am ym sl aw H B (fl F 9) v5 v6 v12 v13 v14 v15 v16 v17 (X.setCell ⟨b, 0, none⟩ v17) := by
  obtain ⟨b, y, e, hb, hk, _⟩ := h.g7 h6
  have hs : ∀ g, g ≠ b → (X.setCell ⟨b, 0, none⟩ v17).heap[g]? = X.heap[g]? := fun g hg => Below.heap_setCell X ⟨b, 0, none⟩ v17 g hg
  refine ⟨b, y, e, hk, h.bel.setCell (p := ⟨b, 0, none⟩) hb _, h.g0, h.g1, fun _ h3' => ?_, fun a => ?_, h.g4, fun a => ?_, fun a => ?_, fun _ => ⟨b, v17, e, hb, blk_set hk 0 _, fun _ => rfl⟩, h.g8, fun _ => ⟨h3, h6⟩⟩
  · rw [show fl F 9 3 = F 3 from rfl, h33] at h3'; cases h3'
  · obtain ⟨hm, n, e1, h1⟩ := h.g3 h33
    refine ⟨hm, n, e1, MpI.same h1 (hs hm (fun e2 => ?_))⟩
    subst e2
    obtain ⟨D, ⟨es, clock, h0, _⟩, _⟩ := MpI.ex h1
    rw [hk] at h0
    cases h0
  · obtain ⟨q, e1, h1⟩ := h.g5 h3
    exact ⟨q, e1, h1.set hk (by decide) hs⟩
  · obtain ⟨b2, y2, e2, hb2, hk2, h4⟩ := h.g6 a
    refine ⟨b2, y2, e2, hb2, (hs b2 (fun e3 => ?_)).trans hk2, h4⟩
    subst e3
    rw [hk] at hk2
    cases hk2
end
end Go.Proofs.Ytjabdhmkibahlaa
