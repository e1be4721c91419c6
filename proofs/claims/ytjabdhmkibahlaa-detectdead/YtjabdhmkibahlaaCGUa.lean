import Derived.Test.YtjabdhmkibahlaaCGHp
import Derived.Deep.RegionWith
namespace Go.Proofs.Ytjabdhmkibahlaa
open Go.RowKit Go.MapKept Go.ChangeMaps Go.WideShapes
set_option linter.unusedVariables false
set_option linter.unusedSimpArgs false

/-- the blocks of rows that are told -/
def blks (cs : List Value) : List Nat := cs.filterMap (·.ownBlock)
/-- agents in cells of one's own, each list in a block of its own -/
def AgC2 (W : World) (B : Nat) (gs : List Ag) (cs : List Value) : Prop := AgC W B gs cs ∧ (∀ g ∈ blks cs, g < W.heap.size) ∧ (blks cs).Nodup
theorem blks_add {cs : List Value} {n : Int} {b : Bool} {v5 v6 : Value} {W : World} {M6 N : Nat} (h1 : ∀ g ∈ blks cs, g < W.heap.size) (h2 : (blks cs).Nodup) (h5 : ∀ g, v5.ownBlock = some g → W.heap.size ≤ g ∧ g < M6) (h6 : ∀ g, v6.ownBlock = some g → M6 ≤ g ∧ g < N) (hW : W.heap.size ≤ M6) (hN : M6 ≤ N) : (∀ g ∈ blks (cs ++ [.int .i64 n, .bool b, v5, v6]), g < N) ∧ (blks (cs ++ [.int .i64 n, .bool b, v5, v6])).Nodup := by
  have e : blks (cs ++ [.int .i64 n, .bool b, v5, v6]) = blks cs ++ (v5.ownBlock.toList ++ v6.ownBlock.toList) := by
    unfold blks
    rw [List.filterMap_append]
    congr 1
    have e1 : (Value.int .i64 n).ownBlock = none := rfl
    have e2 : (Value.bool b).ownBlock = none := rfl
    simp only [List.filterMap_cons, e1, e2, List.filterMap_nil]
    cases v5.ownBlock <;> cases v6.ownBlock <;> rfl
  rw [e]
  refine ⟨fun g hg => ?_, ?_⟩
  · rcases List.mem_append.1 hg with hg | hg
    · have := h1 g hg; omega
    · rcases List.mem_append.1 hg with hg | hg
      · have := h5 g (by simpa using hg); omega
      · have := h6 g (by simpa using hg); omega
  · rw [List.nodup_append]
    refine ⟨h2, ?_, fun a ha c hc => ?_⟩
    · rw [List.nodup_append]
      refine ⟨by cases v5.ownBlock <;> simp, by cases v6.ownBlock <;> simp, fun a ha c hc => ?_⟩
      have := h5 a (by simpa using ha)
      have := h6 c (by simpa using hc)
      omega
    · have := h1 a ha
      rcases List.mem_append.1 hc with hc | hc
      · have := h5 c (by simpa using hc); omega
      · have := h6 c (by simpa using hc); omega
/-- the agents made so far -/
def OutR (w w3 W : World) (v : Value) (gs : List Ag) (n : Nat) : Prop := ∃ cs, gs.length = n ∧ W.ownsRow w.heap.size 53 4 v n cs ∧ AgC2 W w.heap.size gs cs ∧ Below w.heap.size w W ∧ KA w3 W
/-- what Take answers for a state that may be -/
def TkPost (w : World) (s : List Ag) (l : Lk) (e : Ending) (w' : World) : Prop := Below w.heap.size w w' ∧
  ((fitsF (whoI s) l = false ∧ e = .returned (.tuple #[.slice none 0 0, .int .i64 141])) ∨
   (fitsF (whoI s) l = true ∧ ∃ v cs, e = .returned (.tuple #[v, .int .i64 0]) ∧ w'.ownsRow w.heap.size 53 4 v s.length cs ∧ AgC w' w.heap.size (s.map (tkA l)) cs))
def TkPost2 (w : World) (s : List Ag) (l : Lk) (e : Ending) (w' : World) : Prop := Below w.heap.size w w' ∧
  ((fitsF (whoI s) l = false ∧ e = .returned (.tuple #[.slice none 0 0, .int .i64 141])) ∨
   (fitsF (whoI s) l = true ∧ ∃ v cs, e = .returned (.tuple #[v, .int .i64 0]) ∧ w'.ownsRow w.heap.size 53 4 v s.length cs ∧ AgC2 w' w.heap.size (s.map (tkA l)) cs))
/-- what a copy of an agent of one's own gives -/
theorem tk_prep {w wr Y : World} {a2 : Ag} {ap hp : Option Addr} {ac hc : Nat} (hbw : Below w.heap.size w wr) (hbx : w.heap.size < wr.heap.size) (hA : AgR w a2 ap ac hp hc ∧ a2.held.length ≤ 2147483647 ∧ a2.arms.length ≤ 2147483647)
    (hY : wr.alloc (.cells #[.int .i64 a2.id, .bool a2.awake, .slice ap a2.arms.length ac, .slice hp a2.held.length hc] 53) = Y) :
    Bx (Below wr.heap.size wr Y ∧ (∀ Z, Below Y.heap.size Y Z → Z.heap[wr.heap.size]? = some (.cells #[.int .i64 a2.id, .bool a2.awake, .slice ap a2.arms.length ac, .slice hp a2.held.length hc] 53 (0, 0))) ∧
      (∀ X, Below Y.heap.size Y X → Calls Try.prog 48 #[.slice ap a2.arms.length ac] X fun e w' => ∃ p' c', e = .returned (.slice p' a2.arms.length c') ∧ w'.ownsRow X.heap.size 58 2 (.slice p' a2.arms.length c') a2.arms.length (hdsC a2.arms) ∧ Below X.heap.size X w') ∧
      (∀ X, Below Y.heap.size Y X → Calls Try.prog 49 #[.slice hp a2.held.length hc] X fun e w' => ∃ p' c', e = .returned (.slice p' a2.held.length c') ∧ w'.ownsRow X.heap.size 3 1 (.slice p' a2.held.length c') a2.held.length (rowC a2.held) ∧ Below X.heap.size X w')) := by
  obtain ⟨hA, hn1, hn2⟩ := hA
  have hbY : Below wr.heap.size wr Y := by rw [← hY]; exact below1 _ _
  have hk : Y.heap[wr.heap.size]? = some (.cells #[.int .i64 a2.id, .bool a2.awake, .slice ap a2.arms.length ac, .slice hp a2.held.length hc] 53 (0, 0)) := by rw [← hY]; exact World.alloc_heap_new _ _
  have hwY : Below w.heap.size w Y := hbw.trans (hbY.mono hbw.size)
  refine ⟨hbY, fun Z hZ => (hZ.block _ (Array.getElem?_eq_some_iff.1 hk).1).trans hk, fun X hX => ?_, fun X hX => ?_⟩
  · refine (freshH_any X ap ac a2.arms (hA.arms.later (hwY.trans (hX.mono hwY.size))) hn2).mono ?_
    rintro e w' ⟨p', c', h1, ⟨h2, _⟩, h3⟩
    exact ⟨p', c', h1, h2, h3⟩
  · refine (freshI_any X hp hc a2.held (hA.held.later (hwY.trans (hX.mono hwY.size))) hn1).mono ?_
    rintro e w' ⟨p', c', h1, ⟨h2, _⟩, h3⟩
    exact ⟨p', c', h1, h2, h3⟩
/-- the world behind the two stores and the block of the new element -/
def tkV (wr w6 : World) (a2 : Ag) (p5 : Option Addr) (c5 : Nat) (p6 : Option Addr) (c6 : Nat) : World :=
  ((w6.setCell ⟨wr.heap.size, 2, none⟩ (.slice p5 a2.arms.length c5)).setCell ⟨wr.heap.size, 3, none⟩ (.slice p6 a2.held.length c6)).alloc (.cells #[.int .i64 a2.id, .bool a2.awake, .slice p5 a2.arms.length c5, .slice p6 a2.held.length c6] 53)
theorem tk_below {wr Y w6 : World} (a2 : Ag) (hY : Below wr.heap.size wr Y) (h6 : Below Y.heap.size Y w6) (p5 : Option Addr) (c5 : Nat) (p6 : Option Addr) (c6 : Nat) : Below wr.heap.size wr (tkV wr w6 a2 p5 c5 p6 c6) := by
  have h := hY.trans (h6.mono hY.size)
  have hs := h.size
  exact ((h.setCell (p := ⟨wr.heap.size, 2, none⟩) (Nat.le_refl _) _).setCell (p := ⟨wr.heap.size, 3, none⟩) (Nat.le_refl _) _).alloc (by simp; omega) _
theorem tk_own {w wr Y w6 : World} {a2 : Ag} {u7 : Value} {i : Nat} {cs : List Value} (ho : wr.ownsRow w.heap.size 53 4 u7 i cs) (hY : Below wr.heap.size wr Y) (h6 : Below Y.heap.size Y w6) {p5 p6 : Option Addr} {c5 c6 : Nat} (hw : w.heap.size ≤ wr.heap.size) :
    Bx ((tkV wr w6 a2 p5 c5 p6 c6).ownsRow w.heap.size 53 4 u7 i cs ∧ (∀ (j : Nat) (x : Value), [Value.int .i64 a2.id, .bool a2.awake, .slice p5 a2.arms.length c5, .slice p6 a2.held.length c6][j]? = some x → (tkV wr w6 a2 p5 c5 p6 c6).cell? ((⟨w6.heap.size, 0, none⟩ : Addr).add j) = some x) ∧ w.heap.size ≤ (tkV wr w6 a2 p5 c5 p6 c6).heap.size) := by
  have hb := tk_below a2 hY h6 p5 c5 p6 c6
  refine ⟨own_new ho hb, ?_, Nat.le_trans hw hb.size⟩
  refine block_cells _ _ #[.int .i64 a2.id, .bool a2.awake, .slice p5 a2.arms.length c5, .slice p6 a2.held.length c6] 53 ?_
  have := World.alloc_heap_new ((w6.setCell ⟨wr.heap.size, 2, none⟩ (.slice p5 a2.arms.length c5)).setCell ⟨wr.heap.size, 3, none⟩ (.slice p6 a2.held.length c6)) (.cells #[.int .i64 a2.id, .bool a2.awake, .slice p5 a2.arms.length c5, .slice p6 a2.held.length c6] 53)
  simpa [tkV] using this
theorem rd_hds {w : World} {p : Option Addr} {c : Nat} {l : List Hd} (h : HdsR w p c l) : ∀ x ∈ l, I64 x.chan := fun x hx => by
  obtain ⟨j, hj, rfl⟩ := List.mem_iff_getElem.1 hx
  obtain ⟨_, _, _, h1, _⟩ := h.at_ j hj
  exact h1
theorem rd_ints {w : World} {p : Option Addr} {c : Nat} {l : List Int} (h : IntsR w p c l) : ∀ x ∈ l, I64 x := fun x hx => by
  obtain ⟨j, hj, rfl⟩ := List.mem_iff_getElem.1 hx
  obtain ⟨_, _, _, h1, _⟩ := h.at_ j hj
  exact h1
theorem tk_fin {w w3 wr Y w5 w6 w9 : World} {a2 : Ag} {ap hp p5 p6 : Option Addr} {ac hc c5 c6 i g cap B : Nat} {u7 : Value} {cs : List Value} {gs : List Ag}
    (hcs : wr.ownsRow w.heap.size 53 4 u7 i cs ∧ AgC2 wr w.heap.size gs cs ∧ Below w.heap.size w wr ∧ KA w3 wr ∧ gs.length = i) (hA : AgR w a2 ap ac hp hc ∧ a2.held.length ≤ 2147483647 ∧ a2.arms.length ≤ 2147483647)
    (hY : Below wr.heap.size wr Y) (hk : ∀ Z, Below Y.heap.size Y Z → Z.heap[wr.heap.size]? = some (.cells #[.int .i64 a2.id, .bool a2.awake, .slice ap a2.arms.length ac, .slice hp a2.held.length hc] 53 (0, 0)))
    (h5 : Below Y.heap.size Y w5) (o5 : w5.ownsRow B 58 2 (.slice p5 a2.arms.length c5) a2.arms.length (hdsC a2.arms)) (hB : w.heap.size ≤ B ∧ wr.heap.size ≤ B) (o6 : w6.ownsRow w5.heap.size 3 1 (.slice p6 a2.held.length c6) a2.held.length (rowC a2.held) ∧ Below w5.heap.size w5 w6)
    (hown : w9.ownsRow w.heap.size 53 4 (.slice (some ⟨g, 0, none⟩) (i + 1) cap) (i + 1) (cs ++ [.int .i64 a2.id, .bool a2.awake, .slice p5 a2.arms.length c5, .slice p6 a2.held.length c6])) (hgr : (tkV wr w6 a2 p5 c5 p6 c6).grownBy w9 u7.ownBlock) :
    OutR w w3 w9 (.slice (some ⟨g, 0, none⟩) (i + 1) cap) (gs ++ [a2]) (i + 1) := by
  obtain ⟨ho, hc1, hbw, hka, hl⟩ := hcs
  obtain ⟨hA, _, _⟩ := hA
  obtain ⟨o6, hb6⟩ := o6
  have h6 : Below Y.heap.size Y w6 := h5.trans (hb6.mono h5.size)
  have hbV := tk_below a2 hY h6 p5 c5 p6 c6
  have hwV : Below w.heap.size w (tkV wr w6 a2 p5 c5 p6 c6) := hbw.trans (hbV.mono hbw.size)
  have hk6 := hk w6 h6
  have k6 : KA w6 (tkV wr w6 a2 p5 c5 p6 c6) := ((KA.set hk6).trans (KA.set (heap_setCell_same w6 wr.heap.size 2 _ 53 _ hk6))).trans (KA.below (below1 _ _))
  have k9 : KA (tkV wr w6 a2 p5 c5 p6 c6) w9 := KA.grown (own_new ho hbV) hgr
  have kr : KA wr w9 := (KA.below hbV).trans k9
  have hw5 : w.heap.size ≤ w5.heap.size := Nat.le_trans hbw.size (Nat.le_trans hY.size h5.size)
  refine ⟨_, by simp [hl], hown, ⟨AgC.add ?_ (hc1.1.keep kr), ?_⟩, hwV.grown hgr hwV.size (fun r e => own_base ho r e), hka.trans kr⟩
  · exact ⟨p5, c5, p6, c6, rfl, hA.id, rd_hds hA.arms, rd_ints hA.held, (k6.trans k9).own (own_low (own_new o5 hb6) hB.1) (by decide), (k6.trans k9).own (own_low o6 hw5) (by decide)⟩
  · have q9 : w6.heap.size ≤ w9.heap.size := Nat.le_trans (by simp [tkV]) hgr.size
    have qY := hY.size
    have q5 := h5.size
    have q6 := hb6.size
    refine blks_add (W := wr) (M6 := w5.heap.size) hc1.2.1 hc1.2.2 (fun g hg => ?_) (fun g hg => ?_) (by omega) (by omega)
    · have h1 := own_base o5 g hg
      rcases o5.2 with ⟨e, _⟩ | ⟨g', _, _, e, _, hgg, _⟩
      · rw [e] at hg; cases hg
      · rw [e] at hg; cases hg
        have := (Array.getElem?_eq_some_iff.1 hgg).1
        have h2 : B ≤ g' := h1
        exact ⟨by show wr.heap.size ≤ g'; omega, this⟩
    · have h1 := own_base o6 g hg
      rcases o6.2 with ⟨e, _⟩ | ⟨g', _, _, e, _, hgg, _⟩
      · rw [e] at hg; cases hg
      · rw [e] at hg; cases hg
        have := (Array.getElem?_eq_some_iff.1 hgg).1
        exact ⟨h1, by show g' < w9.heap.size; omega⟩
set_option maxRecDepth 100000 in
set_option maxHeartbeats 16000000 in
theorem Take_two (w : World) (p : Option Addr) (c : Nat) (s : List Ag) (l : Lk) (h : AgsR w p c s) (hz : Few s) (h64 : Lk64 l) (hok : stOk s = true) :
    Calls Try.prog 18 #[.slice p s.length c, lkV l] w (TkPost2 w s l) := by
  obtain ⟨i0, hi, iz0, iz1, iz2⟩ := info_parts infoG
  have hlc := h.len
  have hcm := h.max
  unfold maxLen at hcm
  have hs4 := st_len hok
  obtain ⟨lr, ln, lc⟩ := l
  simp only [lkV]
  obtain ⟨W, hW⟩ : ∃ W, w.alloc (.cells #[.int .i64 lr, .int .i64 ln, .int .i64 lc] 24) = W := ⟨_, rfl⟩
  have hb : Below w.heap.size w W := by rw [← hW]; exact below1 _ _
  have hbk : W.heap[w.heap.size]? = some (.cells #[.int .i64 lr, .int .i64 ln, .int .i64 lc] 24 (0, 0)) := by rw [← hW]; exact World.alloc_heap_new _ _
  have HB : Bx (Below w.heap.size w W) := ⟨hb⟩
  have HW : Bx (_ = W) := ⟨hW⟩
  have HBK : Bx (∀ Y, Below W.heap.size W Y → Y.heap[w.heap.size]? = some (.cells #[.int .i64 lr, .int .i64 ln, .int .i64 lc] 24 (0, 0))) := ⟨fun Y hY => (hY.block w.heap.size (Array.getElem?_eq_some_iff.1 hbk).1).trans hbk⟩
  have HC : Bx (∀ Y, Below W.heap.size W Y → Y.cell? ⟨w.heap.size, 0, none⟩ = some (.int .i64 lr) ∧ Y.cell? ⟨w.heap.size, 1, none⟩ = some (.int .i64 ln) ∧ Y.cell? ⟨w.heap.size, 2, none⟩ = some (.int .i64 lc)) := ⟨fun Y hY => by
    have e := HBK.out Y hY
    exact ⟨cell_of e rfl, cell_of e rfl, cell_of e rfl⟩⟩
  have HK : Bx (Calls Try.prog 9 #[.slice p s.length c] W fun e w' => e = .returned (.int .i64 (chkI s)) ∧ Below W.heap.size W w') := ⟨Check_any W p c s (h.later hb) hz⟩
  have hck : chkI s = 0 := by simp [chkI, hok]
  rw [hck] at HK
  have HI : Bx (∀ Y, Below W.heap.size W Y → Calls Try.prog 37 #[.slice p s.length c] Y (IdPost Y s)) := ⟨fun Y hY => byId_any Y p c s (h.later (hb.trans (hY.mono hb.size))) (st_len hok)⟩
  have HWO : Bx (WhoOk (whoI s)) := ⟨who_ok hok hz⟩
  have H64 : Bx (Lk64 ⟨lr, ln, lc⟩) := ⟨h64⟩
  have HS : Bx (AgsR w p c s) := ⟨h⟩
  have HZ : Bx (Few s) := ⟨hz⟩
  have HFT : Bx (∀ (w2 : World) (mb n2 : Nat) (M2 : Int → Value), MpI w2 mb n2 zV M2 (hasI s) → WhoV w2 (whoI s) M2 → Calls Try.prog 36 #[.map (some mb), .agg #[.int .i64 lr, .int .i64 ln, .int .i64 lc]] w2 fun e w' => e = .returned (.bool (fitsF (whoI s) ⟨lr, ln, lc⟩)) ∧ Below w2.heap.size w2 w') := ⟨fun w2 mb n2 M2 h1 h2 => fits_any w2 mb n2 M2 (hasI s) (whoI s) ⟨lr, ln, lc⟩ h1 h2 HWO.out H64.out⟩
  unfold TkPost2
  clear hW hbk hb h hz h64 hck HWO H64 hok
  cases hfit : fitsF (whoI s) ⟨lr, ln, lc⟩
  · rw [hfit] at HFT
    clear hfit
    go_enter Try.func18, Try.ntmps18
    go_wp2_with (first | (go_at_call 9; rw [HW.out]; refine Calls.mono HK.out ?_; rintro e w1 ⟨rfl, hz1⟩; clear HK HW))
    go_region_held3 (fun Y => Y.cell? ⟨w.heap.size, 0, none⟩ = some (.int .i64 lr) ∧ Y.cell? ⟨w.heap.size, 1, none⟩ = some (.int .i64 ln) ∧ Y.cell? ⟨w.heap.size, 2, none⟩ = some (.int .i64 lc))
      (first | exact HC.out _ hz3 | exact HC.out _ hz2 | exact HC.out _ hz1 | exact HC.out _ hz1.drew)
      (first
        | (go_at_call 37; refine Calls.mono (HI.out _ hz1.drew) ?_; rintro e w2 ⟨mb, n2, M2, rfl, hm2, hv2, _, _, hb2⟩; have hz2 : Below W.heap.size W w2 := hz1.drew.trans (hb2.mono hz1.size); have HM2 : Bx (MpI w2 mb n2 zV M2 (hasI s) ∧ WhoV w2 (whoI s) M2) := ⟨hm2, hv2⟩; clear hb2 hm2 hv2)
        | (go_at_call 36; refine Calls.mono (HFT.out w2 mb n2 M2 HM2.out.1 HM2.out.2) ?_; rintro e w3 ⟨rfl, hb3⟩; have hz3 : Below W.heap.size W w3 := hz2.trans (hb3.mono hz2.size); clear hb3))
    all_goals
      go_wp2
      go_ret2
      exact ⟨HB.out.trans (hz3.mono HB.out.size), .inl ⟨trivial, rfl⟩⟩
  · rw [hfit] at HFT
    clear hfit
    go_enter Try.func18, Try.ntmps18
    go_wp2_with (first | (go_at_call 9; rw [HW.out]; refine Calls.mono HK.out ?_; rintro e w1 ⟨rfl, hz1⟩; clear HK HW))
    go_region_held3 (fun Y => Y.cell? ⟨w.heap.size, 0, none⟩ = some (.int .i64 lr) ∧ Y.cell? ⟨w.heap.size, 1, none⟩ = some (.int .i64 ln) ∧ Y.cell? ⟨w.heap.size, 2, none⟩ = some (.int .i64 lc))
      (first | exact HC.out _ hz3 | exact HC.out _ hz2 | exact HC.out _ hz1 | exact HC.out _ hz1.drew)
      (first
        | (go_at_call 37; refine Calls.mono (HI.out _ hz1.drew) ?_; rintro e w2 ⟨mb, n2, M2, rfl, hm2, hv2, _, _, hb2⟩; have hz2 : Below W.heap.size W w2 := hz1.drew.trans (hb2.mono hz1.size); have HM2 : Bx (MpI w2 mb n2 zV M2 (hasI s) ∧ WhoV w2 (whoI s) M2) := ⟨hm2, hv2⟩; clear hb2 hm2 hv2)
        | (go_at_call 36; refine Calls.mono (HFT.out w2 mb n2 M2 HM2.out.1 HM2.out.2) ?_; rintro e w3 ⟨rfl, hb3⟩; have hz3 : Below W.heap.size W w3 := hz2.trans (hb3.mono hz2.size); clear hb3))
    have hb3 : Below w.heap.size w w3 := HB.out.trans (hz3.mono HB.out.size)
    have HB3 : Bx (Below w.heap.size w w3 ∧ w3.heap[w.heap.size]? = some (.cells #[.int .i64 lr, .int .i64 ln, .int .i64 lc] 24 (0, 0))) := ⟨hb3, HBK.out _ hz3⟩
    have hb3s := hb3.size
    clear hb3 hz3 hz2 hz1 HM2 HFT HI HC HBK HB
    have mk1 : i0.bytes * s.length ≤ 281474976710656 := by rw [iz2]; omega
    have mk2 : s.length ≤ maxLen := by unfold maxLen; omega
    have H4 : Bx (∀ w4 : World, w4.ownsRow w.heap.size 53 4 (.slice (some ⟨w3.heap.size, 0, none⟩) 0 s.length) 0 [] → w3.grownBy w4 none → OutR w w3 w4 (.slice (some ⟨w3.heap.size, 0, none⟩) 0 s.length) [] 0) := ⟨fun w4 hown4 hgr4 => ⟨[], rfl, hown4, ⟨rfl, (fun g hg => by cases hg), List.nodup_nil⟩, HB3.out.1.grown hgr4 hb3s (fun r e => by cases e), ⟨hgr4.size, fun b o h1 _ => (hgr4.block b (Array.getElem?_eq_some_iff.1 h1).1 (fun e => by cases e)).trans h1⟩⟩⟩
    go_wp2_with (first | (at_make; refine wpList_make_own _ rfl (.const (.int .i64 0)) (.tmp 21) 22 rfl w.heap.size 53 i0 (.agg #[.int .i64 0, .bool false, .slice none 0 0, .slice none 0 0]) 4 Try.underlying22 hi iz0 iz1 .i64 .i64 s.length s.length rfl rfl rfl mk1 mk2 hb3s ?_; intro w4 hown4 hgr4; have R4 : Bx _ := ⟨H4.out w4 hown4 hgr4⟩; clear hown4 hgr4))
    clear H4 mk1 mk2
    go_loopg [7, 25] (s.length + 1) (fun g v7 v25 wr => ∃ i : Nat, g = s.length + 1 - i ∧ i ≤ s.length ∧ v25 = .int .i64 i ∧ Bx (OutR w w3 wr v7 ((s.take i).map (tkA ⟨lr, ln, lc⟩)) i))
    case atStart => exact ⟨0, by simp, by omega, rfl, ⟨by simpa using R4.out⟩⟩
    case round =>
      obtain ⟨i, hg, hil, rfl, HR⟩ := hrel
      clear R4
      by_cases hlt : i < s.length
      · obtain ⟨cs, hlen, hown, hagc, hbw, hka⟩ := HR.out
        obtain ⟨b, o, ap, ac, hp, hc, rfl, hA, hcl⟩ := HS.out.at_ i hlt
        obtain ⟨c0, c1, c2, c3⟩ := hcl wr hbw
        have hkb := hka.cells HB3.out.2 (by decide)
        have hbx : w.heap.size < wr.heap.size := (Array.getElem?_eq_some_iff.1 hkb).1
        have HTK : Bx ((s.take (i + 1)).map (tkA ⟨lr, ln, lc⟩) = (s.take i).map (tkA ⟨lr, ln, lc⟩) ++ [tkA ⟨lr, ln, lc⟩ s[i]]) := ⟨by rw [List.take_succ_eq_append_getElem hlt, List.map_append]; rfl⟩
        have hfi := (HZ.out s[i] (List.getElem_mem hlt))
        have HAG : Bx (AgR w s[i] ap ac hp hc) := ⟨hA⟩
        have HFE : Bx (s[i].held.length ≤ 2147483647 ∧ s[i].arms.length ≤ 2147483647) := ⟨hfi⟩
        have HCS : Bx (wr.ownsRow w.heap.size 53 4 u7 i cs ∧ AgC2 wr w.heap.size ((s.take i).map (tkA ⟨lr, ln, lc⟩)) cs ∧ Below w.heap.size w wr ∧ KA w3 wr ∧ ((s.take i).map (tkA ⟨lr, ln, lc⟩)).length = i) := ⟨hown, hagc, hbw, hka, hlen⟩
        have z0 : (wr.alloc (.cells #[.int .i64 s[i].id, .bool s[i].awake, .slice ap s[i].arms.length ac, .slice hp s[i].held.length hc] 53)).cell? ⟨w.heap.size, 0, none⟩ = some (.int .i64 lr) := cell_of (((below1 wr _).block _ hbx).trans hkb) rfl
        have z1 : (wr.alloc (.cells #[.int .i64 s[i].id, .bool s[i].awake, .slice ap s[i].arms.length ac, .slice hp s[i].held.length hc] 53)).cell? ⟨w.heap.size, 1, none⟩ = some (.int .i64 ln) := cell_of (((below1 wr _).block _ hbx).trans hkb) rfl
        clear hcl hA hfi hown hagc hbw hka hkb HR
        generalize s[i] = a at *
        obtain ⟨gs, hgs⟩ : ∃ gs, (s.take i).map (tkA ⟨lr, ln, lc⟩) = gs := ⟨_, rfl⟩
        rw [hgs] at HTK HCS
        clear hgs hlen
        have H3 : (a.id == lr) = true ∨ ((a.id == lr) = false ∧ (a.id == ln) = true) ∨ ((a.id == lr) = false ∧ (a.id == ln) = false) := by
          cases (a.id == lr) <;> cases (a.id == ln) <;> simp
        rcases H3 with g1 | ⟨g1, g2⟩ | ⟨g1, g2⟩
        · have HT : Bx (tkA ⟨lr, ln, lc⟩ a = ⟨a.id, true, [], a.held⟩) := ⟨by simp at g1; unfold tkA; simp [g1]⟩
          have HA2 : Bx (AgR w (⟨a.id, true, [], a.held⟩ : Ag) none 0 hp hc ∧ a.held.length ≤ 2147483647 ∧ (0 : Nat) ≤ 2147483647) := ⟨⟨HAG.out.id, ⟨Nat.le_refl _, by simp [maxLen], fun i hi => by simp at hi⟩, HAG.out.held⟩, HFE.out.1, Nat.zero_le _⟩
          go_wp2
          obtain ⟨Y, hY⟩ : ∃ Y, wr.alloc (.cells #[.int .i64 a.id, .bool true, .slice none 0 0, .slice hp a.held.length hc] 53) = Y := ⟨_, rfl⟩
          have HY := tk_prep (a2 := (⟨a.id, true, [], a.held⟩ : Ag)) (ap := none) (ac := 0) (hp := hp) (hc := hc) HCS.out.2.2.1 hbx HA2.out hY
          have HG : Bx (∀ Z, Below Y.heap.size Y Z → Z.cell? ⟨wr.heap.size, 2, none⟩ = some (.slice none 0 0) ∧ Z.cell? ⟨wr.heap.size, 3, none⟩ = some (.slice hp a.held.length hc)) := ⟨fun Z hZ => ⟨cell_of (HY.out.2.1 Z hZ) rfl, cell_of (HY.out.2.1 Z hZ) rfl⟩⟩
          have HFH : Bx (∀ X, Below Y.heap.size Y X → Calls Try.prog 48 #[.slice none 0 0] X fun e w' => ∃ p' c', e = .returned (.slice p' 0 c') ∧ w'.ownsRow X.heap.size 58 2 (.slice p' 0 c') 0 (hdsC ((⟨a.id, true, [], a.held⟩ : Ag)).arms) ∧ Below X.heap.size X w') := ⟨HY.out.2.2.1⟩
          have HFI : Bx (∀ X, Below Y.heap.size Y X → Calls Try.prog 49 #[.slice hp a.held.length hc] X fun e w' => ∃ p' c', e = .returned (.slice p' a.held.length c') ∧ w'.ownsRow X.heap.size 3 1 (.slice p' a.held.length c') a.held.length (rowC a.held) ∧ Below X.heap.size X w') := ⟨HY.out.2.2.2⟩
          have HBY : Bx (w.heap.size ≤ Y.heap.size ∧ wr.heap.size ≤ Y.heap.size) := ⟨Nat.le_trans (Nat.le_of_lt hbx) HY.out.1.size, HY.out.1.size⟩
          rw [hY]
          clear hY z0 z1
          obtain ⟨y2, y3⟩ := HG.out Y (Below.refl _ _)
          go_region_with
            (first
              | (go_at_call 48; refine Calls.mono (HFH.out _ ((Below.refl _ _).drew)) ?_; rintro e w5 ⟨p5, c5, rfl, o5, hb5⟩; have hz5 : Below Y.heap.size Y w5 := ((Below.refl _ _).drew).trans hb5; have O5 : Bx _ := ⟨o5⟩; have x3 := (HG.out _ hz5).2; clear hb5 o5)
              | (go_at_call 49; refine Calls.mono (HFI.out _ hz5) ?_; rintro e w6 ⟨p6, c6, rfl, o6, hb6⟩; have hz6 : Below Y.heap.size Y w6 := hz5.trans (hb6.mono hz5.size); have O6 : Bx (w6.ownsRow w5.heap.size 3 1 (.slice p6 a.held.length c6) a.held.length (rowC a.held) ∧ Below w5.heap.size w5 w6) := ⟨o6, hb6⟩; have e6 := HY.out.2.1 w6 hz6; have E6 : Bx _ := ⟨e6⟩; have k0 : w6.cell? ⟨wr.heap.size, 0, none⟩ = some (.int .i64 a.id) := cell_of e6 rfl; have k1 : w6.cell? ⟨wr.heap.size, 1, none⟩ = some (.bool true) := cell_of e6 rfl; have k2 : w6.cell? ⟨wr.heap.size, 2, none⟩ = some (.slice none 0 0) := cell_of e6 rfl; have k3 : w6.cell? ⟨wr.heap.size, 3, none⟩ = some (.slice hp a.held.length hc) := cell_of e6 rfl; have f2 : w6.frozen? ⟨wr.heap.size, 2, none⟩ = false := (by simp [World.frozen?, e6]); have f3 : w6.frozen? ⟨wr.heap.size, 3, none⟩ = false := (by simp [World.frozen?, e6]); have hq : wr.heap.size < w6.heap.size := (Array.getElem?_eq_some_iff.1 e6).1; clear hb6 o6 e6))
          all_goals
            have HV := tk_own (a2 := (⟨a.id, true, [], a.held⟩ : Ag)) HCS.out.1 HY.out.1 hz6 (p5 := p5) (c5 := c5) (p6 := p6) (c6 := c6) (Nat.le_of_lt hbx)
            have HX : Bx (∀ g cap w9, _ → _ → OutR w w3 w9 (.slice (some ⟨g, 0, none⟩) (i + 1) cap) (gs ++ [(⟨a.id, true, [], a.held⟩ : Ag)]) (i + 1)) := ⟨fun g cap w9 hown9 hgr9 => tk_fin HCS.out HA2.out HY.out.1 HY.out.2.1 hz5 O5.out HBY.out O6.out (g := g) (cap := cap) (w9 := w9) hown9 hgr9⟩
            clear O5 O6 HY HG HFH HFI hz5 hz6
            go_wp2_with (first | (at_builtin; refine wpList_app _ rfl (.tmp 51) (.tmp 53) 22 rfl w.heap.size 53 i0 (.agg #[.int .i64 0, .bool false, .slice none 0 0, .slice none 0 0]) 4 64 Try.underlying22 hi iz0 iz1 iz2 rfl (by decide) u7 i cs rfl HV.out.1 ⟨w6.heap.size, 0, none⟩ 1 1 [.int .i64 a.id, .bool true, .slice p5 0 c5, .slice p6 a.held.length c6] rfl rfl HV.out.2.1 (by simp [Value.oneCell']) (by decide) (by unfold maxLen; omega) (by omega) HV.out.2.2 (w6.heap.size + 1) (by simp) ?_; intro gg gcap w9 hown9 hgrow9 hgi9 hgl9; have HN : Bx _ := ⟨HX.out gg gcap w9 hown9 hgrow9⟩; clear hown9 hgrow9 hgi9))
            go_roundg (s.length + 1 - (i + 1))
            case measure => omega
            case rel => exact ⟨i + 1, rfl, by omega, by simp, ⟨by rw [HTK.out, HT.out]; exact HN.out⟩⟩

        · have HT : Bx (tkA ⟨lr, ln, lc⟩ a = ⟨a.id, true, [], a.held⟩) := ⟨by simp at g2; unfold tkA; simp [g2]⟩
          have HA2 : Bx (AgR w (⟨a.id, true, [], a.held⟩ : Ag) none 0 hp hc ∧ a.held.length ≤ 2147483647 ∧ (0 : Nat) ≤ 2147483647) := ⟨⟨HAG.out.id, ⟨Nat.le_refl _, by simp [maxLen], fun i hi => by simp at hi⟩, HAG.out.held⟩, HFE.out.1, Nat.zero_le _⟩
          go_wp2
          obtain ⟨Y, hY⟩ : ∃ Y, wr.alloc (.cells #[.int .i64 a.id, .bool true, .slice none 0 0, .slice hp a.held.length hc] 53) = Y := ⟨_, rfl⟩
          have HY := tk_prep (a2 := (⟨a.id, true, [], a.held⟩ : Ag)) (ap := none) (ac := 0) (hp := hp) (hc := hc) HCS.out.2.2.1 hbx HA2.out hY
          have HG : Bx (∀ Z, Below Y.heap.size Y Z → Z.cell? ⟨wr.heap.size, 2, none⟩ = some (.slice none 0 0) ∧ Z.cell? ⟨wr.heap.size, 3, none⟩ = some (.slice hp a.held.length hc)) := ⟨fun Z hZ => ⟨cell_of (HY.out.2.1 Z hZ) rfl, cell_of (HY.out.2.1 Z hZ) rfl⟩⟩
          have HFH : Bx (∀ X, Below Y.heap.size Y X → Calls Try.prog 48 #[.slice none 0 0] X fun e w' => ∃ p' c', e = .returned (.slice p' 0 c') ∧ w'.ownsRow X.heap.size 58 2 (.slice p' 0 c') 0 (hdsC ((⟨a.id, true, [], a.held⟩ : Ag)).arms) ∧ Below X.heap.size X w') := ⟨HY.out.2.2.1⟩
          have HFI : Bx (∀ X, Below Y.heap.size Y X → Calls Try.prog 49 #[.slice hp a.held.length hc] X fun e w' => ∃ p' c', e = .returned (.slice p' a.held.length c') ∧ w'.ownsRow X.heap.size 3 1 (.slice p' a.held.length c') a.held.length (rowC a.held) ∧ Below X.heap.size X w') := ⟨HY.out.2.2.2⟩
          have HBY : Bx (w.heap.size ≤ Y.heap.size ∧ wr.heap.size ≤ Y.heap.size) := ⟨Nat.le_trans (Nat.le_of_lt hbx) HY.out.1.size, HY.out.1.size⟩
          rw [hY]
          clear hY z0 z1
          obtain ⟨y2, y3⟩ := HG.out Y (Below.refl _ _)
          go_region_with
            (first
              | (go_at_call 48; refine Calls.mono (HFH.out _ ((Below.refl _ _).drew)) ?_; rintro e w5 ⟨p5, c5, rfl, o5, hb5⟩; have hz5 : Below Y.heap.size Y w5 := ((Below.refl _ _).drew).trans hb5; have O5 : Bx _ := ⟨o5⟩; have x3 := (HG.out _ hz5).2; clear hb5 o5)
              | (go_at_call 49; refine Calls.mono (HFI.out _ hz5) ?_; rintro e w6 ⟨p6, c6, rfl, o6, hb6⟩; have hz6 : Below Y.heap.size Y w6 := hz5.trans (hb6.mono hz5.size); have O6 : Bx (w6.ownsRow w5.heap.size 3 1 (.slice p6 a.held.length c6) a.held.length (rowC a.held) ∧ Below w5.heap.size w5 w6) := ⟨o6, hb6⟩; have e6 := HY.out.2.1 w6 hz6; have E6 : Bx _ := ⟨e6⟩; have k0 : w6.cell? ⟨wr.heap.size, 0, none⟩ = some (.int .i64 a.id) := cell_of e6 rfl; have k1 : w6.cell? ⟨wr.heap.size, 1, none⟩ = some (.bool true) := cell_of e6 rfl; have k2 : w6.cell? ⟨wr.heap.size, 2, none⟩ = some (.slice none 0 0) := cell_of e6 rfl; have k3 : w6.cell? ⟨wr.heap.size, 3, none⟩ = some (.slice hp a.held.length hc) := cell_of e6 rfl; have f2 : w6.frozen? ⟨wr.heap.size, 2, none⟩ = false := (by simp [World.frozen?, e6]); have f3 : w6.frozen? ⟨wr.heap.size, 3, none⟩ = false := (by simp [World.frozen?, e6]); have hq : wr.heap.size < w6.heap.size := (Array.getElem?_eq_some_iff.1 e6).1; clear hb6 o6 e6))
          all_goals
            have HV := tk_own (a2 := (⟨a.id, true, [], a.held⟩ : Ag)) HCS.out.1 HY.out.1 hz6 (p5 := p5) (c5 := c5) (p6 := p6) (c6 := c6) (Nat.le_of_lt hbx)
            have HX : Bx (∀ g cap w9, _ → _ → OutR w w3 w9 (.slice (some ⟨g, 0, none⟩) (i + 1) cap) (gs ++ [(⟨a.id, true, [], a.held⟩ : Ag)]) (i + 1)) := ⟨fun g cap w9 hown9 hgr9 => tk_fin HCS.out HA2.out HY.out.1 HY.out.2.1 hz5 O5.out HBY.out O6.out (g := g) (cap := cap) (w9 := w9) hown9 hgr9⟩
            clear O5 O6 HY HG HFH HFI hz5 hz6
            go_wp2_with (first | (at_builtin; refine wpList_app _ rfl (.tmp 51) (.tmp 53) 22 rfl w.heap.size 53 i0 (.agg #[.int .i64 0, .bool false, .slice none 0 0, .slice none 0 0]) 4 64 Try.underlying22 hi iz0 iz1 iz2 rfl (by decide) u7 i cs rfl HV.out.1 ⟨w6.heap.size, 0, none⟩ 1 1 [.int .i64 a.id, .bool true, .slice p5 0 c5, .slice p6 a.held.length c6] rfl rfl HV.out.2.1 (by simp [Value.oneCell']) (by decide) (by unfold maxLen; omega) (by omega) HV.out.2.2 (w6.heap.size + 1) (by simp) ?_; intro gg gcap w9 hown9 hgrow9 hgi9 hgl9; have HN : Bx _ := ⟨HX.out gg gcap w9 hown9 hgrow9⟩; clear hown9 hgrow9 hgi9))
            go_roundg (s.length + 1 - (i + 1))
            case measure => omega
            case rel => exact ⟨i + 1, rfl, by omega, by simp, ⟨by rw [HTK.out, HT.out]; exact HN.out⟩⟩

        · have HT : Bx (tkA ⟨lr, ln, lc⟩ a = a) := ⟨by simp at g1 g2; unfold tkA; simp [g1, g2]⟩
          have HA2 : Bx (AgR w a ap ac hp hc ∧ a.held.length ≤ 2147483647 ∧ a.arms.length ≤ 2147483647) := ⟨HAG.out, HFE.out⟩
          go_wp2
          obtain ⟨Y, hY⟩ : ∃ Y, wr.alloc (.cells #[.int .i64 a.id, .bool a.awake, .slice ap a.arms.length ac, .slice hp a.held.length hc] 53) = Y := ⟨_, rfl⟩
          have HY := tk_prep (a2 := a) (ap := ap) (ac := ac) (hp := hp) (hc := hc) HCS.out.2.2.1 hbx HA2.out hY
          have HG : Bx (∀ Z, Below Y.heap.size Y Z → Z.cell? ⟨wr.heap.size, 2, none⟩ = some (.slice ap a.arms.length ac) ∧ Z.cell? ⟨wr.heap.size, 3, none⟩ = some (.slice hp a.held.length hc)) := ⟨fun Z hZ => ⟨cell_of (HY.out.2.1 Z hZ) rfl, cell_of (HY.out.2.1 Z hZ) rfl⟩⟩
          have HFH : Bx (∀ X, Below Y.heap.size Y X → Calls Try.prog 48 #[.slice ap a.arms.length ac] X fun e w' => ∃ p' c', e = .returned (.slice p' a.arms.length c') ∧ w'.ownsRow X.heap.size 58 2 (.slice p' a.arms.length c') a.arms.length (hdsC (a).arms) ∧ Below X.heap.size X w') := ⟨HY.out.2.2.1⟩
          have HFI : Bx (∀ X, Below Y.heap.size Y X → Calls Try.prog 49 #[.slice hp a.held.length hc] X fun e w' => ∃ p' c', e = .returned (.slice p' a.held.length c') ∧ w'.ownsRow X.heap.size 3 1 (.slice p' a.held.length c') a.held.length (rowC a.held) ∧ Below X.heap.size X w') := ⟨HY.out.2.2.2⟩
          have HBY : Bx (w.heap.size ≤ Y.heap.size ∧ wr.heap.size ≤ Y.heap.size) := ⟨Nat.le_trans (Nat.le_of_lt hbx) HY.out.1.size, HY.out.1.size⟩
          rw [hY]
          clear hY z0 z1
          obtain ⟨y2, y3⟩ := HG.out Y (Below.refl _ _)
          go_region_with
            (first
              | (go_at_call 48; refine Calls.mono (HFH.out _ ((Below.refl _ _).drew)) ?_; rintro e w5 ⟨p5, c5, rfl, o5, hb5⟩; have hz5 : Below Y.heap.size Y w5 := ((Below.refl _ _).drew).trans hb5; have O5 : Bx _ := ⟨o5⟩; have x3 := (HG.out _ hz5).2; clear hb5 o5)
              | (go_at_call 49; refine Calls.mono (HFI.out _ hz5) ?_; rintro e w6 ⟨p6, c6, rfl, o6, hb6⟩; have hz6 : Below Y.heap.size Y w6 := hz5.trans (hb6.mono hz5.size); have O6 : Bx (w6.ownsRow w5.heap.size 3 1 (.slice p6 a.held.length c6) a.held.length (rowC a.held) ∧ Below w5.heap.size w5 w6) := ⟨o6, hb6⟩; have e6 := HY.out.2.1 w6 hz6; have E6 : Bx _ := ⟨e6⟩; have k0 : w6.cell? ⟨wr.heap.size, 0, none⟩ = some (.int .i64 a.id) := cell_of e6 rfl; have k1 : w6.cell? ⟨wr.heap.size, 1, none⟩ = some (.bool a.awake) := cell_of e6 rfl; have k2 : w6.cell? ⟨wr.heap.size, 2, none⟩ = some (.slice ap a.arms.length ac) := cell_of e6 rfl; have k3 : w6.cell? ⟨wr.heap.size, 3, none⟩ = some (.slice hp a.held.length hc) := cell_of e6 rfl; have f2 : w6.frozen? ⟨wr.heap.size, 2, none⟩ = false := (by simp [World.frozen?, e6]); have f3 : w6.frozen? ⟨wr.heap.size, 3, none⟩ = false := (by simp [World.frozen?, e6]); have hq : wr.heap.size < w6.heap.size := (Array.getElem?_eq_some_iff.1 e6).1; clear hb6 o6 e6))
          all_goals
            have HV := tk_own (a2 := a) HCS.out.1 HY.out.1 hz6 (p5 := p5) (c5 := c5) (p6 := p6) (c6 := c6) (Nat.le_of_lt hbx)
            have HX : Bx (∀ g cap w9, _ → _ → OutR w w3 w9 (.slice (some ⟨g, 0, none⟩) (i + 1) cap) (gs ++ [a]) (i + 1)) := ⟨fun g cap w9 hown9 hgr9 => tk_fin HCS.out HA2.out HY.out.1 HY.out.2.1 hz5 O5.out HBY.out O6.out (g := g) (cap := cap) (w9 := w9) hown9 hgr9⟩
            clear O5 O6 HY HG HFH HFI hz5 hz6
            go_wp2_with (first | (at_builtin; refine wpList_app _ rfl (.tmp 51) (.tmp 53) 22 rfl w.heap.size 53 i0 (.agg #[.int .i64 0, .bool false, .slice none 0 0, .slice none 0 0]) 4 64 Try.underlying22 hi iz0 iz1 iz2 rfl (by decide) u7 i cs rfl HV.out.1 ⟨w6.heap.size, 0, none⟩ 1 1 [.int .i64 a.id, .bool a.awake, .slice p5 a.arms.length c5, .slice p6 a.held.length c6] rfl rfl HV.out.2.1 (by simp [Value.oneCell']) (by decide) (by unfold maxLen; omega) (by omega) HV.out.2.2 (w6.heap.size + 1) (by simp) ?_; intro gg gcap w9 hown9 hgrow9 hgi9 hgl9; have HN : Bx _ := ⟨HX.out gg gcap w9 hown9 hgrow9⟩; clear hown9 hgrow9 hgi9))
            go_roundg (s.length + 1 - (i + 1))
            case measure => omega
            case rel => exact ⟨i + 1, rfl, by omega, by simp, ⟨by rw [HTK.out, HT.out]; exact HN.out⟩⟩

      · have hie : i = s.length := by omega
        subst hie
        obtain ⟨cs, hlen, hown, hagc, hbw, hka⟩ := HR.out
        rw [List.take_length] at hagc
        have HF : Bx _ := ⟨hown⟩
        have HF2 : Bx _ := ⟨hagc⟩
        have HF3 : Bx _ := ⟨hbw⟩
        clear HR hown hagc hbw hka hlen
        go_wp2
        go_ret2
        exact ⟨HF3.out, .inr ⟨trivial, _, cs, rfl, HF.out, HF2.out⟩⟩
/-- Take, of a state that may be -/
theorem Take_yes (w : World) (p : Option Addr) (c : Nat) (s : List Ag) (l : Lk) (h : AgsR w p c s) (hz : Few s) (h64 : Lk64 l) (hok : stOk s = true) :
    Calls Try.prog 18 #[.slice p s.length c, lkV l] w (TkPost w s l) := by
  refine (Take_two w p c s l h hz h64 hok).mono ?_
  rintro e w' ⟨hb, h | ⟨h1, v, cs, h2, h3, h4⟩⟩
  · exact ⟨hb, .inl h⟩
  · exact ⟨hb, .inr ⟨h1, v, cs, h2, h3, h4.1⟩⟩
end Go.Proofs.Ytjabdhmkibahlaa
