import Derived.Test.YteinpijbdgcehaaCOQa
namespace Go.Proofs.Yteinpijbdgcehaa
open Go.RowKit Go.Shelf
set_option linter.unusedVariables false
set_option linter.unusedSimpArgs false
attribute [local go_sem] Oper.semAt_some

set_option maxRecDepth 100000 in
set_option maxHeartbeats 8000000 in
theorem Pairs_in (n : Nat) (hn : 12 ≤ n) (w : World) (Pr : Nat → Prop) (hPr : ∀ b, Pr b → ∃ o : Obj, w.heap[b]? = some o ∧ o.isCells = true) (p : Option Addr) (c : Nat) (l : List OWt) (hl : WsIn w Pr p c l) (hsm : (opairs l).length ≤ 20000000) (hsr : (spotsP prR l).length ≤ 1000000) :
    CallsIn Fence.wide n Try.prog 10 #[.slice p l.length c] w (PrPost w (opairs l)) := by
  obtain ⟨i0, hi, iz0, iz1, iz2⟩ := info_parts infoP
  obtain ⟨A, hA⟩ : ∃ A, w.heap.size = A := ⟨_, rfl⟩
  have hb1 : Below w.heap.size w (w.alloc (.cells #[.slice none 0 0] 33)) := below1 _ _
  have h10 : (w.alloc (.cells #[.slice none 0 0] 33)).heap[A]? = some (.cells #[.slice none 0 0] 33) := by rw [← hA]; exact World.alloc_heap_new _ _
  have hk1 : Kpt Pr w (w.alloc (.cells #[.slice none 0 0] 33)) := Kpt.of_below hPr hb1
  have hrc := receivers_in (n - 1) (by omega) (w.alloc (.cells #[.slice none 0 0] 33)) Pr (fun b hb => by obtain ⟨o, h1, h2⟩ := hPr b hb; exact ⟨o, (hk1 b hb).trans h1, h2⟩) p c l (hl.keep hk1) hsr
  refine callsIn_of_wp_marks Try.func10 rfl trivial ?_ rfl
  simp only [Try.ntmps10, List.size_toArray, List.length_cons, List.length_nil, Nat.reduceAdd, Nat.reduceSub, Array.replicate_succ, Array.replicate_zero, List.push_toArray, List.append_toArray, List.nil_append, List.cons_append]
  gi_wp2
  refine ⟨trivial, fun _ => by omega, ?_⟩
  refine hrc.mono ?_
  clear hrc
  rintro e w2 ⟨mb, own, M, gs, rfl, hR, hb2⟩
  gi_wp2
  refine ⟨trivial, fun _ => by omega, ?_⟩
  refine (spots_in (n - 1) _ _ _ _ _ _).mono ?_
  rintro e w' ⟨rfl, rfl⟩
  gi_wp2
  obtain ⟨A2, hA2⟩ : ∃ A2, w2.heap.size = A2 := ⟨_, rfl⟩
  obtain ⟨W3, hW3⟩ : ∃ W3, (((w2.alloc (.cells #[.map (some mb)] 51)).alloc (.cells #[.slice p l.length c] 22)).alloc (.cells #[.func (.func 24) #[] #[]] 56)) = W3 := ⟨_, rfl⟩
  have hb3 : Below w2.heap.size w2 W3 := by rw [← hW3]; exact (two_new _ _ _).trans ((below1 _ _).mono (by simp; omega))
  have hz3 : W3.heap.size = A2 + 3 := by rw [← hW3]; simp [hA2]
  have hz1 : A + 1 ≤ A2 := by have := hb2.size; simp at this; omega
  have h30 : W3.heap[A2]? = some (.cells #[.map (some mb)] 51) := by
    rw [← hW3, ← hA2]; exact (Below.heap_alloc _ _ _ (by simp; omega)).trans ((Below.heap_alloc _ _ _ (by simp)).trans (World.alloc_heap_new _ _))
  have h31 : W3.heap[A2 + 1]? = some (.cells #[.slice p l.length c] 22) := by
    rw [← hW3, ← hA2]; exact (Below.heap_alloc _ _ _ (by simp)).trans (alloc_at _ _ _)
  have h32 : W3.heap[A2 + 2]? = some (.cells #[.func (.func 24) #[] #[]] 56) := by
    rw [← hW3, ← hA2]
    have := alloc_at (w2.alloc (.cells #[.map (some mb)] 51)) (.cells #[.slice p l.length c] 22) (.cells #[.func (.func 24) #[] #[]] 56)
    simpa using this
  have h3A : W3.heap[A]? = some (.cells #[.slice none 0 0] 33) := (hb3.block _ (by omega)).trans ((hb2.block _ (by simp; omega)).trans h10)
  have hbw : Below A w W3 := by
    have e1 : Below A w w2 := by rw [← hA]; exact hb1.trans (hb2.mono (by simp))
    exact e1.trans (hb3.mono (by omega))
  have hk3 : Kpt Pr w W3 := Kpt.of_below hPr (by rw [hA]; exact hbw)
  have hR3 : RcI W3 (A + 1) mb (spotsP prR l).length (spotsP prR l) own M gs := by
    have hbs : (w.alloc (.cells #[.slice none 0 0] 33)).heap.size = A + 1 := by simp [hA]
    rw [hbs] at hR
    exact ⟨hR.rows.grown (grown_below hb3) (fun r e => by cases e), hR.map.kept (grown_below hb3) (fun r e => by cases e), hR.flat, hR.len, hR.plen, hR.ne⟩
  have hown3 : ∀ b, own b ≠ none → b < A2 + 3 ∧ b ≠ A := fun b hb => by
    obtain ⟨o, h1, h2⟩ := hR3.rows.cel b hb
    have := hR3.rows.low b hb
    exact ⟨by rw [← hz3]; exact (Array.getElem?_eq_some_iff.1 h1).1, by omega⟩
  have hmb : mb < A2 + 3 ∧ mb ≠ A := by
    obtain ⟨o, h1, h2⟩ := hR3.map.obj
    refine ⟨by rw [← hz3]; exact (Array.getElem?_eq_some_iff.1 h1).1, fun e => ?_⟩
    rw [e, h3A] at h1
    cases h1
    cases h2
  obtain ⟨Pr2, hPr2⟩ : ∃ Pr2 : Nat → Prop, Pr2 = fun b => Pr b ∨ b = A2 + 1 ∨ b = A2 + 2 := ⟨_, rfl⟩
  have hP2 : ∀ b, Pr2 b → ∃ o : Obj, W3.heap[b]? = some o ∧ o.isCells = true := fun b hb => by
    rw [hPr2] at hb
    rcases hb with hb | rfl | rfl
    · obtain ⟨o, h1, h2⟩ := hPr b hb
      exact ⟨o, (hk3 b hb).trans h1, h2⟩
    · exact ⟨_, h31, rfl⟩
    · exact ⟨_, h32, rfl⟩
  have hin : ∀ b, Pr b → Pr2 b := fun b hb => by rw [hPr2]; exact .inl hb
  have hG0 : ∀ b, b = A → ¬ Pr2 b := by
    rintro b rfl h
    rw [hPr2] at h
    rcases h with h | h | h
    · obtain ⟨o, h1, _⟩ := hPr b h
      have := (Array.getElem?_eq_some_iff.1 h1).1
      omega
    · omega
    · omega
  have hseq := spots1_in (n - 1) (by omega) W3 Pr2 hP2 (A2 + 1) (A2 + 2) p c l 24 #[] prS h31 h32 (by rw [hPr2]; simp) (by rw [hPr2]; simp) ((hl.keep hk3).mono hin) (enters_of Try.func24 (by kernel_rfl) rfl)
    (fun a W _ => by simpa using sends_any a W)
  rw [hW3, hA2]
  have HA : Bx (w.heap.size = A) := ⟨hA⟩
  have HBW : Bx (Below A w W3) := ⟨hbw⟩
  have HN64 : Bx (∀ t ∈ spotsP prS l, I64 t.2.2) := ⟨spots_n64 hl prS⟩
  obtain ⟨rs, hrs⟩ : ∃ rs, spotsP prR l = rs := ⟨_, rfl⟩
  rw [hrs] at hR3
  obtain ⟨ts, hts⟩ : ∃ ts, spotsP prS l = ts := ⟨_, rfl⟩
  have HO : Bx (opairs l = ts.flatMap (pf rs)) := ⟨by rw [opairs_flat, hts, hrs]⟩
  have HX : Bx (spX prS l = ts.map fun t => #[spV t.1 t.2.1 t.2.2]) := ⟨by rw [spX_map, hts]⟩
  rw [hts] at HN64
  have HLN : Bx ((ts.flatMap (pf rs)).length ≤ 20000000) := ⟨by rw [← HO.out]; exact hsm⟩
  have HR3 : Bx _ := ⟨hR3⟩
  have HOWN : Bx _ := ⟨hown3⟩
  have HMB : Bx _ := ⟨hmb⟩
  have H30 : Bx _ := ⟨h30⟩
  have hI := OutP.abi (A := A) (B := A2 + 3) (hi := W3.heap.size) (w := w) (by omega) (by omega) (fun k => (ts.take k).flatMap (pf rs)) (fun W => ∀ b, b < A2 + 3 → b ≠ A → W.heap[b]? = W3.heap[b]?) (fun X Y row hX hg hr b h1 h2 => by
    rw [← hX b h1 h2]
    have h3 : b < X.heap.size := by
      have := hX b h1 h2
      rw [Array.getElem?_eq_getElem (show b < W3.heap.size by omega)] at this
      exact (Array.getElem?_eq_some_iff.1 this).1
    exact hg.block b h3 (fun e => by have := hr b e.symm; omega))
  clear hA hA2 hts hrs hk3 hb3 hb2 hb1 hk1 h10 hbw hW3 h31 h32 hl hsm hsr hR hR3 hown3 hmb h30
  simp only [Nat.add_assoc, Nat.reduceAdd]
  refine rangeT rfl (by omega) (gf := 32) (lb := #[.pointer (some ⟨A2 + 1, 0, none⟩), .pointer (some ⟨A2 + 2, 0, none⟩)]) rfl trivial (enters_of Try.func32 (by kernel_rfl) rfl) hseq ?hps
    (fun k G W => OutP A (A2 + 3) G W ((ts.take k).flatMap (pf rs)) ∧ Below A w W ∧ ∀ b, b < A2 + 3 → b ≠ A → W.heap[b]? = W3.heap[b]?) (fun b => b = A) hI hG0 ⟨⟨_, h3A, ⟨rfl, .inl ⟨rfl, rfl⟩⟩, fun b => ⟨.inl, fun h => h.elim id (fun h => by cases h)⟩⟩, HBW.out, fun _ _ _ => rfl⟩
    (fun k G x a' W => ∃ (tb : Nat) (t : Int × Nat × Int), ts[k]? = some t ∧ W.heap[tb]? = some (.cells #[.int .i64 t.1, .int .i64 t.2.1, .int .i64 t.2.2] 58) ∧ A2 + 3 ≤ tb ∧ ¬ G tb ∧
      a' = { tmps := #[.slice p l.length c, undef, .slice none 0 0, .pointer (some ⟨A, 0, none⟩), .pointer (some ⟨A2, 0, none⟩), .pointer (some ⟨tb, 0, none⟩), undef, undef, undef, undef, undef, .slice p l.length c, .map (some mb), .slice p l.length c, .func (.func 32) #[] #[.pointer (some ⟨A2 + 1, 0, none⟩), .pointer (some ⟨A2 + 2, 0, none⟩)], spV t.1 t.2.1 t.2.2, undef, undef, undef, undef, undef, undef, undef, undef, undef, undef, undef, undef, undef, undef, undef, undef, undef, undef, undef, undef, undef, undef, undef, undef, undef, undef, undef, undef, undef, undef, undef], defers := [] })
    ?hAx ?assign ?body ?done
  case hps =>
    intro x hx
    rw [HX.out] at hx
    obtain ⟨t, _, rfl⟩ := List.mem_map.1 hx
    rfl
  case hAx =>
    rintro k G x a' s X Y row ⟨tb, t, e1, e2, e3⟩ hg hr
    exact ⟨tb, t, e1, grownBy_oth hg e2 (fun e => by obtain ⟨_, o, ho, hc⟩ := hr _ e; rw [e2] at ho; cases ho; cases hc), e3⟩
  case assign =>
    intro lp k x G W K hx hi2 hK
    rw [HX.out, List.getElem?_map] at hx
    obtain ⟨t, ht, rfl⟩ := Option.map_eq_some_iff.1 hx
    have HT : Bx _ := ⟨ht⟩
    have HI : Bx _ := ⟨hi2⟩
    have HNG : Bx (¬ G W.heap.size ∧ A2 + 3 ≤ W.heap.size) := ⟨fun hg => by obtain ⟨o, h1, _⟩ := hI.cells _ _ _ _ hi2 hg; have := (Array.getElem?_eq_some_iff.1 h1).1; omega, by
      have h1 := hi2.2.2 (A2 + 2) (by omega) (by omega)
      rw [Array.getElem?_eq_getElem (show A2 + 2 < W3.heap.size by omega)] at h1
      have := (Array.getElem?_eq_some_iff.1 h1).1
      omega⟩
    clear hi2 hx ht
    simp only [spV]
    gi_wp2
    exact hK _ _ (Sep.below (below1 _ _)) (hI.alloc _ HI.out) ⟨W.heap.size, t, HT.out, World.alloc_heap_new _ _, HNG.out.2, HNG.out.1, rfl⟩
  case body =>
    rintro lp k x a' G W hlp ⟨rr, hrr⟩ hx ⟨hOut, hBl, hRk⟩ ⟨tb, t, ht, htb, htl, htg, rfl⟩
    have c2 : W.cell? ⟨tb, 2, none⟩ = some (.int .i64 t.2.2) := cell_of htb rfl
    have g0 : W.cell? ⟨A2, 0, none⟩ = some (.map (some mb)) := cell_of ((hRk A2 (by omega) (by omega)).trans H30.out) rfl
    have hkl : k < ts.length := (List.getElem?_eq_some_iff.1 ht).1
    have h64 : I64 t.2.2 := HN64.out t (List.mem_of_getElem? ht)
    have hlk := (HR3.out.map.same (hRk mb HMB.out.1 HMB.out.2)).look h64
    obtain ⟨pm, cm, hMv, hMp, hMc, hMx⟩ := HR3.out.val t.2.2
    rw [hMv] at hlk
    have hgrp := HR3.out.grps t.2.2 hMv hMc hMx
    have hNW : A2 + 3 ≤ W.heap.size := by have := (Array.getElem?_eq_some_iff.1 htb).1; omega
    have HW : Bx (OutP A (A2 + 3) G W ((ts.take k).flatMap (pf rs)) ∧ Below A w W ∧ (∀ b, b < A2 + 3 → b ≠ A → W.heap[b]? = W3.heap[b]?) ∧ W.heap[tb]? = some (.cells #[.int .i64 t.1, .int .i64 t.2.1, .int .i64 t.2.2] 58) ∧ ts[k]? = some t ∧ GrpsIn W3 (fun b => own b ≠ none) pm cm (gs t.2.2) ∧ W.heap[lp]? = some (.loop rr)) := ⟨hOut, hBl, hRk, htb, ht, hgrp, hrr⟩
    clear hOut hBl hRk htb hMv hx ht hgrp hrr hMp hMc hMx
    gi_wp2
    refine ⟨trivial, fun _ => by omega, ?_⟩
    refine (CallsIn.inRound lp (thoseG_mk _ _ _ _ _ _ _)).mono ?_
    rintro e w' ⟨rfl, rfl⟩
    gi_wp2
    obtain ⟨nb, hnb⟩ : ∃ nb, W.heap.size = nb := ⟨_, rfl⟩
    obtain ⟨WL, hWL⟩ : ∃ WL, ((W.alloc (.cells #[.slice pm (gs t.2.2).length cm] 66)).alloc (.cells #[.func (.func 25) #[] #[.pointer (some ⟨tb, 0, none⟩)]] 62)) = WL := ⟨_, rfl⟩
    have hbL : Below W.heap.size W WL := by rw [← hWL]; exact two_new _ _ _
    have hzL : WL.heap.size = nb + 2 := by rw [← hWL]; simp [hnb]
    have hL0 : WL.heap[nb]? = some (.cells #[.slice pm (gs t.2.2).length cm] 66) := by
      rw [← hWL, ← hnb]; exact (Below.heap_alloc _ _ _ (by simp)).trans (World.alloc_heap_new _ _)
    have hL1 : WL.heap[nb + 1]? = some (.cells #[.func (.func 25) #[] #[.pointer (some ⟨tb, 0, none⟩)]] 62) := by
      rw [← hWL, ← hnb]; exact alloc_at _ _ _
    rw [hWL]
    have htW : tb < nb := by rw [← hnb]; exact (Array.getElem?_eq_some_iff.1 HW.out.2.2.2.1).1
    have htL : WL.heap[tb]? = some (.cells #[.int .i64 t.1, .int .i64 t.2.1, .int .i64 t.2.2] 58) := (hbL.block _ (by omega)).trans HW.out.2.2.2.1
    have hRL : ∀ b, b < A2 + 3 → b ≠ A → WL.heap[b]? = W3.heap[b]? := fun b h1 h2 => (hbL.block b (by omega)).trans (HW.out.2.2.1 b h1 h2)
    have hGL : ∀ b, G b → b = A ∨ A2 + 3 ≤ b ∧ b < nb := fun b hb => by
      obtain ⟨h1, o, h2, _⟩ := HW.out.1.cells hb
      have := (Array.getElem?_eq_some_iff.1 h2).1
      rcases h1 with h1 | h1
      · exact .inl h1
      · exact .inr ⟨h1, by omega⟩
    obtain ⟨PL, hPLd⟩ : ∃ PL : Nat → Prop, PL = fun b => own b ≠ none ∨ b = tb ∨ b = nb ∨ b = nb + 1 := ⟨_, rfl⟩
    have hPL : ∀ b, PL b → ∃ o : Obj, WL.heap[b]? = some o ∧ o.isCells = true := fun b hb => by
      rw [hPLd] at hb
      rcases hb with hb | rfl | rfl | rfl
      · obtain ⟨o, h1, h2⟩ := HR3.out.rows.cel b hb
        have := HOWN.out b hb
        exact ⟨o, (hRL b this.1 this.2).trans h1, h2⟩
      · exact ⟨_, htL, rfl⟩
      · exact ⟨_, hL0, rfl⟩
      · exact ⟨_, hL1, rfl⟩
    have hinL : ∀ b, own b ≠ none → PL b := fun b hb => by rw [hPLd]; exact .inl hb
    have hGP : ∀ b, G b → ¬ PL b := fun b hb h => by
      have h1 := hGL b hb
      rw [hPLd] at h
      rcases h with h | rfl | rfl | rfl
      · have := HOWN.out b h
        omega
      · exact htg hb
      · omega
      · omega
    have hgrL : GrpsIn WL (fun b => own b ≠ none) pm cm (gs t.2.2) := HW.out.2.2.2.2.2.1.keep (fun b hb => hRL b (HOWN.out b hb).1 (HOWN.out b hb).2)
    have hptb : PL tb := by rw [hPLd]; exact .inr (.inl rfl)
    have hseq2 := thoseG_in (n - 1 - 1 - 1) (by omega) WL PL hPL nb (nb + 1) pm cm (gs t.2.2) 25 #[.pointer (some ⟨tb, 0, none⟩)] (pid t.1) hL0 hL1 (by rw [hPLd]; simp) (by rw [hPLd]; simp) (hgrL.mono hinL) (enters_of Try.func25 (by kernel_rfl) rfl)
      (fun j hj X hX => by
        have h1 : X.heap[tb]? = some (.cells #[.int .i64 t.1, .int .i64 t.2.1, .int .i64 t.2.2] 58) := (hX tb hptb).trans htL
        have := another_any (gs t.2.2)[j] t.1 tb X (cell_of h1 rfl) (Array.getElem?_eq_some_iff.1 h1).1
        simpa using this)
    have hrL : WL.heap[lp]? = some (.loop rr) := (hbL.block _ (Array.getElem?_eq_some_iff.1 HW.out.2.2.2.2.2.2).1).trans HW.out.2.2.2.2.2.2
    have HLEN2 : Bx ((ts.take k).flatMap (pf rs) ++ ((gs t.2.2).filter (pid t.1)).flatMap (gp t) = (ts.take (k + 1)).flatMap (pf rs)) := ⟨by
      rw [gp_flat, HR3.out.flat, List.take_length, List.take_add_one, HW.out.2.2.2.2.1]
      simp [pf]⟩
    have HTOT : Bx (((ts.take k).flatMap (pf rs) ++ ((gs t.2.2).filter (pid t.1)).flatMap (gp t)).length ≤ 20000000) := ⟨by
      rw [HLEN2.out]
      exact Nat.le_trans (len_take_flat _ _ _) HLN.out⟩
    have HGL : Bx _ := ⟨hgrL⟩
    have HINL : Bx _ := ⟨hinL⟩
    have HTL : Bx _ := ⟨htL⟩
    have HSEP0 : Bx (Sep (A2 + 3) G G W WL) := ⟨Sep.below hbL⟩
    have HNB : Bx (W.heap.size = nb) := ⟨hnb⟩
    have hOL : OutP A (A2 + 3) G WL ((ts.take k).flatMap (pf rs)) := HW.out.1.grown (hi := 0) (grown_below hbL) (fun r e => by cases e)
    have hBL : Below A w WL := HW.out.2.1.trans (hbL.mono (by have := HW.out.2.1.size; have := HA.out; omega))
    rw [hnb]
    clear hnb hWL hL0 hL1 htL
    have hI2 : Abi WL.heap.size (fun k2 G' W' => OutP A (A2 + 3) G' W' ((ts.take k).flatMap (pf rs) ++ (((gs t.2.2).filter (pid t.1)).take k2).flatMap (gp t)) ∧ Below A w W' ∧ (∀ b, b < A2 + 3 → b ≠ A → W'.heap[b]? = W3.heap[b]?) ∧ Sep (A2 + 3) G G' WL W') := by
      refine ⟨fun s G' X Y row hs hg hr => ⟨hs.1.grown hg hr, hs.2.1.grown hg (by have := hs.2.1.size; have := HA.out; omega) (fun r e => by have := (hr r e).1; omega), fun b h1 h2 => ?_, hs.2.2.2.grown hg (fun r e => (hr r e).1)⟩, fun s G' X b hs hb => (hs.1.cells hb).2⟩
      rw [← hs.2.2.1 b h1 h2]
      have h3 : b < X.heap.size := by
        have := hs.2.2.1 b h1 h2
        rw [Array.getElem?_eq_getElem (show b < W3.heap.size by omega)] at this
        exact (Array.getElem?_eq_some_iff.1 this).1
      exact hg.block b h3 (fun e => by have := (hr b e.symm).1; omega)
    refine rangeN (l₀ := lp) (r₀ := rr) rfl hrL (by omega) (gf := 35) (lb := #[.pointer (some ⟨nb, 0, none⟩), .pointer (some ⟨nb + 1, 0, none⟩)]) rfl trivial (enters_of Try.func35 (by kernel_rfl) rfl) (hseq2.inRound lp) ?hps2
      (fun k2 G' W' => OutP A (A2 + 3) G' W' ((ts.take k).flatMap (pf rs) ++ (((gs t.2.2).filter (pid t.1)).take k2).flatMap (gp t)) ∧ Below A w W' ∧ (∀ b, b < A2 + 3 → b ≠ A → W'.heap[b]? = W3.heap[b]?) ∧ Sep (A2 + 3) G G' WL W') G hI2 hGP ⟨by simpa using hOL, hBL, hRL, Sep.refl _ _ _⟩
      (fun k2 G' x a' W' => ∃ (gq gi : Nat) (g : OGr), ((gs t.2.2).filter (pid t.1))[k2]? = some g ∧ W'.heap[gq]? = some (.cells #[.int .i64 g.id, .slice g.gp g.places.length g.gc] 61) ∧ ¬ G' gq ∧
        a' = { tmps := #[.slice p l.length c, undef, .slice none 0 0, .pointer (some ⟨A, 0, none⟩), .pointer (some ⟨A2, 0, none⟩), .pointer (some ⟨tb, 0, none⟩), .func (.func 25) #[] #[.pointer (some ⟨tb, 0, none⟩)], undef, .pointer (some ⟨gq, 0, none⟩), undef, undef, .slice p l.length c, .map (some mb), .slice p l.length c, .func (.func 32) #[] #[.pointer (some ⟨A2 + 1, 0, none⟩), .pointer (some ⟨A2 + 2, 0, none⟩)], spV t.1 t.2.1 t.2.2, .func (.func 25) #[] #[.pointer (some ⟨tb, 0, none⟩)], .map (some mb), .pointer (some ⟨tb, 2, none⟩), .int .i64 t.2.2, .slice pm (gs t.2.2).length cm, .func (.func 25) #[] #[.pointer (some ⟨tb, 0, none⟩)], .func (.func 35) #[] #[.pointer (some ⟨nb, 0, none⟩), .pointer (some ⟨nb + 1, 0, none⟩)], .int .i64 gi, grpV g, undef, undef, undef, undef, undef, undef, undef, undef, undef, undef, undef, undef, undef, undef, undef, undef, undef, undef, undef, undef, undef, undef], defers := [] })
      ?hAx2 ?assign2 ?body2 ?done2
    case hps2 =>
      intro x hx
      obtain ⟨k2, hk2⟩ := List.getElem?_of_mem hx
      obtain ⟨j, g, rfl, _⟩ := th_filter _ _ _ _ hk2
      rfl
    case hAx2 =>
      rintro k2 G' x a' s X Y row ⟨gq, gi, g, e1, e2, e3⟩ hg hr
      exact ⟨gq, gi, g, e1, grownBy_oth hg e2 (fun e => by obtain ⟨_, o, ho, hc⟩ := hr _ e; rw [e2] at ho; cases ho; cases hc), e3⟩
    case assign2 =>
      intro l2 k2 x G' W' K hx hi2 hK
      obtain ⟨gi, g, rfl, hg⟩ := th_filter _ _ _ _ hx
      have HGG : Bx _ := ⟨hg⟩
      have HI : Bx _ := ⟨hi2⟩
      have HNG : Bx (¬ G' W'.heap.size) := ⟨fun hg => by obtain ⟨o, h1, _⟩ := hI2.cells _ _ _ _ hi2 hg; have := (Array.getElem?_eq_some_iff.1 h1).1; omega⟩
      clear hi2 hx hg
      simp only [grpV]
      gi_wp2
      exact hK _ _ (Sep.below (below1 _ _)) (hI2.alloc _ HI.out) ⟨W'.heap.size, gi, g, HGG.out, World.alloc_heap_new _ _, HNG.out, rfl⟩
    case body2 =>
      rintro l2 k2 x a' G' W' hl2 _ hx hi2 ⟨gq, gi, g, hg, hgk, hgg, rfl⟩
      dsimp only
      obtain ⟨hOut, hBl, hRk, hSp⟩ := hi2
      have hk2l : k2 < ((gs t.2.2).filter (pid t.1)).length := (List.getElem?_eq_some_iff.1 hg).1
      have hgm : g ∈ gs t.2.2 := (List.mem_filter.1 (List.mem_of_getElem? hg)).1
      obtain ⟨gx, hgx, rfl⟩ := List.mem_iff_getElem.1 hgm
      obtain ⟨gb1, go1, hpe1, _, hgat⟩ := HGL.out.at_ gx hgx
      clear hpe1
      have hnum := hgat.nums
      have hne0 := HR3.out.ne t.2.2 gx hgx
      obtain ⟨hkp, hgp⟩ := (Kpt.refl PL WL).sep hPL hGP hSp
      have hnum' : NumsIn W' (fun b => own b ≠ none) (gs t.2.2)[gx].gp (gs t.2.2)[gx].gc (gs t.2.2)[gx].places := hnum.keep (fun b hb => hkp b (HINL.out b hb))
      generalize (gs t.2.2)[gx] = g at *
      obtain ⟨gid, gpl, ggp, ggc⟩ := g
      dsimp only at *
      obtain ⟨pb, po, hpe, hpo, _⟩ := hnum'.at_ 0 hne0
      subst hpe
      have htb' : W'.heap[tb]? = some (.cells #[.int .i64 t.1, .int .i64 t.2.1, .int .i64 t.2.2] 58) := (hkp tb hptb).trans HTL.out
      have htg' : ¬ G' tb := fun h => hgp tb h hptb
      have r1 : W'.cell? ⟨gq, 1, none⟩ = some (.slice (some ⟨pb, po, none⟩) gpl.length ggc) := cell_of hgk rfl
      obtain ⟨Z, hZ⟩ : ∃ Z, (ts.take k).flatMap (pf rs) ++ (((gs t.2.2).filter (pid t.1)).take k2).flatMap (gp t) = Z := ⟨_, rfl⟩
      have HZ1 : Bx ((ts.take k).flatMap (pf rs) ++ (((gs t.2.2).filter (pid t.1)).take (k2 + 1)).flatMap (gp t) = Z ++ gp t ⟨gid, gpl, some ⟨pb, po, none⟩, ggc⟩) := ⟨by
        rw [← hZ, List.take_add_one, hg, List.append_assoc]
        simp⟩
      have hZl : (Z ++ gp t ⟨gid, gpl, some ⟨pb, po, none⟩, ggc⟩).length ≤ 20000000 := by
        rw [← HZ1.out]
        have h1 := HTOT.out
        have h2 := len_take_flat (gp t) ((gs t.2.2).filter (pid t.1)) (k2 + 1)
        rw [List.length_append] at h1 ⊢
        omega
      rw [hZ] at hOut
      have hZb : Z.length + gpl.length ≤ 20000000 := by rw [List.length_append] at hZl; simpa [gp] using hZl
      have HS : Bx (OutP A (A2 + 3) G' W' Z ∧ Below A w W' ∧ (∀ b, b < A2 + 3 → b ≠ A → W'.heap[b]? = W3.heap[b]?) ∧ Sep (A2 + 3) G G' WL W') := ⟨hOut, hBl, hRk, hSp⟩
      have HC : Bx (W'.heap[tb]? = some (.cells #[.int .i64 t.1, .int .i64 t.2.1, .int .i64 t.2.2] 58) ∧ W'.heap[gq]? = some (.cells #[.int .i64 gid, .slice (some ⟨pb, po, none⟩) gpl.length ggc] 61) ∧ NumsIn W' (fun b => own b ≠ none) (some ⟨pb, po, none⟩) ggc gpl ∧ ∀ b, own b ≠ none → ¬ G' b) := ⟨htb', hgk, hnum', fun b hb h => hgp b h (HINL.out b hb)⟩
      have hnl := hnum'.len
      have hnx := hnum'.max
      unfold maxLen at hnx
      clear hOut hBl hRk hSp hZ hZl hkp hgp hnum hnum' htb' hgk hgat hgx hgm hx hg
      gi_wp2
      gi_loopg [28] gpl.length (fun kk v wr => ∃ (i2 : Nat) (G2 : Nat → Prop), kk = gpl.length - i2 ∧ i2 ≤ gpl.length ∧ v = .int .i64 i2 ∧ Bx (OutP A (A2 + 3) G2 wr (Z ++ (gpl.take i2).map fun j => ⟨t.1, t.2.1, gid, j, t.2.2⟩) ∧ Below A w wr ∧ (∀ b, b < A2 + 3 → b ≠ A → wr.heap[b]? = W3.heap[b]?) ∧ Sep (A2 + 3) G' G2 W' wr))
      case atStart => exact ⟨0, G', by simp, by omega, rfl, ⟨by simpa using HS.out.1, HS.out.2.1, HS.out.2.2.1, Sep.refl _ _ _⟩⟩
      case round =>
        obtain ⟨i2, G2, hkk, hil, rfl, HR⟩ := hrel
        by_cases hlt : i2 < gpl.length
        · obtain ⟨sv, e1, e2, e3⟩ := HR.out.1.ex
          have k0 : wr.cell? ⟨A, 0, none⟩ = some sv := cell_of e1 rfl
          have htr := HR.out.2.2.2.same _ _ HC.out.1 rfl htg'
          have hgr := HR.out.2.2.2.same _ _ HC.out.2.1 rfl hgg
          have m0 : wr.cell? ⟨tb, 0, none⟩ = some (.int .i64 t.1) := cell_of htr rfl
          have m1 : wr.cell? ⟨tb, 1, none⟩ = some (.int .i64 t.2.1) := cell_of htr rfl
          have m2 : wr.cell? ⟨tb, 2, none⟩ = some (.int .i64 t.2.2) := cell_of htr rfl
          have m3 : wr.cell? ⟨gq, 0, none⟩ = some (.int .i64 gid) := cell_of hgr rfl
          obtain ⟨pb2, po2, hpe, _, hpc⟩ := HC.out.2.2.1.at_ i2 hlt
          cases hpe
          have m4 : wr.cell? ⟨pb, po + i2, none⟩ = some (.int .i64 (gpl[i2] : Nat)) := by
            obtain ⟨o, h1, h2⟩ := HR3.out.rows.cel pb hpo
            have h3 := HOWN.out pb hpo
            have h4 := (HS.out.2.2.1 pb h3.1 h3.2).trans h1
            have h5 := HR.out.2.2.2.same _ _ h4 h2 (HC.out.2.2.2 pb hpo)
            rw [← hpc]
            simp only [World.cell?, h4, h5]
          have hzl : (Z ++ (gpl.take i2).map fun j => (⟨t.1, t.2.1, gid, j, t.2.2⟩ : OPr)).length ≤ 20000000 - 1 := by simp; omega
          have HZS : Bx (Z ++ ((gpl.take (i2 + 1)).map fun j => (⟨t.1, t.2.1, gid, j, t.2.2⟩ : OPr)) = (Z ++ (gpl.take i2).map fun j => ⟨t.1, t.2.1, gid, j, t.2.2⟩) ++ [⟨t.1, t.2.1, gid, gpl[i2], t.2.2⟩]) := ⟨by rw [List.take_succ_eq_append_getElem hlt, List.map_append, ← List.append_assoc]; rfl⟩
          have hA1 : A + 1 ≤ wr.heap.size := (Array.getElem?_eq_some_iff.1 e1).1
          have hN1 : A2 + 3 ≤ wr.heap.size := by
            have h1 := HR.out.2.2.1 (A2 + 2) (by omega) (by omega)
            rw [Array.getElem?_eq_getElem (show A2 + 2 < W3.heap.size by omega)] at h1
            have := (Array.getElem?_eq_some_iff.1 h1).1
            omega
          have HE1 : Bx _ := ⟨e1⟩
          have HE2 : Bx _ := ⟨e2⟩
          have HE3 : Bx _ := ⟨e3⟩
          have HRR : Bx (Below A w wr ∧ (∀ b, b < A2 + 3 → b ≠ A → wr.heap[b]? = W3.heap[b]?) ∧ Sep (A2 + 3) G' G2 W' wr) := ⟨HR.out.2⟩
          clear HR e1 e2 e3 htr hgr hpc
          generalize hzs : (Z ++ (gpl.take i2).map fun j => (⟨t.1, t.2.1, gid, j, t.2.2⟩ : OPr)) = zs at *
          clear hzs
          gi_wp2_with (first | (gi_at_builtin; refine wpListIn_app _ rfl (.tmp 32) (.tmp 43) 33 rfl (A2 + 3) 47 i0 (.agg #[.int .i64 0, .int .i64 0, .int .i64 0, .int .i64 0, .int .i64 0]) 5 40 Try.underlying33 hi iz0 iz1 iz2 rfl (by decide) sv zs.length (prsC zs) rfl (own_new HE2.out (below1 _ _)) ⟨wr.heap.size, 0, none⟩ 1 1 (prC ⟨t.1, t.2.1, gid, gpl[i2], t.2.2⟩) rfl rfl (block_cells _ _ _ 47 (World.alloc_heap_new _ _)) (by simp [Value.oneCell', prC]) (by decide) (by unfold maxLen; omega) (by omega) (by simp; omega) (wr.heap.size + 1) (by simp) ?_; intro gg gcap w4 hown' hgrow hgi hgl'; obtain ⟨q1, q2, q5, q6⟩ := OutP.push (by omega) HE1.out HE2.out HE3.out hown' hgrow hgi; have z0 := q5.cell; have z1 := q5.frozen))
          obtain ⟨G3, q3, q4⟩ := q1
          gi_roundg (gpl.length - (i2 + 1))
          case measure => omega
          case rel => exact ⟨i2 + 1, G3, rfl, by omega, by simp, ⟨by rw [HZS.out]; exact q3, q2 w HRR.out.1, fun b h1 h2 => (q6 b (by omega) h1 h2).trans (HRR.out.2.1 b h1 h2), HRR.out.2.2.trans (q4 _)⟩⟩
        · have hie : i2 = gpl.length := by omega
          subst hie
          rw [List.take_length] at HR
          have HF : Bx (∃ G2, (OutP A (A2 + 3) G2 wr ((ts.take k).flatMap (pf rs) ++ (((gs t.2.2).filter (pid t.1)).take (k2 + 1)).flatMap (gp t)) ∧ Below A w wr ∧ (∀ b, b < A2 + 3 → b ≠ A → wr.heap[b]? = W3.heap[b]?) ∧ Sep (A2 + 3) G G2 WL wr) ∧ Sep WL.heap.size G' G2 W' wr) := ⟨G2, ⟨by rw [HZ1.out]; exact HR.out.1, HR.out.2.1, HR.out.2.2.1, HS.out.2.2.2.trans HR.out.2.2.2⟩, HR.out.2.2.2.hi (by omega)⟩
          clear HR
          gi_wp2
          exact HF.out
    case done2 =>
      rintro G' W' hi2
      rw [th_len, List.take_length, HLEN2.out] at hi2
      have HF : Bx (∃ G2, (OutP A (A2 + 3) G2 W' ((ts.take (k + 1)).flatMap (pf rs)) ∧ Below A w W' ∧ ∀ b, b < A2 + 3 → b ≠ A → W'.heap[b]? = W3.heap[b]?) ∧ Sep W3.heap.size G G2 W W') := ⟨G', ⟨hi2.1, hi2.2.1, hi2.2.2.1⟩, (HSEP0.out.trans hi2.2.2.2).hi (by omega)⟩
      clear hi2
      gi_wp2
      exact HF.out
  case done =>
    rintro D G W hD ⟨hO, hB, _⟩ hK
    rw [HX.out, List.length_map, List.take_length, ← HO.out] at hO
    obtain ⟨sv, e1, e2, _⟩ := hO.ex
    have g0 : W.cell? ⟨A, 0, none⟩ = some sv := cell_of e1 rfl
    have HE2 : Bx _ := ⟨e2⟩
    have HB : Bx _ := ⟨hB⟩
    have HK : Bx _ := ⟨hK⟩
    clear hO e1 e2 hB
    gi_wp2
    refine ⟨by simp, .inl ⟨_, _, rfl, run_takeDeferred hK, ?_⟩⟩
    refine ⟨_, results_tmp rfl _ _ _, _, rfl, ?_, ?_⟩
    · rw [HA.out]
      refine own_same (own_low HE2.out (by omega)) (fun g o hg ho => ?_)
      rw [World.putObj_heap_other (fun e => ?_)]
      · exact ho
      · subst e
        obtain ⟨o2, h1, h2⟩ := own_cells HE2.out hg
        rw [HK.out] at h1; cases h1; cases h2
    · rw [HA.out]
      exact HB.out.grown (grownBy_putObj' _ _ _) (by have := HB.out.size; have := HA.out; omega) (fun k e => by cases e; omega)
end Go.Proofs.Yteinpijbdgcehaa
