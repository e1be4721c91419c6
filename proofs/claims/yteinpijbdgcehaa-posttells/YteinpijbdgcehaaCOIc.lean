import Derived.Test.YteinpijbdgcehaaCOIb
namespace Go.Proofs.Yteinpijbdgcehaa
open Go.RowKit Go.Shelf
set_option linter.unusedVariables false
set_option linter.unusedSimpArgs false
attribute [local go_sem] Oper.semAt_some

set_option maxRecDepth 100000 in
set_option maxHeartbeats 4000000 in
theorem Ins_in (n : Nat) (hn : 8 ≤ n) (w : World) (Pr : Nat → Prop) (hPr : ∀ b, Pr b → ∃ o : Obj, w.heap[b]? = some o ∧ o.isCells = true) (p : Option Addr) (c : Nat) (l : List OWt) (hl : WsIn w Pr p c l) (hsm : (oins l).length ≤ 20000000) :
    CallsIn Fence.wide n Try.prog 12 #[.slice p l.length c] w (PrPost w (oins l)) := by
  obtain ⟨i0, hi, iz0, iz1, iz2⟩ := info_parts infoP
  refine callsIn_of_wp_marks Try.func12 rfl trivial ?_ rfl
  simp only [Try.ntmps12, List.size_toArray, List.length_cons, List.length_nil, Nat.reduceAdd, Nat.reduceSub, Array.replicate_succ, Array.replicate_zero, List.push_toArray, List.append_toArray, List.nil_append, List.cons_append]
  gi_wp2
  refine ⟨trivial, fun _ => by omega, ?_⟩
  refine (spots_in (n - 1) _ _ _ _ _ _).mono ?_
  rintro e w' ⟨rfl, rfl⟩
  gi_wp2
  obtain ⟨A, hA⟩ : ∃ A, A = w.heap.size := ⟨_, rfl⟩
  obtain ⟨W3, hW3⟩ : ∃ W3, (((w.alloc (.cells #[.slice none 0 0] 33)).alloc (.cells #[.slice p l.length c] 22)).alloc (.cells #[.func (.func 28) #[] #[]] 56)) = W3 := ⟨_, rfl⟩
  have hb3 : Below w.heap.size w W3 := by rw [← hW3]; exact (two_new _ _ _).trans ((below1 _ _).mono (by simp; omega))
  have hz3 : W3.heap.size = A + 3 := by rw [← hW3, hA]; simp
  have h30 : W3.heap[A]? = some (.cells #[.slice none 0 0] 33) := by
    rw [← hW3, hA]; exact (Below.heap_alloc _ _ _ (by simp; omega)).trans ((Below.heap_alloc _ _ _ (by simp)).trans (World.alloc_heap_new _ _))
  have h31 : W3.heap[A + 1]? = some (.cells #[.slice p l.length c] 22) := by
    rw [← hW3, hA]; exact (Below.heap_alloc _ _ _ (by simp)).trans (alloc_at _ _ _)
  have h32 : W3.heap[A + 2]? = some (.cells #[.func (.func 28) #[] #[]] 56) := by
    rw [← hW3, hA]
    have := alloc_at (w.alloc (.cells #[.slice none 0 0] 33)) (.cells #[.slice p l.length c] 22) (.cells #[.func (.func 28) #[] #[]] 56)
    simpa using this
  rw [hW3]
  have hk3 : Kpt Pr w W3 := Kpt.of_below hPr hb3
  have hlt : ∀ b, Pr b → b < A := fun b hb => by
    obtain ⟨o, h1, _⟩ := hPr b hb
    have := (Array.getElem?_eq_some_iff.1 h1).1
    rw [hA]; exact this
  obtain ⟨Pr2, hPr2⟩ : ∃ Pr2 : Nat → Prop, Pr2 = fun b => Pr b ∨ b = A + 1 ∨ b = A + 2 := ⟨_, rfl⟩
  have hP2 : ∀ b, Pr2 b → ∃ o : Obj, W3.heap[b]? = some o ∧ o.isCells = true := fun b hb => by
    rw [hPr2] at hb
    rcases hb with hb | rfl | rfl
    · obtain ⟨o, h1, h2⟩ := hPr b hb
      exact ⟨o, (hk3 b hb).trans h1, h2⟩
    · exact ⟨_, h31, rfl⟩
    · exact ⟨_, h32, rfl⟩
  have hin : ∀ b, Pr b → Pr2 b := fun b hb => by rw [hPr2]; exact .inl hb
  have hseq := spots1_in (n - 1) (by omega) W3 Pr2 hP2 (A + 1) (A + 2) p c l 28 #[] prI h31 h32 (by rw [hPr2]; simp) (by rw [hPr2]; simp) ((hl.keep hk3).mono hin) (enters_of Try.func28 (by kernel_rfl) rfl)
    (fun a W _ => by simpa using takesIn_any a W)
  have HA : Bx (A = w.heap.size) := ⟨hA⟩
  have HB3 : Bx (Below A w W3) := ⟨by rw [hA]; exact hb3⟩
  obtain ⟨ts, hts⟩ : ∃ ts, spotsP prI l = ts := ⟨_, rfl⟩
  have HO : Bx (oins l = ts.map mkI) := ⟨by rw [oins_map, hts]⟩
  have HX : Bx (spX prI l = ts.map fun t => #[spV t.1 t.2.1 t.2.2]) := ⟨by rw [spX_map, hts]⟩
  have HLN : Bx (ts.length ≤ 20000000) := ⟨by have := hsm; rw [HO.out] at this; simpa using this⟩
  have hI := OutP.abi (A := A) (B := A + 1) (hi := W3.heap.size) (w := w) (by omega) (by omega) (fun k => (ts.take k).map mkI) (fun _ => True) (fun _ _ _ _ _ _ => trivial)
  rw [← hA]
  clear hA hts hlt hk3 hb3 hW3 h31 h32 hl hsm
  simp only [Nat.add_assoc, Nat.reduceAdd]
  refine rangeT rfl (by omega) (gf := 32) (lb := #[.pointer (some ⟨A + 1, 0, none⟩), .pointer (some ⟨A + 2, 0, none⟩)]) rfl trivial (enters_of Try.func32 (by kernel_rfl) rfl) hseq ?hps
    (fun k G W => OutP A (A + 1) G W ((ts.take k).map mkI) ∧ Below A w W ∧ True) (fun b => b = A) hI ?hG ⟨⟨_, h30, ⟨rfl, .inl ⟨rfl, rfl⟩⟩, fun b => ⟨.inl, fun h => h.elim id (fun h => by cases h)⟩⟩, HB3.out, trivial⟩
    (fun k _ x a' W => ∃ (tb : Nat) (t : Int × Nat × Int), ts[k]? = some t ∧ W.heap[tb]? = some (.cells #[.int .i64 t.1, .int .i64 t.2.1, .int .i64 t.2.2] 58) ∧
      a' = { tmps := #[.slice p l.length c, undef, .slice none 0 0, .pointer (some ⟨A, 0, none⟩), .pointer (some ⟨tb, 0, none⟩), .slice p l.length c, .func (.func 32) #[] #[.pointer (some ⟨A + 1, 0, none⟩), .pointer (some ⟨A + 2, 0, none⟩)], spV t.1 t.2.1 t.2.2, undef, undef, undef, undef, undef, undef, undef, undef, undef, undef, undef], defers := [] })
    ?hAx ?assign ?body ?done
  case hps =>
    intro x hx
    rw [HX.out] at hx
    obtain ⟨t, _, rfl⟩ := List.mem_map.1 hx
    rfl
  case hG =>
    rintro b rfl h
    rw [hPr2] at h
    rcases h with h | h | h
    · obtain ⟨o, h1, _⟩ := hPr b h
      have := (Array.getElem?_eq_some_iff.1 h1).1
      have := HA.out
      omega
    · omega
    · omega
  case hAx =>
    rintro k _ x a' s X Y row ⟨tb, t, e1, e2, e3⟩ hg hr
    exact ⟨tb, t, e1, grownBy_oth hg e2 (fun e => by obtain ⟨_, o, ho, hc⟩ := hr _ e; rw [e2] at ho; cases ho; cases hc), e3⟩
  case assign =>
    intro lp k x G W K hx hi2 hK
    rw [HX.out, List.getElem?_map] at hx
    obtain ⟨t, ht, rfl⟩ := Option.map_eq_some_iff.1 hx
    have HT : Bx _ := ⟨ht⟩
    have HI : Bx _ := ⟨hi2⟩
    clear hi2 hx ht
    simp only [spV]
    gi_wp2
    exact hK _ _ (Sep.below (below1 _ _)) (hI.alloc _ HI.out) ⟨W.heap.size, t, HT.out, World.alloc_heap_new _ _, rfl⟩
  case body =>
    rintro lp k x a' G W hlp hrec hx hi2 ⟨tb, t, ht, htb, rfl⟩
    have c0 : W.cell? ⟨tb, 0, none⟩ = some (.int .i64 t.1) := cell_of htb rfl
    have c1 : W.cell? ⟨tb, 1, none⟩ = some (.int .i64 t.2.1) := cell_of htb rfl
    have c2 : W.cell? ⟨tb, 2, none⟩ = some (.int .i64 t.2.2) := cell_of htb rfl
    obtain ⟨sv, e1, e2, e3⟩ := hi2.1.ex
    have g0 : W.cell? ⟨A, 0, none⟩ = some sv := cell_of e1 rfl
    have hkl : k < ts.length := (List.getElem?_eq_some_iff.1 ht).1
    have hzl : ((ts.take k).map mkI).length ≤ 20000000 := by have := HLN.out; simp; omega
    have HZS : Bx ((ts.take (k + 1)).map mkI = (ts.take k).map mkI ++ [mkI t]) := ⟨by rw [List.take_add_one, ht]; simp⟩
    have hA1 : A + 1 ≤ W.heap.size := (Array.getElem?_eq_some_iff.1 e1).1
    have HB : Bx _ := ⟨hi2.2.1⟩
    have HE1 : Bx _ := ⟨e1⟩
    have HE2 : Bx _ := ⟨e2⟩
    have HE3 : Bx _ := ⟨e3⟩
    clear hi2 e1 e2 e3 ht htb hx
    generalize (ts.take k).map mkI = zs at *
    gi_wp2_with (first | (gi_at_builtin; refine wpListIn_app _ rfl (.tmp 8) (.tmp 16) 33 rfl (A + 1) 47 i0 (.agg #[.int .i64 0, .int .i64 0, .int .i64 0, .int .i64 0, .int .i64 0]) 5 40 Try.underlying33 hi iz0 iz1 iz2 rfl (by decide) sv zs.length (prsC zs) rfl (own_new HE2.out (below1 _ _)) ⟨W.heap.size, 0, none⟩ 1 1 (prC (mkI t)) rfl rfl (block_cells _ _ _ 47 (World.alloc_heap_new _ _)) (by simp [Value.oneCell', prC]) (by decide) (by unfold maxLen; omega) (by omega) (by simp; omega) (W.heap.size + 1) (by simp) ?_; intro gg gcap w4 hown' hgrow hgi hgl'; obtain ⟨q1, q2, q5, _⟩ := OutP.push (by omega) HE1.out HE2.out HE3.out hown' hgrow hgi; have k0 := q5.cell; have k1 := q5.frozen))
    obtain ⟨G2, q3, q4⟩ := q1
    exact ⟨G2, ⟨by rw [HZS.out]; exact q3, q2 w HB.out, trivial⟩, q4 _⟩
  case done =>
    rintro D G W hD ⟨hO, hB, _⟩ hK
    rw [HX.out, List.length_map, List.take_length, ← HO.out] at hO
    obtain ⟨sv, e1, e2, _⟩ := hO.ex
    have g0 : W.cell? ⟨A, 0, none⟩ = some sv := cell_of e1 rfl
    have HE2 : Bx _ := ⟨e2⟩
    have HB : Bx _ := ⟨hB⟩
    have HK : Bx _ := ⟨hK⟩
    clear hO e1 e2 hB
    gi_wp2
    refine ⟨by simp, .inl ⟨_, _, rfl, run_takeDeferred hK, ?_⟩⟩
    refine ⟨_, results_tmp rfl _ _ _, _, rfl, ?_, ?_⟩
    · rw [← HA.out]
      refine own_same (own_low HE2.out (by omega)) (fun g o hg ho => ?_)
      rw [World.putObj_heap_other (fun e => ?_)]
      · exact ho
      · subst e
        obtain ⟨o2, h1, h2⟩ := own_cells HE2.out hg
        rw [HK.out] at h1; cases h1; cases h2
    · rw [← HA.out]
      exact HB.out.grown (grownBy_putObj' _ _ _) (by have := HB.out.size; have := HA.out; omega) (fun k e => by cases e; omega)
set_option maxRecDepth 100000 in
set_option maxHeartbeats 4000000 in
theorem Outs_in (n : Nat) (hn : 8 ≤ n) (w : World) (Pr : Nat → Prop) (hPr : ∀ b, Pr b → ∃ o : Obj, w.heap[b]? = some o ∧ o.isCells = true) (p : Option Addr) (c : Nat) (l : List OWt) (hl : WsIn w Pr p c l) (hsm : (oouts l).length ≤ 20000000) :
    CallsIn Fence.wide n Try.prog 14 #[.slice p l.length c] w (PrPost w (oouts l)) := by
  obtain ⟨i0, hi, iz0, iz1, iz2⟩ := info_parts infoP
  refine callsIn_of_wp_marks Try.func14 rfl trivial ?_ rfl
  simp only [Try.ntmps14, List.size_toArray, List.length_cons, List.length_nil, Nat.reduceAdd, Nat.reduceSub, Array.replicate_succ, Array.replicate_zero, List.push_toArray, List.append_toArray, List.nil_append, List.cons_append]
  gi_wp2
  refine ⟨trivial, fun _ => by omega, ?_⟩
  refine (spots_in (n - 1) _ _ _ _ _ _).mono ?_
  rintro e w' ⟨rfl, rfl⟩
  gi_wp2
  obtain ⟨A, hA⟩ : ∃ A, A = w.heap.size := ⟨_, rfl⟩
  obtain ⟨W3, hW3⟩ : ∃ W3, (((w.alloc (.cells #[.slice none 0 0] 33)).alloc (.cells #[.slice p l.length c] 22)).alloc (.cells #[.func (.func 29) #[] #[]] 56)) = W3 := ⟨_, rfl⟩
  have hb3 : Below w.heap.size w W3 := by rw [← hW3]; exact (two_new _ _ _).trans ((below1 _ _).mono (by simp; omega))
  have hz3 : W3.heap.size = A + 3 := by rw [← hW3, hA]; simp
  have h30 : W3.heap[A]? = some (.cells #[.slice none 0 0] 33) := by
    rw [← hW3, hA]; exact (Below.heap_alloc _ _ _ (by simp; omega)).trans ((Below.heap_alloc _ _ _ (by simp)).trans (World.alloc_heap_new _ _))
  have h31 : W3.heap[A + 1]? = some (.cells #[.slice p l.length c] 22) := by
    rw [← hW3, hA]; exact (Below.heap_alloc _ _ _ (by simp)).trans (alloc_at _ _ _)
  have h32 : W3.heap[A + 2]? = some (.cells #[.func (.func 29) #[] #[]] 56) := by
    rw [← hW3, hA]
    have := alloc_at (w.alloc (.cells #[.slice none 0 0] 33)) (.cells #[.slice p l.length c] 22) (.cells #[.func (.func 29) #[] #[]] 56)
    simpa using this
  rw [hW3]
  have hk3 : Kpt Pr w W3 := Kpt.of_below hPr hb3
  have hlt : ∀ b, Pr b → b < A := fun b hb => by
    obtain ⟨o, h1, _⟩ := hPr b hb
    have := (Array.getElem?_eq_some_iff.1 h1).1
    rw [hA]; exact this
  obtain ⟨Pr2, hPr2⟩ : ∃ Pr2 : Nat → Prop, Pr2 = fun b => Pr b ∨ b = A + 1 ∨ b = A + 2 := ⟨_, rfl⟩
  have hP2 : ∀ b, Pr2 b → ∃ o : Obj, W3.heap[b]? = some o ∧ o.isCells = true := fun b hb => by
    rw [hPr2] at hb
    rcases hb with hb | rfl | rfl
    · obtain ⟨o, h1, h2⟩ := hPr b hb
      exact ⟨o, (hk3 b hb).trans h1, h2⟩
    · exact ⟨_, h31, rfl⟩
    · exact ⟨_, h32, rfl⟩
  have hin : ∀ b, Pr b → Pr2 b := fun b hb => by rw [hPr2]; exact .inl hb
  have hseq := spots1_in (n - 1) (by omega) W3 Pr2 hP2 (A + 1) (A + 2) p c l 29 #[] prO h31 h32 (by rw [hPr2]; simp) (by rw [hPr2]; simp) ((hl.keep hk3).mono hin) (enters_of Try.func29 (by kernel_rfl) rfl)
    (fun a W _ => by simpa using givesOut_any a W)
  have HA : Bx (A = w.heap.size) := ⟨hA⟩
  have HB3 : Bx (Below A w W3) := ⟨by rw [hA]; exact hb3⟩
  obtain ⟨ts, hts⟩ : ∃ ts, spotsP prO l = ts := ⟨_, rfl⟩
  have HO : Bx (oouts l = ts.map mkO) := ⟨by rw [oouts_map, hts]⟩
  have HX : Bx (spX prO l = ts.map fun t => #[spV t.1 t.2.1 t.2.2]) := ⟨by rw [spX_map, hts]⟩
  have HLN : Bx (ts.length ≤ 20000000) := ⟨by have := hsm; rw [HO.out] at this; simpa using this⟩
  have hI := OutP.abi (A := A) (B := A + 1) (hi := W3.heap.size) (w := w) (by omega) (by omega) (fun k => (ts.take k).map mkO) (fun _ => True) (fun _ _ _ _ _ _ => trivial)
  rw [← hA]
  clear hA hts hlt hk3 hb3 hW3 h31 h32 hl hsm
  simp only [Nat.add_assoc, Nat.reduceAdd]
  refine rangeT rfl (by omega) (gf := 32) (lb := #[.pointer (some ⟨A + 1, 0, none⟩), .pointer (some ⟨A + 2, 0, none⟩)]) rfl trivial (enters_of Try.func32 (by kernel_rfl) rfl) hseq ?hps
    (fun k G W => OutP A (A + 1) G W ((ts.take k).map mkO) ∧ Below A w W ∧ True) (fun b => b = A) hI ?hG ⟨⟨_, h30, ⟨rfl, .inl ⟨rfl, rfl⟩⟩, fun b => ⟨.inl, fun h => h.elim id (fun h => by cases h)⟩⟩, HB3.out, trivial⟩
    (fun k _ x a' W => ∃ (tb : Nat) (t : Int × Nat × Int), ts[k]? = some t ∧ W.heap[tb]? = some (.cells #[.int .i64 t.1, .int .i64 t.2.1, .int .i64 t.2.2] 58) ∧
      a' = { tmps := #[.slice p l.length c, undef, .slice none 0 0, .pointer (some ⟨A, 0, none⟩), .pointer (some ⟨tb, 0, none⟩), .slice p l.length c, .func (.func 32) #[] #[.pointer (some ⟨A + 1, 0, none⟩), .pointer (some ⟨A + 2, 0, none⟩)], spV t.1 t.2.1 t.2.2, undef, undef, undef, undef, undef, undef, undef, undef, undef, undef, undef], defers := [] })
    ?hAx ?assign ?body ?done
  case hps =>
    intro x hx
    rw [HX.out] at hx
    obtain ⟨t, _, rfl⟩ := List.mem_map.1 hx
    rfl
  case hG =>
    rintro b rfl h
    rw [hPr2] at h
    rcases h with h | h | h
    · obtain ⟨o, h1, _⟩ := hPr b h
      have := (Array.getElem?_eq_some_iff.1 h1).1
      have := HA.out
      omega
    · omega
    · omega
  case hAx =>
    rintro k _ x a' s X Y row ⟨tb, t, e1, e2, e3⟩ hg hr
    exact ⟨tb, t, e1, grownBy_oth hg e2 (fun e => by obtain ⟨_, o, ho, hc⟩ := hr _ e; rw [e2] at ho; cases ho; cases hc), e3⟩
  case assign =>
    intro lp k x G W K hx hi2 hK
    rw [HX.out, List.getElem?_map] at hx
    obtain ⟨t, ht, rfl⟩ := Option.map_eq_some_iff.1 hx
    have HT : Bx _ := ⟨ht⟩
    have HI : Bx _ := ⟨hi2⟩
    clear hi2 hx ht
    simp only [spV]
    gi_wp2
    exact hK _ _ (Sep.below (below1 _ _)) (hI.alloc _ HI.out) ⟨W.heap.size, t, HT.out, World.alloc_heap_new _ _, rfl⟩
  case body =>
    rintro lp k x a' G W hlp hrec hx hi2 ⟨tb, t, ht, htb, rfl⟩
    have c0 : W.cell? ⟨tb, 0, none⟩ = some (.int .i64 t.1) := cell_of htb rfl
    have c1 : W.cell? ⟨tb, 1, none⟩ = some (.int .i64 t.2.1) := cell_of htb rfl
    have c2 : W.cell? ⟨tb, 2, none⟩ = some (.int .i64 t.2.2) := cell_of htb rfl
    obtain ⟨sv, e1, e2, e3⟩ := hi2.1.ex
    have g0 : W.cell? ⟨A, 0, none⟩ = some sv := cell_of e1 rfl
    have hkl : k < ts.length := (List.getElem?_eq_some_iff.1 ht).1
    have hzl : ((ts.take k).map mkO).length ≤ 20000000 := by have := HLN.out; simp; omega
    have HZS : Bx ((ts.take (k + 1)).map mkO = (ts.take k).map mkO ++ [mkO t]) := ⟨by rw [List.take_add_one, ht]; simp⟩
    have hA1 : A + 1 ≤ W.heap.size := (Array.getElem?_eq_some_iff.1 e1).1
    have HB : Bx _ := ⟨hi2.2.1⟩
    have HE1 : Bx _ := ⟨e1⟩
    have HE2 : Bx _ := ⟨e2⟩
    have HE3 : Bx _ := ⟨e3⟩
    clear hi2 e1 e2 e3 ht htb hx
    generalize (ts.take k).map mkO = zs at *
    gi_wp2_with (first | (gi_at_builtin; refine wpListIn_app _ rfl (.tmp 8) (.tmp 16) 33 rfl (A + 1) 47 i0 (.agg #[.int .i64 0, .int .i64 0, .int .i64 0, .int .i64 0, .int .i64 0]) 5 40 Try.underlying33 hi iz0 iz1 iz2 rfl (by decide) sv zs.length (prsC zs) rfl (own_new HE2.out (below1 _ _)) ⟨W.heap.size, 0, none⟩ 1 1 (prC (mkO t)) rfl rfl (block_cells _ _ _ 47 (World.alloc_heap_new _ _)) (by simp [Value.oneCell', prC]) (by decide) (by unfold maxLen; omega) (by omega) (by simp; omega) (W.heap.size + 1) (by simp) ?_; intro gg gcap w4 hown' hgrow hgi hgl'; obtain ⟨q1, q2, q5, _⟩ := OutP.push (by omega) HE1.out HE2.out HE3.out hown' hgrow hgi; have k0 := q5.cell; have k1 := q5.frozen))
    obtain ⟨G2, q3, q4⟩ := q1
    exact ⟨G2, ⟨by rw [HZS.out]; exact q3, q2 w HB.out, trivial⟩, q4 _⟩
  case done =>
    rintro D G W hD ⟨hO, hB, _⟩ hK
    rw [HX.out, List.length_map, List.take_length, ← HO.out] at hO
    obtain ⟨sv, e1, e2, _⟩ := hO.ex
    have g0 : W.cell? ⟨A, 0, none⟩ = some sv := cell_of e1 rfl
    have HE2 : Bx _ := ⟨e2⟩
    have HB : Bx _ := ⟨hB⟩
    have HK : Bx _ := ⟨hK⟩
    clear hO e1 e2 hB
    gi_wp2
    refine ⟨by simp, .inl ⟨_, _, rfl, run_takeDeferred hK, ?_⟩⟩
    refine ⟨_, results_tmp rfl _ _ _, _, rfl, ?_, ?_⟩
    · rw [← HA.out]
      refine own_same (own_low HE2.out (by omega)) (fun g o hg ho => ?_)
      rw [World.putObj_heap_other (fun e => ?_)]
      · exact ho
      · subst e
        obtain ⟨o2, h1, h2⟩ := own_cells HE2.out hg
        rw [HK.out] at h1; cases h1; cases h2
    · rw [← HA.out]
      exact HB.out.grown (grownBy_putObj' _ _ _) (by have := HB.out.size; have := HA.out; omega) (fun k e => by cases e; omega)
end Go.Proofs.Yteinpijbdgcehaa
