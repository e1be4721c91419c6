import Derived.Test.YteinpijbdgcehaaCOSa
namespace Go.Proofs.Yteinpijbdgcehaa
open Go.RowKit Go.Shelf
set_option linter.unusedVariables false
set_option linter.unusedSimpArgs false
attribute [local go_sem] Oper.semAt_some

theorem Kpt.grown {Pr : Nat → Prop} {w A B : World} {row : Option Nat} (h : Kpt Pr w A) (hPr : ∀ b, Pr b → ∃ o : Obj, w.heap[b]? = some o ∧ o.isCells = true) (hg : A.grownBy B row) (hr : ∀ r, row = some r → w.heap.size ≤ r) : Kpt Pr w B := fun b hb => by
  obtain ⟨o, h1, h2⟩ := hPr b hb
  rw [h1]
  refine grownBy_oth hg ((h b hb).trans h1) (fun e => ?_)
  have := hr b e
  have := (Array.getElem?_eq_some_iff.1 h1).1
  omega
set_option maxRecDepth 100000 in
set_option maxHeartbeats 4000000 in
/-- where the arms that have a property stand, one by one -/
theorem spots1_in (n : Nat) (hn : 4 ≤ n) (w : World) (Pr : Nat → Prop) (hPr : ∀ b, Pr b → ∃ o : Obj, w.heap[b]? = some o ∧ o.isCells = true) (bL bH : Nat) (p : Option Addr) (c : Nat) (l : List OWt) (hf : Nat) (hlb : Array Value) (pr : OArm → Bool)
    (hL : w.heap[bL]? = some (.cells #[.slice p l.length c] 22)) (hH : w.heap[bH]? = some (.cells #[.func (.func hf) #[] hlb] 56)) (pL : Pr bL) (pH : Pr bH) (hl : WsIn w Pr p c l)
    (heg : ∀ args w, (callFunc hf args).run Try.prog w = .ok (.enter hf args) w)
    (hhas : ∀ a W, Kpt Pr w W → Calls Try.prog hf (#[armV a] ++ hlb) W fun e W' => e = .returned (.bool (pr a)) ∧ Below W.heap.size W W') :
    SeqT Fence.wide n Try.prog 32 #[.pointer (some ⟨bL, 0, none⟩), .pointer (some ⟨bH, 0, none⟩)] (spX pr l) Pr w := by
  intro L J G W hW hJ hG hY h0
  have hk0 : Kpt Pr w W := Kpt.of_below hPr hW
  have hlc := hl.len
  have hcm := hl.max
  unfold maxLen at hcm
  have hPrW : ∀ {X : World}, Kpt Pr w X → ∀ b, Pr b → ∃ o : Obj, X.heap[b]? = some o ∧ o.isCells = true := fun hk b hb => by
    obtain ⟨o, h1, h2⟩ := hPr b hb
    exact ⟨o, (hk b hb).trans h1, h2⟩
  have hb1 : Below W.heap.size W (W.alloc (.cells #[.func (.yield L) #[] #[]] 69)) := below1 _ _
  have hk1 := hk0.below hPr hb1
  have d1 : (W.alloc (.cells #[.func (.yield L) #[] #[]] 69)).cell? ⟨bL, 0, none⟩ = some (.slice p l.length c) := by rw [hk1.cell pL]; exact cell_of hL rfl
  have hc1 := right_any _ Pr (hPrW hk1) p c l (hl.keep hk1)
  have hy1 : (W.alloc (.cells #[.func (.yield L) #[] #[]] 69)).heap[W.heap.size]? = some (.cells #[.func (.yield L) #[] #[]] 69) := World.alloc_heap_new _ _
  refine callsIn_of_wp_marks Try.func32 rfl trivial ?_ rfl
  simp only [Try.ntmps32, List.size_toArray, List.length_cons, List.length_nil, Nat.reduceAdd, Nat.reduceSub, Array.replicate_succ, Array.replicate_zero, List.push_toArray, List.append_toArray, List.nil_append, List.cons_append]
  gi_wp2
  refine ⟨trivial, fun _ => by omega, ?_⟩
  refine (callsIn_wide.2 hc1).mono ?_
  rintro e W2 ⟨rfl, hb2⟩
  clear hc1
  have hk2 : Kpt Pr w W2 := hk1.below hPr hb2
  have d2 : W2.cell? ⟨bL, 0, none⟩ = some (.slice p l.length c) := by rw [hk2.cell pL]; exact cell_of hL rfl
  have hy2 : W2.heap[W.heap.size]? = some (.cells #[.func (.yield L) #[] #[]] 69) := (hb2.block _ (by simp)).trans hy1
  have hJ2 : J 0 G W2 := hJ.below (hJ.below h0 hb1 (grown_below hb1)) hb2 (grown_below hb2)
  have hz2 : W.heap.size < W2.heap.size := (Array.getElem?_eq_some_iff.1 hy2).1
  cases hr : oright l
  · have HF : Bx (∃ G', J (spX pr l).length G' W2) := ⟨G, by simpa [spX, hr] using hJ2⟩
    clear hJ2 hy2 d2 hk2 hb2 hY h0
    gi_wp2
    exact ⟨_, results_none rfl _ _ _, ⟨_, rfl⟩, HF.out⟩
  · obtain ⟨f, hf'⟩ : ∃ f : OWt → List (Array Value), f = fun V => spA pr V.id V.arms := ⟨_, rfl⟩
    have HSP : Bx (spX pr l = l.flatMap f) := ⟨by rw [hf']; simp [spX, hr]⟩
    have HFF : Bx (f = fun V => spA pr V.id V.arms) := ⟨hf'⟩
    clear hf'
    have hGy : ∀ b, G b → b ≠ W.heap.size := fun b hb e => by
      obtain ⟨o, h1, _⟩ := hJ.cells _ _ _ _ h0 hb
      have := (Array.getElem?_eq_some_iff.1 h1).1
      omega
    have HS : Bx (Kpt Pr w W2 ∧ W2.heap[W.heap.size]? = some (.cells #[.func (.yield L) #[] #[]] 69) ∧ J 0 G W2 ∧ W.heap.size < W2.heap.size ∧ (∀ b, G b → b ≠ W.heap.size)) := ⟨hk2, hy2, hJ2, hz2, hGy⟩
    clear hJ2 hy2 hk2 hb2 h0 hGy hz2 hk1 hb1 hy1 d1 hk0
    gi_wp2
    refine wpIn_loop_ghost_k (fun k a wr => ∃ (i : Nat) (G1 : Nat → Prop) (Ds : List Nat) (u5 u14 u15 u16 u17 u18 u19 u20 u32 : Value), k = l.length - i ∧ i ≤ l.length ∧
      a = { tmps := #[.func (.yield L) #[] #[], .pointer (some ⟨bL, 0, none⟩), .pointer (some ⟨bH, 0, none⟩), .pointer (some ⟨W.heap.size, 0, none⟩), undef, u5, undef, undef, .slice p l.length c, .bool true, .bool false, .slice p l.length c, .int .i64 l.length, .int .i64 i, u14, u15, u16, u17, u18, u19, u20, undef, undef, undef, undef, undef, undef, undef, undef, undef, undef, undef, u32], defers := mkD Ds } ∧
      Bx (Kpt Pr w wr ∧ wr.heap[W.heap.size]? = some (.cells #[.func (.yield L) #[] #[]] 69) ∧ J ((l.take i).flatMap f).length G1 wr ∧ W.heap.size < wr.heap.size ∧ (∀ b, G1 b → b ≠ W.heap.size ∧ ¬ Pr b) ∧ Marks W.heap.size wr Ds)) l.length ?_ ?_
    · exact ⟨0, G, [], _, _, _, _, _, _, _, _, _, by simp, by omega, rfl, ⟨HS.out.1, HS.out.2.1, by simpa using HS.out.2.2.1, HS.out.2.2.2.1, fun b hb => ⟨HS.out.2.2.2.2 b hb, hG b hb⟩, ⟨by simp, by simp⟩⟩⟩
    · rintro gk _ wr ⟨i, G1, Ds, u5, u14, u15, u16, u17, u18, u19, u20, u32, hgk, hil, rfl, HR⟩ J2 K hJ2 hK
      clear HS d2 hG
      by_cases hlt : i < l.length
      · obtain ⟨b, o, q, d, rfl, hb, c0, c1, hA, _⟩ := (hl.keep HR.out.1).at_ i hlt
        obtain ⟨wb, hwb⟩ : ∃ wb, wr.heap.size = wb := ⟨_, rfl⟩
        have e1 : (wr.alloc (.cells #[.int .i64 l[i].id, .slice q l[i].arms.length d] 38)).cell? ⟨bH, 0, none⟩ = some (.func (.func hf) #[] hlb) := by
          rw [(HR.out.1.below hPr (below1 _ _)).cell pH]; exact cell_of hH rfl
        have HWB : Bx (wr.heap.size = wb) := ⟨hwb⟩
        clear hwb
        gi_wp2
        refine ⟨trivial, fun _ => by omega, ?_⟩
        refine (thoseA_mk (n - 1) _ _ _ _ _ _).mono ?_
        rintro e w' ⟨rfl, rfl⟩
        gi_wp2
        simp only [World.size_alloc, HWB.out, Nat.add_assoc, Nat.reduceAdd]
        obtain ⟨WL, hWL⟩ : ∃ WL, (((wr.alloc (.cells #[.int .i64 l[i].id, .slice q l[i].arms.length d] 38)).alloc (.cells #[.slice q l[i].arms.length d] 36)).alloc (.cells #[.func (.func hf) #[] hlb] 56)) = WL := ⟨_, rfl⟩
        have hbL : Below wr.heap.size wr WL := by rw [← hWL]; exact (two_new _ _ _).trans ((below1 _ _).mono (by simp; omega))
        have hzL : WL.heap.size = wb + 3 := by rw [← hWL]; simp [HWB.out]
        have hL0 : WL.heap[wb]? = some (.cells #[.int .i64 l[i].id, .slice q l[i].arms.length d] 38) := by
          rw [← hWL, ← HWB.out]; exact (Below.heap_alloc _ _ _ (by simp; omega)).trans ((Below.heap_alloc _ _ _ (by simp)).trans (World.alloc_heap_new _ _))
        have hL1 : WL.heap[wb + 1]? = some (.cells #[.slice q l[i].arms.length d] 36) := by
          rw [← hWL, ← HWB.out]; exact (Below.heap_alloc _ _ _ (by simp)).trans (alloc_at _ _ _)
        have hL2 : WL.heap[wb + 2]? = some (.cells #[.func (.func hf) #[] hlb] 56) := by
          rw [← hWL, ← HWB.out]
          have := alloc_at (wr.alloc (.cells #[.int .i64 l[i].id, .slice q l[i].arms.length d] 38)) (.cells #[.slice q l[i].arms.length d] 36) (.cells #[.func (.func hf) #[] hlb] 56)
          simpa using this
        rw [hWL]
        have hkL : Kpt Pr w WL := HR.out.1.below hPr hbL
        have hyL : WL.heap[W.heap.size]? = some (.cells #[.func (.yield L) #[] #[]] 69) := (hbL.block _ HR.out.2.2.2.1).trans HR.out.2.1
        have hJL : J ((l.take i).flatMap f).length G1 WL := hJ.below HR.out.2.2.1 hbL (grown_below hbL)
        have hML : Marks W.heap.size WL Ds := HR.out.2.2.2.2.2.below hbL
        have hGb : ∀ b, G1 b → b < wb := fun b hb => by
          obtain ⟨o, h1, _⟩ := hJ.cells _ _ _ _ HR.out.2.2.1 hb
          have := (Array.getElem?_eq_some_iff.1 h1).1
          rw [HWB.out] at this
          exact this
        have hWwb : W.heap.size < wb := by rw [← HWB.out]; exact HR.out.2.2.2.1
        obtain ⟨Pr2, hPr2⟩ : ∃ Pr2 : Nat → Prop, Pr2 = fun b => Pr b ∨ b = W.heap.size ∨ b = wb ∨ b = wb + 1 ∨ b = wb + 2 := ⟨_, rfl⟩
        have hP2 : ∀ b, Pr2 b → ∃ o : Obj, WL.heap[b]? = some o ∧ o.isCells = true := fun b hb => by
          rw [hPr2] at hb
          rcases hb with hb | rfl | rfl | rfl | rfl
          · exact hPrW hkL b hb
          · exact ⟨_, hyL, rfl⟩
          · exact ⟨_, hL0, rfl⟩
          · exact ⟨_, hL1, rfl⟩
          · exact ⟨_, hL2, rfl⟩
        have hin : ∀ b, Pr b → Pr2 b := fun b hb => by rw [hPr2]; exact .inl hb
        have hG2 : ∀ b, G1 b → ¬ Pr2 b := fun b hb h => by
          have h1 := HR.out.2.2.2.2.1 b hb
          have h2 := hGb b hb
          rw [hPr2] at h
          rcases h with h | rfl | rfl | rfl | rfl
          · exact h1.2 h
          · exact h1.1 rfl
          · omega
          · omega
          · omega
        have y2 : Pr2 W.heap.size := by rw [hPr2]; exact .inr (.inl rfl)
        have w2 : Pr2 wb := by rw [hPr2]; exact .inr (.inr (.inl rfl))
        have hseq := thoseA_in (n - 1) (by omega) WL Pr2 hP2 (wb + 1) (wb + 2) q d l[i].arms hf hlb pr hL1 hL2 (by rw [hPr2]; simp) (by rw [hPr2]; simp) ((hA.keep (Kpt.of_below (hPrW HR.out.1) hbL)).mono hin) heg
          (fun j hj W' hk => hhas _ W' (fun b hb => (hk b (hin b hb)).trans (hkL b hb)))
        have HLEN : Bx ((thX armV pr l[i].arms).length = (f l[i]).length) := ⟨by rw [HFF.out]; exact ofm_len2 _ _ pr _ _ _⟩
        have HKL : Bx (Kpt Pr w WL) := ⟨hkL⟩
        have HIN : Bx (∀ b, Pr b → Pr2 b) := ⟨hin⟩
        have HZL : Bx (WL.heap.size = wb + 3) := ⟨hzL⟩
        have HYL : Bx _ := ⟨hyL⟩
        have HL0 : Bx _ := ⟨hL0⟩
        have HMD : Bx (∀ D ∈ Ds, D < WL.heap.size) := ⟨hML.lt⟩
        have HNG : Bx (∀ b, Pr2 b → b < WL.heap.size) := ⟨fun b hb => by obtain ⟨o, h1, _⟩ := hP2 b hb; exact (Array.getElem?_eq_some_iff.1 h1).1⟩
        clear hL1 hL2 hA hWL hkL hin hGb e1 c0 c1
        refine rangeT rfl (by omega) (gf := 36) (lb := #[.pointer (some ⟨wb + 1, 0, none⟩), .pointer (some ⟨wb + 2, 0, none⟩)]) rfl trivial (enters_of Try.func36 (by kernel_rfl) rfl) hseq ?hps
          (fun k G' W' => J (((l.take i).flatMap f).length + k) G' W' ∧ Kpt Pr2 WL W' ∧ (∀ b, G' b → ¬ Pr2 b) ∧ Marks W.heap.size W' Ds ∧ WL.heap.size ≤ W'.heap.size) G1 ?hI hG2 ⟨hJL, Kpt.refl _ _, hG2, hML, Nat.le_refl _⟩
          (fun k _ x a' W' => ∃ (tb j : Nat) (a : OArm), x = #[.int .i64 j, armV a] ∧ W'.heap[tb]? = some (.cells #[.int .i64 a.chan, .bool a.send, .int .i64 a.x, .int .i64 a.y, .slice a.zp a.zn a.zc] 43) ∧ (f l[i])[k]? = some #[spV l[i].id j a.chan] ∧
            a' = { tmps := #[Value.func (Fn.yield L) #[] #[], Value.pointer (some ⟨bL, 0, none⟩), Value.pointer (some ⟨bH, 0, none⟩), Value.pointer (some ⟨W.heap.size, 0, none⟩), undef, Value.pointer (some ⟨wb, 0, none⟩), .int .i64 j, .pointer (some ⟨tb, 0, none⟩),
              Value.slice (some ⟨b, o, none⟩) l.length c, Value.bool true, Value.bool false, Value.slice (some ⟨b, o, none⟩) l.length c, .int .i64 l.length, .int .i64 i, Value.bool true, Value.pointer (some ⟨b, o + i * 2, none⟩),
              Value.agg #[.int .i64 l[i].id, Value.slice q l[i].arms.length d], Value.pointer (some ⟨wb, 1, none⟩), Value.slice q l[i].arms.length d, Value.func (Fn.func hf) #[] hlb,
              Value.func (Fn.func 36) #[] #[Value.pointer (some ⟨wb + 1, 0, none⟩), Value.pointer (some ⟨wb + 2, 0, none⟩)], .int .i64 j, armV a, undef, undef, undef, undef, undef, undef, undef, undef, undef, u32], defers := [] })
          ?hAx ?assign ?body ?done
        case hps =>
          intro x hx
          obtain ⟨k, hk⟩ := List.getElem?_of_mem hx
          obtain ⟨j, a, _, _, rfl, _⟩ := ofm_two (fun i a => #[Value.int .i64 i, armV a]) (fun i a => #[spV 0 i a.chan]) pr _ _ _ _ hk
          rfl
        case hI =>
          refine ⟨fun s G' A B row hs hg hr => ⟨(hJ.hi (Nat.le_of_lt (by rw [HZL.out]; omega))).go _ _ _ _ row hs.1 hg hr, hs.2.1.grown hP2 hg (fun r e => (hr r e).1), hs.2.2.1, hs.2.2.2.1.grown hg (fun r e h => ?_), Nat.le_trans hs.2.2.2.2 hg.size⟩, fun s G' A b hs hb => hJ.cells _ _ _ _ hs.1 hb⟩
          have h1 := (hr r e).1
          have h2 := HMD.out r h
          omega
        case hAx =>
          rintro k _ x a' s A B row ⟨tb, j, a, e1, e2, e3, e4⟩ hg hr
          exact ⟨tb, j, a, e1, grownBy_oth hg e2 (fun e => by obtain ⟨_, o, ho, hc⟩ := hr _ e; rw [e2] at ho; cases ho; cases hc), e3, e4⟩
        case assign =>
          intro lp k x G' W' K' hx hi hK'
          obtain ⟨j, a, _, _, rfl, hsp⟩ := ofm_two (fun i a => #[Value.int .i64 i, armV a]) (fun j a => #[spV l[i].id j a.chan]) pr _ _ _ _ hx
          rw [Nat.zero_add] at hsp ⊢
          have HSP2 : Bx ((f l[i])[k]? = some #[spV l[i].id j a.chan]) := ⟨by rw [HFF.out]; exact hsp⟩
          have HI : Bx _ := ⟨hi⟩
          clear hi hsp hx
          simp only [armV]
          gi_wp2
          refine hK' _ _ (Sep.below (below1 _ _)) ⟨hJ.alloc _ HI.out.1, HI.out.2.1.grown hP2 (World.grownBy_alloc _ _ none) (fun r e => by cases e), HI.out.2.2.1, HI.out.2.2.2.1.below (below1 _ _), Nat.le_trans HI.out.2.2.2.2 (by simp)⟩ ⟨W'.heap.size, j, a, by rw [Nat.zero_add], World.alloc_heap_new _ _, HSP2.out, by simp only [Nat.zero_add, armV]⟩
        case body =>
          rintro lp k x a' G' W' hlp hrec hx hi ⟨tb, j, a, rfl, htb, hsp, rfl⟩
          obtain ⟨fn, tmps, assign, body, hy, hRd⟩ := YieldAt.any (hY _ _ G' W' (by rw [HSP.out]; exact flat_at f l i k hlt _ hsp) hi.1) lp (n - 1 - 1 - 1)
          simp only [spV] at hy
          have m0 : W'.cell? ⟨W.heap.size, 0, none⟩ = some (.func (.yield L) #[] #[]) := by rw [hi.2.1.cell y2]; exact cell_of HYL.out rfl
          have m1 : W'.cell? ⟨wb, 0, none⟩ = some (.int .i64 l[i].id) := by rw [hi.2.1.cell w2]; exact cell_of HL0.out rfl
          have m2 : W'.cell? ⟨tb, 0, none⟩ = some (.int .i64 a.chan) := cell_of htb rfl
          have HI : Bx _ := ⟨hi⟩
          clear hi htb hsp hx
          gi_wp2
          refine ⟨fun _ => by omega, ?_⟩
          refine hRd.mono ?_
          clear hRd hy
          rintro e W3 ⟨rfl, G2, hJ3, hs3⟩
          obtain ⟨hk3, hg3⟩ := HI.out.2.1.sep hP2 HI.out.2.2.1 hs3
          have HF : Bx (∃ G2, (J (((l.take i).flatMap f).length + (k + 1)) G2 W3 ∧ Kpt Pr2 WL W3 ∧ (∀ b, G2 b → ¬ Pr2 b) ∧ Marks W.heap.size W3 Ds ∧ WL.heap.size ≤ W3.heap.size) ∧ Sep WL.heap.size G' G2 W' W3) := ⟨G2, ⟨hJ3, hk3, hg3, HI.out.2.2.2.1.sep hs3, Nat.le_trans HI.out.2.2.2.2 hs3.size⟩, hs3.hi (by rw [HZL.out]; omega)⟩
          clear hJ3 hk3 hg3 hs3
          gi_wp2
          exact HF.out
        case done =>
          rintro D G' W' hD hi hk
          rw [HLEN.out] at hi
          have HF : Bx (Kpt Pr w W' ∧ W'.heap[W.heap.size]? = some (.cells #[.func (.yield L) #[] #[]] 69) ∧ J ((l.take (i + 1)).flatMap f).length G' W' ∧ W.heap.size < W'.heap.size ∧ (∀ b, G' b → b ≠ W.heap.size ∧ ¬ Pr b) ∧ Marks W.heap.size W' (D :: Ds)) := by
            refine ⟨fun b hb => (hi.2.1 b (HIN.out b hb)).trans (HKL.out b hb), (hi.2.1 _ y2).trans HYL.out, ?_, ?_, fun b hb => ⟨fun e => hi.2.2.1 b hb (e ▸ y2), fun h => hi.2.2.1 b hb (HIN.out b h)⟩, ⟨List.nodup_cons.2 ⟨fun h => ?_, hi.2.2.2.1.nodup⟩, fun D' h => ?_⟩⟩
            · rw [flat_next f l i hlt]; exact hi.1
            · have := HZL.out; have := hi.2.2.2.2; omega
            · have := HMD.out D h; omega
            · rcases List.mem_cons.1 h with rfl | h
              · exact ⟨by have := HZL.out; omega, hk⟩
              · exact hi.2.2.2.1.at_ D' h
          clear hi hk
          gi_wp2
          refine Handed.intro (l.length - (i + 1)) (by omega) (hJ2 _ _ _ ⟨i + 1, G', D :: Ds, _, _, _, _, _, _, _, _, _, rfl, by omega, rfl, HF⟩)
      · have hie : i = l.length := by omega
        subst hie
        have HF : Bx (Marks W.heap.size wr Ds ∧ J (spX pr l).length G1 wr) := ⟨HR.out.2.2.2.2.2, by have := HR.out.2.2.1; rw [List.take_length] at this; rw [HSP.out]; exact this⟩
        clear HR
        gi_wp2
        refine leaves_marks (hi := W.heap.size) (fun X => J (spX pr l).length G1 X) (fun X D hX hD hk => hJ.putObj _ hX hk rfl hD) (fun X hX => ⟨_, results_none rfl _ _ _, ⟨_, rfl⟩, G1, hX⟩) Ds wr HF.out.1 HF.out.2
end Go.Proofs.Yteinpijbdgcehaa
