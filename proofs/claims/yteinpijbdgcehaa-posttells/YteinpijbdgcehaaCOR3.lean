import Derived.Test.YteinpijbdgcehaaCOR2d
namespace Go.Proofs.Yteinpijbdgcehaa
open Go.RowKit Go.Shelf
set_option linter.unusedVariables false
set_option linter.unusedSimpArgs false
attribute [local go_sem] Oper.semAt_some

theorem spots_n64 {w : World} {Pr : Nat → Prop} {p : Option Addr} {c : Nat} {l : List OWt} (hl : WsIn w Pr p c l) (pr : OArm → Bool) : ∀ t ∈ spotsP pr l, I64 t.2.2 := by
  intro t ht
  unfold spotsP at ht
  split at ht
  · obtain ⟨V, hV, ht⟩ := List.mem_flatMap.1 ht
    obtain ⟨i, a, h1, h2⟩ := (mem_ofm _ _ _ _).1 ht
    obtain ⟨k, hk, rfl⟩ := List.mem_iff_getElem.1 hV
    obtain ⟨_, _, q, d, _, _, _, _, hA, _⟩ := hl.at_ k hk
    obtain ⟨h3, h4⟩ := List.getElem?_eq_some_iff.1 h1
    obtain ⟨_, _, _, _, ha⟩ := hA.at_ i h3
    split at h2
    · rw [List.mem_singleton] at h2
      subst h2
      rw [h4] at ha
      exact ha.n64
    · cases h2
  · cases ht

def RecPost (w : World) (ts : List (Int × Nat × Int)) (e : Ending) (w' : World) : Prop := ∃ mb own M gs, e = .returned (.map (some mb)) ∧ RcI w' w.heap.size mb ts.length ts own M gs ∧ Below w.heap.size w w'

set_option maxRecDepth 100000 in
set_option maxHeartbeats 4000000 in
theorem receivers_in (n : Nat) (hn : 8 ≤ n) (w : World) (Pr : Nat → Prop) (hPr : ∀ b, Pr b → ∃ o : Obj, w.heap[b]? = some o ∧ o.isCells = true) (p : Option Addr) (c : Nat) (l : List OWt) (hl : WsIn w Pr p c l) (hsm : (spotsP prR l).length ≤ 1000000) :
    CallsIn Fence.wide n Try.prog 22 #[.slice p l.length c] w (RecPost w (spotsP prR l)) := by
  obtain ⟨i0, hi, iz0, iz1, iz2⟩ := info_parts infoG
  obtain ⟨j0, hj, jz0, jz1, jz2⟩ := info_parts infoI
  have hmm := @run_makeMap Try.prog
  refine callsIn_of_wp_marks Try.func22 rfl trivial ?_ rfl
  simp only [Try.ntmps22, List.size_toArray, List.length_cons, List.length_nil, Nat.reduceAdd, Nat.reduceSub, Array.replicate_succ, Array.replicate_zero, List.push_toArray, List.append_toArray, List.nil_append, List.cons_append]
  gi_wp2
  refine ⟨trivial, fun _ => by omega, ?_⟩
  refine (spots_in (n - 1) _ _ _ _ _ _).mono ?_
  rintro e w' ⟨rfl, rfl⟩
  gi_wp2
  clear hmm
  obtain ⟨A, hA⟩ : ∃ A, A = w.heap.size := ⟨_, rfl⟩
  obtain ⟨W3, hW3⟩ : ∃ W3, ((((w.alloc (.map #[] 0)).alloc (.cells #[.map (some w.heap.size)] 51)).alloc (.cells #[.slice p l.length c] 22)).alloc (.cells #[.func (.func 31) #[] #[]] 56)) = W3 := ⟨_, rfl⟩
  have hb2 : Below w.heap.size w ((w.alloc (.map #[] 0)).alloc (.cells #[.map (some w.heap.size)] 51)) := two_new _ _ _
  have hb23 : Below (w.heap.size + 2) ((w.alloc (.map #[] 0)).alloc (.cells #[.map (some w.heap.size)] 51)) W3 := by rw [← hW3]; have := two_new ((w.alloc (.map #[] 0)).alloc (.cells #[.map (some w.heap.size)] 51)) (.cells #[.slice p l.length c] 22) (.cells #[.func (.func 31) #[] #[]] 56); simpa using this
  have hb3 : Below w.heap.size w W3 := hb2.trans (hb23.mono (by omega))
  have hz3 : W3.heap.size = A + 4 := by rw [← hW3, hA]; simp
  have h30 : RcM W3 A 0 (fun _ => .slice none 0 0) := by
    have h0 := World.ownsMap_made (H := Value) w Try.prog 3 Rw
    rw [hA]
    refine RcM.same (W := w.alloc (.map #[] 0)) ⟨_, h0, fun ch _ => rfl⟩ ?_
    exact (hb23.block _ (by omega)).trans (Below.heap_alloc _ _ _ (by simp))
  have h3b : W3.heap[A + 1]? = some (.cells #[.map (some A)] 51) := by
    rw [hA]; exact (hb23.block _ (by omega)).trans (alloc_at _ _ _)
  have h31 : W3.heap[A + 2]? = some (.cells #[.slice p l.length c] 22) := by
    rw [← hW3, hA]
    have := World.alloc_heap_new ((w.alloc (.map #[] 0)).alloc (.cells #[.map (some w.heap.size)] 51)) (.cells #[.slice p l.length c] 22)
    exact (Below.heap_alloc _ _ _ (by simp)).trans (by simpa using this)
  have h32 : W3.heap[A + 3]? = some (.cells #[.func (.func 31) #[] #[]] 56) := by
    rw [← hW3, hA]
    have := alloc_at ((w.alloc (.map #[] 0)).alloc (.cells #[.map (some w.heap.size)] 51)) (.cells #[.slice p l.length c] 22) (.cells #[.func (.func 31) #[] #[]] 56)
    simpa using this
  rw [hW3]
  have hk3 : Kpt Pr w W3 := Kpt.of_below hPr hb3
  obtain ⟨Pr2, hPr2⟩ : ∃ Pr2 : Nat → Prop, Pr2 = fun b => Pr b ∨ b = A + 2 ∨ b = A + 3 := ⟨_, rfl⟩
  have hP2 : ∀ b, Pr2 b → ∃ o : Obj, W3.heap[b]? = some o ∧ o.isCells = true := fun b hb => by
    rw [hPr2] at hb
    rcases hb with hb | rfl | rfl
    · obtain ⟨o, h1, h2⟩ := hPr b hb
      exact ⟨o, (hk3 b hb).trans h1, h2⟩
    · exact ⟨_, h31, rfl⟩
    · exact ⟨_, h32, rfl⟩
  have hin : ∀ b, Pr b → Pr2 b := fun b hb => by rw [hPr2]; exact .inl hb
  have hseq := spots1_in (n - 1) (by omega) W3 Pr2 hP2 (A + 2) (A + 3) p c l 31 #[] prR h31 h32 (by rw [hPr2]; simp) (by rw [hPr2]; simp) ((hl.keep hk3).mono hin) (enters_of Try.func31 (by kernel_rfl) rfl)
    (fun a W _ => by simpa using receives_any a W)
  have HA : Bx (A = w.heap.size) := ⟨hA⟩
  have HB3 : Bx (Below A w W3) := ⟨by rw [hA]; exact hb3⟩
  have HN64 : Bx (∀ t ∈ spotsP prR l, I64 t.2.2) := ⟨spots_n64 hl prR⟩
  obtain ⟨ts, hts⟩ : ∃ ts, spotsP prR l = ts := ⟨_, rfl⟩
  have HTS : Bx (spotsP prR l = ts) := ⟨hts⟩
  have HX : Bx (spX prR l = ts.map fun t => #[spV t.1 t.2.1 t.2.2]) := ⟨by rw [spX_map, hts]⟩
  rw [hts] at hsm HN64 ⊢
  have HLN : Bx (ts.length ≤ 1000000) := ⟨hsm⟩
  rw [← hA]
  clear hA hts hk3 hb3 hb2 hb23 hW3 h31 h32 hl hsm
  simp only [Nat.add_assoc, Nat.reduceAdd]
  have hI : Abi W3.heap.size (fun k G W => (∃ own M gs, (∀ b, G b ↔ own b ≠ none) ∧ RcI W (A + 4) A k ts own M gs) ∧ W.heap[A + 1]? = some (.cells #[.map (some A)] 51) ∧ Below A w W) := by
    refine ⟨fun s G X Y row hs hg hr => ?_, fun s G X b hs hb => ?_⟩
    · obtain ⟨⟨own, M, gs, h1, h2⟩, h3, h4⟩ := hs
      refine ⟨⟨own, M, gs, h1, ⟨h2.rows.grown hg (fun r e => ?_), h2.map.kept hg (fun r e => by have := (hr r e).1; omega), h2.flat, h2.len, h2.plen, h2.ne⟩⟩, grownBy_oth hg h3 (fun e => by have := (hr _ e).1; omega), h4.grown hg (by have := h4.size; have := HA.out; omega) (fun k e => by have := (hr k e).1; omega)⟩
      have := (hr r e).2
      rw [h1] at this
      exact Decidable.not_not.1 this
    · obtain ⟨⟨own, M, gs, h1, h2⟩, h3, h4⟩ := hs
      exact h2.rows.cel b ((h1 b).1 hb)
  refine rangeT rfl (by omega) (gf := 32) (lb := #[.pointer (some ⟨A + 2, 0, none⟩), .pointer (some ⟨A + 3, 0, none⟩)]) rfl trivial (enters_of Try.func32 (by kernel_rfl) rfl) hseq ?hps
    (fun k G W => (∃ own M gs, (∀ b, G b ↔ own b ≠ none) ∧ RcI W (A + 4) A k ts own M gs) ∧ W.heap[A + 1]? = some (.cells #[.map (some A)] 51) ∧ Below A w W) (fun _ => False) hI (fun b h => h.elim)
    ⟨⟨fun _ => none, fun _ => .slice none 0 0, fun _ => [], fun b => by simp, ⟨⟨fun ch => ⟨rfl, .inl ⟨rfl, rfl⟩⟩, fun ch b h => (by cases h), fun ch i h => (by simp at h), fun ch i h => (by simp at h), fun b h => (by simp at h), fun b h => (by simp at h)⟩, h30, fun ch => (by simp [flatG, onCh]), fun ch => (by simp), fun ch i h => (by simp at h), fun ch i h => (by simp at h)⟩⟩, h3b, HB3.out⟩
    (fun k G x a' W => ∃ (tb : Nat) (t : Int × Nat × Int), ts[k]? = some t ∧ W.heap[tb]? = some (.cells #[.int .i64 t.1, .int .i64 t.2.1, .int .i64 t.2.2] 58) ∧ (tb ≠ A + 1) ∧ ¬ G tb ∧
      a' = { tmps := #[.slice p l.length c, undef, .map none, .pointer (some ⟨A + 1, 0, none⟩), .pointer (some ⟨tb, 0, none⟩), undef, undef, undef, .map (some A), .slice p l.length c, .func (.func 32) #[] #[.pointer (some ⟨A + 2, 0, none⟩), .pointer (some ⟨A + 3, 0, none⟩)], spV t.1 t.2.1 t.2.2, undef, undef, undef, undef, undef, undef, undef, undef, undef, undef, undef, undef, undef, undef, undef, undef, undef, undef, undef, undef, undef, undef, undef, undef, undef, undef, undef, undef, undef, undef, undef, undef, undef, undef, undef, undef, undef, undef, undef, undef, undef, undef, undef, undef, undef, undef], defers := [] })
    ?hAx ?assign ?body ?done
  case hps =>
    intro x hx
    rw [HX.out] at hx
    obtain ⟨t, _, rfl⟩ := List.mem_map.1 hx
    rfl
  case hAx =>
    rintro k G x a' s X Y row ⟨tb, t, e1, e2, e3⟩ hg hr
    exact ⟨tb, t, e1, grownBy_oth hg e2 (fun e => by obtain ⟨_, o, ho, hc⟩ := hr _ e; rw [e2] at ho; cases ho; cases hc), e3⟩
  case assign =>
    intro lp k x G W K hx hi2 hK
    rw [HX.out, List.getElem?_map] at hx
    obtain ⟨t, ht, rfl⟩ := Option.map_eq_some_iff.1 hx
    have HT : Bx _ := ⟨ht⟩
    have HI : Bx _ := ⟨hi2⟩
    have HNE : Bx (W.heap.size ≠ A + 1) := ⟨by have := (Array.getElem?_eq_some_iff.1 hi2.2.1).1; omega⟩
    have HNG : Bx (¬ G W.heap.size) := ⟨fun hg => by obtain ⟨o, h1, _⟩ := hI.cells _ _ _ _ hi2 hg; have := (Array.getElem?_eq_some_iff.1 h1).1; omega⟩
    clear hi2 hx ht
    simp only [spV]
    gi_wp2
    exact hK _ _ (Sep.below (below1 _ _)) (hI.alloc _ HI.out) ⟨W.heap.size, t, HT.out, World.alloc_heap_new _ _, HNE.out, HNG.out, rfl⟩
  case body =>
    rintro lp k x a' G W hlp hrec hx ⟨⟨own, M, gs, hG, hR⟩, hbx, hBl⟩ ⟨tb, t, ht, htb, hta, htg, rfl⟩
    have c0 : W.cell? ⟨tb, 0, none⟩ = some (.int .i64 t.1) := cell_of htb rfl
    have c1 : W.cell? ⟨tb, 1, none⟩ = some (.int .i64 t.2.1) := cell_of htb rfl
    have c2 : W.cell? ⟨tb, 2, none⟩ = some (.int .i64 t.2.2) := cell_of htb rfl
    have g0 : W.cell? ⟨A + 1, 0, none⟩ = some (.map (some A)) := cell_of hbx rfl
    have hkl : k < ts.length := (List.getElem?_eq_some_iff.1 ht).1
    have h64 : I64 t.2.2 := HN64.out t (List.mem_of_getElem? ht)
    have hlk := hR.map.look h64
    obtain ⟨pm, cm, hMv, hMp, hMc, hMx⟩ := hR.val t.2.2
    rw [hMv] at hlk
    have HW : Bx (RcI W (A + 4) A k ts own M gs ∧ Below A w W ∧ W.heap[A + 1]? = some (.cells #[.map (some A)] 51) ∧ W.heap[tb]? = some (.cells #[.int .i64 t.1, .int .i64 t.2.1, .int .i64 t.2.2] 58) ∧ ts[k]? = some t) := ⟨hR, hBl, hbx, htb, ht⟩
    have HMV : Bx _ := ⟨hMv⟩
    have HSZ0 : Bx (A + 4 ≤ W.heap.size) := ⟨by obtain ⟨r, hr⟩ := hrec; have := (Array.getElem?_eq_some_iff.1 hr).1; omega⟩
    clear hR hBl hbx htb hMv hx ht
    gi_wp2
    rename_i K8 hK8 K7 hK7
    obtain rfl : G = fun b => own b ≠ none := funext fun b => propext (hG b)
    have htg2 : own tb = none := Decidable.not_not.1 htg
    have key : ∀ (W4 : World) (own4 : Nat → Option (Int × Option Nat)) (M4 : Int → Value) (gs4 : Int → List OGr) (pre : List OGr) (q : OGr) (gb cap0 m : Nat) (u6 u15 u16 u17 u18 u19 u20 u21 u22 u23 u24 u25 u26 u27 u28 u29 u30 u31 u32 u33 u34 u35 u36 : Value), pre.length = m → Bx (Rc4 w W A k tb t own M gs W4 own4 M4 gs4 pre q gb cap0) → K8 { tmps := #[.slice p l.length c, undef, .map none, .pointer (some ⟨A + 1, 0, none⟩), .pointer (some ⟨tb, 0, none⟩), .slice (some ⟨gb, 0, none⟩) (m + 1) cap0, u6, undef, .map (some A), .slice p l.length c, .func (.func 32) #[] #[.pointer (some ⟨A + 2, 0, none⟩), .pointer (some ⟨A + 3, 0, none⟩)], spV t.1 t.2.1 t.2.2, .map (some A), .pointer (some ⟨tb, 2, none⟩), .int .i64 t.2.2, u15, u16, u17, u18, u19, u20, u21, u22, u23, u24, u25, u26, u27, u28, u29, u30, u31, u32, u33, u34, u35, u36, undef, undef, undef, undef, undef, undef, undef, undef, undef, undef, undef, undef, undef, undef, undef, undef, undef, undef, undef, undef, undef], defers := [] } W4 := by
      intro W4 own4 M4 gs4 pre q gb cap0 m u6 u15 u16 u17 u18 u19 u20 u21 u22 u23 u24 u25 u26 u27 u28 u29 u30 u31 u32 u33 u34 u35 u36 hm H4
      have HM : Bx (pre.length = m) := ⟨hm⟩
      have hcp := H4.out.cap
      have hln := H4.out.len
      have hkx := HLN.out
      unfold maxLen at hcp
      rw [hm] at hcp hln
      clear hm
      refine hK8 _ _ ?_
      clear hK8 hK7
      gi_wp2
      rename_i K10 hK10
      have hno : ¬ LetsOut (Exit.then K10 (Exit.inBlock 1 (tPost W3.heap.size (fun k G W => (∃ own M gs, (∀ b, G b ↔ own b ≠ none) ∧ RcI W (A + 4) A k ts own M gs) ∧ W.heap[A + 1]? = some (.cells #[.map (some A)] 51) ∧ Below A w W) k (fun b => own b ≠ none) W))) := by rintro ⟨_, _, h⟩; exact h
      have HD : Bx (Rc4 w W A k tb t own M gs W4.drew own4 M4 gs4 pre q gb cap0) := ⟨H4.out.up HA.out ((Below.refl _ _).drew)⟩
      have d0 : W4.drew.cell? ⟨tb, 1, none⟩ = some (.int .i64 t.2.1) := cell_of HD.out.sp rfl
      have HXa : Bx (Rc4 w W A k tb t own M gs (W4.alloc (.cells #[.int .i64 t.2.1] 3)).drew own4 M4 gs4 pre q gb cap0) := ⟨H4.out.up HA.out ((below1 _ _).drew)⟩
      have hgrow : ∀ {Y : World}, Rc4 w W A k tb t own M gs Y own4 M4 gs4 pre q gb cap0 → Y.cell? ⟨gb, m * 2 + 1, none⟩ = some (.slice q.gp q.places.length q.gc) := fun {Y} hY => by
        have h1 := hY.rows.row t.2.2
        rw [hY.here, hY.val] at h1
        simp only [List.length_append, List.length_singleton] at h1
        have h2 := (grsC_at (pre ++ [q]) pre.length (by simp)).2
        simp only [List.getElem_concat_length] at h2
        rw [HM.out] at h1 h2
        exact (own_cell h1 h2).1
      have hgr := hgrow HD.out
      have d1 := hgrow HXa.out
      have hpl : q.places.length ≤ 1000000 := by
        have := H4.out.plen pre.length (by simp)
        simp only [List.getElem_concat_length] at this
        omega
      have hown : (W4.alloc (.cells #[.int .i64 t.2.1] 3)).drew.ownsRow (A + 4) 3 1 (.slice q.gp q.places.length q.gc) q.places.length (plsC q.places) := by
        have h1 := HXa.out.rows.prow t.2.2 pre.length (by rw [HXa.out.here]; simp)
        simp only [HXa.out.here, List.getElem_concat_length] at h1
        exact h1
      have hbs : A + 4 ≤ (W4.alloc (.cells #[.int .i64 t.2.1] 3)).drew.heap.size := by
        obtain ⟨o, h1, _⟩ := HXa.out.rows.cel gb (by rw [HXa.out.rows.rl t.2.2 gb (by rw [HXa.out.val]; rfl)]; simp)
        have h2 := own_base (HXa.out.rows.row t.2.2) gb (by rw [HXa.out.val]; rfl)
        have := (Array.getElem?_eq_some_iff.1 h1).1
        omega
      refine recv9 hno (fun h => h) d0 hgr d1 hown hpl hbs ?_
      intro hb cap w5 hown5 hgrow5 hat5
      obtain ⟨⟨p3, p4⟩, p5, p6, W7, hrun, own7, M7, gs7, r1, r2, r3, r4⟩ := Rc4.fin HXa.out HW.out.1 HA.out HW.out.2.2.2.2 (by omega) h64 hown5 hgrow5 hat5
      rw [HM.out] at p3 p4 p5 p6 hrun
      refine ⟨⟨_, p3, rfl⟩, p4, hK10 _ _ ?_⟩
      have HF : Bx ((tPost W3.heap.size (fun k G W => (∃ own M gs, (∀ b, G b ↔ own b ≠ none) ∧ RcI W (A + 4) A k ts own M gs) ∧ W.heap[A + 1]? = some (.cells #[.map (some A)] 51) ∧ Below A w W) k (fun b => own b ≠ none) W) .normal (Act.mk #[] []) W7) := ⟨fun b => own7 b ≠ none, ⟨⟨own7, M7, gs7, fun b => Iff.rfl, r1⟩, r3, r4⟩, r2 _ (by omega)⟩
      clear hK10 hno HD HXa hgrow hgr d0 d1 hown hbs hown5 hgrow5 hat5 r1 r2 r3 r4 p3 p4 H4
      gi_wp2
      exact HF.out
    have hno7 : ¬ LetsOut (Exit.then K7 (Exit.then K8 (Exit.inBlock 1 (tPost W3.heap.size (fun k G W => (∃ own M gs, (∀ b, G b ↔ own b ≠ none) ∧ RcI W (A + 4) A k ts own M gs) ∧ W.heap[A + 1]? = some (.cells #[.map (some A)] 51) ∧ Below A w W) k (fun b => own b ≠ none) W)))) := by rintro ⟨_, _, h⟩; exact h
    have hkx := HLN.out
    have hgl := HW.out.1.len t.2.2
    have HKEY : Bx _ := ⟨key⟩
    clear key hK8
    have app : ∀ (u18 u19 u20 u21 u22 u23 u24 u25 u26 u27 u28 u29 : Value), K7 { tmps := #[.slice p l.length c, undef, .map none, .pointer (some ⟨A + 1, 0, none⟩), .pointer (some ⟨tb, 0, none⟩), .slice pm (gs t.2.2).length cm, .int .i64 (gs t.2.2).length, undef, .map (some A), .slice p l.length c, .func (.func 32) #[] #[.pointer (some ⟨A + 2, 0, none⟩), .pointer (some ⟨A + 3, 0, none⟩)], spV t.1 t.2.1 t.2.2, .map (some A), .pointer (some ⟨tb, 2, none⟩), .int .i64 t.2.2, .slice pm (gs t.2.2).length cm, .slice pm (gs t.2.2).length cm, .int .i64 (gs t.2.2).length, u18, u19, u20, u21, u22, u23, u24, u25, u26, u27, u28, u29, .bool true, undef, undef, undef, undef, undef, undef, undef, undef, undef, undef, undef, undef, undef, undef, undef, undef, undef, undef, undef, undef, undef, undef, undef, undef, undef, undef, undef], defers := [] } W.drew := by
      intro u18 u19 u20 u21 u22 u23 u24 u25 u26 u27 u28 u29
      refine hK7 _ _ ?_
      clear hK7
      have e0 : W.drew.cell? ⟨tb, 0, none⟩ = some (.int .i64 t.1) := c0
      have HOW : Bx ((W.alloc (.cells #[.int .i64 t.1, .slice none 0 0] 61)).drew.ownsRow (A + 4) 61 2 (.slice pm (gs t.2.2).length cm) (gs t.2.2).length (grsC (gs t.2.2))) := ⟨by rw [← HMV.out]; exact own_new (HW.out.1.rows.row t.2.2) ((below1 _ _).drew)⟩
      have HSZ : Bx (A + 4 ≤ W.heap.size) := ⟨by have h1 := (Array.getElem?_eq_some_iff.1 HW.out.2.2.1).1; have h2 := (Array.getElem?_eq_some_iff.1 HW.out.2.2.2.1).1; have := HSZ0.out; omega⟩
      gi_wp2_with (first | (gi_at_builtin; refine wpListIn_app _ rfl (.tmp 31) (.tmp 35) 66 rfl (A + 4) 61 i0 (.agg #[.int .i64 0, .slice none 0 0]) 2 32 Try.underlying66 hi iz0 iz1 iz2 rfl (by decide) (.slice pm (gs t.2.2).length cm) (gs t.2.2).length (grsC (gs t.2.2)) rfl HOW.out ⟨W.heap.size, 0, none⟩ 1 1 [.int .i64 t.1, .slice none 0 0] rfl rfl (block_cells _ _ #[.int .i64 t.1, .slice none 0 0] 61 (World.alloc_heap_new W _)) (by simp [Value.oneCell']) (by decide) (by unfold maxLen; omega) (by omega) (by have := HSZ.out; simp; omega) (W.heap.size + 1) (by simp) ?_; intro gg gcap w4 hown' hgrow' hgi' hgl'))
      refine HKEY.out w4 _ _ _ (gs t.2.2) ⟨t.1, [], none, 0⟩ gg gcap (gs t.2.2).length _ _ _ _ _ _ _ _ _ _ _ _ _ _ _ _ _ _ _ _ _ _ _ rfl ⟨Rc4.add HW.out.1 HA.out HW.out.2.1 HW.out.2.2.1 HW.out.2.2.2.1 htg2 (X := (W.alloc (.cells #[.int .i64 t.1, .slice none 0 0] 61)).drew) ((below1 _ _).drew) hown' (by rw [HMV.out]; exact hgrow') (by rw [HMV.out]; simpa using hgi')⟩
    have HAPP : Bx _ := ⟨app⟩
    clear app
    rcases List.eq_nil_or_concat (gs t.2.2) with hnil | ⟨pre, q, hpq⟩
    · have h0 : (gs t.2.2).length = 0 := by rw [hnil]; rfl
      have APP := HAPP.out
      simp only [h0, Int.natCast_zero] at APP ⊢
      exact recv6a hno7 (fun h => h) (APP _ _ _ _ _ _ _ _ _ _ _ _)
    · rw [List.concat_eq_append] at hpq
      have h0 : (gs t.2.2).length = pre.length + 1 := by rw [hpq]; simp
      obtain ⟨gb, rfl⟩ := hMp (by omega)
      have APP := HAPP.out
      have hrow : W.drew.cell? ⟨gb, pre.length * 2, none⟩ = some (.int .i64 q.id) := by
        have h1 := HW.out.1.rows.row t.2.2
        rw [HMV.out] at h1
        have h2 := (grsC_at (gs t.2.2) pre.length (by omega)).1
        simp only [hpq, List.getElem_concat_length] at h2
        rw [← hpq] at h2
        exact (own_cell h1 h2).1
      simp only [h0] at APP ⊢
      rw [h0] at hMc
      refine recv6b hno7 (fun h => h) (by omega) hMc hMx hrow c0 ?_
      by_cases hid : q.id = t.1
      · have hb : (q.id != t.1) = false := by simp [hid]
        rw [hb]
        have H4 : Bx (Rc4 w W.drew A k tb t own M gs W.drew own M gs pre q gb cm) := ⟨Rc4.last (ts := ts) ⟨HW.out.1.rows.grown (grown_below ((Below.refl _ _).drew)) (fun r e => by cases e), HW.out.1.map.kept (grown_below ((Below.refl _ _).drew)) (fun r e => by cases e), HW.out.1.flat, HW.out.1.len, HW.out.1.plen, HW.out.1.ne⟩ HW.out.2.1.drew HW.out.2.2.1 HW.out.2.2.2.1 htg2 hpq (by rw [HMV.out, h0]) hMc hMx hid⟩
        refine hK7 _ _ ?_
        clear hK7 HAPP APP
        gi_wp2
        exact HKEY.out W.drew own M gs pre q gb cm pre.length _ _ _ _ _ _ _ _ _ _ _ _ _ _ _ _ _ _ _ _ _ _ _ rfl ⟨⟨H4.out.rows, H4.out.map, H4.out.oth, H4.out.here, H4.out.val, H4.out.cap, H4.out.flat, H4.out.qid, H4.out.len, H4.out.plen, fun hi => Sep.below ((Below.refl _ _).drew), H4.out.bel, H4.out.box, H4.out.sp, H4.out.ntb, H4.out.pne⟩⟩
      · have hb : (q.id != t.1) = true := by simp [hid]
        rw [hb]
        exact APP _ _ _ _ _ _ _ _ _ _ _ _
  case done =>
    rintro D G W hD ⟨⟨own, M, gs, hG, hR⟩, hbx, hBl⟩ hK
    rw [HX.out, List.length_map] at hR
    have g0 : W.cell? ⟨A + 1, 0, none⟩ = some (.map (some A)) := cell_of hbx rfl
    have HF : Bx (RcI W (A + 4) A ts.length ts own M gs ∧ Below A w W ∧ W.heap[D]? = some (.deferred (some []))) := ⟨hR, hBl, hK⟩
    clear hR hBl hbx
    gi_wp2
    refine ⟨by simp, .inl ⟨_, _, rfl, run_takeDeferred hK, ?_⟩⟩
    refine ⟨_, results_tmp rfl _ _ _, A, own, M, gs, rfl, ?_, ?_⟩
    · rw [HTS.out]
      have hgr : W.grownBy (W.putObj D (.deferred none)) (some D) := grownBy_putObj' _ _ _
      have hr := HF.out.1.rows.grown hgr (fun r e => by
        cases e
        refine Decidable.not_not.1 (fun h => ?_)
        obtain ⟨o, h1, h2⟩ := HF.out.1.rows.cel D h
        rw [HF.out.2.2] at h1; cases h1; cases h2)
      exact ⟨⟨fun ch => own_low (hr.row ch) (by have := HA.out; omega), hr.rl, fun ch i h => own_low (hr.prow ch i h) (by have := HA.out; omega), hr.pl, hr.cel, fun b h => by have := hr.low b h; have := HA.out; omega⟩, HF.out.1.map.kept hgr (fun r e => by cases e; omega), HF.out.1.flat, HF.out.1.len, HF.out.1.plen, HF.out.1.ne⟩
    · rw [← HA.out]
      exact HF.out.2.1.grown (grownBy_putObj' _ _ _) (by have := HF.out.2.1.size; have := HA.out; omega) (fun k e => by cases e; omega)
end Go.Proofs.Yteinpijbdgcehaa
