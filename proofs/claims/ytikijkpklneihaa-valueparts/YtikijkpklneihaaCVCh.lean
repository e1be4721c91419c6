import Derived.Test.YtikijkpklneihaaCVCp
import Derived.Test.YtikijkpklneihaaCShelf
import Derived.Lib.OwnBridge
import Derived.Sort.OwnSortedInts
import Derived.Sort.Grow
namespace Go.Proofs.Ytikijkpklneihaa
open Go.RowKit Go.Shelf Go.Sort
set_option linter.unusedVariables false
set_option linter.unusedSimpArgs false
attribute [local go_sem] Oper.semAt_some

theorem infoI : (Try.prog.info? 3).map (fun i => (i.zero, i.size, i.bytes)) = some (some (.int .i64 0), 1, 8) := by kernel_rfl

/-- the body's own: the variable out, and its row -/
def foot (A : Nat) (W : World) (b : Nat) : Prop := b = A + 1 ∨ ∃ sv, W.heap[A + 1]? = some (Obj.cells #[sv] 25) ∧ sv.ownBlock = some b
/-- out holds numbers -/
structure Out (A : Nat) (W : World) (zs : List Int) : Prop where
  ex : ∃ sv, W.heap[A + 1]? = some (Obj.cells #[sv] 25) ∧ W.ownsRow (A + 3) 3 1 sv zs.length (zs.map (Value.int .i64))
theorem Out.keep {A : Nat} {W W' : World} {zs : List Int} (h : Out A W zs) (h1 : W'.heap[A + 1]? = W.heap[A + 1]?) (h2 : ∀ b o, foot A W b → W.heap[b]? = some o → W'.heap[b]? = some o) : Out A W' zs := by
  obtain ⟨sv, e1, e2⟩ := h.ex
  exact ⟨sv, h1.trans e1, own_same e2 (fun g o hg hgo => h2 g o (.inr ⟨sv, e1, hg⟩) hgo)⟩
theorem foot_same {A : Nat} {W W' : World} (h1 : W'.heap[A + 1]? = W.heap[A + 1]?) {b : Nat} (h : foot A W' b) : foot A W b := by
  rcases h with h | ⟨sv, e1, e2⟩
  · exact .inl h
  · exact .inr ⟨sv, h1 ▸ e1, e2⟩
theorem Out.abid {A : Nat} {w : World} (hA : A = w.heap.size) {β : Type} (f : β → List Int) : Abid A (foot A) (fun (s : β) W => Out A W (f s) ∧ Below A w W) := by
  refine ⟨fun s X Y row hs hg hr => ?_, fun s X b hs hf => ?_⟩
  · obtain ⟨sv, e1, e2⟩ := hs.1.ex
    have h1 : Y.heap[A + 1]? = X.heap[A + 1]? := (grownBy_other hg e1 (fun e => (hr _ e).2 (.inl rfl))).trans e1.symm
    exact ⟨⟨hs.1.keep h1 (fun b o hf hb => grownBy_other hg hb (fun e => (hr _ e).2 hf)), hs.2.grown hg (by have := hs.2.size; omega) (fun k e => (hr k e).1)⟩, fun b hb => foot_same h1 hb⟩
  · obtain ⟨sv, e1, e2⟩ := hs.1.ex
    rcases hf with rfl | ⟨sv', e1', e2'⟩
    · exact ⟨by omega, _, e1, rfl⟩
    · rw [e1] at e1'
      simp at e1'
      subst e1'
      exact ⟨by have := own_base e2 b e2'; omega, own_cells e2 e2'⟩

/-- a number more -/
theorem Out.push {A : Nat} {W w4 : World} {zs : List Int} {sv : Value} {g cap : Nat} {y : Int} (e1 : W.heap[A + 1]? = some (Obj.cells #[sv] 25)) (e2 : W.ownsRow (A + 3) 3 1 sv zs.length (zs.map (Value.int .i64))) {o : Obj}
    (hown : w4.ownsRow (A + 3) 3 1 (.slice (some ⟨g, 0, none⟩) (zs.length + 1) cap) (zs.length + 1) (zs.map (Value.int .i64) ++ [.int .i64 y])) (hg : (W.alloc o).grownBy w4 sv.ownBlock) (hat : sv.ownBlock = some g ∨ g = W.heap.size + 1) (hA : A + 2 ≤ W.heap.size) :
    let W' := w4.setCell ⟨A + 1, 0, none⟩ (.slice (some ⟨g, 0, none⟩) (zs.length + 1) cap)
    Out A W' (zs ++ [y]) ∧ KeepsOthers W W' ∧ Sep A (foot A) W W' ∧ (∀ w, A = w.heap.size → Below A w W → Below A w W') ∧ Boxed w4 (A + 1) 25 sv := by
  intro W'
  have hne : ∀ b, sv.ownBlock = some b → A + 3 ≤ b := fun b hb => own_base e2 b hb
  have hX : ∀ b o', W.heap[b]? = some o' → (W.alloc o).heap[b]? = some o' := fun b o' hb => (Below.heap_alloc _ _ _ (Array.getElem?_eq_some_iff.1 hb).1).trans hb
  have b4 : Boxed w4 (A + 1) 25 sv := grownBy_other hg (hX _ _ e1) (fun e => by have := hne _ e; omega)
  have b5 : Boxed W' (A + 1) 25 (.slice (some ⟨g, 0, none⟩) (zs.length + 1) cap) := b4.set _
  have hg3 : A + 3 ≤ g := own_base hown g rfl
  have ho5 : W'.ownsRow (A + 3) 3 1 (.slice (some ⟨g, 0, none⟩) (zs.length + 1) cap) (zs.length + 1) (zs.map (Value.int .i64) ++ [.int .i64 y]) := own_same hown (fun g' o' hg' ho' => by
    rw [ownB] at hg'; cases hg'
    exact (Below.heap_setCell _ _ _ _ (by show g ≠ A + 1; omega)).trans ho')
  have hsz : W.heap.size ≤ W'.heap.size := by
    have h1 := hg.size
    have h2 : W'.heap.size = w4.heap.size := World.size_setCell _ _ _
    rw [h2]; simp at h1; omega
  have hsame : ∀ b o', W.heap[b]? = some o' → sv.ownBlock ≠ some b → b ≠ A + 1 → W'.heap[b]? = some o' := fun b o' hb h1 h2 =>
    (Below.heap_setCell _ _ _ _ h2).trans (grownBy_other hg (hX _ _ hb) h1)
  refine ⟨⟨_, b5, by simpa using ho5⟩, ⟨hsz, fun k o' hk ho' => hsame k o' hk (fun e => ?_) (fun e => ?_)⟩, ⟨fun b hb => ?_, hsz, fun b o' hb _ hf => hsame b o' hb (fun e => hf (.inr ⟨sv, e1, e⟩)) (fun e => hf (.inl e)), fun b hf => ?_⟩, fun w hw hb => ?_, b4⟩
  · obtain ⟨o2, h1, h2⟩ := own_cells e2 e
    rw [hk] at h1; cases h1; rw [ho'] at h2; cases h2
  · subst e; rw [e1] at hk; cases hk; cases ho'
  · rw [Below.heap_setCell _ _ _ _ (by show b ≠ A + 1; omega)]
    exact (hg.block b (by simp; omega) (fun e => by have := hne _ e.symm; omega)).trans (Below.heap_alloc _ _ _ (by omega))
  · rcases hf with h | ⟨sv', q1, q2⟩
    · exact .inl (.inl h)
    · rw [show W'.heap[A + 1]? = _ from b5] at q1
      simp at q1
      subst q1
      rw [ownB] at q2
      cases q2
      rcases hat with h | h
      · exact .inl (.inr ⟨sv, e1, h⟩)
      · exact .inr (by omega)
  · exact ((hb.alloc (by omega) o).grown hg (by simp; omega) (fun k e => by have := hne k e; omega)).setCell (p := ⟨A + 1, 0, none⟩) (by show A ≤ A + 1; omega) _

theorem own_close {A D : Nat} {W : World} {e : TypeId} {s : Nat} {v : Value} {n : Nat} {cs : List Value} (hown : W.ownsRow (A + 3) e s v n cs) (hK : W.heap[D]? = some (.deferred (some []))) : (W.putObj D (.deferred none)).ownsRow A e s v n cs := by
  have h1 : W.ownsRow A e s v n cs := ⟨hown.1, by
    rcases hown.2 with h | ⟨g, cap, cur, e, h1, h2⟩
    · exact .inl h
    · exact .inr ⟨g, cap, cur, e, by omega, h2⟩⟩
  refine own_same h1 (fun g o hg ho => ?_)
  rw [World.putObj_heap_other (fun e => ?_)]
  · exact ho
  · subst e
    obtain ⟨o2, h1, h2⟩ := own_cells hown hg
    rw [hK] at h1; cases h1; cases h2
theorem putRow_other {W : World} {g q b : Nat} {d : Array Int} (h : b ≠ g) : (putRow (Value.int .i64) (Sort.ahead W q) g 0 d).heap[b]? = W.heap[b]? := by
  simp [putRow, mapBlock, Sort.ahead, Array.getElem?_modify, show g ≠ b by omega]

def ChPost (w : World) (x : V) (e : Ending) (w' : World) : Prop := ∃ cs v, e = .returned v ∧ IsCh x cs ∧ w'.ownsRow w.heap.size 3 1 v cs.length (cs.map (Value.int .i64)) ∧ Below w.heap.size w w'

set_option maxRecDepth 100000 in
set_option maxHeartbeats 2000000 in
theorem Chans_in (n : Nat) (hn : 4 ≤ n) (w : World) (v : Value) (x : V) (hv : IsV w w.heap.size v x) (hx : x.sz ≤ 65536) :
    CallsIn Fence.wide n Try.prog 16 #[v] w (ChPost w x) := by
  obtain ⟨⟨p, cap, rfl, h1⟩, h2, h3⟩ := hv
  obtain ⟨i0, hi, iz0, iz1, iz2⟩ := info_parts infoI
  refine callsIn_of_wp_marks Try.func16 rfl trivial ?_ rfl
  simp only [Try.ntmps16, List.size_toArray, List.length_cons, List.length_nil, Nat.reduceAdd, Nat.reduceSub, Array.replicate_succ, Array.replicate_zero, List.push_toArray, List.append_toArray, List.nil_append, List.cons_append]
  gi_wp2
  refine ⟨trivial, fun _ => by omega, ?_⟩
  refine (each_in (n - 1) _ _ _ _ _ _).mono ?_
  rintro e w' ⟨rfl, rfl⟩
  gi_wp2
  obtain ⟨A, hA⟩ : ∃ A, A = w.heap.size := ⟨_, rfl⟩
  obtain ⟨W3, hW3⟩ : ∃ W3, (((w.alloc (Obj.cells #[Value.int IntKind.i64 x.k, Value.int IntKind.i64 x.n, Value.slice p x.l.length cap] 24)).alloc (Obj.cells #[Value.slice none 0 0] 25)).alloc (Obj.cells #[Value.int IntKind.i64 x.k, Value.int IntKind.i64 x.n, Value.slice p x.l.length cap] 24)) = W3 := ⟨_, rfl⟩
  have hb3 : Below A w W3 := by rw [hA, ← hW3]; exact (two_new _ _ _).trans ((below1 _ _).mono (by simp; omega))
  have hr3 : W3.heap[A + 1]? = some (Obj.cells #[Value.slice none 0 0] 25) := by rw [hA, ← hW3]; exact (Below.heap_alloc _ _ _ (by simp)).trans (alloc_at _ _ _)
  have hx3 : W3.heap[A + 2]? = some (Obj.cells #[Value.int IntKind.i64 x.k, Value.int IntKind.i64 x.n, Value.slice p x.l.length cap] 24) := by
    rw [hA, ← hW3]; have := World.alloc_heap_new ((w.alloc (Obj.cells #[Value.int IntKind.i64 x.k, Value.int IntKind.i64 x.n, Value.slice p x.l.length cap] 24)).alloc (Obj.cells #[Value.slice none 0 0] 25)) (Obj.cells #[Value.int IntKind.i64 x.k, Value.int IntKind.i64 x.n, Value.slice p x.l.length cap] 24)
    simpa using this
  have hz3 : W3.heap.size = A + 3 := by rw [hA, ← hW3]; simp
  rw [hW3]
  have hsl : SlV W3 A p cap x.l := by rw [hA] at hb3 ⊢; exact h1.lo (Lo.of hb3)
  have hseq := each1_in (n - 1) (by omega) A (A + 2) W3 x p cap (by omega) hx3 hsl h2 h3 hx
  clear hx3 hsl hW3 h1 h2 h3
  simp only [Nat.add_assoc, Nat.reduceAdd]
  rw [← hA]
  have HA : Bx (A = w.heap.size) := ⟨hA⟩
  have hI := Out.abid hA (β := List (Value × V)) (fun pre => chs (pre.map Prod.snd))
  clear hA
  refine wpIn_rangeFunc_sep (lo := A) rfl (by omega) (gf := 37) (lb := #[.pointer (some ⟨A + 2, 0, none⟩)]) rfl trivial (enters_of Try.func37 (by kernel_rfl) rfl) (by omega) hseq (Below.refl _ _) (fun _ => rfl)
    (foot A) (fun pre W => Out A W (chs (pre.map Prod.snd)) ∧ Below A w W)
    (fun c pre W => False)
    hI ?hIx ⟨⟨_, hr3, ⟨rfl, .inl ⟨rfl, rfl⟩⟩⟩, hb3⟩
    (fun a a' W => ∃ tb q d, a.1 = .agg #[.int .i64 a.2.k, .int .i64 a.2.n, .slice q a.2.l.length d] ∧ W.heap[tb]? = some (Obj.cells #[.int .i64 a.2.k, .int .i64 a.2.n, .slice q a.2.l.length d] 24) ∧ I64 a.2.n ∧
      a' = { tmps := #[Value.agg #[Value.int IntKind.i64 x.k, Value.int IntKind.i64 x.n, Value.slice p x.l.length cap], Value.pointer (some ⟨A, 0, none⟩), Value.slice none 0 0, Value.pointer (some ⟨A + 1, 0, none⟩), Value.pointer (some ⟨tb, 0, none⟩),
        Value.agg #[Value.int IntKind.i64 x.k, Value.int IntKind.i64 x.n, Value.slice p x.l.length cap], Value.func (Fn.func 37) #[] #[Value.pointer (some ⟨A + 2, 0, none⟩)], a.1, undef, undef, undef, undef, undef, undef, undef, undef, undef, undef, undef, undef, undef, undef, undef, undef, undef], defers := [] })
    ?hAx ?assign ?body ?done ?stop
  case hIx =>
    intro c s X Y row hs hg hr
    exact hs
  case hAx =>
    rintro a a' s X Y row ⟨tb, q, d, e1, e2, e0, e3⟩ hg hr
    exact ⟨tb, q, d, e1, grownBy_other hg e2 (fun e => by obtain ⟨_, o, ho, hc⟩ := hr _ e; rw [e2] at ho; cases ho; cases hc), e0, e3⟩
  case assign =>
    rintro l pre ⟨v', y⟩ W K hi ⟨⟨q, d, he, hq⟩, hk, hn'⟩ hK
    dsimp only at he
    subst he
    have hsz : A ≤ W.heap.size := by have := hi.2.size; have := HA.out; omega
    have HI : Bx _ := ⟨hi⟩
    clear hi
    gi_wp2
    obtain ⟨q1, q2⟩ := hI.go _ W (W.alloc (Obj.cells #[.int .i64 y.k, .int .i64 y.n, .slice q y.l.length d] 24)) none HI.out (World.grownBy_alloc W _ none) (fun r e => by cases e)
    exact hK _ _ (keeps_below (below1 _ _)) (sep_below (below1 _ _) hsz (fun b hb => .inl (q2 b hb))) q1 ⟨W.heap.size, q, d, rfl, World.alloc_heap_new _ _, hn', rfl⟩
  case body =>
    rintro l pre ⟨v', y⟩ a' W hi ⟨tb, q, d, he, htb, hyn, rfl⟩ hpl
    dsimp only at he htb hyn ⊢
    subst he
    have c0 : W.cell? ⟨tb, 0, none⟩ = some (.int .i64 y.k) := by simp [World.cell?, htb]
    have c1 : W.cell? ⟨tb, 1, none⟩ = some (.int .i64 y.n) := by simp [World.cell?, htb]
    have htl : tb < W.heap.size := (Array.getElem?_eq_some_iff.1 htb).1
    have hsz : A ≤ W.heap.size := by have := hi.2.size; have := HA.out; omega
    by_cases hyes : y.k = 5 ∧ 0 < y.n
    · obtain ⟨hy1, hy2⟩ := hyes
      have hcs : chs ((pre ++ [((.agg #[.int .i64 y.k, .int .i64 y.n, .slice q y.l.length d] : Value), y)]).map Prod.snd) = chs (pre.map Prod.snd) ++ [y.n] := by simpa using chs_snoc_yes (l := pre.map Prod.snd) hy1 hy2
      have HCS : Bx _ := ⟨hcs⟩
      have hzl : (chs (pre.map Prod.snd)).length ≤ 65536 := by have := chs_len (pre.map Prod.snd); simp at this; omega
      obtain ⟨sv, e1, e2⟩ := hi.1.ex
      have hb5 : (y.k == 5) = true := by simpa using hy1
      have HB : Bx _ := ⟨hi.2⟩
      have hA2 : A + 2 ≤ W.heap.size := (Array.getElem?_eq_some_iff.1 e1).1
      have g0 : W.cell? ⟨A + 1, 0, none⟩ = some sv := by simp [World.cell?, e1]
      have HE1 : Bx _ := ⟨e1⟩
      have HE2 : Bx _ := ⟨e2⟩
      clear hi hcs hy1 e1 e2 hI
      generalize chs (pre.map Prod.snd) = zs at *
      gi_wp2_with (first | (gi_at_builtin; refine wpListIn_app _ rfl (.tmp 16) (.tmp 19) 25 rfl (A + 3) 3 i0 (.int .i64 0) 1 8 Try.underlying25 hi iz0 iz1 iz2 rfl (by decide) sv zs.length (zs.map (Value.int .i64)) rfl (own_new HE2.out (below1 _ _)) ⟨W.heap.size, 0, none⟩ 1 1 [.int .i64 y.n] rfl rfl (slice_one _ _ _ 3 (World.alloc_heap_new _ _)) (by simp [Value.oneCell']) (by decide) (by unfold maxLen; omega) (by omega) (by simp; omega) (W.heap.size + 1) (by simp) ?_; intro gg gcap w4 hown' hgrow hgi hgl'; obtain ⟨q1, q2, q3, q4, q5⟩ := Out.push HE1.out HE2.out hown' hgrow hgi hA2; have k0 := q5.cell; have k1 := q5.frozen))
      exact ⟨q2, q3, by rw [HCS.out]; exact q1, q4 w HA.out HB.out⟩
    · have hcs : chs ((pre ++ [((.agg #[.int .i64 y.k, .int .i64 y.n, .slice q y.l.length d] : Value), y)]).map Prod.snd) = chs (pre.map Prod.snd) := by simpa using chs_snoc_no (l := pre.map Prod.snd) hyes
      have HI : Bx (Out A W (chs ((pre ++ [((.agg #[.int .i64 y.k, .int .i64 y.n, .slice q y.l.length d] : Value), y)]).map Prod.snd)) ∧ Below A w W) := ⟨by rw [hcs]; exact hi.1, hi.2⟩
      clear hi hcs
      by_cases hy1 : y.k = 5
      · have hy2 : ¬ 0 < y.n := fun h => hyes ⟨hy1, h⟩
        have hb5 : (y.k == 5) = true := by simpa using hy1
        clear hy1 hyes
        gi_wp2
        exact ⟨KeepsOthers.refl _, Sep.refl _ _ _, HI.out⟩
      · have hy1' : (y.k == 5) = false := by simpa using hy1
        gi_wp2
        exact ⟨KeepsOthers.refl _, Sep.refl _ _ _, HI.out⟩
  case done =>
    rintro D xs W hD hS ⟨hO, hB⟩ hK
    have HC : Bx _ := ⟨isCh_tidy hS⟩
    have hzl : (chs (xs.map Prod.snd)).length ≤ 65536 := by have h1 := chs_len (xs.map Prod.snd); have h2 := hS.2; rw [List.length_map] at h1; omega
    generalize chs (xs.map Prod.snd) = zs at *
    obtain ⟨sv, e1, e2⟩ := hO.ex
    have hDA : D ≠ A + 1 := by omega
    have g0 : W.cell? ⟨A + 1, 0, none⟩ = some sv := by simp [World.cell?, e1]
    by_cases hz : zs = []
    · subst hz
      have HT : Bx (IsCh x []) := ⟨by have := HC.out; rwa [show tidy [] = [] from by simp [tidy, Lib.compact, Lib.compactUpTo]] at this⟩
      have HO : Bx (W.ownsRow (A + 3) 3 1 sv 0 []) := ⟨e2⟩
      have hsv : ∃ p c, sv = .slice p 0 c := by
        rcases e2.2 with ⟨rfl, _⟩ | ⟨g, c, cur, rfl, _⟩
        · exact ⟨_, _, rfl⟩
        · exact ⟨_, _, rfl⟩
      obtain ⟨p', c', rfl⟩ := hsv
      have HB : Bx _ := ⟨hB⟩
      clear hB hO e2 HC hS
      gi_wp2
      refine ⟨trivial, fun _ => by omega, ?_⟩
      refine (callsIn_wide.2 (Try.slices_Sort_int_none p' c' W)).mono ?_
      rintro e W2 ⟨rfl, rfl⟩
      gi_wp2
      refine ⟨trivial, fun _ => by omega, ?_⟩
      refine (callsIn_wide.2 (Try.slices_Compact_int_empty p' c' W2)).mono ?_
      rintro e W3 ⟨rfl, rfl⟩
      gi_wp2
      refine ⟨by simp, .inl ⟨_, _, rfl, run_takeDeferred hK, ?_⟩⟩
      refine ⟨_, results_tmp rfl _ _ _, [], .slice p' 0 c', rfl, HT.out, ?_, ?_⟩
      · rw [← HA.out]
        exact own_close HO.out hK
      · rw [← HA.out]
        exact HB.out.grown (grownBy_putObj' _ _ _) (by have := HB.out.size; have := HA.out; omega) (fun k e => by cases e; omega)
    · have hnn : sv ≠ .slice none 0 0 := by
        rintro rfl
        rcases e2.2 with ⟨_, h⟩ | ⟨g, c, cur, h, _⟩
        · exact hz (List.eq_nil_of_length_eq_zero h)
        · cases h
      obtain ⟨g, gc, rfl, hg3, hgl, hgc, hgm, _, hH⟩ := Lib.holds_of_ownsRow e2 hnn
      obtain ⟨N, hN⟩ : ∃ N, N = zs.length := ⟨_, rfl⟩
      have hNb : N ≤ 9223372036854775807 := by unfold maxLen at hgm; omega
      rw [← hN] at e1 g0 e2 hgc
      have hDg : D ≠ g := by
        rintro rfl
        obtain ⟨o2, h1, h2⟩ := own_cells e2 ownB
        rw [hK] at h1; cases h1; cases h2
      have HH : Bx _ := ⟨hH⟩
      have HO : Bx _ := ⟨e2⟩
      have HB : Bx _ := ⟨hB⟩
      have hsort := Try.slices_Sort_int g 0 gc zs W hH hgl (by omega)
      rw [← hN] at hsort
      have HSO : Bx _ := ⟨hsort⟩
      have HN : Bx _ := ⟨hN⟩
      clear hB hO e2 hS hH hnn hsort hN
      gi_wp2
      refine ⟨trivial, fun _ => by omega, ?_⟩
      refine (callsIn_wide.2 HSO.out).mono ?_
      have hN := HN.out
      rintro e W2 ⟨rfl, nn, os, hW2⟩
      obtain ⟨ss, hss⟩ : ∃ ss, ss = zs.mergeSort fun x y => decide (x ≤ y) := ⟨_, rfl⟩
      have hsl : ss.length = N := by rw [hss, List.length_mergeSort, hN]
      rw [← hss] at hW2
      have hgb : W.grownBy W2 (some g) := by rw [hW2]; exact grownBy_sortedI _
      have g2 : W2.cell? ⟨A + 1, 0, none⟩ = some (.slice (some ⟨g, 0, none⟩) N gc) := by
        rw [← g0]; simp only [World.cell?]; rw [hgb.block _ (Array.getElem?_eq_some_iff.1 e1).1 (fun e => by cases e; omega)]
      have hK2 : W2.heap[D]? = some (.deferred (some [])) := grownBy_other hgb hK (fun e => hDg (by cases e; rfl))
      have HO2 : Bx (W2.ownsRow (A + 3) 3 1 (.slice (some ⟨g, 0, none⟩) N gc) N (ss.map (Value.int .i64))) := ⟨by
        rcases HO.out.2 with ⟨h, _⟩ | ⟨g', cap', cur, e, q1, q2, q3, q4, q5, q6⟩
        · cases h
        · cases e
          rw [hW2, hN]
          exact ownsRow_sortedI (ss := zs) (by rw [hsl, hN]) q1 q2 (by omega) q4 q5⟩
      have HB2 : Bx (RowKit.Below A w W2) := ⟨HB.out.grown hgb (by have := HB.out.size; have := HA.out; omega) (fun k e => by cases e; omega)⟩
      have hH2 : Holds (Value.int .i64) W2 g 0 ss.toArray := by
        obtain ⟨g', c', e, _, _, _, _, _, h⟩ := Lib.holds_of_ownsRow HO2.out (by simp)
        cases e
        exact h
      clear hW2 hgb HH HO HB hK g0 e1 HSO
      have hcomp := Try.slices_Compact_int g 0 gc ss W2 hH2 (by omega) (by omega)
      rw [hsl] at hcomp
      have hct : Lib.compact ss = tidy zs := by rw [hss]; rfl
      have hcl := Lib.compact_length_le ss
      rw [hct] at hcomp hcl
      rw [hsl] at hcl
      have HCO : Bx _ := ⟨hcomp⟩
      clear hcomp hct hsl hss hN hH2
      gi_wp2
      refine ⟨trivial, fun _ => by omega, ?_⟩
      refine (callsIn_wide.2 HCO.out).mono ?_
      rintro e W3 ⟨rfl, q, hW3'⟩
      have hK3 : W3.heap[D]? = some (.deferred (some [])) := by rw [hW3', putRow_other hDg]; exact hK2
      have hrow := Lib.ownsRow_putRow (q := q) (k := (tidy zs).length) (ys := tidy zs ++ List.replicate (N - (tidy zs).length) 0) HO2.out (by simp; omega) (by omega)
      rw [List.take_left] at hrow
      rw [← hW3'] at hrow
      have hB3 : RowKit.Below A w W3 := by rw [hW3']; exact Lib.below_putRow HB2.out (by omega)
      have HR3 : Bx _ := ⟨hrow⟩
      have HB3 : Bx _ := ⟨hB3⟩
      clear hrow hB3 hW3' hK2 g2 HCO
      gi_wp2
      refine ⟨by simp, .inl ⟨_, _, rfl, run_takeDeferred hK3, ?_⟩⟩
      refine ⟨_, results_tmp rfl _ _ _, tidy zs, _, rfl, HC.out, ?_, ?_⟩
      · rw [← HA.out]
        exact own_close HR3.out hK3
      · rw [← HA.out]
        exact HB3.out.grown (grownBy_putObj' _ _ _) (by have := HB3.out.size; have := HA.out; omega) (fun k e => by cases e; omega)
  case stop =>
    rintro D c pre W hD hS h hK
    exact h.elim
theorem Chans_any (w : World) (B : Nat) (v : Value) (x : V) (hv : IsV w B v x) (hB : B ≤ w.heap.size) (hx : x.sz ≤ 65536) :
    Calls Try.prog 16 #[v] w (ChPost w x) :=
  (callsIn_wide (n := 4)).1 (Chans_in 4 (by omega) w v x (hv.up hB) hx)
end Go.Proofs.Ytikijkpklneihaa
