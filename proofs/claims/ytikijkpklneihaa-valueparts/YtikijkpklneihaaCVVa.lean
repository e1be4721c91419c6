import Derived.Test.YtikijkpklneihaaCVEa
namespace Go.Proofs.Ytikijkpklneihaa
open Go.RowKit Go.Shelf
set_option linter.unusedVariables false
set_option linter.unusedSimpArgs false
attribute [local go_sem] Oper.semAt_some

/-- one value is right by itself -/
def rt (x : V) : Bool := rightI x.k x.n x.l.length
open Classical in
/-- it may be -/
noncomputable def validB (x : V) : Bool := decide (∀ y, Nod x y → rt y = true)
theorem validB_yes {x : V} (h : ∀ y, Nod x y → rt y = true) : validB x = true := by simp [validB]; exact h
theorem validB_no {x y : V} (h : Nod x y) (hr : rt y = false) : validB x = false := by
  simp only [validB, decide_eq_false_iff_not]
  intro h2
  rw [h2 y h] at hr
  cases hr

theorem keeps_below {W W' : World} (h : Below W.heap.size W W') : KeepsOthers W W' := ⟨h.size, fun k o hk _ => (h.block k (Array.getElem?_eq_some_iff.1 hk).1).trans hk⟩
theorem sep_below {lo : Nat} {foot : World → Nat → Prop} {W W' : World} (h : Below W.heap.size W W') (hlo : lo ≤ W.heap.size) (hf : ∀ b, foot W' b → foot W b ∨ W.heap.size ≤ b) : Sep lo foot W W' :=
  ⟨fun b hb => h.block b (by omega), h.size, fun b o hb _ _ => (h.block b (Array.getElem?_eq_some_iff.1 hb).1).trans hb, hf⟩

set_option maxRecDepth 100000 in
set_option maxHeartbeats 2000000 in
theorem Valid_in (n : Nat) (hn : 4 ≤ n) (w : World) (v : Value) (x : V) (hv : IsV w w.heap.size v x) (hx : x.sz ≤ 65536) :
    CallsIn Fence.wide n Try.prog 18 #[v] w fun e w' => e = .returned (.bool (validB x)) ∧ Below w.heap.size w w' := by
  obtain ⟨⟨p, cap, rfl, h1⟩, h2, h3⟩ := hv
  refine callsIn_of_wp_marks Try.func18 rfl trivial ?_ rfl
  simp only [Try.ntmps18, List.size_toArray, List.length_cons, List.length_nil, Nat.reduceAdd, Nat.reduceSub, Array.replicate_succ, Array.replicate_zero, List.push_toArray, List.append_toArray, List.nil_append, List.cons_append]
  gi_wp2
  refine ⟨trivial, fun _ => by omega, ?_⟩
  refine (each_in (n - 1) _ _ _ _ _ _).mono ?_
  rintro e w' ⟨rfl, rfl⟩
  gi_wp2
  obtain ⟨A, hA⟩ : ∃ A, A = w.heap.size := ⟨_, rfl⟩
  obtain ⟨W3, hW3⟩ : ∃ W3, (((w.alloc (Obj.cells #[Value.int IntKind.i64 x.k, Value.int IntKind.i64 x.n, Value.slice p x.l.length cap] 24)).alloc (Obj.cells #[Value.bool false] 4)).alloc (Obj.cells #[Value.int IntKind.i64 x.k, Value.int IntKind.i64 x.n, Value.slice p x.l.length cap] 24)) = W3 := ⟨_, rfl⟩
  have hb3 : Below A w W3 := by rw [hA, ← hW3]; exact (two_new _ _ _).trans ((below1 _ _).mono (by simp; omega))
  have hr3 : W3.heap[A + 1]? = some (Obj.cells #[Value.bool false] 4) := by rw [hA, ← hW3]; exact (Below.heap_alloc _ _ _ (by simp)).trans (alloc_at _ _ _)
  have hx3 : W3.heap[A + 2]? = some (Obj.cells #[Value.int IntKind.i64 x.k, Value.int IntKind.i64 x.n, Value.slice p x.l.length cap] 24) := by
    rw [hA, ← hW3]; have := World.alloc_heap_new ((w.alloc (Obj.cells #[Value.int IntKind.i64 x.k, Value.int IntKind.i64 x.n, Value.slice p x.l.length cap] 24)).alloc (Obj.cells #[Value.bool false] 4)) (Obj.cells #[Value.int IntKind.i64 x.k, Value.int IntKind.i64 x.n, Value.slice p x.l.length cap] 24)
    simpa using this
  have hz3 : W3.heap.size = A + 3 := by rw [hA, ← hW3]; simp
  rw [hW3]
  have hsl : SlV W3 A p cap x.l := by rw [hA] at hb3 ⊢; exact h1.lo (Lo.of hb3)
  have hseq := each1_in (n - 1) (by omega) A (A + 2) W3 x p cap (by omega) hx3 hsl h2 h3 hx
  clear hx3 hsl hW3 h1 h2 h3
  simp only [Nat.add_assoc, Nat.reduceAdd]
  rw [← hA]
  have HA : Bx (A = w.heap.size) := ⟨hA⟩
  clear hA
  refine wpIn_rangeFunc_sep (lo := A) rfl (by omega) (gf := 37) (lb := #[.pointer (some ⟨A + 2, 0, none⟩)]) rfl trivial (enters_of Try.func37 (by kernel_rfl) rfl) (by omega) hseq (Below.refl _ _) (fun _ => rfl)
    (fun _ b => b = A + 1) (fun pre W => W.heap[A + 1]? = some (Obj.cells #[Value.bool false] 4) ∧ (∀ y ∈ pre.map Prod.snd, rt y = true) ∧ Below A w W)
    (fun c pre W => c = .ret ∧ (W.cell? ⟨A + 1, 0, none⟩ = some (.bool false) ∧ W.frozen? ⟨A + 1, 0, none⟩ = false) ∧ (∃ y ∈ pre.map Prod.snd, rt y = false) ∧ Below A w W)
    ?hI ?hIx ⟨hr3, by simp, hb3⟩
    (fun a a' W => ∃ tb q d, a.1 = .agg #[.int .i64 a.2.k, .int .i64 a.2.n, .slice q a.2.l.length d] ∧ W.heap[tb]? = some (Obj.cells #[.int .i64 a.2.k, .int .i64 a.2.n, .slice q a.2.l.length d] 24) ∧
      a' = { tmps := #[Value.agg #[Value.int IntKind.i64 x.k, Value.int IntKind.i64 x.n, Value.slice p x.l.length cap], Value.pointer (some ⟨A, 0, none⟩), Value.pointer (some ⟨A + 1, 0, none⟩), Value.pointer (some ⟨tb, 0, none⟩),
        Value.agg #[Value.int IntKind.i64 x.k, Value.int IntKind.i64 x.n, Value.slice p x.l.length cap], Value.func (Fn.func 37) #[] #[Value.pointer (some ⟨A + 2, 0, none⟩)], a.1, undef, undef, undef], defers := [] })
    ?hAx ?assign ?body ?done ?stop
  case hI =>
    refine ⟨fun s X Y row hs hg hr => ⟨⟨?_, hs.2.1, ?_⟩, fun b hb => hb⟩, fun s X b hs hf => ?_⟩
    · exact grownBy_other hg hs.1 (fun e => (hr _ e).2 rfl)
    · exact hs.2.2.grown hg (by have := hs.2.2.size; have := HA.out; omega) (fun k e => (hr k e).1)
    · subst hf; exact ⟨by omega, _, hs.1, rfl⟩
  case hIx =>
    intro c s X Y row hs hg hr
    refine ⟨hs.1, ?_, hs.2.2.1, ?_⟩
    · exact ⟨cell_kept hs.2.1.1 hg (fun r e => (hr r e).2), (frozen_kept hs.2.1.1 hg (fun r e => (hr r e).2)).trans hs.2.1.2⟩
    · exact hs.2.2.2.grown hg (by have := hs.2.2.2.size; have := HA.out; omega) (fun k e => by have := (hr k e).1; omega)
  case hAx =>
    rintro a a' s X Y row ⟨tb, q, d, e1, e2, e3⟩ hg hr
    exact ⟨tb, q, d, e1, grownBy_other hg e2 (fun e => by obtain ⟨_, o, ho, hc⟩ := hr _ e; rw [e2] at ho; cases ho; cases hc), e3⟩
  case assign =>
    rintro l pre ⟨v', y⟩ W K hi ⟨⟨q, d, he, hq⟩, hk, hn'⟩ hK
    dsimp only at he
    subst he
    have hsz : A ≤ W.heap.size := by have := hi.2.2.size; have := HA.out; omega
    have HI : Bx _ := ⟨hi⟩
    clear hi
    gi_wp2
    refine hK _ _ (keeps_below (below1 _ _)) (sep_below (below1 _ _) hsz (fun b hb => .inl hb)) ⟨?_, HI.out.2.1, HI.out.2.2.trans ((below1 _ _).mono hsz)⟩ ⟨W.heap.size, q, d, rfl, World.alloc_heap_new _ _, rfl⟩
    exact (Below.heap_alloc _ _ _ (Array.getElem?_eq_some_iff.1 HI.out.1).1).trans HI.out.1
  case body =>
    rintro l pre ⟨v', y⟩ a' W hi ⟨tb, q, d, he, htb, rfl⟩ _
    dsimp only at he htb ⊢
    subst he
    have hsz : A ≤ W.heap.size := by have := hi.2.2.size; have := HA.out; omega
    have c0 : W.cell? ⟨tb, 0, none⟩ = some (.int .i64 y.k) := by simp [World.cell?, htb]
    have c1 : W.cell? ⟨tb, 1, none⟩ = some (.int .i64 y.n) := by simp [World.cell?, htb]
    have c2 : W.cell? ⟨tb, 2, none⟩ = some (.slice q y.l.length d) := by simp [World.cell?, htb]
    have HI : Bx _ := ⟨hi⟩
    clear hi htb
    gi_wp2
    refine ⟨trivial, fun _ => by omega, ?_⟩
    refine (CallsIn.inRound l (callsIn_wide.2 (right_any W y.k y.n q y.l.length d))).mono ?_
    rintro e W4 ⟨he4, hb4⟩
    have hz4 := hb4.size
    have h4 : W4.heap[A + 1]? = some (Obj.cells #[Value.bool false] 4) := (hb4.block _ (Array.getElem?_eq_some_iff.1 HI.out.1).1).trans HI.out.1
    have f0 : W4.cell? ⟨A + 1, 0, none⟩ = some (.bool false) := by simp [World.cell?, h4]
    have f1 : W4.frozen? ⟨A + 1, 0, none⟩ = false := by simp [World.frozen?, h4]
    cases hrt : rightI y.k y.n y.l.length
    · rw [hrt] at he4
      subst he4
      gi_wp2
      refine ⟨(keeps_below hb4).trans (KeepsOthers.setCell _ _ _), rfl, ⟨?_, ?_⟩, ⟨y, by simp, hrt⟩, (HI.out.2.2.trans (hb4.mono hsz)).setCell (p := ⟨A + 1, 0, none⟩) (by show A ≤ A + 1; omega) _⟩
      · exact World.cell?_setCell_same' _ _ _ (by rw [f0]; rfl)
      · rw [World.frozen?_setCell]; exact f1
    · rw [hrt] at he4
      subst he4
      gi_wp2
      refine ⟨keeps_below hb4, sep_below hb4 hsz (fun b hb => .inl hb), h4, ?_, HI.out.2.2.trans (hb4.mono hsz)⟩
      intro z hz
      simp only [List.map_append, List.mem_append, List.map_cons, List.map_nil, List.mem_singleton] at hz
      rcases hz with hz | rfl
      · exact HI.out.2.1 z hz
      · exact hrt
  case done =>
    rintro D xs W hD hS ⟨h1, h2, h3⟩ hK
    have f0 : W.cell? ⟨A + 1, 0, none⟩ = some (.bool false) := by simp [World.cell?, h1]
    have f1 : W.frozen? ⟨A + 1, 0, none⟩ = false := by simp [World.frozen?, h1]
    have HV : Bx (validB x = true) := ⟨validB_yes (fun y hy => h2 y ((hS.1 y).1 hy))⟩
    have hK' : (W.setCell ⟨A + 1, 0, none⟩ (.bool true)).heap[D]? = some (.deferred (some [])) := (KeepsOthers.setCell _ _ _).same D _ hK rfl
    have hc' : (W.setCell ⟨A + 1, 0, none⟩ (.bool true)).cell? ⟨A + 1, 0, none⟩ = some (.bool true) := World.cell?_setCell_same' _ _ _ (by rw [f0]; rfl)
    have HB : Bx (Below A w (W.setCell ⟨A + 1, 0, none⟩ (.bool true))) := ⟨h3.setCell (p := ⟨A + 1, 0, none⟩) (by show A ≤ A + 1; omega) _⟩
    gi_wp2
    obtain ⟨W5, hW5⟩ : ∃ W5, W.setCell ⟨A + 1, 0, none⟩ (.bool true) = W5 := ⟨_, rfl⟩
    rw [hW5] at hK' hc' HB ⊢
    have hc5 : (W5.putObj D (.deferred none)).cell? ⟨A + 1, 0, none⟩ = some (.bool true) := by
      rw [← hc']; simp only [World.cell?]; rw [World.putObj_heap_other (by omega)]
    refine ⟨by simp, .inl ⟨_, _, rfl, run_takeDeferred hK', ?_⟩⟩
    refine ⟨.bool true, by simp [results, Try.results18, go_sem, hc5], by rw [HV.out], ?_⟩
    rw [← HA.out]
    exact HB.out.grown (grownBy_putObj' _ _ _) (by have := HB.out.size; have := HA.out; omega) (fun k e => by cases e; omega)
  case stop =>
    rintro D c pre W hD hS ⟨rfl, ⟨f0, f1⟩, ⟨y, hy, hry⟩, h3⟩ hK
    have HV : Bx (validB x = false) := ⟨validB_no (hS y hy) hry⟩
    gi_wp2
    have hc5 : (W.putObj D (.deferred none)).cell? ⟨A + 1, 0, none⟩ = some (.bool false) := by
      rw [← f0]; simp only [World.cell?]; rw [World.putObj_heap_other (by omega)]
    refine ⟨by simp, .inl ⟨_, _, rfl, run_takeDeferred hK, ?_⟩⟩
    refine ⟨.bool false, by simp [results, Try.results18, go_sem, hc5], by rw [HV.out], ?_⟩
    rw [← HA.out]
    exact h3.grown (grownBy_putObj' _ _ _) (by have := h3.size; have := HA.out; omega) (fun k e => by cases e; omega)
theorem Valid_any (w : World) (B : Nat) (v : Value) (x : V) (hv : IsV w B v x) (hB : B ≤ w.heap.size) (hx : x.sz ≤ 65536) :
    Calls Try.prog 18 #[v] w fun e w' => e = .returned (.bool (validB x)) ∧ Below w.heap.size w w' :=
  (callsIn_wide (n := 4)).1 (Valid_in 4 (by omega) w v x (hv.up hB) hx)
end Go.Proofs.Ytikijkpklneihaa
