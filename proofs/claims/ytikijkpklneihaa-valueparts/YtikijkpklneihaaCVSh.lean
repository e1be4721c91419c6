import Derived.Test.YtikijkpklneihaaCVOl
namespace Go.Proofs.Ytikijkpklneihaa
open Go.RowKit
set_option linter.unusedVariables false
set_option linter.unusedSimpArgs false

/-- the document's example -/
def exV : V := .mk 3 0 [.mk 1 1 [], .mk 4 0 [.mk 1 2 [], .mk 5 3 []]]
theorem ex_nod (y : V) : Nod exV y ↔ y = exV ∨ y = .mk 1 1 [] ∨ y = .mk 4 0 [.mk 1 2 [], .mk 5 3 []] ∨ y = .mk 1 2 [] ∨ y = .mk 5 3 [] := by
  have leaf : ∀ k n (y : V), Nod (.mk k n []) y ↔ y = .mk k n [] := fun k n y => by rw [nod_iff]; simp [V.l]
  rw [nod_iff]
  simp only [exV, V.l, List.mem_cons, List.not_mem_nil, or_false, exists_eq_or_imp, exists_eq_left, leaf]
  rw [nod_iff]
  simp only [V.l, List.mem_cons, List.not_mem_nil, or_false, exists_eq_or_imp, exists_eq_left, leaf]
theorem ex_valid : validB exV = true := validB_yes fun y hy => by
  rcases (ex_nod y).1 hy with rfl | rfl | rfl | rfl | rfl <;> simp [rt, rightI, exV, V.k, V.n, V.l]
theorem v0_valid : validB v0 = false := validB_no (.me v0) (by simp [rt, rightI, v0, V.k, V.n, V.l])
theorem ex_sz : exV.sz = 5 := by simp [exV, V.sz, szs]
theorem ex_s9 : sizeI 5 9 = 5 := by simp only [sizeI]; omega
theorem ex_s3 : sizeI 5 3 = 4 := by simp only [sizeI]; omega
theorem ex_ch {cs : List Int} (h : IsCh exV cs) : cs = [3] := by
  refine ris_one h.1 (by simp [Ris]) (fun n => ?_)
  rw [h.2]
  constructor
  · rintro ⟨y, hy, hk, hn, e⟩
    rcases (ex_nod y).1 hy with rfl | rfl | rfl | rfl | rfl <;> simp_all [exV, V.k, V.n]
  · intro hn
    simp at hn
    subst hn
    exact ⟨.mk 5 3 [], (ex_nod _).2 (by simp), rfl, by simp [V.n], rfl⟩
theorem ex_find : findV exV [1, 1] = some (.mk 5 3 []) := by simp [findV, goesI, exV, V.k, V.l, List.getD]
theorem ex_bin : binI 42 1 (-7) 1 2 = (1, -3, 0) := by simp [binI, numI, wrap64]

theorem keep_h {X w' : World} (hb : Below X.heap.size X w') {b : Nat} {o : Obj} (h : X.heap[b]? = some o) : w'.heap[b]? = some o := (hb.block b (Array.getElem?_eq_some_iff.1 h).1).trans h

/-- the example in memory -/
structure ExW (w W : World) : Prop where
  c0 : W.cell? ⟨w.heap.size + 1 + 1, 0, none⟩ = some (.int .i64 3)
  c1 : W.cell? ⟨w.heap.size + 1 + 1, 1, none⟩ = some (.int .i64 0)
  c2 : W.cell? ⟨w.heap.size + 1 + 1, 2, none⟩ = some (.slice (some ⟨w.heap.size + 1, 0, none⟩) 2 2)
  lt : w.heap.size + 1 + 1 < W.heap.size
  is : IsV W (w.heap.size + 2) (.agg #[.int .i64 3, .int .i64 0, .slice (some ⟨w.heap.size + 1, 0, none⟩) 2 2]) exV
theorem ex_w (w : World) : ExW w ((((w.alloc (Obj.cells #[.int .i64 1, .int .i64 2, .slice none 0 0, .int .i64 5, .int .i64 3, .slice none 0 0] 24)).alloc (Obj.cells #[.int .i64 1, .int .i64 1, .slice none 0 0, .int .i64 4, .int .i64 0, .slice (some ⟨w.heap.size, 0, none⟩) 2 2] 24)).alloc (Obj.cells #[.int .i64 3, .int .i64 0, .slice (some ⟨w.heap.size + 1, 0, none⟩) 2 2] 24))) := by
  obtain ⟨W, hW⟩ : ∃ W, ((w.alloc (Obj.cells #[.int .i64 1, .int .i64 2, .slice none 0 0, .int .i64 5, .int .i64 3, .slice none 0 0] 24)).alloc (Obj.cells #[.int .i64 1, .int .i64 1, .slice none 0 0, .int .i64 4, .int .i64 0, .slice (some ⟨w.heap.size, 0, none⟩) 2 2] 24)).alloc (Obj.cells #[.int .i64 3, .int .i64 0, .slice (some ⟨w.heap.size + 1, 0, none⟩) 2 2] 24) = W := ⟨_, rfl⟩
  have h0 : W.heap[w.heap.size]? = some (Obj.cells #[.int .i64 1, .int .i64 2, .slice none 0 0, .int .i64 5, .int .i64 3, .slice none 0 0] 24) := by rw [← hW]; exact (Below.heap_alloc _ _ _ (by simp; omega)).trans ((Below.heap_alloc _ _ _ (by simp)).trans (World.alloc_heap_new _ _))
  have h1 : W.heap[w.heap.size + 1]? = some (Obj.cells #[.int .i64 1, .int .i64 1, .slice none 0 0, .int .i64 4, .int .i64 0, .slice (some ⟨w.heap.size, 0, none⟩) 2 2] 24) := by rw [← hW]; exact (Below.heap_alloc _ _ _ (by simp)).trans (alloc_at _ _ _)
  have h2 : W.heap[w.heap.size + 1 + 1]? = some (Obj.cells #[.int .i64 3, .int .i64 0, .slice (some ⟨w.heap.size + 1, 0, none⟩) 2 2] 24) := by rw [← hW]; have := World.alloc_heap_new ((w.alloc (Obj.cells #[.int .i64 1, .int .i64 2, .slice none 0 0, .int .i64 5, .int .i64 3, .slice none 0 0] 24)).alloc (Obj.cells #[.int .i64 1, .int .i64 1, .slice none 0 0, .int .i64 4, .int .i64 0, .slice (some ⟨w.heap.size, 0, none⟩) 2 2] 24)) (Obj.cells #[.int .i64 3, .int .i64 0, .slice (some ⟨w.heap.size + 1, 0, none⟩) 2 2] 24); simpa using this
  rw [hW]
  clear hW
  have i64 : ∀ z : Int, -10 ≤ z → z ≤ 10 → I64 z := fun z h1 h2 => ⟨by omega, by omega⟩
  have nl : ∀ p, SlV W (w.heap.size + 2) p 0 [] := fun p => ⟨by simp, by simp [maxLen], .inl rfl⟩
  refine ⟨by simp [World.cell?, h2], by simp [World.cell?, h2], by simp [World.cell?, h2], (Array.getElem?_eq_some_iff.1 h2).1, ⟨⟨_, _, rfl, ⟨by simp [exV, V.l], by simp [maxLen], .inr ⟨_, _, rfl, by omega, ?_⟩⟩⟩, i64 _ (by simp [exV, V.k]) (by simp [exV, V.k]), i64 _ (by simp [exV, V.n]) (by simp [exV, V.n])⟩⟩
  simp only [exV, V.l, AtVs, and_true]
  refine ⟨atV_iff.2 ⟨by simp [World.cell?, h1, V.k], by simp [World.cell?, h1, V.n], i64 _ (by simp [V.k]) (by simp [V.k]), i64 _ (by simp [V.n]) (by simp [V.n]), none, 0, by simp [World.cell?, h1, V.l], nl _⟩,
    atV_iff.2 ⟨by simp [World.cell?, h1, V.k], by simp [World.cell?, h1, V.n], i64 _ (by simp [V.k]) (by simp [V.k]), i64 _ (by simp [V.n]) (by simp [V.n]), some ⟨w.heap.size, 0, none⟩, 2, by simp [World.cell?, h1, V.l], ⟨by simp [V.l], by simp [maxLen], .inr ⟨_, _, rfl, by omega, ?_⟩⟩⟩⟩
  simp only [V.l, AtVs, and_true]
  exact ⟨atV_iff.2 ⟨by simp [World.cell?, h0, V.k], by simp [World.cell?, h0, V.n], i64 _ (by simp [V.k]) (by simp [V.k]), i64 _ (by simp [V.n]) (by simp [V.n]), none, 0, by simp [World.cell?, h0, V.l], nl _⟩,
    atV_iff.2 ⟨by simp [World.cell?, h0, V.k], by simp [World.cell?, h0, V.n], i64 _ (by simp [V.k]) (by simp [V.k]), i64 _ (by simp [V.n]) (by simp [V.n]), none, 0, by simp [World.cell?, h0, V.l], nl _⟩⟩
theorem ExW.next {w W W' : World} (h : ExW w W) (hb : Below W.heap.size W W') : ExW w W' := by
  have hc : ∀ i, W'.cell? ⟨w.heap.size + 1 + 1, i, none⟩ = W.cell? ⟨w.heap.size + 1 + 1, i, none⟩ := fun i => hb.cell (p := ⟨w.heap.size + 1 + 1, i, none⟩) h.lt
  exact ⟨by rw [hc]; exact h.c0, by rw [hc]; exact h.c1, by rw [hc]; exact h.c2, Nat.lt_of_lt_of_le h.lt hb.size, h.is.lo (Lo.of (hb.mono (by have := h.lt; omega)))⟩

theorem path_at (w1 : World) (t : TypeId) : ∀ i (h : i < ([1, 1] : List Int).length), ∃ b o, some (⟨w1.heap.size, 0, none⟩ : Addr) = some ⟨b, o, none⟩ ∧ b < w1.heap.size + 1 ∧ (w1.alloc (.cells #[.int .i64 1, .int .i64 1] t)).cell? ⟨b, o + i, none⟩ = some (.int .i64 ([1, 1] : List Int)[i]) ∧ I64 ([1, 1] : List Int)[i] := by
  intro i hi
  refine ⟨w1.heap.size, 0, rfl, by omega, ?_, ?_⟩
  · have h := World.alloc_heap_new w1 (.cells #[.int .i64 1, .int .i64 1] t)
    generalize w1.alloc (.cells #[.int .i64 1, .int .i64 1] t) = W at *
    match i, hi with
    | 0, _ => simp [World.cell?, h]
    | 1, _ => simp [World.cell?, h]
  · match i, hi with
    | 0, _ => exact ⟨by simp, by simp⟩
    | 1, _ => exact ⟨by simp, by simp⟩
/-- .. and what came of it -/
structure ShB (w : World) (g pb qb : Nat) (W : World) : Prop where
  ex : ExW w W
  l : W.cell? ⟨g, 0, none⟩ = some (.int .i64 3)
  gl : g < W.heap.size
  p : W.cell? ⟨pb, 0, none⟩ = some (.int .i64 5)
  pl : pb < W.heap.size
  q : W.cell? ⟨qb, 1, none⟩ = some (.int .i64 (-3))
  ql : qb < W.heap.size
  bel : Below w.heap.size w W
theorem ShB.next {w W W' : World} {g pb qb : Nat} (h : ShB w g pb qb W) (hb : Below W.heap.size W W') : ShB w g pb qb W' :=
  ⟨h.ex.next hb, (hb.cell (p := ⟨g, 0, none⟩) h.gl).trans h.l, Nat.lt_of_lt_of_le h.gl hb.size, (hb.cell (p := ⟨pb, 0, none⟩) h.pl).trans h.p, Nat.lt_of_lt_of_le h.pl hb.size, (hb.cell (p := ⟨qb, 1, none⟩) h.ql).trans h.q, Nat.lt_of_lt_of_le h.ql hb.size, h.bel.trans (hb.mono h.bel.size)⟩

theorem cell_at1 {W : World} {b : Nat} {x y z : Value} {t : TypeId} (h : W.heap[b]? = some (.cells #[x, y, z] t (0, 0))) : W.cell? ⟨b, 1, none⟩ = some y := by simp [World.cell?, h]
theorem shb_of {w W0 w1 w2 w3 : World} {g : Nat} (he : ExW w w1) (hb1 : Below W0.heap.size W0 w1) (hb0 : Below w.heap.size w W0) (l0 : w1.cell? ⟨g, 0, none⟩ = some (.int .i64 3)) (hgl : g < w1.heap.size) (h12 : Below w1.heap.size w1 w2)
    (hb3 : Below (w2.alloc (Obj.cells #[.int .i64 5, .int .i64 3, .slice none 0 0] 24)).heap.size (w2.alloc (Obj.cells #[.int .i64 5, .int .i64 3, .slice none 0 0] 24)) w3) : ShB w g w2.heap.size w3.heap.size (w3.alloc (Obj.cells #[.int .i64 1, .int .i64 (-3), .slice none 0 0] 24)) := by
  have h13 : Below w1.heap.size w1 w3 := h12.trans (((below1 _ _).trans (hb3.mono (by simp))).mono h12.size)
  have hp : w3.heap[w2.heap.size]? = some (Obj.cells #[.int .i64 5, .int .i64 3, .slice none 0 0] 24) := keep_h hb3 (World.alloc_heap_new _ _)
  have hpl := (Array.getElem?_eq_some_iff.1 hp).1
  have hq := World.alloc_heap_new w3 (Obj.cells #[.int .i64 1, .int .i64 (-3), .slice none 0 0] 24)
  have h14 := h13.trans ((below1 w3 (Obj.cells #[.int .i64 1, .int .i64 (-3), .slice none 0 0] 24)).mono h13.size)
  refine ⟨he.next h14, (h14.cell (p := ⟨g, 0, none⟩) hgl).trans l0, Nat.lt_of_lt_of_le hgl h14.size, ?_, by simp; omega, cell_at1 hq, by simp, (hb0.trans (hb1.mono hb0.size)).trans (h14.mono (Nat.le_trans hb0.size hb1.size))⟩
  rw [(below1 w3 (Obj.cells #[.int .i64 1, .int .i64 (-3), .slice none 0 0] 24)).cell (p := ⟨w2.heap.size, 0, none⟩) hpl]
  simp [World.cell?, hp]

set_option maxRecDepth 100000 in
set_option maxHeartbeats 4000000 in
theorem shown_any (w : World) : Calls Try.prog 4 #[] w fun e w' => e = .returned (.bool true) ∧ Below w.heap.size w w' := by
  obtain ⟨W0, hW0⟩ : ∃ W0, ((w.alloc (Obj.cells #[.int .i64 1, .int .i64 2, .slice none 0 0, .int .i64 5, .int .i64 3, .slice none 0 0] 24)).alloc (Obj.cells #[.int .i64 1, .int .i64 1, .slice none 0 0, .int .i64 4, .int .i64 0, .slice (some ⟨w.heap.size, 0, none⟩) 2 2] 24)).alloc (Obj.cells #[.int .i64 3, .int .i64 0, .slice (some ⟨w.heap.size + 1, 0, none⟩) 2 2] 24) = W0 := ⟨_, rfl⟩
  have HE0 : Bx (ExW w W0) := ⟨by rw [← hW0]; exact ex_w w⟩
  have HB0 : Bx (Below w.heap.size w W0) := ⟨by rw [← hW0]; exact (two_new _ _ _).trans ((below1 _ _).mono (by simp; omega))⟩
  have a0 := HE0.out.c0
  have a1 := HE0.out.c1
  have a2 := HE0.out.c2
  have alt := HE0.out.lt
  have hzs : exV.sz ≤ 65536 := by rw [ex_sz]; omega
  have HV0 : Bx (∀ W B, IsV W B (.agg #[.int .i64 0, .int .i64 0, .slice none 0 0]) v0) := ⟨fun W B => ⟨⟨none, 0, rfl, by simp [v0, V.l, SlV, maxLen]⟩, ⟨by simp [v0, V.k], by simp [v0, V.k]⟩, ⟨by simp [v0, V.n], by simp [v0, V.n]⟩⟩⟩
  have tok1 : True := trivial
  have tok2 : True := trivial
  go_enter Try.func4, Try.ntmps4
  go_wp2_with (first | (go_at_call 16; refine Calls.mono (Chans_any W0 (w.heap.size + 2) _ exV HE0.out.is (by omega) hzs) ?_; rintro e w1 ⟨cs, lv, rfl, hcs, hown, hb1⟩; obtain rfl := ex_ch hcs; obtain ⟨g, lc, rfl, hg1, hgl⟩ := hown.form (by simp); have l0 : w1.cell? ⟨g, 0, none⟩ = some (.int .i64 3) := hown.cellAt 0 (by simp); have HE1 : Bx (ExW w w1) := ⟨HE0.out.next hb1⟩; have hz1 := hb1.size; have b0 := HE1.out.c0; have b1 := HE1.out.c1; have b2 := HE1.out.c2; have blt := HE1.out.lt; clear hcs hown) | (go_at_call 7; refine Calls.mono (Part_leaf _ (w1.heap.size + 1) _ exV (.mk 5 3 []) (some ⟨w1.heap.size, 0, none⟩) 2 [1, 1] ((HE1.out.next (below1 _ _)).is.up (by omega)) ⟨by simp, by simp [maxLen], path_at _ _⟩ (by simp) ex_find rfl) ?_; rintro e w2 ⟨he2, hb2⟩; simp only [V.k, V.n, pv] at he2; subst he2; have hz2 := hb2.size; simp at hz2; have hw12 : Below w1.heap.size w1 w2 := (below1 _ _).trans (hb2.mono (by simp))) | (go_at_call 17; refine Calls.mono (Bin_any 42 1 (-7) 1 2 none 0 0 none 0 0 _) ?_; rintro e w3 ⟨he3, hb3⟩; rw [ex_bin] at he3; simp only [ans, two, pv] at he3; subst he3; have hz3 := hb3.size; simp at hz3; have HS3 : Bx (ShB w g w2.heap.size w3.heap.size (w3.alloc (Obj.cells #[.int .i64 1, .int .i64 (-3), .slice none 0 0] 24))) := ⟨shb_of HE1.out hb1 (HB0.out) l0 hgl hw12 hb3⟩; have b30 := HS3.out.ex.c0; have b31 := HS3.out.ex.c1; have b32 := HS3.out.ex.c2; have b3t := HS3.out.ex.lt; have b3l := HS3.out.l; have b3p := HS3.out.p; have b3q := HS3.out.q; have bx3 := HS3.out.gl; have by3 := HS3.out.pl; have bz3 := HS3.out.ql) | (go_at_call 18; have _t := tok1; refine Calls.mono (Valid_any _ (w.heap.size + 2) _ exV HS3.out.ex.is (by omega) hzs) ?_; rintro e w4 ⟨he4, hb4⟩; rw [ex_valid] at he4; subst he4; have HS4 : Bx (ShB w g w2.heap.size w3.heap.size w4) := ⟨HS3.out.next hb4⟩; have b40 := HS4.out.ex.c0; have b41 := HS4.out.ex.c1; have b42 := HS4.out.ex.c2; have b4t := HS4.out.ex.lt; have b4l := HS4.out.l; have b4p := HS4.out.p; have b4q := HS4.out.q; have bx4 := HS4.out.gl; have by4 := HS4.out.pl; have bz4 := HS4.out.ql; clear tok1) | (go_at_call 18; refine Calls.mono (Valid_any _ 0 _ v0 (HV0.out _ _) (by omega) (by simp [v0, V.sz, szs])) ?_; rintro e w5 ⟨he5, hb5⟩; rw [v0_valid] at he5; subst he5; have HS5 : Bx (ShB w g w2.heap.size w3.heap.size w5) := ⟨HS4.out.next hb5⟩; have b50 := HS5.out.ex.c0; have b51 := HS5.out.ex.c1; have b52 := HS5.out.ex.c2; have b5t := HS5.out.ex.lt; have b5l := HS5.out.l; have b5p := HS5.out.p; have b5q := HS5.out.q; have bx5 := HS5.out.gl; have by5 := HS5.out.pl; have bz5 := HS5.out.ql) | (go_at_call 19; have _t := tok2; refine Calls.mono (Size_any _ (w.heap.size + 2) _ exV 9 HS5.out.ex.is (by omega) hzs ⟨by omega, by omega⟩) ?_; rintro e w6 ⟨he6, hb6⟩; rw [ex_sz, ex_s9] at he6; subst he6; have HS6 : Bx (ShB w g w2.heap.size w3.heap.size w6) := ⟨HS5.out.next hb6⟩; have b60 := HS6.out.ex.c0; have b61 := HS6.out.ex.c1; have b62 := HS6.out.ex.c2; have b6t := HS6.out.ex.lt; have b6l := HS6.out.l; have b6p := HS6.out.p; have b6q := HS6.out.q; have bx6 := HS6.out.gl; have by6 := HS6.out.pl; have bz6 := HS6.out.ql; clear tok2) | (go_at_call 19; refine Calls.mono (Size_any _ (w.heap.size + 2) _ exV 3 HS6.out.ex.is (by omega) hzs ⟨by omega, by omega⟩) ?_; rintro e w7 ⟨he7, hb7⟩; rw [ex_sz, ex_s3] at he7; subst he7; have HS7 : Bx (ShB w g w2.heap.size w3.heap.size w7) := ⟨HS6.out.next hb7⟩; have b70 := HS7.out.ex.c0; have b71 := HS7.out.ex.c1; have b72 := HS7.out.ex.c2; have b7t := HS7.out.ex.lt; have b7l := HS7.out.l; have b7p := HS7.out.p; have b7q := HS7.out.q; have bx7 := HS7.out.gl; have by7 := HS7.out.pl; have bz7 := HS7.out.ql) | (go_at_call 20; refine Calls.mono (Same_any _ (w.heap.size + 2) _ _ exV exV HS7.out.ex.is HS7.out.ex.is (by omega) hzs) ?_; rintro e w8 ⟨he8, hb8⟩; rw [eqB_yes rfl] at he8; subst he8; have HS8 : Bx (ShB w g w2.heap.size w3.heap.size w8) := ⟨HS7.out.next hb8⟩))
  go_ret
  exact ⟨rfl, HS8.out.bel⟩
end Go.Proofs.Ytikijkpklneihaa
