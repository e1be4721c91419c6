import Derived.Test.YtikijkpklneihaaCVDw
namespace Go.Proofs.Ytikijkpklneihaa
open Go.RowKit
set_option linter.unusedVariables false
set_option linter.unusedSimpArgs false

theorem own_any (w : World) (B : Nat) (v : Value) (x : V) (hv : IsV w B v x) (hB : B ≤ w.heap.size) (hx : x.sz ≤ 200000) : Calls Try.prog 22 #[v] w (OnPost w x) := by
  by_cases hl : 0 < x.l.length
  · exact own_some w B v x hv hB hx hl
  · obtain ⟨⟨p, cap, rfl, h1⟩, h2, h3⟩ := hv
    have h0 : x.l = [] := List.eq_nil_of_length_eq_zero (by omega)
    have hl0 : x.l.length = 0 := by omega
    rw [hl0]
    refine (own_leaf w x.k x.n p cap).mono ?_
    rintro e w' ⟨rfl, hb⟩
    exact ⟨none, 0, fun _ => none, by rw [hl0], (fun b π l hg => by cases hg), .inl ⟨h0, rfl, rfl⟩, hb⟩
theorem OwT.isv {W : World} {lo : Nat} {G : Gm} {x : V} {q : Option Addr} {c : Nat} (h : OwT W lo G) (hc : ChG G [] q c x.l) (hx : x.sz ≤ 1000000) (hk : I64 x.k) (hn : I64 x.n) : IsV W W.heap.size (.agg #[.int .i64 x.k, .int .i64 x.n, .slice q x.l.length c]) x :=
  ⟨⟨q, c, rfl, h.sl x hc hx⟩, hk, hn⟩
set_option maxRecDepth 100000 in
set_option maxHeartbeats 2000000 in
theorem Part_yes (w : World) (B : Nat) (v : Value) (x y : V) (pp : Option Addr) (pc : Nat) (ks : List Int) (hv : IsV w B v x) (hp : Pth w B pp pc ks) (hB : B ≤ w.heap.size) (hf : findV x ks = some y) (hx : x.sz ≤ 200000) :
    Calls Try.prog 7 #[v, .slice pp ks.length pc] w fun e w' => ∃ u, e = .returned (.tuple #[u, .bool true]) ∧ IsV w' w'.heap.size u y ∧ Below w.heap.size w w' := by
  have hys : y.sz ≤ 200000 := by have := find_sz hf; omega
  obtain ⟨⟨p, cap, rfl, h1⟩, h2, h3⟩ := hv
  obtain ⟨W0, hW0⟩ : ∃ W0, (w.alloc (Obj.cells #[Value.int IntKind.i64 x.k, Value.int IntKind.i64 x.n, Value.slice p x.l.length cap] 24)).alloc z3 = W0 := ⟨_, rfl⟩
  have hb0 : Below w.heap.size w W0 := by rw [← hW0]; exact two_new _ _ _
  have ha0 : W0.heap[w.heap.size]? = some (Obj.cells #[Value.int IntKind.i64 x.k, Value.int IntKind.i64 x.n, Value.slice p x.l.length cap] 24) := by
    rw [← hW0]; exact (Below.heap_alloc _ _ _ (by simp)).trans (World.alloc_heap_new _ _)
  have ha1 : W0.heap[w.heap.size + 1]? = some z3 := by rw [← hW0]; exact alloc_at _ _ _
  obtain ⟨c0, c1, c2, f0, f1, f2, hAl⟩ := c3 ha0
  have hLo : Lo B w W0 := Lo.of (hb0.mono hB)
  have HF : Bx _ := ⟨find_any W0 B (.agg #[.int .i64 x.k, .int .i64 x.n, .slice p x.l.length cap]) x pp pc ks ⟨⟨p, cap, rfl, h1.lo hLo⟩, h2, h3⟩ (hp.lo hLo) (by have := hb0.size; omega)⟩
  have HB0 : Bx _ := ⟨hb0⟩
  have HH1 : Bx _ := ⟨ha1⟩
  have HY : Bx _ := ⟨hys⟩
  clear hp h1 h2 h3 hb0 ha0 ha1 hLo hys hx
  go_enter Try.func7, Try.ntmps7
  go_wp2_with (first | (go_at_call 21; refine Calls.mono HF.out ?_; rintro e w2 (⟨y', u, hf', rfl, hu, hb2⟩ | ⟨hf', _, _⟩); rotate_left; exact absurd (hf.symm.trans hf') (by simp); obtain rfl : y = y' := Option.some.inj (hf.symm.trans hf'); have hz2 := hb2.size; have HU : Bx _ := ⟨hu⟩; obtain ⟨⟨q, d, rfl, _⟩, _, _⟩ := hu; obtain ⟨W3, hW3⟩ : ∃ W3, w2.alloc (Obj.cells #[.int .i64 y.k, .int .i64 y.n, .slice q y.l.length d] 24) = W3 := ⟨_, rfl⟩; have HB3 : Bx (Below w2.heap.size w2 W3) := ⟨by rw [← hW3]; exact below1 _ _⟩; have h3a : W3.heap[w2.heap.size]? = some (Obj.cells #[.int .i64 y.k, .int .i64 y.n, .slice q y.l.length d] 24) := (by rw [← hW3]; exact World.alloc_heap_new _ _); obtain ⟨d0, d1, d2, e0, e1, e2, hDl⟩ := c3 h3a; clear h3a) | (go_at_call 22; refine Calls.mono (own_any W3 B (.agg #[.int .i64 y.k, .int .i64 y.n, .slice q y.l.length d]) y (HU.out.lo (Lo.of (HB3.out.mono (by have := HB0.out.size; omega)))) (by have := HB0.out.size; omega) HY.out) ?_; rintro e w4 ⟨q', c', G, rfl, HO, HCh, hb4⟩; have hw1 : w.heap.size + 1 < W0.heap.size := (Array.getElem?_eq_some_iff.1 HH1.out).1; have hr4 : w4.heap[w.heap.size + 1]? = some z3 := (hb4.block _ (by have := HB3.out.size; omega)).trans ((HB3.out.block _ (by omega)).trans ((hb2.block _ hw1).trans HH1.out)); obtain ⟨r0, r1, r2, s0, s1, s2, hAl3⟩ := c3 hr4; have HO' : Bx _ := ⟨HO⟩; have HC' : Bx _ := ⟨HCh⟩; clear HO HCh hr4))
  refine bodyPost_ret (v := .tuple #[.agg #[.int .i64 y.k, .int .i64 y.n, .slice q' y.l.length c'], .bool true]) (by simp [results, Try.results7, go_sem, r0, r1, r2, hAl3]) rfl ⟨_, rfl, ?_, ?_⟩
  · have hz3 := HB3.out.size
    refine OwT.isv (lo := W3.heap.size) (HO'.out.keep fun b p hg => set3_other _ _ _ ?_) HC'.out (by have := HY.out; omega) HU.out.k64 HU.out.n64
    have := (HO'.out b p.1 p.2 hg).ge
    omega
  · exact below3 (((HB0.out.trans (hb2.mono HB0.out.size)).trans (HB3.out.mono (by have := HB0.out.size; omega))).trans (hb4.mono (by have := HB0.out.size; have := HB3.out.size; omega))) (by omega) _ _ _
set_option maxRecDepth 100000 in
set_option maxHeartbeats 2000000 in
theorem Part_no (w : World) (B : Nat) (v : Value) (x : V) (pp : Option Addr) (pc : Nat) (ks : List Int) (hv : IsV w B v x) (hp : Pth w B pp pc ks) (hB : B ≤ w.heap.size) (hf : findV x ks = none) :
    Calls Try.prog 7 #[v, .slice pp ks.length pc] w fun e w' => e = .returned (.tuple #[pv 0 0, .bool false]) ∧ Below w.heap.size w w' := by
  obtain ⟨⟨p, cap, rfl, h1⟩, h2, h3⟩ := hv
  obtain ⟨W0, hW0⟩ : ∃ W0, (w.alloc (Obj.cells #[Value.int IntKind.i64 x.k, Value.int IntKind.i64 x.n, Value.slice p x.l.length cap] 24)).alloc z3 = W0 := ⟨_, rfl⟩
  have hb0 : Below w.heap.size w W0 := by rw [← hW0]; exact two_new _ _ _
  have ha0 : W0.heap[w.heap.size]? = some (Obj.cells #[Value.int IntKind.i64 x.k, Value.int IntKind.i64 x.n, Value.slice p x.l.length cap] 24) := by
    rw [← hW0]; exact (Below.heap_alloc _ _ _ (by simp)).trans (World.alloc_heap_new _ _)
  have ha1 : W0.heap[w.heap.size + 1]? = some z3 := by rw [← hW0]; exact alloc_at _ _ _
  obtain ⟨c0, c1, c2, f0, f1, f2, hAl⟩ := c3 ha0
  have hLo : Lo B w W0 := Lo.of (hb0.mono hB)
  have HF : Bx _ := ⟨find_any W0 B (.agg #[.int .i64 x.k, .int .i64 x.n, .slice p x.l.length cap]) x pp pc ks ⟨⟨p, cap, rfl, h1.lo hLo⟩, h2, h3⟩ (hp.lo hLo) (by have := hb0.size; omega)⟩
  have HB0 : Bx _ := ⟨hb0⟩
  have HH1 : Bx _ := ⟨ha1⟩
  clear hp h1 h2 h3 hb0 ha0 ha1 hLo
  go_enter Try.func7, Try.ntmps7
  go_wp2_with (first | (go_at_call 21; refine Calls.mono HF.out ?_; rintro e w2 (⟨y', u, hf', rfl, hu, hb2⟩ | ⟨hf', rfl, hb2⟩); exact absurd (hf.symm.trans hf') (by simp); have hz2 := hb2.size; have hw1 : w.heap.size + 1 < W0.heap.size := (Array.getElem?_eq_some_iff.1 HH1.out).1; have hr3 : w2.heap[w.heap.size + 1]? = some z3 := (hb2.block _ hw1).trans HH1.out; obtain ⟨r0, r1, r2, s0, s1, s2, hAl3⟩ := c3 hr3; clear hr3))
  refine bodyPost_ret (v := .tuple #[pv 0 0, .bool false]) (by simp [results, Try.results7, go_sem, r0, r1, r2, hAl3]) rfl ⟨rfl, ?_⟩
  refine (below3 (A := w.heap.size + 1) (HB0.out.trans (hb2.mono HB0.out.size)) (by omega) _ _ _).trans ((below1 _ _).mono ?_)
  simp only [World.size_setCell]
  omega
end Go.Proofs.Ytikijkpklneihaa
