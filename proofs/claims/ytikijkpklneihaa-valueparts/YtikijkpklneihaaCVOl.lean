import Derived.Test.YtikijkpklneihaaCVFi
namespace Go.Proofs.Ytikijkpklneihaa
open Go.RowKit
set_option linter.unusedVariables false
set_option linter.unusedSimpArgs false

set_option maxRecDepth 100000 in
theorem copied_nil (w : World) (p : Option Addr) (c : Nat) : Calls Try.prog 36 #[.slice p 0 c] w fun e w' => e = .returned (.slice none 0 0) ∧ w = w' := by
  go_enter Try.func36, Try.ntmps36
  go_wp2
  go_ret
  exact ⟨rfl, rfl⟩

set_option maxRecDepth 100000 in
set_option maxHeartbeats 2000000 in
theorem own_leaf (w : World) (k n : Int) (p : Option Addr) (c : Nat) : Calls Try.prog 22 #[.agg #[.int .i64 k, .int .i64 n, .slice p 0 c]] w fun e w' => e = .returned (pv k n) ∧ Below w.heap.size w w' := by
  obtain ⟨A, hA⟩ : ∃ A, A = w.heap.size := ⟨_, rfl⟩
  obtain ⟨W0, hW0⟩ : ∃ W0, (w.alloc (Obj.cells #[Value.int IntKind.i64 k, Value.int IntKind.i64 n, Value.slice p 0 c] 24)).alloc z3 = W0 := ⟨_, rfl⟩
  have hb0 : Below A w W0 := by rw [hA, ← hW0]; exact two_new _ _ _
  have ha0 : W0.heap[A]? = some (Obj.cells #[Value.int IntKind.i64 k, Value.int IntKind.i64 n, Value.slice p 0 c] 24) := by
    rw [hA, ← hW0]; exact (Below.heap_alloc _ _ _ (by simp)).trans (World.alloc_heap_new _ _)
  have ha1 : W0.heap[A + 1]? = some z3 := by rw [hA, ← hW0]; exact alloc_at _ _ _
  have hz0 : W0.heap.size = A + 2 := by rw [hA, ← hW0]; simp
  obtain ⟨c0, c1, c2, f0, f1, f2, hAl⟩ := c3 ha0
  obtain ⟨W1, hW1⟩ : ∃ W1, W0.setCell ⟨A, 2, none⟩ (.slice none 0 0) = W1 := ⟨_, rfl⟩
  have h1a : W1.heap[A]? = some (Obj.cells #[Value.int IntKind.i64 k, Value.int IntKind.i64 n, Value.slice none 0 0] 24) := by
    rw [← hW1]; simp [World.setCell, Array.getElem?_modify, ha0]
  have h1b : W1.heap[A + 1]? = some z3 := by rw [← hW1, Below.heap_setCell _ _ _ _ (by show A + 1 ≠ A; omega)]; exact ha1
  have hb1 : Below A w W1 := by rw [← hW1]; exact hb0.setCell (p := ⟨A, 2, none⟩) (Nat.le_refl _) _
  have hz1 : W1.heap.size = A + 2 := by rw [← hW1, World.size_setCell]; exact hz0
  obtain ⟨k0, k1, k2, l0, l1, l2, hAl1⟩ := c3 h1a
  obtain ⟨W2, hW2⟩ : ∃ W2, W1.alloc (Obj.cells #[.slice none 0 0] 22) = W2 := ⟨_, rfl⟩
  have h2a : W2.heap[A]? = some (Obj.cells #[Value.int IntKind.i64 k, Value.int IntKind.i64 n, Value.slice none 0 0] 24) := by rw [← hW2]; exact (Below.heap_alloc _ _ _ (by omega)).trans h1a
  have h2b : W2.heap[A + 1]? = some z3 := by rw [← hW2]; exact (Below.heap_alloc _ _ _ (by omega)).trans h1b
  have h2c : W2.heap[A + 2]? = some (Obj.cells #[.slice none 0 0] 22) := by rw [← hW2, ← hz1]; exact World.alloc_heap_new _ _
  have hb2 : Below A w W2 := by rw [← hW2]; exact hb1.trans ((below1 _ _).mono (by omega))
  have HA : Bx (A = w.heap.size) := ⟨hA⟩
  obtain ⟨m0, m1, m2, n0, n1, n2, hAl2⟩ := c3 h2a
  obtain ⟨r0, r1, r2, s0, s1, s2, hAl3⟩ := c3 h2b
  have t0 : W2.cell? ⟨A + 2, 0, none⟩ = some (.slice none 0 0) := by simp [World.cell?, h2c]
  have HB2 : Bx (Below A w (((W2.setCell ⟨A + 1, 0, none⟩ (.int .i64 k)).setCell ⟨A + 1, 1, none⟩ (.int .i64 n)).setCell ⟨A + 1, 2, none⟩ (.slice none 0 0))) := ⟨below3 hb2 (by omega) _ _ _⟩
  clear hb0 ha0 ha1 hb1 h1a h1b h2a h2b h2c hb2
  subst hA
  go_enter Try.func22, Try.ntmps22
  go_wp2_with (first | (go_at_call 36; refine Calls.mono (copied_nil _ _ _) ?_; rintro e w1 ⟨rfl, rfl⟩))
  go_loopg [3] 1 (fun k v wr => wr = W2 ∧ ((k = 1 ∧ v = .slice (some ⟨w.heap.size + 2, 0, none⟩) 1 1) ∨ (k = 0 ∧ v = .slice (some ⟨w.heap.size + 2, 0, none⟩) 0 1)))
  case atStart => exact ⟨rfl, .inl ⟨rfl, rfl⟩⟩
  case round =>
    obtain ⟨rfl, ⟨rfl, rfl⟩ | ⟨rfl, rfl⟩⟩ := hrel
    · go_wp2
      go_loopg [3, 29] 0 (fun k u v wr' => wr' = wr ∧ u = .slice (some ⟨w.heap.size + 2, 0, none⟩) 0 1 ∧ v = .int .i64 0)
      case atStart => exact ⟨rfl, rfl, rfl⟩
      case round =>
        obtain ⟨rfl, rfl, rfl⟩ := hrel
        go_wp2
        go_roundg 0
        case measure => omega
        case rel => exact ⟨rfl, .inr ⟨rfl, rfl⟩⟩
    · go_wp2
      refine bodyPost_ret (v := pv k n) (by simp [results, Try.results22, go_sem, r0, r1, r2, hAl3]) rfl ⟨rfl, HB2.out⟩

set_option maxRecDepth 100000 in
set_option maxHeartbeats 2000000 in
/-- a part that has no list -/
theorem Part_leaf (w : World) (B : Nat) (v : Value) (x y : V) (pp : Option Addr) (pc : Nat) (ks : List Int) (hv : IsV w B v x) (hp : Pth w B pp pc ks) (hB : B ≤ w.heap.size) (hf : findV x ks = some y) (hy : y.l = []) :
    Calls Try.prog 7 #[v, .slice pp ks.length pc] w fun e w' => e = .returned (.tuple #[pv y.k y.n, .bool true]) ∧ Below w.heap.size w w' := by
  obtain ⟨⟨p, cap, rfl, h1⟩, h2, h3⟩ := hv
  obtain ⟨W0, hW0⟩ : ∃ W0, (w.alloc (Obj.cells #[Value.int IntKind.i64 x.k, Value.int IntKind.i64 x.n, Value.slice p x.l.length cap] 24)).alloc z3 = W0 := ⟨_, rfl⟩
  have hb0 : Below w.heap.size w W0 := by rw [← hW0]; exact two_new _ _ _
  have ha0 : W0.heap[w.heap.size]? = some (Obj.cells #[Value.int IntKind.i64 x.k, Value.int IntKind.i64 x.n, Value.slice p x.l.length cap] 24) := by
    rw [← hW0]; exact (Below.heap_alloc _ _ _ (by simp)).trans (World.alloc_heap_new _ _)
  have ha1 : W0.heap[w.heap.size + 1]? = some z3 := by rw [← hW0]; exact alloc_at _ _ _
  obtain ⟨c0, c1, c2, f0, f1, f2, hAl⟩ := c3 ha0
  have hLo : Lo B w W0 := Lo.of (hb0.mono hB)
  have HF : Bx _ := ⟨find_any W0 B (.agg #[.int .i64 x.k, .int .i64 x.n, .slice p x.l.length cap]) x pp pc ks ⟨⟨p, cap, rfl, h1.lo hLo⟩, h2, h3⟩ (hp.lo hLo) (by have := hb0.size; omega)⟩
  have HB0 : Bx _ := ⟨hb0⟩
  have HH1 : Bx _ := ⟨ha1⟩
  have hlen : y.l.length = 0 := by rw [hy]; rfl
  clear hp h1 h2 h3 hb0 ha0 ha1 hLo
  go_enter Try.func7, Try.ntmps7
  go_wp2_with (first | (go_at_call 21; refine Calls.mono HF.out ?_; rintro e w2 (⟨y', u, hf', rfl, hu, hb2⟩ | ⟨hf', _, _⟩); rotate_left; exact absurd (hf.symm.trans hf') (by simp); obtain rfl : y = y' := Option.some.inj (hf.symm.trans hf'); obtain ⟨⟨q, d, rfl, _⟩, _, _⟩ := hu; rw [hlen]; have hz2 := hb2.size) | (go_at_call 22; refine Calls.mono (own_leaf _ _ _ _ _) ?_; rintro e w3 ⟨rfl, hb3⟩; have hw1 : w.heap.size + 1 < W0.heap.size := (Array.getElem?_eq_some_iff.1 HH1.out).1; have hr3 : w3.heap[w.heap.size + 1]? = some z3 := (hb3.block _ (by simp; omega)).trans ((Below.heap_alloc _ _ _ (by omega)).trans ((hb2.block _ hw1).trans HH1.out)); obtain ⟨r0, r1, r2, s0, s1, s2, hAl3⟩ := c3 hr3))
  refine bodyPost_ret (v := .tuple #[pv y.k y.n, .bool true]) (by simp [results, Try.results7, go_sem, r0, r1, r2, hAl3]) rfl ⟨rfl, ?_⟩
  refine below3 (((HB0.out.trans (hb2.mono HB0.out.size)).alloc (by omega) _).trans (hb3.mono (by simp; omega))) (by omega) _ _ _
end Go.Proofs.Ytikijkpklneihaa
