import Derived.Test.YtikijkpklneihaaCVWi
namespace Go.Proofs.Ytikijkpklneihaa
open Go.RowKit
set_option linter.unusedVariables false
set_option linter.unusedSimpArgs false

theorem three_new (w : World) (o o' o'' : Obj) : Below w.heap.size w (((w.alloc o).alloc o').alloc o'') := (two_new _ _ _).trans ((below1 _ _).mono (by simp; omega))
theorem set3o {W : World} {b o c : Nat} (x y z : Value) (h : c ≠ b) : (((W.setCell ⟨b, o, none⟩ x).setCell ⟨b, o + 1, none⟩ y).setCell ⟨b, o + 2, none⟩ z).heap[c]? = W.heap[c]? := by
  rw [Below.heap_setCell _ _ _ _ h, Below.heap_setCell _ _ _ _ h, Below.heap_setCell _ _ _ _ h]
theorem below3o {B b o : Nat} {w W : World} (h : Below B w W) (hb : B ≤ b) (x y z : Value) : Below B w (((W.setCell ⟨b, o, none⟩ x).setCell ⟨b, o + 1, none⟩ y).setCell ⟨b, o + 2, none⟩ z) :=
  ((h.setCell (p := ⟨b, o, none⟩) hb _).setCell (p := ⟨b, o + 1, none⟩) hb _).setCell (p := ⟨b, o + 2, none⟩) hb _
set_option maxRecDepth 100000 in
set_option maxHeartbeats 4000000 in
theorem With_yes (w : World) (B : Nat) (v u : Value) (x y z : V) (pp : Option Addr) (pc : Nat) (ks : List Int) (hv : IsV w B v x) (hu : IsV w B u y) (hp : Pth w B pp pc ks) (hB : B ≤ w.heap.size) (hf : findV x ks = some z) (hx : x.sz ≤ 200000) (hy : y.sz ≤ 200000) :
    Calls Try.prog 8 #[v, .slice pp ks.length pc, u] w fun e w' => ∃ a, e = .returned (.tuple #[a, .bool true]) ∧ IsV w' w'.heap.size a (putV x ks y) ∧ Below w.heap.size w w' := by
  obtain ⟨⟨p, cap, rfl, h1⟩, h2, h3⟩ := hv
  obtain ⟨⟨r, rcap, rfl, k1⟩, k2, k3⟩ := hu
  have hpl := hp.len
  have hpm := hp.max
  unfold maxLen at hpm
  obtain ⟨A, hA⟩ : ∃ A, A = w.heap.size := ⟨_, rfl⟩
  obtain ⟨W0, hW0⟩ : ∃ W0, ((w.alloc (Obj.cells #[.int .i64 x.k, .int .i64 x.n, .slice p x.l.length cap] 24)).alloc (Obj.cells #[.int .i64 y.k, .int .i64 y.n, .slice r y.l.length rcap] 24)).alloc z3 = W0 := ⟨_, rfl⟩
  have hb0 : Below A w W0 := by rw [hA, ← hW0]; exact three_new _ _ _ _
  have hz0 : W0.heap.size = A + 3 := by rw [hA, ← hW0]; simp
  have ha0 : W0.heap[A]? = some (Obj.cells #[.int .i64 x.k, .int .i64 x.n, .slice p x.l.length cap] 24) := by
    rw [hA, ← hW0]; exact (Below.heap_alloc _ _ _ (by simp; omega)).trans ((Below.heap_alloc _ _ _ (by simp)).trans (World.alloc_heap_new _ _))
  have ha1 : W0.heap[A + 1]? = some (Obj.cells #[.int .i64 y.k, .int .i64 y.n, .slice r y.l.length rcap] 24) := by
    rw [hA, ← hW0]; exact (Below.heap_alloc _ _ _ (by simp)).trans (alloc_at _ _ _)
  have ha2 : W0.heap[A + 2]? = some z3 := by
    rw [hA, ← hW0]; have := World.alloc_heap_new ((w.alloc (Obj.cells #[.int .i64 x.k, .int .i64 x.n, .slice p x.l.length cap] 24)).alloc (Obj.cells #[.int .i64 y.k, .int .i64 y.n, .slice r y.l.length rcap] 24)) z3; simpa using this
  obtain ⟨c0, c1, c2, f0, f1, f2, hAl⟩ := c3 ha0
  have hLo : Lo B w W0 := Lo.of (hb0.mono (by omega))
  have HF : Bx _ := ⟨find_any W0 B (.agg #[.int .i64 x.k, .int .i64 x.n, .slice p x.l.length cap]) x pp pc ks ⟨⟨p, cap, rfl, h1.lo hLo⟩, h2, h3⟩ (hp.lo hLo) (by omega)⟩
  have HP : Bx (Pth w B pp pc ks) := ⟨hp⟩
  -- a world behind W0
  have HN : Bx (∀ X, Below W0.heap.size W0 X → (X.heap[A]? = some (Obj.cells #[.int .i64 x.k, .int .i64 x.n, .slice p x.l.length cap] 24) ∧ X.heap[A + 1]? = some (Obj.cells #[.int .i64 y.k, .int .i64 y.n, .slice r y.l.length rcap] 24) ∧ X.heap[A + 2]? = some z3) ∧ (IsV X B (.agg #[.int .i64 x.k, .int .i64 x.n, .slice p x.l.length cap]) x ∧ IsV X B (.agg #[.int .i64 y.k, .int .i64 y.n, .slice r y.l.length rcap]) y) ∧ Below A w X ∧ A + 3 ≤ X.heap.size ∧ Pth X B pp pc ks) := ⟨fun X hX => by
    have hs := hX.size
    have hbX : Below A w X := hb0.trans (hX.mono (by omega))
    have hLX : Lo B w X := Lo.of (hbX.mono (by omega))
    exact ⟨⟨(hX.block A (by omega)).trans ha0, (hX.block (A + 1) (by omega)).trans ha1, (hX.block (A + 2) (by omega)).trans ha2⟩, ⟨⟨⟨p, cap, rfl, h1.lo hLX⟩, h2, h3⟩, ⟨⟨r, rcap, rfl, k1.lo hLX⟩, k2, k3⟩⟩, hbX, by omega, hp.lo hLX⟩⟩
  have HI : Bx ((I64 x.k ∧ I64 x.n) ∧ I64 y.k ∧ I64 y.n) := ⟨⟨h2, h3⟩, k2, k3⟩
  have HSZ : Bx (x.sz ≤ 200000 ∧ y.sz ≤ 200000) := ⟨hx, hy⟩
  have HBA : Bx (B ≤ A) := ⟨by omega⟩
  clear hp h1 h2 h3 k1 k2 k3 hb0 ha0 ha1 ha2 hLo hx hy hB hz0
  subst hA
  go_enter Try.func8, Try.ntmps8
  go_wp2_with (first
    | (go_at_call 21; refine Calls.mono HF.out ?_; clear HF; rintro e w1 (⟨z', a1, hf', rfl, hu1, hb1⟩ | ⟨hf', _, _⟩); rotate_left; exact absurd (hf.symm.trans hf') (by simp); obtain rfl : z = z' := Option.some.inj (hf.symm.trans hf'); clear hf'; obtain ⟨⟨q1, d1, rfl, _⟩, _, _⟩ := hu1; obtain ⟨W1, hW1⟩ : ∃ W1, w1.alloc (Obj.cells #[.int .i64 z.k, .int .i64 z.n, .slice q1 z.l.length d1] 24) = W1 := ⟨_, rfl⟩; have HB1 : Bx (Below W0.heap.size W0 W1) := ⟨hb1.trans (by rw [← hW1]; exact (below1 _ _).mono hb1.size)⟩; obtain ⟨m0, m1, m2, n0, n1, n2, hM⟩ := c3 (HN.out W1 HB1.out).1.1; clear hb1 c0 c1 c2 f0 f1 f2 hAl)
    | (go_at_call 22; refine Calls.mono (own_any W1 B (.agg #[.int .i64 x.k, .int .i64 x.n, .slice p x.l.length cap]) x (HN.out W1 HB1.out).2.1.1 (by have := HBA.out; have := (HN.out W1 HB1.out).2.2.2.1; omega) HSZ.out.1) ?_; rintro e w2 ⟨qo, co, G, rfl, hT, hroot, hb2⟩; obtain ⟨W2, hW2⟩ : ∃ W2, w2.alloc (Obj.cells #[.int .i64 x.k, .int .i64 x.n, .slice qo x.l.length co] 24) = W2 := ⟨_, rfl⟩; have hbb : Below w2.heap.size w2 W2 := (by rw [← hW2]; exact below1 _ _); have hO2 : W2.heap[w2.heap.size]? = some (Obj.cells #[.int .i64 x.k, .int .i64 x.n, .slice qo x.l.length co] 24) := (by rw [← hW2]; exact World.alloc_heap_new _ _); have HB2 : Bx (Below W0.heap.size W0 W2) := ⟨HB1.out.trans ((hb2.trans (hbb.mono hb2.size)).mono HB1.out.size)⟩; have HO : Bx (OwT W2 W1.heap.size G ∧ ChG G [] qo co x.l ∧ W2.heap[w2.heap.size]? = some (Obj.cells #[.int .i64 x.k, .int .i64 x.n, .slice qo x.l.length co] 24) ∧ (∀ g p, G g = some p → g < w2.heap.size) ∧ W1.heap.size ≤ w2.heap.size) := ⟨hT.below hbb, hroot, hO2, fun g p hg => (hT g p.1 p.2 hg).lt, hb2.size⟩; obtain ⟨O, hOe⟩ : ∃ O, w2.heap.size = O := ⟨_, rfl⟩; have hOB : Bx _ := ⟨hOe⟩; clear hT hroot hb2 hbb hO2 m0 m1 m2 n0 n1 n2 hM))
  rw [hOB.out] at HO
  have HPL : Bx (PlI W2 G x ks O qo 0 x O 0 qo co) := ⟨by
    obtain ⟨m0, m1, m2, _⟩ := c3 HO.out.2.2.1
    exact ⟨by simp, m0, m1, m2, ⟨_, HO.out.2.2.1⟩, HO.out.2.1, rfl, .inl ⟨rfl, rfl, rfl⟩⟩⟩
  clear hOe hOB hW0 hW1 hW2
  go_loopg [11, 27] ks.length (fun k pv iv wr => ∃ (i : Nat) (y' : V) (b o : Nat) (q : Option Addr) (c : Nat), k = ks.length - i ∧ i ≤ ks.length ∧ iv = .int .i64 i ∧ pv = .pointer (some ⟨b, o, none⟩) ∧ wr = W2 ∧ Bx (PlI W2 G x ks O qo i y' b o q c))
  case atStart => exact ⟨0, x, O, 0, qo, co, by simp, by omega, rfl, rfl, rfl, HPL⟩
  case round =>
    clear HPL
    obtain ⟨i, y', b, o, q, c, hk, hil, rfl, rfl, rfl, HPL⟩ := hrel
    by_cases hlt : i < ks.length
    · obtain ⟨e, g, he, q', c', hke, rfl, rfl, hn⟩ := PlI.next HO.out.1 HPL.out hlt hf
      obtain ⟨b2, o2, rfl, _, g0, _⟩ := (HN.out wr HB2.out).2.2.2.2.at_ i hlt
      rw [hke] at g0
      have g2 := HPL.out.c2
      have HNX : Bx _ := ⟨hn⟩
      clear hn HPL hke
      go_wp2
      go_roundg (ks.length - (i + 1))
      case measure => omega
      case rel => exact ⟨i + 1, y'.l[e], g, e * 3, q', c', rfl, by omega, by simp, by simp, rfl, HNX⟩
    · have hie : i = ks.length := by omega
      subst hie
      have hyz : z = y' := by
        have := HPL.out.f
        rw [hf] at this
        simpa [findV] using this
      subst hyz
      obtain ⟨y0, y1, y2, z0, z1, z2, hYl⟩ := c3 (HN.out wr HB2.out).1.2.1
      have HOW : Bx (Calls Try.prog 22 #[.agg #[.int .i64 y.k, .int .i64 y.n, .slice r y.l.length rcap]] wr (OnPost wr y)) := ⟨own_any wr B _ y (HN.out wr HB2.out).2.1.2 (by have := HBA.out; have := (HN.out wr HB2.out).2.2.2.1; omega) HSZ.out.2⟩
      have HZ : Bx (w.heap.size + 3 ≤ W1.heap.size ∧ O < wr.heap.size ∧ b < wr.heap.size ∧ w.heap.size + 3 ≤ b ∧ w.heap.size + 2 ≠ b) := ⟨by
        have q1 := (HN.out W1 HB1.out).2.2.2.1
        have q2 := (Array.getElem?_eq_some_iff.1 HO.out.2.2.1).1
        obtain ⟨cur, q3⟩ := HPL.out.blk
        have q4 := (Array.getElem?_eq_some_iff.1 q3).1
        have q5 := HO.out.2.2.2.2
        have q6 : w.heap.size + 3 ≤ b := by
          rcases HPL.out.pos with ⟨_, h2, _⟩ | ⟨j, m, hj, _, _, hg, _⟩
          · omega
          · have := (HO.out.1 b _ _ hg).ge
            omega
        exact ⟨q1, q2, q4, q6, by omega⟩⟩
      have HST : Bx (∀ w3, Below wr.heap.size wr w3 → (w3.cell? ⟨b, o, none⟩ = some (.int .i64 z.k) ∧ w3.cell? ⟨b, o + 1, none⟩ = some (.int .i64 z.n) ∧ w3.cell? ⟨b, o + 2, none⟩ = some (.slice q z.l.length c)) ∧ (∀ t, w3.frozen? ⟨b, t, none⟩ = false) ∧ b < w3.heap.size ∧ w3.heap[O]? = wr.heap[O]? ∧ w3.heap[w.heap.size + 2]? = some z3) := ⟨fun w3 h3 => by
        obtain ⟨cur, q3⟩ := HPL.out.blk
        have hbl := HZ.out.2.2.1
        have hb3 := (h3.block b hbl).trans q3
        exact ⟨⟨by rw [h3.cell (p := ⟨b, o, none⟩) hbl]; exact HPL.out.c0, by rw [h3.cell (p := ⟨b, o + 1, none⟩) hbl]; exact HPL.out.c1, by rw [h3.cell (p := ⟨b, o + 2, none⟩) hbl]; exact HPL.out.c2⟩, fun t => by simp [World.frozen?, hb3], Nat.lt_of_lt_of_le hbl h3.size, h3.block O HZ.out.2.1, (h3.block _ (by have := HZ.out; omega)).trans (HN.out wr HB2.out).1.2.2⟩⟩
      have HEND : Bx (∀ w3 qp cp G2, OwT w3 wr.heap.size G2 → ChG G2 [] qp cp y.l → Below wr.heap.size wr w3 → ∀ W5, (∀ g, g ≠ b → g ≠ w.heap.size + 2 → W5.heap[g]? = w3.heap[g]?) → w3.heap.size ≤ W5.heap.size → (b ≠ O → W5.heap[b]? = (((w3.setCell ⟨b, o, none⟩ (.int .i64 y.k)).setCell ⟨b, o + 1, none⟩ (.int .i64 y.n)).setCell ⟨b, o + 2, none⟩ (.slice qp y.l.length cp)).heap[b]?) →
        (ks = [] ∧ b = O ∧ o = 0 ∧ putV x ks y = y ∧ SlV W5 W5.heap.size qp cp y.l) ∨ (b ≠ O ∧ (putV x ks y).k = x.k ∧ (putV x ks y).n = x.n ∧ (putV x ks y).l.length = x.l.length ∧ SlV W5 W5.heap.size qo co (putV x ks y).l)) := ⟨fun w3 qp cp G2 a1 a2 a3 W5 a4 a5 a6 => by
        have hz := HZ.out
        have hsx := HSZ.out
        refine wi_end (lo := W1.heap.size) HO.out.1 HO.out.2.1 hf (by omega) (by omega) HI.out.2.1 HI.out.2.2 HPL.out a1 a2 a3 hz.2.1 (fun g p hg hgb => a4 g hgb ?_) (fun g p hg => a4 g ?_ ?_) a5 a6 (fun g p hg => Nat.ne_of_lt (HO.out.2.2.2.1 g p hg))
        · have := (HO.out.1 g _ _ hg).ge
          omega
        · have := (a1 g _ _ hg).ge
          omega
        · have := (a1 g _ _ hg).ge
          omega⟩
      have HBW : Bx (Below w.heap.size w wr) := ⟨(HN.out wr HB2.out).2.2.1⟩
      rcases HPL.out.pos with ⟨h1, h2, h3⟩ | ⟨j, m, hj, hij, ho, hg, hw⟩
      · subst h2 h3
        have hk0 : ks = [] := List.eq_nil_of_length_eq_zero h1
        clear HPL hk
        go_wp2_with (first
          | (go_at_call 22; refine Calls.mono HOW.out ?_; clear HOW; rintro e w3 ⟨qp, cp, G2, rfl, hT2, hch, hb3⟩; obtain ⟨⟨e0, e1, e2⟩, ef, hbl, hO3, hA3⟩ := HST.out w3 hb3; have ef0 := ef 0; have ef1 := ef 1; have ef2 := ef 2; rw [Nat.zero_add] at e1 e2; obtain ⟨W4, hW4⟩ : ∃ W4, ((w3.setCell ⟨b, 0, none⟩ (.int .i64 y.k)).setCell ⟨b, 1, none⟩ (.int .i64 y.n)).setCell ⟨b, 2, none⟩ (.slice qp y.l.length cp) = W4 := ⟨_, rfl⟩; have hO4 : W4.heap[b]? = some (Obj.cells #[.int .i64 y.k, .int .i64 y.n, .slice qp y.l.length cp] 24) := (by rw [← hW4]; exact set3 (hO3.trans HO.out.2.2.1)); have hA4 : W4.heap[w.heap.size + 1 + 1]? = some z3 := (by rw [← hW4]; exact (set3_other _ _ _ HZ.out.2.2.2.2).trans hA3); obtain ⟨p0, p1, p2, q0, q1, q2, hPl⟩ := c3 hO4; obtain ⟨r0, r1, r2, s0, s1, s2, hAl⟩ := c3 hA4; have HX : Bx (OwT w3 wr.heap.size G2 ∧ ChG G2 [] qp cp y.l ∧ Below wr.heap.size wr w3) := ⟨hT2, hch, hb3⟩; have HW4 : Bx _ := ⟨hW4⟩; clear hT2 hch hb3 hO4 hA4 hO3 hA3 HST ef))
        refine bodyPost_ret (v := .tuple #[.agg #[.int .i64 y.k, .int .i64 y.n, .slice qp y.l.length cp], .bool true]) (by simp [results, Try.results8, go_sem, r0, r1, r2, hAl]) rfl ⟨_, rfl, ?_, ?_⟩
        · rcases HEND.out w3 qp cp G2 HX.out.1 HX.out.2.1 HX.out.2.2 (((W4.setCell ⟨w.heap.size + 1 + 1, 0, none⟩ (.int .i64 y.k)).setCell ⟨w.heap.size + 1 + 1, 1, none⟩ (.int .i64 y.n)).setCell ⟨w.heap.size + 1 + 1, 2, none⟩ (.slice qp y.l.length cp)) (fun g g1 g2 => by rw [set3_other _ _ _ g2, ← HW4.out, set3_other _ _ _ g1]) (by simp [← HW4.out]) (fun h => absurd rfl h) with ⟨_, _, _, e4, e5⟩ | ⟨e1, _⟩
          · rw [e4]
            exact ⟨⟨qp, cp, rfl, e5⟩, HI.out.2.1, HI.out.2.2⟩
          · exact absurd rfl e1
        · refine below3 (A := w.heap.size + 1 + 1) ?_ (by omega) _ _ _
          rw [← HW4.out]
          exact below3 (HBW.out.trans (HX.out.2.2.mono HBW.out.size)) (by have := HZ.out; omega) _ _ _
      · have hbO : b ≠ O := Nat.ne_of_lt (HO.out.2.2.2.1 b _ hg)
        clear HPL hk hg hw ho hij hj
        go_wp2_with (first
          | (go_at_call 22; refine Calls.mono HOW.out ?_; clear HOW; rintro e w3 ⟨qp, cp, G2, rfl, hT2, hch, hb3⟩; obtain ⟨⟨e0, e1, e2⟩, ef, hbl, hO3, hA3⟩ := HST.out w3 hb3; have ef0 := ef o; have ef1 := ef (o + 1); have ef2 := ef (o + 2); obtain ⟨W4, hW4⟩ : ∃ W4, ((w3.setCell ⟨b, o, none⟩ (.int .i64 y.k)).setCell ⟨b, o + 1, none⟩ (.int .i64 y.n)).setCell ⟨b, o + 2, none⟩ (.slice qp y.l.length cp) = W4 := ⟨_, rfl⟩; have hO4 : W4.heap[O]? = some (Obj.cells #[.int .i64 x.k, .int .i64 x.n, .slice qo x.l.length co] 24) := (by rw [← hW4]; exact (set3o _ _ _ (fun e => hbO e.symm)).trans (hO3.trans HO.out.2.2.1)); have hA4 : W4.heap[w.heap.size + 1 + 1]? = some z3 := (by rw [← hW4]; exact (set3o _ _ _ HZ.out.2.2.2.2).trans hA3); obtain ⟨p0, p1, p2, q0, q1, q2, hPl⟩ := c3 hO4; obtain ⟨r0, r1, r2, s0, s1, s2, hAl⟩ := c3 hA4; have HX : Bx (OwT w3 wr.heap.size G2 ∧ ChG G2 [] qp cp y.l ∧ Below wr.heap.size wr w3) := ⟨hT2, hch, hb3⟩; have HW4 : Bx _ := ⟨hW4⟩; clear hT2 hch hb3 hO4 hA4 hO3 hA3 HST ef))
        refine bodyPost_ret (v := .tuple #[.agg #[.int .i64 x.k, .int .i64 x.n, .slice qo x.l.length co], .bool true]) (by simp [results, Try.results8, go_sem, r0, r1, r2, hAl]) rfl ⟨_, rfl, ?_, ?_⟩
        · rcases HEND.out w3 qp cp G2 HX.out.1 HX.out.2.1 HX.out.2.2 (((W4.setCell ⟨w.heap.size + 1 + 1, 0, none⟩ (.int .i64 x.k)).setCell ⟨w.heap.size + 1 + 1, 1, none⟩ (.int .i64 x.n)).setCell ⟨w.heap.size + 1 + 1, 2, none⟩ (.slice qo x.l.length co)) (fun g g1 g2 => by rw [set3_other _ _ _ g2, ← HW4.out, set3o _ _ _ g1]) (by simp [← HW4.out]) (fun h => by rw [set3_other _ _ _ (fun e => HZ.out.2.2.2.2 e.symm), ← HW4.out]) with ⟨_, e1, _⟩ | ⟨_, e2, e3, e4, e5⟩
          · exact absurd e1 hbO
          · refine ⟨⟨qo, co, by rw [e2, e3, e4], e5⟩, by rw [e2]; exact HI.out.1.1, by rw [e3]; exact HI.out.1.2⟩
        · refine below3 (A := w.heap.size + 1 + 1) ?_ (by omega) _ _ _
          rw [← HW4.out]
          exact below3o (HBW.out.trans (HX.out.2.2.mono HBW.out.size)) (by have := HZ.out; omega) _ _ _
set_option maxRecDepth 100000 in
set_option maxHeartbeats 2000000 in
theorem With_no (w : World) (B : Nat) (v u : Value) (x y : V) (pp : Option Addr) (pc : Nat) (ks : List Int) (hv : IsV w B v x) (hu : IsV w B u y) (hp : Pth w B pp pc ks) (hB : B ≤ w.heap.size) (hf : findV x ks = none) :
    Calls Try.prog 8 #[v, .slice pp ks.length pc, u] w fun e w' => e = .returned (.tuple #[pv 0 0, .bool false]) ∧ Below w.heap.size w w' := by
  obtain ⟨⟨p, cap, rfl, h1⟩, h2, h3⟩ := hv
  obtain ⟨⟨r, rcap, rfl, k1⟩, k2, k3⟩ := hu
  obtain ⟨W0, hW0⟩ : ∃ W0, ((w.alloc (Obj.cells #[.int .i64 x.k, .int .i64 x.n, .slice p x.l.length cap] 24)).alloc (Obj.cells #[.int .i64 y.k, .int .i64 y.n, .slice r y.l.length rcap] 24)).alloc z3 = W0 := ⟨_, rfl⟩
  have hb0 : Below w.heap.size w W0 := by rw [← hW0]; exact three_new _ _ _ _
  have ha0 : W0.heap[w.heap.size]? = some (Obj.cells #[.int .i64 x.k, .int .i64 x.n, .slice p x.l.length cap] 24) := by
    rw [← hW0]; exact (Below.heap_alloc _ _ _ (by simp; omega)).trans ((Below.heap_alloc _ _ _ (by simp)).trans (World.alloc_heap_new _ _))
  have ha2 : W0.heap[w.heap.size + 1 + 1]? = some z3 := by
    rw [← hW0]; have := World.alloc_heap_new ((w.alloc (Obj.cells #[.int .i64 x.k, .int .i64 x.n, .slice p x.l.length cap] 24)).alloc (Obj.cells #[.int .i64 y.k, .int .i64 y.n, .slice r y.l.length rcap] 24)) z3; simpa using this
  obtain ⟨c0, c1, c2, f0, f1, f2, hAl⟩ := c3 ha0
  have hLo : Lo B w W0 := Lo.of (hb0.mono hB)
  have HF : Bx _ := ⟨find_any W0 B (.agg #[.int .i64 x.k, .int .i64 x.n, .slice p x.l.length cap]) x pp pc ks ⟨⟨p, cap, rfl, h1.lo hLo⟩, h2, h3⟩ (hp.lo hLo) (by have := hb0.size; omega)⟩
  have HB0 : Bx _ := ⟨hb0⟩
  have HH1 : Bx _ := ⟨ha2⟩
  clear hp h1 h2 h3 hb0 ha0 ha2 hLo k1 k2 k3
  go_enter Try.func8, Try.ntmps8
  go_wp2_with (first | (go_at_call 21; refine Calls.mono HF.out ?_; rintro e w2 (⟨y', u, hf', rfl, hu, hb2⟩ | ⟨hf', rfl, hb2⟩); exact absurd (hf.symm.trans hf') (by simp); have hz2 := hb2.size; have hw1 : w.heap.size + 1 + 1 < W0.heap.size := (Array.getElem?_eq_some_iff.1 HH1.out).1; have hr3 : w2.heap[w.heap.size + 1 + 1]? = some z3 := (hb2.block _ hw1).trans HH1.out; obtain ⟨r0, r1, r2, s0, s1, s2, hAl3⟩ := c3 hr3; clear hr3))
  refine bodyPost_ret (v := .tuple #[pv 0 0, .bool false]) (by simp [results, Try.results8, go_sem, r0, r1, r2, hAl3]) rfl ⟨rfl, ?_⟩
  refine (below3 (A := w.heap.size + 1 + 1) (HB0.out.trans (hb2.mono HB0.out.size)) (by omega) _ _ _).trans ((below1 _ _).mono ?_)
  simp only [World.size_setCell]
  omega
end Go.Proofs.Ytikijkpklneihaa
