import Derived.Test.YtjabdhmkibahlaaCHA
import Derived.Test.YtjabdhmkibahlaaCFL
import Derived.Deep.MidRow
namespace Go.Proofs.Ytjabdhmkibahlaa
open Go.RowKit
set_option linter.unusedVariables false
set_option linter.unusedSimpArgs false

/-! ### the book: lists of links that were answered, in rows of one's own, and what was asked for -/
theorem lksC_snoc1 (l : List Lk) (x : Lk) : lksC (l ++ [x]) = lksC l ++ lkC x := by simp [lksC, List.flatMap_append]
theorem lksC_ln (l : List Lk) : (lksC l).length = l.length * 3 := by
  induction l with
  | nil => rfl
  | cons x r ih => simp only [lksC, List.flatMap_cons, List.length_append] at ih ⊢; rw [ih]; simp [lkC]; omega
theorem infoSL : (Try.prog.info? 36).map (fun i => (i.zero, i.size, i.bytes)) = some (some (.slice none 0 0), 1, 24) := by kernel_rfl
/-- cs: what the lists hold, os: the slices; ls, ws: those that were asked for -/
structure Bk (W : World) (B : Nat) (go co gw cw : Nat) (cs ls : List (List Lk)) (os ws : List Value) : Prop where
  lo : os.length = cs.length
  lw : ws.length = ls.length
  outs : W.ownsRow B 36 1 (.slice (some ⟨go, 0, none⟩) cs.length co) cs.length os
  wants : W.ownsRow B 36 1 (.slice (some ⟨gw, 0, none⟩) ls.length cw) ls.length ws
  gne : go ≠ gw
  row : ∀ i (h1 : i < cs.length) (h2 : i < os.length), W.ownsRow B 24 3 os[i] cs[i].length (lksC cs[i])
  wrow : ∀ i (h1 : i < ls.length) (h2 : i < ws.length), W.ownsRow B 24 3 ws[i] ls[i].length (lksC ls[i])
  ap : ∀ i j (h1 : i < os.length) (h2 : j < os.length), i ≠ j → ∀ g, os[i].ownBlock = some g → os[j].ownBlock ≠ some g
  aq : ∀ i j (h1 : i < os.length) (h2 : j < ws.length), ∀ g, os[i].ownBlock = some g → ws[j].ownBlock ≠ some g
theorem Bk.on {W W' : World} {B go co gw cw : Nat} {cs ls : List (List Lk)} {os ws : List Value} (h : Bk W B go co gw cw cs ls os ws) (hb : ∀ g, B ≤ g → g < W.heap.size → W'.heap[g]? = W.heap[g]?) : Bk W' B go co gw cw cs ls os ws :=
  ⟨h.lo, h.lw, owns_same h.outs hb, owns_same h.wants hb, h.gne, fun i h1 h2 => owns_same (h.row i h1 h2) hb, fun i h1 h2 => owns_same (h.wrow i h1 h2) hb, h.ap, h.aq⟩
theorem Bk.later {W W' : World} {B go co gw cw : Nat} {cs ls : List (List Lk)} {os ws : List Value} (h : Bk W B go co gw cw cs ls os ws) (hb : Below W.heap.size W W') : Bk W' B go co gw cw cs ls os ws := h.on fun g _ hg => hb.block g hg
theorem Bk.start (w : World) (H : Nat) (hH : w.heap.size = H) : Bk ((w.alloc (.cells #[] 36)).alloc (.cells #[] 36)) H H 0 (H + 1) 0 [] [] [] [] := by
  subst hH
  refine ⟨rfl, rfl, ⟨rfl, .inr ⟨w.heap.size, 0, #[], rfl, Nat.le_refl _, ?_, Nat.le_refl _, by simp [maxLen], rfl, rfl⟩⟩, ⟨rfl, .inr ⟨w.heap.size + 1, 0, #[], rfl, Nat.le_succ _, heap_newH _ _ _ (by simp), Nat.le_refl _, by simp [maxLen], rfl, rfl⟩⟩, by omega, fun i h => by simp at h, fun i h => by simp at h, fun i j h => by simp at h, fun i j h => by simp at h⟩
  rw [Below.heap_alloc _ _ _ (by simp)]
  exact heap_newH _ _ _ rfl
/-- a list more that was answered, and one more that was asked for -/
structure Add (W W1 W2 : World) (go co gw cw go' co' gw' cw' : Nat) (cs : List (List Lk)) (x : List Lk) (vo vw : Value) (B : Nat) (os ws : List Value) : Prop where
  r1 : ∀ ty, (Builtin.append_ #[27, 27] ty #[.slice (some ⟨go, 0, none⟩) cs.length co, .slice (some ⟨W.heap.size, 0, none⟩) 1 1]).run Try.prog (W.alloc (.cells #[vo] 36)) = .ok (.slice (some ⟨go', 0, none⟩) (cs.length + 1) co') W1
  r2 : ∀ ty, (Builtin.append_ #[27, 27] ty #[.slice (some ⟨gw, 0, none⟩) cs.length cw, .slice (some ⟨W1.heap.size, 0, none⟩) 1 1]).run Try.prog (W1.alloc (.cells #[vw] 36)) = .ok (.slice (some ⟨gw', 0, none⟩) (cs.length + 1) cw') W2
  bk : Bk W2 B go' co' gw' cw' (cs ++ [x]) (cs ++ [x]) (os ++ [vo]) (ws ++ [vw])
  bel : Below B W W2
theorem owns_gr {w w' : World} {row : Option Nat} {B s n : Nat} {e : TypeId} {v : Value} {xs : List Value} (h : w.ownsRow B e s v n xs) (hg : w.grownBy w' row) (hr : ∀ b, v.ownBlock = some b → row ≠ some b) : w'.ownsRow B e s v n xs := by
  refine own_same h fun g o hgb ho => ?_
  rw [hg.block g (heap_lt ho) (fun e => hr g hgb (by rw [e]))]; exact ho
theorem owns_one {W : World} {B s n : Nat} {t : TypeId} {v : Value} {cs : List Value} (h : W.ownsRow B t s v n cs) : v.oneCell' = true := by
  obtain ⟨a, c, rfl⟩ := owns_slice h
  rfl
set_option maxHeartbeats 1000000 in
theorem Bk.add {W : World} {B go co gw cw : Nat} {cs : List (List Lk)} {os ws : List Value} (h : Bk W B go co gw cw cs cs os ws) (hB : B ≤ W.heap.size) (hn : cs.length ≤ 100) (x : List Lk) (vo vw : Value) (ho : W.ownsRow B 24 3 vo x.length (lksC x)) (hw : W.ownsRow B 24 3 vw x.length (lksC x))
    (h1 : ∀ j (h : j < os.length) g, vo.ownBlock = some g → os[j].ownBlock ≠ some g) (h2 : ∀ j (h : j < ws.length) g, vo.ownBlock = some g → ws[j].ownBlock ≠ some g) (h3 : ∀ j (h : j < os.length) g, vw.ownBlock = some g → os[j].ownBlock ≠ some g) (h4 : ∀ g, vo.ownBlock = some g → vw.ownBlock ≠ some g) :
    ∃ W1 W2 go' co' gw' cw', Add W W1 W2 go co gw cw go' co' gw' cw' cs x vo vw B os ws := by
  obtain ⟨i0, hi0, iz0, iz1, iz2⟩ := info_parts infoSL
  have e1 : ∀ u ∈ (#[vo] : Array Value).toList, u.oneCell' = true := fun u hu => by simp at hu; subst hu; exact owns_one ho
  have e2 : ∀ u ∈ (#[vw] : Array Value).toList, u.oneCell' = true := fun u hu => by simp at hu; subst hu; exact owns_one hw
  obtain ⟨go', co', W1, r1, n1, g1, _, d1⟩ := app1 Try.underlying27 hi0 iz0 iz1 iz2 rfl (by decide) W B _ cs.length _ h.outs #[vo] rfl e1 (by unfold maxLen; omega) (by omega) hB
  have k1 := owns_kind h.outs
  have hs1 := g1.size
  have w1 : W1.ownsRow B 36 1 (.slice (some ⟨gw, 0, none⟩) cs.length cw) cs.length ws := owns_gr h.wants g1 fun b hb e => by
    simp only [Value.ownBlock, Option.some.injEq] at hb e
    exact h.gne (by omega)
  have rows1 : ∀ {v : Value} {l : List Lk}, W.ownsRow B 24 3 v l.length (lksC l) → W1.ownsRow B 24 3 v l.length (lksC l) := fun hr => owns_grown hr g1 (by decide) k1
  obtain ⟨gw', cw', W2, r2, n2, g2, _, d2⟩ := app1 Try.underlying27 hi0 iz0 iz1 iz2 rfl (by decide) W1 B _ cs.length _ w1 #[vw] rfl e2 (by unfold maxLen; omega) (by omega) (by omega)
  have k2 := owns_kind w1
  have hgo : go' < W1.heap.size := (owns_block n1 rfl).2
  have hgwl : gw < W.heap.size := (owns_block h.wants rfl).2
  have hgol : go < W.heap.size := (owns_block h.outs rfl).2
  have hne1 : go' ≠ gw := by
    rcases d1 with d | d
    · simp only [Value.ownBlock, Option.some.injEq] at d
      have := h.gne
      omega
    · omega
  have hne2 : go' ≠ gw' := by
    rcases d2 with d | d
    · simp only [Value.ownBlock, Option.some.injEq] at d
      omega
    · omega
  have o2 : W2.ownsRow B 36 1 (.slice (some ⟨go', 0, none⟩) (cs.length + 1) co') (cs.length + 1) (os ++ [vo]) := owns_gr n1 g2 fun b hb e => by
    simp only [Value.ownBlock, Option.some.injEq] at hb e
    omega
  have rows2 : ∀ {v : Value} {l : List Lk}, W.ownsRow B 24 3 v l.length (lksC l) → W2.ownsRow B 24 3 v l.length (lksC l) := fun hr => owns_grown (rows1 hr) g2 (by decide) k2
  have hlo := h.lo
  have hlw := h.lw
  have gt : ∀ (L : List Value) (z : Value) (i : Nat) (hi : i < (L ++ [z]).length), (∃ hh : i < L.length, (L ++ [z])[i] = L[i]) ∨ (i = L.length ∧ (L ++ [z])[i] = z) := fun L z i hi => by
    by_cases hh : i < L.length
    · exact .inl ⟨hh, List.getElem_append_left hh⟩
    · have : i = L.length := by simp at hi; omega
      subst this
      exact .inr ⟨rfl, by simp⟩
  refine ⟨W1, W2, go', co', gw', cw', r1, r2, ⟨by simp [hlo], by simp [hlw], by rw [List.length_append]; exact o2, by rw [List.length_append]; exact n2, hne2, fun i k1 k2 => ?_, fun i k1 k2 => ?_, fun i j k1 k2 hij g => ?_, fun i j k1 k2 g => ?_⟩, ?_⟩
  · by_cases hi : i < cs.length
    · have hl : i < os.length := by omega
      simp only [List.getElem_append_left hi, List.getElem_append_left hl]
      exact rows2 (h.row i hi hl)
    · have hie : i = cs.length := by simp at k1; omega
      subst hie
      simp only [List.getElem_append_right (Nat.le_refl _), List.getElem_append_right (show os.length ≤ cs.length by omega), hlo, Nat.sub_self, List.getElem_cons_zero]
      exact rows2 ho
  · by_cases hi : i < cs.length
    · have hl : i < ws.length := by omega
      simp only [List.getElem_append_left hi, List.getElem_append_left hl]
      exact rows2 (h.wrow i hi hl)
    · have hie : i = cs.length := by simp at k1; omega
      subst hie
      simp only [List.getElem_append_right (Nat.le_refl _), List.getElem_append_right (show ws.length ≤ cs.length by omega), hlw, Nat.sub_self, List.getElem_cons_zero]
      exact rows2 hw
  · rcases gt os vo i k1 with ⟨a1, a2⟩ | ⟨a1, a2⟩ <;> rcases gt os vo j k2 with ⟨b1, b2⟩ | ⟨b1, b2⟩ <;> rw [a2, b2]
    · exact h.ap i j a1 b1 hij g
    · intro e1 e2; exact h1 i a1 g e2 e1
    · exact h1 j b1 g
    · omega
  · rcases gt os vo i k1 with ⟨a1, a2⟩ | ⟨a1, a2⟩ <;> rcases gt ws vw j k2 with ⟨b1, b2⟩ | ⟨b1, b2⟩ <;> rw [a2, b2]
    · exact h.aq i j a1 b1 g
    · intro e1 e2; exact h3 i a1 g e2 e1
    · exact h2 j b1 g
    · exact h4 g
  · have b1 : Below B W W1 := (Below.refl _ _).grown g1 hB fun k hk => (owns_block h.outs hk).1
    exact b1.trans ((Below.refl _ _).grown g2 (by omega) fun k hk => (owns_block w1 hk).1)
/-! ### what is written over -/
theorem lksC_set (l : List Lk) (k : Nat) (hk : k < l.length) (x : Lk) : lksC (l.set k x) = (((lksC l).set (k * 3) (.int .i64 x.waker)).set (k * 3 + 1) (.int .i64 x.woken)).set (k * 3 + 2) (.int .i64 x.chan) := by
  induction l generalizing k with
  | nil => simp at hk
  | cons y r ih =>
    cases k with
    | zero => rfl
    | succ k =>
      rw [List.set_cons_succ, show (k + 1) * 3 = k * 3 + 3 by omega]
      show lkC y ++ lksC (r.set k x) = (((lkC y ++ lksC r).set _ _).set _ _).set _ _
      rw [ih k (by simpa using hk)]
      simp [lkC, List.set_cons_succ]
theorem own_put {w : World} {B : Nat} {e : TypeId} {s g n cap : Nat} {xs : List Value} (h : w.ownsRow B e s (.slice (some ⟨g, 0, none⟩) n cap) n xs) (j : Nat) (u : Value) : (w.setCell ⟨g, j, none⟩ u).ownsRow B e s (.slice (some ⟨g, 0, none⟩) n cap) n (xs.set j u) := by
  refine ⟨by rw [List.length_set]; exact h.1, ?_⟩
  rcases h.2 with ⟨q, _⟩ | ⟨g', cap', cur, q, hB, hg, q1, q2, q3, q4⟩
  · cases q
  · simp only [Value.slice.injEq, Option.some.injEq, Addr.mk.injEq] at q
    obtain ⟨⟨rfl, _⟩, _, rfl⟩ := q
    refine .inr ⟨g, cap, cur.setIfInBounds j u, rfl, hB, Lib.heap_setCell_same (i := j) hg u, q1, q2, by simpa using q3, ?_⟩
    rw [Array.toList_setIfInBounds, List.take_set, q4]
theorem Bk.get {W : World} {B go co gw cw : Nat} {cs ls : List (List Lk)} {os ws : List Value} (h : Bk W B go co gw cw cs ls os ws) {i : Nat} (hi : i < cs.length) : ∃ a c, os[i]'(by have := h.lo; omega) = .slice a cs[i].length c ∧ W.cell? ⟨go, i, none⟩ = some (.slice a cs[i].length c) := by
  have hlo := h.lo
  obtain ⟨a, c, e⟩ := owns_slice (h.row i hi (by omega))
  exact ⟨a, c, e, owns_cellj h.outs (by rw [← e, List.getElem?_eq_getElem (by omega)])⟩
theorem Bk.wget {W : World} {B go co gw cw : Nat} {cs ls : List (List Lk)} {os ws : List Value} (h : Bk W B go co gw cw cs ls os ws) {i : Nat} (hi : i < ls.length) : ∃ a c, ws[i]'(by have := h.lw; omega) = .slice a ls[i].length c ∧ W.cell? ⟨gw, i, none⟩ = some (.slice a ls[i].length c) := by
  have hlo := h.lw
  obtain ⟨a, c, e⟩ := owns_slice (h.wrow i hi (by omega))
  exact ⟨a, c, e, owns_cellj h.wants (by rw [← e, List.getElem?_eq_getElem (by omega)])⟩
/-- one entry of the list i is written -/
theorem Bk.mark {W W' : World} {B go co gw cw : Nat} {cs ls : List (List Lk)} {os ws : List Value} (h : Bk W B go co gw cw cs ls os ws) {i : Nat} (hi : i < cs.length) {g n c : Nat} (he : os[i]'(by have := h.lo; omega) = .slice (some ⟨g, 0, none⟩) n c) {k : Nat} (hk : k < cs[i].length) (x : Lk)
    (hW : W.setCells g (k * 3) [.int .i64 x.waker, .int .i64 x.woken, .int .i64 x.chan] = W') : Bk W' B go co gw cw (cs.set i (cs[i].set k x)) ls os ws ∧ Below B W W' := by
  subst hW
  have hlo := h.lo
  have hio : i < os.length := by omega
  have hr := h.row i hi hio
  rw [he] at hr
  have hn : n = cs[i].length := by
    obtain ⟨a, c', e⟩ := owns_slice hr
    simp only [Value.slice.injEq] at e
    exact e.2.1
  subst hn
  have hgB := owns_block hr (g := g) rfl
  obtain ⟨cur, fz, hgk⟩ := owns_kind hr g rfl
  have hoth : ∀ y, y ≠ g → (W.setCells g (k * 3) [.int .i64 x.waker, .int .i64 x.woken, .int .i64 x.chan]).heap[y]? = W.heap[y]? := fun y hy => by
    show (((W.setCell ⟨g, k * 3, none⟩ _).setCell ⟨g, k * 3 + 1, none⟩ _).setCell ⟨g, k * 3 + 1 + 1, none⟩ _).heap[y]? = _
    rw [Below.heap_setCell _ ⟨g, _, none⟩ _ y hy, Below.heap_setCell _ ⟨g, _, none⟩ _ y hy, Below.heap_setCell _ ⟨g, _, none⟩ _ y hy]
  have hnr : (W.setCells g (k * 3) [.int .i64 x.waker, .int .i64 x.woken, .int .i64 x.chan]).ownsRow B 24 3 (.slice (some ⟨g, 0, none⟩) cs[i].length c) cs[i].length (lksC (cs[i].set k x)) := by
    rw [lksC_set _ k hk]
    exact own_put (own_put (own_put hr (k * 3) _) (k * 3 + 1) _) (k * 3 + 1 + 1) _
  have keep : ∀ {v : Value} {t : TypeId} {s n : Nat} {xs : List Value}, W.ownsRow B t s v n xs → v.ownBlock ≠ some g → (W.setCells g (k * 3) [.int .i64 x.waker, .int .i64 x.woken, .int .i64 x.chan]).ownsRow B t s v n xs := fun hv hne => own_same hv fun y o hy ho => by
    rw [hoth y (fun e => hne (by rw [hy, e]))]; exact ho
  have hgo : go ≠ g := fun e => by
    obtain ⟨c1, f1, q⟩ := owns_kind h.outs go rfl
    rw [e, hgk] at q
    injection q with q
    injection q with _ q
    exact absurd q (by decide)
  have hgw : gw ≠ g := fun e => by
    obtain ⟨c1, f1, q⟩ := owns_kind h.wants gw rfl
    rw [e, hgk] at q
    injection q with q
    injection q with _ q
    exact absurd q (by decide)
  refine ⟨⟨by rw [List.length_set]; exact hlo, h.lw, by rw [List.length_set]; exact keep h.outs (by simpa [Value.ownBlock] using hgo), keep h.wants (by simpa [Value.ownBlock] using hgw), h.gne, fun j k1 k2 => ?_, fun j k1 k2 => keep (h.wrow j k1 k2) (h.aq i j hio k2 g (by rw [he]; rfl)), h.ap, h.aq⟩, ?_⟩
  · rw [List.length_set] at k1
    by_cases hij : i = j
    · subst hij
      simp only [List.getElem_set_self]
      rw [he, List.length_set]
      exact hnr
    · simp only [List.getElem_set_ne hij]
      exact keep (h.row j k1 k2) (h.ap i j hio k2 hij g (by rw [he]; rfl))
  · exact (((Below.refl B W).setCell (p := ⟨g, k * 3, none⟩) hgB.1 _).trans ((Below.refl B _).setCell (p := ⟨g, k * 3 + 1, none⟩) hgB.1 _)).trans ((Below.refl B _).setCell (p := ⟨g, k * 3 + 1 + 1, none⟩) hgB.1 _)
/-- one entry more behind the list i -/
structure Grow (W W1 W2 : World) (B go co gw cw : Nat) (cs ls : List (List Lk)) (os ws : List Value) (i : Nat) (a : Option Addr) (c n : Nat) (x : Lk) (g' c' : Nat) : Prop where
  r1 : ∀ ty, (Builtin.append_ #[36, 36] ty #[.slice a n c, .slice (some ⟨W.heap.size, 0, none⟩) 1 1]).run Try.prog (W.alloc (.cells #[.int .i64 x.waker, .int .i64 x.woken, .int .i64 x.chan] 24)) = .ok (.slice (some ⟨g', 0, none⟩) (n + 1) c') W1
  k1 : W1.cell? ⟨go, i, none⟩ = some (.slice a n c)
  f1 : W1.frozen? ⟨go, i, none⟩ = false
  w2 : W1.setCell ⟨go, i, none⟩ (.slice (some ⟨g', 0, none⟩) (n + 1) c') = W2
  bk : Bk W2 B go co gw cw (cs.set i ((cs[i]?.getD []) ++ [x])) ls (os.set i (.slice (some ⟨g', 0, none⟩) (n + 1) c')) ws
  bel : Below B W W2
set_option maxHeartbeats 1000000 in
theorem Bk.grow {W : World} {B go co gw cw : Nat} {cs ls : List (List Lk)} {os ws : List Value} (h : Bk W B go co gw cw cs ls os ws) (hB : B ≤ W.heap.size) {i : Nat} (hi : i < cs.length) {a : Option Addr} {n c : Nat} (he : os[i]'(by have := h.lo; omega) = .slice a n c) (hn : n = cs[i].length) (hl : n + 1 ≤ 5000000000100) (x : Lk) :
    ∃ W1 W2 g' c', Grow W W1 W2 B go co gw cw cs ls os ws i a c n x g' c' := by
  subst hn
  have hlo := h.lo
  have hio : i < os.length := by omega
  have hr := h.row i hi hio
  have hcell := owns_cellj h.outs (show os[i]? = some (.slice a cs[i].length c) by rw [List.getElem?_eq_getElem hio, he])
  rw [he] at hr
  obtain ⟨i0, hi0, iz0, iz1, iz2⟩ := info_parts infoL
  obtain ⟨g', c', W1, r1, n1, g1, _, d1⟩ := app1 Try.underlying36 hi0 iz0 iz1 iz2 rfl (by decide) W B _ cs[i].length _ hr #[.int .i64 x.waker, .int .i64 x.woken, .int .i64 x.chan] rfl (by simp [Value.oneCell']) (by unfold maxLen; omega) (by omega) hB
  have k1 := owns_kind hr
  have hgo : ∀ g, (Value.slice a cs[i].length c).ownBlock = some g → go ≠ g := fun g hg e => by
    obtain ⟨c1, f1, q⟩ := owns_kind h.outs go rfl
    obtain ⟨c2, f2, q'⟩ := k1 g hg
    rw [e, q'] at q
    injection q with q
    injection q with _ q
    exact absurd q (by decide)
  have o1 : W1.ownsRow B 36 1 (.slice (some ⟨go, 0, none⟩) cs.length co) cs.length os := owns_grown h.outs g1 (by decide) k1
  have w1 : W1.ownsRow B 36 1 (.slice (some ⟨gw, 0, none⟩) ls.length cw) ls.length ws := owns_grown h.wants g1 (by decide) k1
  obtain ⟨W2, hW2⟩ : ∃ W2, W1.setCell ⟨go, i, none⟩ (.slice (some ⟨g', 0, none⟩) (cs[i].length + 1) c') = W2 := ⟨_, rfl⟩
  have hk2 : ∀ y, y ≠ go → W2.heap[y]? = W1.heap[y]? := fun y hy => by rw [← hW2]; exact Below.heap_setCell W1 ⟨go, i, none⟩ _ y hy
  have keep2 : ∀ {v : Value} {t : TypeId} {s n : Nat} {xs : List Value}, W1.ownsRow B t s v n xs → v.ownBlock ≠ some go → W2.ownsRow B t s v n xs := fun hv hne => own_same hv fun y o hy ho => by
    rw [hk2 y (fun e => hne (by rw [hy, e]))]; exact ho
  have hgoB := owns_block h.outs (g := go) rfl
  have kgo : ∃ c fz, W1.heap[go]? = some (.cells c 36 fz) := owns_kind o1 go rfl
  have lnk : ∀ {v : Value} {l : List Lk}, W1.ownsRow B 24 3 v l.length (lksC l) → v.ownBlock ≠ some go := fun hv e => by
    obtain ⟨c1, f1, q⟩ := kgo
    obtain ⟨c2, f2, q'⟩ := owns_kind hv go e
    rw [q] at q'
    injection q' with q'
    injection q' with _ q'
    exact absurd q' (by decide)
  have hio2 : ∀ j, j < os.length → ∀ g, os[j]?.bind (·.ownBlock) = some g → g < W.heap.size := fun j hj g hg => by
    rw [List.getElem?_eq_getElem hj] at hg
    exact (owns_block (h.row j (by omega) hj) hg).2
  have fz1 : W1.frozen? ⟨go, i, none⟩ = false := by
    rcases o1.2 with ⟨q, _⟩ | ⟨g2, c2, cur, q, _, hg2, _⟩
    · cases q
    · simp only [Value.slice.injEq, Option.some.injEq, Addr.mk.injEq] at q
      obtain ⟨⟨rfl, _⟩, _⟩ := q
      exact frz_blk hg2
  refine ⟨W1, W2, g', c', r1, owns_cellj o1 (by rw [List.getElem?_eq_getElem hio, he]), fz1, hW2, ⟨by simp [hlo], h.lw, ?_, keep2 w1 (by simp [Value.ownBlock]; exact fun e => h.gne e.symm), h.gne, fun j q1 q2 => ?_, fun j q1 q2 => ?_, fun j1 j2 q1 q2 hij g => ?_, fun j1 j2 q1 q2 g => ?_⟩, ?_⟩
  · rw [List.length_set, ← hW2]
    exact own_put o1 i _
  · rw [List.length_set] at q1
    by_cases hij : i = j
    · subst hij
      simp only [List.getElem_set_self]
      rw [List.getElem?_eq_getElem hi, Option.getD_some, List.length_append, lksC_snoc1]
      refine keep2 n1 ?_
      intro e
      simp only [Value.ownBlock, Option.some.injEq] at e
      obtain ⟨c1, f1, q⟩ := kgo
      obtain ⟨c2, f2, q'⟩ := owns_kind n1 g' rfl
      rw [e, q] at q'
      injection q' with q'
      injection q' with _ q'
      exact absurd q' (by decide)
    · rw [List.length_set] at q2
      simp only [List.getElem_set_ne hij]
      have hw1 : W1.ownsRow B 24 3 os[j] cs[j].length (lksC cs[j]) := owns_gr (h.row j q1 q2) g1 fun b hb e => h.ap i j hio q2 hij b (by rw [he]; exact e) hb
      exact keep2 hw1 (lnk hw1)
  · have hw1 : W1.ownsRow B 24 3 ws[j] ls[j].length (lksC ls[j]) := owns_gr (h.wrow j q1 q2) g1 fun b hb e => h.aq i j hio q2 b (by rw [he]; exact e) hb
    exact keep2 hw1 (lnk hw1)
  · rw [List.length_set] at q1 q2
    by_cases e1 : i = j1
    · subst e1
      simp only [List.getElem_set_self, List.getElem_set_ne hij]
      intro hg hg2
      simp only [Value.ownBlock, Option.some.injEq] at hg
      rcases d1 with d | d
      · exact h.ap i j2 hio q2 hij g (by rw [he, d, hg]) hg2
      · have := hio2 j2 q2 g (by rw [List.getElem?_eq_getElem q2]; exact hg2)
        omega
    · by_cases e2 : i = j2
      · subst e2
        simp only [List.getElem_set_self, List.getElem_set_ne e1]
        intro hg2 hg
        simp only [Value.ownBlock, Option.some.injEq] at hg
        rcases d1 with d | d
        · exact h.ap i j1 hio q1 e1 g (by rw [he, d, hg]) hg2
        · have := hio2 j1 q1 g (by rw [List.getElem?_eq_getElem q1]; exact hg2)
          omega
      · simp only [List.getElem_set_ne e1, List.getElem_set_ne e2]
        exact h.ap j1 j2 q1 q2 hij g
  · rw [List.length_set] at q1
    by_cases e1 : i = j1
    · subst e1
      simp only [List.getElem_set_self]
      intro hg hg2
      simp only [Value.ownBlock, Option.some.injEq] at hg
      rcases d1 with d | d
      · exact h.aq i j2 hio q2 g (by rw [he, d, hg]) hg2
      · have := (owns_block (h.wrow j2 (by have := h.lw; omega) q2) hg2).2
        omega
    · simp only [List.getElem_set_ne e1]
      exact h.aq j1 j2 q1 q2 g
  · rw [← hW2]
    exact ((Below.refl _ _).grown g1 hB fun k hk => (owns_block hr hk).1).trans ((Below.refl B W1).setCell (p := ⟨go, i, none⟩) hgoB.1 _)
end Go.Proofs.Ytjabdhmkibahlaa
namespace Go.Proofs.Ytjabdhmkibahlaa
open Go.RowKit
set_option linter.unusedVariables false
set_option linter.unusedSimpArgs false

def mk20 (i : Nat) : Lk := ⟨-20 - (i : Int), 0, 0⟩
def mk30 (i : Nat) : Lk := ⟨-30 - (i : Int), 0, 0⟩
def fin9 (i n : Nat) : List Lk := List.replicate n (mk20 i) ++ List.replicate 9 (mk30 i)
theorem fin9_len (i n : Nat) : (fin9 i n).length = n + 9 := by simp [fin9]
theorem fin9_lo {i n k : Nat} (h : k < n) : (fin9 i n)[k]? = some (mk20 i) := by
  unfold fin9
  rw [List.getElem?_append_left (by simpa using h), List.getElem?_replicate, if_pos h]
theorem fin9_hi {i n k : Nat} (h : n ≤ k) (h2 : k < n + 9) : (fin9 i n)[k]? = some (mk30 i) := by
  unfold fin9
  rw [List.getElem?_append_right (by simpa using h), List.getElem?_replicate, if_pos (by simp; omega)]
theorem set_mark {y : List Lk} {k : Nat} (m : Lk) (h : k < y.length) : (List.replicate k m ++ y.drop k).set k m = List.replicate (k + 1) m ++ y.drop (k + 1) := by
  rw [List.set_append_right _ _ (by simp), List.length_replicate, Nat.sub_self, List.drop_eq_getElem_cons h, List.set_cons_zero, List.replicate_succ']
  simp
theorem lksC_get (l : List Lk) (k : Nat) (x : Lk) (h : l[k]? = some x) : (lksC l)[k * 3]? = some (.int .i64 x.waker) ∧ (lksC l)[k * 3 + 1]? = some (.int .i64 x.woken) ∧ (lksC l)[k * 3 + 2]? = some (.int .i64 x.chan) := by
  induction l generalizing k with
  | nil => simp at h
  | cons y r ih =>
    have e : ∀ j, (lksC (y :: r))[j + 3]? = (lksC r)[j]? := fun j => rfl
    cases k with
    | zero =>
      simp at h; subst h
      exact ⟨rfl, rfl, rfl⟩
    | succ k =>
      rw [show (k + 1) * 3 = k * 3 + 3 by omega, show k * 3 + 3 + 1 = k * 3 + 1 + 3 by omega, show k * 3 + 3 + 2 = k * 3 + 2 + 3 by omega, e, e, e]
      exact ih k (by simpa using h)
theorem wpList_put3 {ops : Array Oper} {rest : List Oper} {op : Oper} {a : Act} {w W8 : World} {Q : Exit → Act → World → Prop} (hgd : op.guard = none) (x y : Operand) (ho : op.op = .store 24 x y) (b o : Nat) (n : Int) (hx : a.eval x = .pointer (some ⟨b, o, none⟩)) (hy : a.eval y = .agg #[.int .i64 n, .int .i64 0, .int .i64 0]) (ht : w.there b o 3) (hW : w.setCells b o [.int .i64 n, .int .i64 0, .int .i64 0] = W8)
    (h : wpList Try.prog ops Q rest (a.put op.dst undef) W8) : wpList Try.prog ops Q (op :: rest) a w := by
  subst hW
  exact wpList_store_mid hgd 24 x y ho b o #[.int .i64 n, .int .i64 0, .int .i64 0] hx hy ht (by kernel_rfl) (by simp [Value.oneCell']) h
theorem Czb.there3 {w : World} {t : TypeId} {g n : Nat} (h : Czb w t g n) {i k : Nat} (hk : i + k ≤ n) : w.there g i k := fun j hj => by
  obtain ⟨⟨y, z⟩, f⟩ := h.at_ (i := i + j) (by omega)
  exact ⟨by rw [z]; rfl, f⟩
/-- what is kept while the lists are written over -/
structure P2 (w1 W : World) (B go co gw cw : Nat) (cs ls : List (List Lk)) (os ws : List Value) : Prop where
  bk : Bk W B go co gw cw cs ls os ws
  bel : Below w1.heap.size w1 W
  low : B ≤ W.heap.size
  eqb : w1.heap.size = B
theorem P2.later {w1 W W' : World} {B go co gw cw : Nat} {cs ls : List (List Lk)} {os ws : List Value} (h : P2 w1 W B go co gw cw cs ls os ws) (hb : Below W.heap.size W W') : P2 w1 W' B go co gw cw cs ls os ws :=
  ⟨h.bk.later hb, h.bel.trans (hb.mono h.bel.size), Nat.le_trans h.low hb.size, h.eqb⟩
theorem P2.next {w1 W W' : World} {B go co gw cw : Nat} {cs ls cs' : List (List Lk)} {os ws os' : List Value} (h : P2 w1 W B go co gw cw cs ls os ws) (hk : Bk W' B go co gw cw cs' ls os' ws) (hb : Below B W W') : P2 w1 W' B go co gw cw cs' ls os' ws :=
  ⟨hk, by have := h.bel; rw [h.eqb] at this ⊢; exact this.trans hb, Nat.le_trans h.low hb.size, h.eqb⟩
theorem P2.out {w1 W : World} {B go co gw cw : Nat} {cs ls : List (List Lk)} {os ws : List Value} (h : P2 w1 W B go co gw cw cs ls os ws) {i : Nat} {y : List Lk} (hy : cs[i]? = some y) : ∃ a c, os[i]? = some (.slice a y.length c) ∧ W.cell? ⟨go, i, none⟩ = some (.slice a y.length c) ∧ W.ownsRow B 24 3 (.slice a y.length c) y.length (lksC y) ∧ y.length ≤ c := by
  obtain ⟨hi, e⟩ := List.getElem?_eq_some_iff.1 hy
  obtain ⟨a, c, e1, e2⟩ := h.bk.get hi
  have hlo := h.bk.lo
  have hr := h.bk.row i hi (by omega)
  rw [e1, e] at hr
  rw [e] at e1 e2
  refine ⟨a, c, by rw [List.getElem?_eq_getElem (by omega), e1], e2, hr, ?_⟩
  rcases hr.2 with ⟨q, q2⟩ | ⟨g, cap, cur, q, _, _, q3, _⟩
  · omega
  · simp only [Value.slice.injEq] at q; omega
theorem P2.want {w1 W : World} {B go co gw cw : Nat} {cs ls : List (List Lk)} {os ws : List Value} (h : P2 w1 W B go co gw cw cs ls os ws) {i : Nat} {y : List Lk} (hy : ls[i]? = some y) : ∃ a c, W.cell? ⟨gw, i, none⟩ = some (.slice a y.length c) ∧ W.ownsRow B 24 3 (.slice a y.length c) y.length (lksC y) := by
  obtain ⟨hi, e⟩ := List.getElem?_eq_some_iff.1 hy
  obtain ⟨a, c, e1, e2⟩ := h.bk.wget hi
  have hlo := h.bk.lw
  have hr := h.bk.wrow i hi (by omega)
  rw [e1, e] at hr
  rw [e] at e1 e2
  exact ⟨a, c, e2, hr⟩
/-- an entry is written -/
theorem P2.mark {w1 W W' : World} {B go co gw cw : Nat} {cs ls : List (List Lk)} {os ws : List Value} (h : P2 w1 W B go co gw cw cs ls os ws) {i : Nat} {y : List Lk} (hy : cs[i]? = some y) {g c n : Nat} (ho : os[i]? = some (.slice (some ⟨g, 0, none⟩) n c)) {k : Nat} (hk : k < y.length) (x : Lk) (hW : W.setCells g (k * 3) [.int .i64 x.waker, .int .i64 x.woken, .int .i64 x.chan] = W') :
    ∃ cs', P2 w1 W' B go co gw cw cs' ls os ws ∧ cs'[i]? = some (y.set k x) ∧ ∀ j, j ≠ i → cs'[j]? = cs[j]? := by
  obtain ⟨hi, e⟩ := List.getElem?_eq_some_iff.1 hy
  obtain ⟨hio, eo⟩ := List.getElem?_eq_some_iff.1 ho
  obtain ⟨m1, m2⟩ := h.bk.mark hi eo (by rw [e]; exact hk) x hW
  exact ⟨_, h.next m1 m2, by rw [List.getElem?_set_self hi, e], fun j hj => List.getElem?_set_ne (by omega)⟩
/-- an entry more -/
theorem P2.grow {w1 W : World} {B go co gw cw : Nat} {cs ls : List (List Lk)} {os ws : List Value} (h : P2 w1 W B go co gw cw cs ls os ws) {i : Nat} {y : List Lk} (hy : cs[i]? = some y) {a : Option Addr} {n c : Nat} (ho : os[i]? = some (.slice a n c)) (hn : n = y.length) (hl : n + 1 ≤ 5000000000100) (x : Lk) :
    ∃ W1 W2 g' c' cs' os', (∀ ty, (Builtin.append_ #[36, 36] ty #[.slice a n c, .slice (some ⟨W.heap.size, 0, none⟩) 1 1]).run Try.prog (W.alloc (.cells #[.int .i64 x.waker, .int .i64 x.woken, .int .i64 x.chan] 24)) = .ok (.slice (some ⟨g', 0, none⟩) (n + 1) c') W1) ∧
      W1.cell? ⟨go, i, none⟩ = some (.slice a n c) ∧ W1.frozen? ⟨go, i, none⟩ = false ∧ W1.setCell ⟨go, i, none⟩ (.slice (some ⟨g', 0, none⟩) (n + 1) c') = W2 ∧ P2 w1 W2 B go co gw cw cs' ls os' ws ∧ cs'[i]? = some (y ++ [x]) ∧ ∀ j, j ≠ i → cs'[j]? = cs[j]? := by
  obtain ⟨hi, e⟩ := List.getElem?_eq_some_iff.1 hy
  obtain ⟨hio, eo⟩ := List.getElem?_eq_some_iff.1 ho
  obtain ⟨W1, W2, g', c', hG⟩ := h.bk.grow h.low hi eo (by rw [e]; exact hn) hl x
  exact ⟨W1, W2, g', c', _, _, hG.r1, hG.k1, hG.f1, hG.w2, h.next hG.bk hG.bel, by rw [List.getElem?_set_self hi, hy]; rfl, fun j hj => List.getElem?_set_ne (by omega)⟩
end Go.Proofs.Ytjabdhmkibahlaa
