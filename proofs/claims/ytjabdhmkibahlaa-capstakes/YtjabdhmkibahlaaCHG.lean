import Derived.Test.YtjabdhmkibahlaaCHA
import Derived.Deep.DeepAppendRoom
import Derived.Deep.MidRow
namespace Go.Proofs.Ytjabdhmkibahlaa
open Go.RowKit
set_option linter.unusedVariables false
set_option linter.unusedSimpArgs false

/-! ### the book: lists of links that were answered, in rows of one's own, and what was asked for -/
theorem lksC_snoc1 (l : List Lk) (x : Lk) : lksC (l ++ [x]) = lksC l ++ lkC x := by simp [lksC, List.flatMap_append]
theorem lksC_ln (l : List Lk) : (lksC l).length = l.length * 3 := by
  induction l with
  | nil => rfl
  | cons x r ih => simp only [lksC, List.flatMap_cons, List.length_append] at ih ⊢; rw [ih]; simp [lkC]; omega
theorem infoSL : (Try.prog.info? 36).map (fun i => (i.zero, i.size, i.bytes)) = some (some (.slice none 0 0), 1, 24) := by kernel_rfl
/-- cs: what the lists hold, os: the slices; ls, ws: those that were asked for -/
structure Bk (W : World) (B : Nat) (go co gw cw : Nat) (cs ls : List (List Lk)) (os ws : List Value) : Prop where
  lo : os.length = cs.length
  lw : ws.length = ls.length
  outs : W.ownsRow B 36 1 (.slice (some ⟨go, 0, none⟩) cs.length co) cs.length os
  wants : W.ownsRow B 36 1 (.slice (some ⟨gw, 0, none⟩) ls.length cw) ls.length ws
  gne : go ≠ gw
  row : ∀ i (h1 : i < cs.length) (h2 : i < os.length), W.ownsRow B 24 3 os[i] cs[i].length (lksC cs[i])
  wrow : ∀ i (h1 : i < ls.length) (h2 : i < ws.length), W.ownsRow B 24 3 ws[i] ls[i].length (lksC ls[i])
  ap : ∀ i j (h1 : i < os.length) (h2 : j < os.length), i ≠ j → ∀ g, os[i].ownBlock = some g → os[j].ownBlock ≠ some g
  aq : ∀ i j (h1 : i < os.length) (h2 : j < ws.length), ∀ g, os[i].ownBlock = some g → ws[j].ownBlock ≠ some g
theorem Bk.on {W W' : World} {B go co gw cw : Nat} {cs ls : List (List Lk)} {os ws : List Value} (h : Bk W B go co gw cw cs ls os ws) (hb : ∀ g, B ≤ g → g < W.heap.size → W'.heap[g]? = W.heap[g]?) : Bk W' B go co gw cw cs ls os ws :=
  ⟨h.lo, h.lw, owns_same h.outs hb, owns_same h.wants hb, h.gne, fun i h1 h2 => owns_same (h.row i h1 h2) hb, fun i h1 h2 => owns_same (h.wrow i h1 h2) hb, h.ap, h.aq⟩
theorem Bk.later {W W' : World} {B go co gw cw : Nat} {cs ls : List (List Lk)} {os ws : List Value} (h : Bk W B go co gw cw cs ls os ws) (hb : Below W.heap.size W W') : Bk W' B go co gw cw cs ls os ws := h.on fun g _ hg => hb.block g hg
theorem Bk.start (w : World) (H : Nat) (hH : w.heap.size = H) : Bk ((w.alloc (.cells #[] 36)).alloc (.cells #[] 36)) H H 0 (H + 1) 0 [] [] [] [] := by
  subst hH
  refine ⟨rfl, rfl, ⟨rfl, .inr ⟨w.heap.size, 0, #[], rfl, Nat.le_refl _, ?_, Nat.le_refl _, by simp [maxLen], rfl, rfl⟩⟩, ⟨rfl, .inr ⟨w.heap.size + 1, 0, #[], rfl, Nat.le_succ _, heap_newH _ _ _ (by simp), Nat.le_refl _, by simp [maxLen], rfl, rfl⟩⟩, by omega, fun i h => by simp at h, fun i h => by simp at h, fun i j h => by simp at h, fun i j h => by simp at h⟩
  rw [Below.heap_alloc _ _ _ (by simp)]
  exact heap_newH _ _ _ rfl
/-- a list more that was answered, and one more that was asked for -/
structure Add (W W1 W2 : World) (go co gw cw go' co' gw' cw' : Nat) (cs : List (List Lk)) (x : List Lk) (vo vw : Value) (B : Nat) (os ws : List Value) : Prop where
  r1 : ∀ ty, (Builtin.append_ #[27, 27] ty #[.slice (some ⟨go, 0, none⟩) cs.length co, .slice (some ⟨W.heap.size, 0, none⟩) 1 1]).run Try.prog (W.alloc (.cells #[vo] 36)) = .ok (.slice (some ⟨go', 0, none⟩) (cs.length + 1) co') W1
  r2 : ∀ ty, (Builtin.append_ #[27, 27] ty #[.slice (some ⟨gw, 0, none⟩) cs.length cw, .slice (some ⟨W1.heap.size, 0, none⟩) 1 1]).run Try.prog (W1.alloc (.cells #[vw] 36)) = .ok (.slice (some ⟨gw', 0, none⟩) (cs.length + 1) cw') W2
  bk : Bk W2 B go' co' gw' cw' (cs ++ [x]) (cs ++ [x]) (os ++ [vo]) (ws ++ [vw])
  bel : Below B W W2
theorem owns_gr {w w' : World} {row : Option Nat} {B s n : Nat} {e : TypeId} {v : Value} {xs : List Value} (h : w.ownsRow B e s v n xs) (hg : w.grownBy w' row) (hr : ∀ b, v.ownBlock = some b → row ≠ some b) : w'.ownsRow B e s v n xs := by
  refine own_same h fun g o hgb ho => ?_
  rw [hg.block g (heap_lt ho) (fun e => hr g hgb (by rw [e]))]; exact ho
theorem owns_one {W : World} {B s n : Nat} {t : TypeId} {v : Value} {cs : List Value} (h : W.ownsRow B t s v n cs) : v.oneCell' = true := by
  obtain ⟨a, c, rfl⟩ := owns_slice h
  rfl
set_option maxHeartbeats 1000000 in
theorem Bk.add {W : World} {B go co gw cw : Nat} {cs : List (List Lk)} {os ws : List Value} (h : Bk W B go co gw cw cs cs os ws) (hB : B ≤ W.heap.size) (hn : cs.length ≤ 100) (x : List Lk) (vo vw : Value) (ho : W.ownsRow B 24 3 vo x.length (lksC x)) (hw : W.ownsRow B 24 3 vw x.length (lksC x))
    (h1 : ∀ j (h : j < os.length) g, vo.ownBlock = some g → os[j].ownBlock ≠ some g) (h2 : ∀ j (h : j < ws.length) g, vo.ownBlock = some g → ws[j].ownBlock ≠ some g) (h3 : ∀ j (h : j < os.length) g, vw.ownBlock = some g → os[j].ownBlock ≠ some g) (h4 : ∀ g, vo.ownBlock = some g → vw.ownBlock ≠ some g) :
    ∃ W1 W2 go' co' gw' cw', Add W W1 W2 go co gw cw go' co' gw' cw' cs x vo vw B os ws := by
  obtain ⟨i0, hi0, iz0, iz1, iz2⟩ := info_parts infoSL
  have e1 : ∀ u ∈ (#[vo] : Array Value).toList, u.oneCell' = true := fun u hu => by simp at hu; subst hu; exact owns_one ho
  have e2 : ∀ u ∈ (#[vw] : Array Value).toList, u.oneCell' = true := fun u hu => by simp at hu; subst hu; exact owns_one hw
  obtain ⟨go', co', W1, r1, n1, g1, _, d1⟩ := app1 Try.underlying27 hi0 iz0 iz1 iz2 rfl (by decide) W B _ cs.length _ h.outs #[vo] rfl e1 (by unfold maxLen; omega) (by omega) hB
  have k1 := owns_kind h.outs
  have hs1 := g1.size
  have w1 : W1.ownsRow B 36 1 (.slice (some ⟨gw, 0, none⟩) cs.length cw) cs.length ws := owns_gr h.wants g1 fun b hb e => by
    simp only [Value.ownBlock, Option.some.injEq] at hb e
    exact h.gne (by omega)
  have rows1 : ∀ {v : Value} {l : List Lk}, W.ownsRow B 24 3 v l.length (lksC l) → W1.ownsRow B 24 3 v l.length (lksC l) := fun hr => owns_grown hr g1 (by decide) k1
  obtain ⟨gw', cw', W2, r2, n2, g2, _, d2⟩ := app1 Try.underlying27 hi0 iz0 iz1 iz2 rfl (by decide) W1 B _ cs.length _ w1 #[vw] rfl e2 (by unfold maxLen; omega) (by omega) (by omega)
  have k2 := owns_kind w1
  have hgo : go' < W1.heap.size := (owns_block n1 rfl).2
  have hgwl : gw < W.heap.size := (owns_block h.wants rfl).2
  have hgol : go < W.heap.size := (owns_block h.outs rfl).2
  have hne1 : go' ≠ gw := by
    rcases d1 with d | d
    · simp only [Value.ownBlock, Option.some.injEq] at d
      have := h.gne
      omega
    · omega
  have hne2 : go' ≠ gw' := by
    rcases d2 with d | d
    · simp only [Value.ownBlock, Option.some.injEq] at d
      omega
    · omega
  have o2 : W2.ownsRow B 36 1 (.slice (some ⟨go', 0, none⟩) (cs.length + 1) co') (cs.length + 1) (os ++ [vo]) := owns_gr n1 g2 fun b hb e => by
    simp only [Value.ownBlock, Option.some.injEq] at hb e
    omega
  have rows2 : ∀ {v : Value} {l : List Lk}, W.ownsRow B 24 3 v l.length (lksC l) → W2.ownsRow B 24 3 v l.length (lksC l) := fun hr => owns_grown (rows1 hr) g2 (by decide) k2
  have hlo := h.lo
  have hlw := h.lw
  have gt : ∀ (L : List Value) (z : Value) (i : Nat) (hi : i < (L ++ [z]).length), (∃ hh : i < L.length, (L ++ [z])[i] = L[i]) ∨ (i = L.length ∧ (L ++ [z])[i] = z) := fun L z i hi => by
    by_cases hh : i < L.length
    · exact .inl ⟨hh, List.getElem_append_left hh⟩
    · have : i = L.length := by simp at hi; omega
      subst this
      exact .inr ⟨rfl, by simp⟩
  refine ⟨W1, W2, go', co', gw', cw', r1, r2, ⟨by simp [hlo], by simp [hlw], by rw [List.length_append]; exact o2, by rw [List.length_append]; exact n2, hne2, fun i k1 k2 => ?_, fun i k1 k2 => ?_, fun i j k1 k2 hij g => ?_, fun i j k1 k2 g => ?_⟩, ?_⟩
  · by_cases hi : i < cs.length
    · have hl : i < os.length := by omega
      simp only [List.getElem_append_left hi, List.getElem_append_left hl]
      exact rows2 (h.row i hi hl)
    · have hie : i = cs.length := by simp at k1; omega
      subst hie
      simp only [List.getElem_append_right (Nat.le_refl _), List.getElem_append_right (show os.length ≤ cs.length by omega), hlo, Nat.sub_self, List.getElem_cons_zero]
      exact rows2 ho
  · by_cases hi : i < cs.length
    · have hl : i < ws.length := by omega
      simp only [List.getElem_append_left hi, List.getElem_append_left hl]
      exact rows2 (h.wrow i hi hl)
    · have hie : i = cs.length := by simp at k1; omega
      subst hie
      simp only [List.getElem_append_right (Nat.le_refl _), List.getElem_append_right (show ws.length ≤ cs.length by omega), hlw, Nat.sub_self, List.getElem_cons_zero]
      exact rows2 hw
  · rcases gt os vo i k1 with ⟨a1, a2⟩ | ⟨a1, a2⟩ <;> rcases gt os vo j k2 with ⟨b1, b2⟩ | ⟨b1, b2⟩ <;> rw [a2, b2]
    · exact h.ap i j a1 b1 hij g
    · intro e1 e2; exact h1 i a1 g e2 e1
    · exact h1 j b1 g
    · omega
  · rcases gt os vo i k1 with ⟨a1, a2⟩ | ⟨a1, a2⟩ <;> rcases gt ws vw j k2 with ⟨b1, b2⟩ | ⟨b1, b2⟩ <;> rw [a2, b2]
    · exact h.aq i j a1 b1 g
    · intro e1 e2; exact h3 i a1 g e2 e1
    · exact h2 j b1 g
    · exact h4 g
  · have b1 : Below B W W1 := (Below.refl _ _).grown g1 hB fun k hk => (owns_block h.outs hk).1
    exact b1.trans ((Below.refl _ _).grown g2 (by omega) fun k hk => (owns_block w1 hk).1)
/-! ### what is written over -/
theorem lksC_set (l : List Lk) (k : Nat) (hk : k < l.length) (x : Lk) : lksC (l.set k x) = (((lksC l).set (k * 3) (.int .i64 x.waker)).set (k * 3 + 1) (.int .i64 x.woken)).set (k * 3 + 2) (.int .i64 x.chan) := by
  induction l generalizing k with
  | nil => simp at hk
  | cons y r ih =>
    cases k with
    | zero => rfl
    | succ k =>
      rw [List.set_cons_succ, show (k + 1) * 3 = k * 3 + 3 by omega]
      show lkC y ++ lksC (r.set k x) = (((lkC y ++ lksC r).set _ _).set _ _).set _ _
      rw [ih k (by simpa using hk)]
      simp [lkC, List.set_cons_succ]
theorem own_put {w : World} {B : Nat} {e : TypeId} {s g n cap : Nat} {xs : List Value} (h : w.ownsRow B e s (.slice (some ⟨g, 0, none⟩) n cap) n xs) (j : Nat) (u : Value) : (w.setCell ⟨g, j, none⟩ u).ownsRow B e s (.slice (some ⟨g, 0, none⟩) n cap) n (xs.set j u) := by
  refine ⟨by rw [List.length_set]; exact h.1, ?_⟩
  rcases h.2 with ⟨q, _⟩ | ⟨g', cap', cur, q, hB, hg, q1, q2, q3, q4⟩
  · cases q
  · simp only [Value.slice.injEq, Option.some.injEq, Addr.mk.injEq] at q
    obtain ⟨⟨rfl, _⟩, _, rfl⟩ := q
    refine .inr ⟨g, cap, cur.setIfInBounds j u, rfl, hB, Lib.heap_setCell_same (i := j) hg u, q1, q2, by simpa using q3, ?_⟩
    rw [Array.toList_setIfInBounds, List.take_set, q4]
theorem Bk.get {W : World} {B go co gw cw : Nat} {cs ls : List (List Lk)} {os ws : List Value} (h : Bk W B go co gw cw cs ls os ws) {i : Nat} (hi : i < cs.length) : ∃ a c, os[i]'(by have := h.lo; omega) = .slice a cs[i].length c ∧ W.cell? ⟨go, i, none⟩ = some (.slice a cs[i].length c) := by
  have hlo := h.lo
  obtain ⟨a, c, e⟩ := owns_slice (h.row i hi (by omega))
  exact ⟨a, c, e, owns_cellj h.outs (by rw [← e, List.getElem?_eq_getElem (by omega)])⟩
theorem Bk.wget {W : World} {B go co gw cw : Nat} {cs ls : List (List Lk)} {os ws : List Value} (h : Bk W B go co gw cw cs ls os ws) {i : Nat} (hi : i < ls.length) : ∃ a c, ws[i]'(by have := h.lw; omega) = .slice a ls[i].length c ∧ W.cell? ⟨gw, i, none⟩ = some (.slice a ls[i].length c) := by
  have hlo := h.lw
  obtain ⟨a, c, e⟩ := owns_slice (h.wrow i hi (by omega))
  exact ⟨a, c, e, owns_cellj h.wants (by rw [← e, List.getElem?_eq_getElem (by omega)])⟩
/-- one entry of the list i is written -/
theorem Bk.mark {W W' : World} {B go co gw cw : Nat} {cs ls : List (List Lk)} {os ws : List Value} (h : Bk W B go co gw cw cs ls os ws) {i : Nat} (hi : i < cs.length) {g n c : Nat} (he : os[i]'(by have := h.lo; omega) = .slice (some ⟨g, 0, none⟩) n c) {k : Nat} (hk : k < cs[i].length) (x : Lk)
    (hW : W.setCells g (k * 3) [.int .i64 x.waker, .int .i64 x.woken, .int .i64 x.chan] = W') : Bk W' B go co gw cw (cs.set i (cs[i].set k x)) ls os ws ∧ Below B W W' := by
  subst hW
  have hlo := h.lo
  have hio : i < os.length := by omega
  have hr := h.row i hi hio
  rw [he] at hr
  have hn : n = cs[i].length := by
    obtain ⟨a, c', e⟩ := owns_slice hr
    simp only [Value.slice.injEq] at e
    exact e.2.1
  subst hn
  have hgB := owns_block hr (g := g) rfl
  obtain ⟨cur, fz, hgk⟩ := owns_kind hr g rfl
  have hoth : ∀ y, y ≠ g → (W.setCells g (k * 3) [.int .i64 x.waker, .int .i64 x.woken, .int .i64 x.chan]).heap[y]? = W.heap[y]? := fun y hy => by
    show (((W.setCell ⟨g, k * 3, none⟩ _).setCell ⟨g, k * 3 + 1, none⟩ _).setCell ⟨g, k * 3 + 1 + 1, none⟩ _).heap[y]? = _
    rw [Below.heap_setCell _ ⟨g, _, none⟩ _ y hy, Below.heap_setCell _ ⟨g, _, none⟩ _ y hy, Below.heap_setCell _ ⟨g, _, none⟩ _ y hy]
  have hnr : (W.setCells g (k * 3) [.int .i64 x.waker, .int .i64 x.woken, .int .i64 x.chan]).ownsRow B 24 3 (.slice (some ⟨g, 0, none⟩) cs[i].length c) cs[i].length (lksC (cs[i].set k x)) := by
    rw [lksC_set _ k hk]
    exact own_put (own_put (own_put hr (k * 3) _) (k * 3 + 1) _) (k * 3 + 1 + 1) _
  have keep : ∀ {v : Value} {t : TypeId} {s n : Nat} {xs : List Value}, W.ownsRow B t s v n xs → v.ownBlock ≠ some g → (W.setCells g (k * 3) [.int .i64 x.waker, .int .i64 x.woken, .int .i64 x.chan]).ownsRow B t s v n xs := fun hv hne => own_same hv fun y o hy ho => by
    rw [hoth y (fun e => hne (by rw [hy, e]))]; exact ho
  have hgo : go ≠ g := fun e => by
    obtain ⟨c1, f1, q⟩ := owns_kind h.outs go rfl
    rw [e, hgk] at q
    injection q with q
    injection q with _ q
    exact absurd q (by decide)
  have hgw : gw ≠ g := fun e => by
    obtain ⟨c1, f1, q⟩ := owns_kind h.wants gw rfl
    rw [e, hgk] at q
    injection q with q
    injection q with _ q
    exact absurd q (by decide)
  refine ⟨⟨by rw [List.length_set]; exact hlo, h.lw, by rw [List.length_set]; exact keep h.outs (by simpa [Value.ownBlock] using hgo), keep h.wants (by simpa [Value.ownBlock] using hgw), h.gne, fun j k1 k2 => ?_, fun j k1 k2 => keep (h.wrow j k1 k2) (h.aq i j hio k2 g (by rw [he]; rfl)), h.ap, h.aq⟩, ?_⟩
  · rw [List.length_set] at k1
    by_cases hij : i = j
    · subst hij
      simp only [List.getElem_set_self]
      rw [he, List.length_set]
      exact hnr
    · simp only [List.getElem_set_ne hij]
      exact keep (h.row j k1 k2) (h.ap i j hio k2 hij g (by rw [he]; rfl))
  · exact (((Below.refl B W).setCell (p := ⟨g, k * 3, none⟩) hgB.1 _).trans ((Below.refl B _).setCell (p := ⟨g, k * 3 + 1, none⟩) hgB.1 _)).trans ((Below.refl B _).setCell (p := ⟨g, k * 3 + 1 + 1, none⟩) hgB.1 _)
/-- one entry more behind the list i -/
structure Grow (W W1 W2 : World) (B go co gw cw : Nat) (cs ls : List (List Lk)) (os ws : List Value) (i : Nat) (a : Option Addr) (c n : Nat) (x : Lk) (g' c' : Nat) : Prop where
  r1 : ∀ ty, (Builtin.append_ #[36, 36] ty #[.slice a n c, .slice (some ⟨W.heap.size, 0, none⟩) 1 1]).run Try.prog (W.alloc (.cells #[.int .i64 x.waker, .int .i64 x.woken, .int .i64 x.chan] 24)) = .ok (.slice (some ⟨g', 0, none⟩) (n + 1) c') W1
  k1 : W1.cell? ⟨go, i, none⟩ = some (.slice a n c)
  f1 : W1.frozen? ⟨go, i, none⟩ = false
  w2 : W1.setCell ⟨go, i, none⟩ (.slice (some ⟨g', 0, none⟩) (n + 1) c') = W2
  bk : Bk W2 B go co gw cw (cs.set i ((cs[i]?.getD []) ++ [x])) ls (os.set i (.slice (some ⟨g', 0, none⟩) (n + 1) c')) ws
  bel : Below B W W2
set_option maxHeartbeats 1000000 in
theorem Bk.grow {W : World} {B go co gw cw : Nat} {cs ls : List (List Lk)} {os ws : List Value} (h : Bk W B go co gw cw cs ls os ws) (hB : B ≤ W.heap.size) {i : Nat} (hi : i < cs.length) {a : Option Addr} {n c : Nat} (he : os[i]'(by have := h.lo; omega) = .slice a n c) (hn : n = cs[i].length) (hl : n + 1 ≤ 5000000000100) (x : Lk) :
    ∃ W1 W2 g' c', Grow W W1 W2 B go co gw cw cs ls os ws i a c n x g' c' := by
  subst hn
  have hlo := h.lo
  have hio : i < os.length := by omega
  have hr := h.row i hi hio
  have hcell := owns_cellj h.outs (show os[i]? = some (.slice a cs[i].length c) by rw [List.getElem?_eq_getElem hio, he])
  rw [he] at hr
  obtain ⟨i0, hi0, iz0, iz1, iz2⟩ := info_parts infoL
  obtain ⟨g', c', W1, r1, n1, g1, _, d1⟩ := app1 Try.underlying36 hi0 iz0 iz1 iz2 rfl (by decide) W B _ cs[i].length _ hr #[.int .i64 x.waker, .int .i64 x.woken, .int .i64 x.chan] rfl (by simp [Value.oneCell']) (by unfold maxLen; omega) (by omega) hB
  have k1 := owns_kind hr
  have hgo : ∀ g, (Value.slice a cs[i].length c).ownBlock = some g → go ≠ g := fun g hg e => by
    obtain ⟨c1, f1, q⟩ := owns_kind h.outs go rfl
    obtain ⟨c2, f2, q'⟩ := k1 g hg
    rw [e, q'] at q
    injection q with q
    injection q with _ q
    exact absurd q (by decide)
  have o1 : W1.ownsRow B 36 1 (.slice (some ⟨go, 0, none⟩) cs.length co) cs.length os := owns_grown h.outs g1 (by decide) k1
  have w1 : W1.ownsRow B 36 1 (.slice (some ⟨gw, 0, none⟩) ls.length cw) ls.length ws := owns_grown h.wants g1 (by decide) k1
  obtain ⟨W2, hW2⟩ : ∃ W2, W1.setCell ⟨go, i, none⟩ (.slice (some ⟨g', 0, none⟩) (cs[i].length + 1) c') = W2 := ⟨_, rfl⟩
  have hk2 : ∀ y, y ≠ go → W2.heap[y]? = W1.heap[y]? := fun y hy => by rw [← hW2]; exact Below.heap_setCell W1 ⟨go, i, none⟩ _ y hy
  have keep2 : ∀ {v : Value} {t : TypeId} {s n : Nat} {xs : List Value}, W1.ownsRow B t s v n xs → v.ownBlock ≠ some go → W2.ownsRow B t s v n xs := fun hv hne => own_same hv fun y o hy ho => by
    rw [hk2 y (fun e => hne (by rw [hy, e]))]; exact ho
  have hgoB := owns_block h.outs (g := go) rfl
  have kgo : ∃ c fz, W1.heap[go]? = some (.cells c 36 fz) := owns_kind o1 go rfl
  have lnk : ∀ {v : Value} {l : List Lk}, W1.ownsRow B 24 3 v l.length (lksC l) → v.ownBlock ≠ some go := fun hv e => by
    obtain ⟨c1, f1, q⟩ := kgo
    obtain ⟨c2, f2, q'⟩ := owns_kind hv go e
    rw [q] at q'
    injection q' with q'
    injection q' with _ q'
    exact absurd q' (by decide)
  have hio2 : ∀ j, j < os.length → ∀ g, os[j]?.bind (·.ownBlock) = some g → g < W.heap.size := fun j hj g hg => by
    rw [List.getElem?_eq_getElem hj] at hg
    exact (owns_block (h.row j (by omega) hj) hg).2
  have fz1 : W1.frozen? ⟨go, i, none⟩ = false := by
    rcases o1.2 with ⟨q, _⟩ | ⟨g2, c2, cur, q, _, hg2, _⟩
    · cases q
    · simp only [Value.slice.injEq, Option.some.injEq, Addr.mk.injEq] at q
      obtain ⟨⟨rfl, _⟩, _⟩ := q
      exact frz_blk hg2
  refine ⟨W1, W2, g', c', r1, owns_cellj o1 (by rw [List.getElem?_eq_getElem hio, he]), fz1, hW2, ⟨by simp [hlo], h.lw, ?_, keep2 w1 (by simp [Value.ownBlock]; exact fun e => h.gne e.symm), h.gne, fun j q1 q2 => ?_, fun j q1 q2 => ?_, fun j1 j2 q1 q2 hij g => ?_, fun j1 j2 q1 q2 g => ?_⟩, ?_⟩
  · rw [List.length_set, ← hW2]
    exact own_put o1 i _
  · rw [List.length_set] at q1
    by_cases hij : i = j
    · subst hij
      simp only [List.getElem_set_self]
      rw [List.getElem?_eq_getElem hi, Option.getD_some, List.length_append, lksC_snoc1]
      refine keep2 n1 ?_
      intro e
      simp only [Value.ownBlock, Option.some.injEq] at e
      obtain ⟨c1, f1, q⟩ := kgo
      obtain ⟨c2, f2, q'⟩ := owns_kind n1 g' rfl
      rw [e, q] at q'
      injection q' with q'
      injection q' with _ q'
      exact absurd q' (by decide)
    · rw [List.length_set] at q2
      simp only [List.getElem_set_ne hij]
      have hw1 : W1.ownsRow B 24 3 os[j] cs[j].length (lksC cs[j]) := owns_gr (h.row j q1 q2) g1 fun b hb e => h.ap i j hio q2 hij b (by rw [he]; exact e) hb
      exact keep2 hw1 (lnk hw1)
  · have hw1 : W1.ownsRow B 24 3 ws[j] ls[j].length (lksC ls[j]) := owns_gr (h.wrow j q1 q2) g1 fun b hb e => h.aq i j hio q2 b (by rw [he]; exact e) hb
    exact keep2 hw1 (lnk hw1)
  · rw [List.length_set] at q1 q2
    by_cases e1 : i = j1
    · subst e1
      simp only [List.getElem_set_self, List.getElem_set_ne hij]
      intro hg hg2
      simp only [Value.ownBlock, Option.some.injEq] at hg
      rcases d1 with d | d
      · exact h.ap i j2 hio q2 hij g (by rw [he, d, hg]) hg2
      · have := hio2 j2 q2 g (by rw [List.getElem?_eq_getElem q2]; exact hg2)
        omega
    · by_cases e2 : i = j2
      · subst e2
        simp only [List.getElem_set_self, List.getElem_set_ne e1]
        intro hg2 hg
        simp only [Value.ownBlock, Option.some.injEq] at hg
        rcases d1 with d | d
        · exact h.ap i j1 hio q1 e1 g (by rw [he, d, hg]) hg2
        · have := hio2 j1 q1 g (by rw [List.getElem?_eq_getElem q1]; exact hg2)
          omega
      · simp only [List.getElem_set_ne e1, List.getElem_set_ne e2]
        exact h.ap j1 j2 q1 q2 hij g
  · rw [List.length_set] at q1
    by_cases e1 : i = j1
    · subst e1
      simp only [List.getElem_set_self]
      intro hg hg2
      simp only [Value.ownBlock, Option.some.injEq] at hg
      rcases d1 with d | d
      · exact h.aq i j2 hio q2 g (by rw [he, d, hg]) hg2
      · have := (owns_block (h.wrow j2 (by have := h.lw; omega) q2) hg2).2
        omega
    · simp only [List.getElem_set_ne e1]
      exact h.aq j1 j2 q1 q2 g
  · rw [← hW2]
    exact ((Below.refl _ _).grown g1 hB fun k hk => (owns_block hr hk).1).trans ((Below.refl B W1).setCell (p := ⟨go, i, none⟩) hgoB.1 _)
end Go.Proofs.Ytjabdhmkibahlaa
namespace Go.Proofs.Ytjabdhmkibahlaa
open Go.RowKit
set_option linter.unusedVariables false
set_option linter.unusedSimpArgs false

/-! ### a list that grows, and the one that it grew out of -/
theorem gr_weak {a b : World} (h : a.grownBy b none) (r : Option Nat) : a.grownBy b r := ⟨h.os, h.tape, h.output, h.size, fun k hk _ => h.block k hk (fun e => by cases e)⟩
/-- one element behind a row of one's own: in its spare room, or in a new block, and then the old one stays -/
theorem app2 {e t : TypeId} {i0 : TypeInfo} {z : Value} {s bt : Nat} (ht : Try.prog.underlying t = some (.slice e)) (hi : Try.prog.info? e = some i0) (hz : i0.zero = some z) (hs : i0.size = s) (hb : i0.bytes = bt) (hzs : z.cells.size = s) (hs0 : 0 < s)
    (W : World) (B : Nat) (v : Value) (n : Nat) (xs : List Value) (ho : W.ownsRow B e s v n xs) (cs : Array Value) (hcs : cs.toList.length = s) (h1 : ∀ u ∈ cs.toList, u.oneCell' = true) (hn : n + 1 ≤ maxLen) (hby : (n + 1) * bt ≤ 140737488355328) (hB : B ≤ W.heap.size) :
    ∃ g c W3, (∀ ty, (Builtin.append_ #[t, t] ty #[v, .slice (some ⟨W.heap.size, 0, none⟩) 1 1]).run Try.prog (W.alloc (.cells cs e)) = .ok (.slice (some ⟨g, 0, none⟩) (n + 1) c) W3) ∧ W3.ownsRow B e s (.slice (some ⟨g, 0, none⟩) (n + 1) c) (n + 1) (xs ++ cs.toList) ∧ ((v = .slice (some ⟨g, 0, none⟩) n c ∧ W.grownBy W3 (some g)) ∨ (W.heap.size ≤ g ∧ W.grownBy W3 none)) := by
  have ho' : (W.alloc (.cells cs e)).ownsRow B e s v n xs := own_new ho (below1 _ _)
  have hnew := block_cells _ _ _ _ (World.alloc_heap_new W (.cells cs e))
  have hw : ∀ (W3 : World) (r : Option Nat), (W.alloc (.cells cs e)).grownBy W3 r → W.grownBy W3 r := fun W3 r r3 => ⟨r3.os, r3.tape, r3.output, Nat.le_trans (by simp) r3.size, fun k hk hne => by
    rw [r3.block k (by simp; omega) hne, Below.heap_alloc W _ k hk]⟩
  obtain ⟨g', c', W3, r1, r2, r3, r4, r5⟩ := run_append_lies (P := Try.prog) (W.alloc (.cells cs e)) t e B e i0 z s bt ht hi hz hs hb hzs hs0 v n xs ho' ⟨W.heap.size, 0, none⟩ 1 1 cs.toList (by omega) hnew h1 (by omega) hn hby (by simp; omega) _ rfl
  rcases ho.2 with ⟨rfl, rfl⟩ | ⟨g, cap, cur, rfl, hBg, hg, q1, q2, q3, q4⟩
  · refine ⟨g', c', W3, fun ty => r1, r2, .inr ⟨?_, hw _ _ r3⟩⟩
    rcases r4 with h | h
    · cases h
    · rw [h]; simp
  · by_cases hroom : n + 1 ≤ cap
    · obtain ⟨w', hr, h2, h3⟩ := run_append_own_spare (P := Try.prog) (W.alloc (.cells cs e)) B t e e i0 s ht hi hs g n cap xs ho' ⟨W.heap.size, 0, none⟩ 1 1 cs.toList (by omega) hnew h1 hroom
      exact ⟨g, cap, w', fun ty => hr, h2, .inl ⟨rfl, hw _ _ h3⟩⟩
    · subst hs hb
      have holds : ∀ j u, xs[j]? = some u → (W.alloc (.cells cs e)).cell? ((⟨g, 0, none⟩ : Addr).add j) = some u := ho'.cells (g := g) rfl
      have hr := run_append_grow (P := Try.prog) (W.alloc (.cells cs e)) t e e i0 z ht hi hz ⟨g, 0, none⟩ n cap xs ho.1 holds ⟨W.heap.size, 0, none⟩ 1 1 cs.toList (by omega) hnew (by omega) (by simp only [maxLen] at hn; omega) (growslice_fits (by omega) hby)
      rw [hr] at r1
      injection r1 with r1 rw3
      injection r1 with r1 _ rc
      injection r1 with r1
      injection r1 with r1
      refine ⟨g', c', W3, fun ty => ?_, r2, .inr ⟨?_, hw _ _ ?_⟩⟩
      · rw [← r1, ← rc, ← rw3]; exact hr
      · rw [← r1]; simp
      · rw [← rw3]
        exact ⟨rfl, rfl, rfl, by simp, fun k hk _ => Below.heap_alloc (W.alloc (.cells cs e)).drew _ k hk⟩
/-- N: what lies from there on is new -/
structure Grn (e : TypeId) (s B : Nat) (v : Value) (n : Nat) (xs : List Value) (N k : Nat) (vk : Value) (wk : World) : Prop where
  own : ∃ zs, wk.ownsRow B e s vk (n + k) (xs ++ zs)
  old : wk.ownsRow B e s v n xs
  lt : ∀ b, v.ownBlock = some b → b < N
  at_ : ∀ g, vk.ownBlock = some g → (∃ c, v = .slice (some ⟨g, 0, none⟩) n c ∧ vk = .slice (some ⟨g, 0, none⟩) (n + k) c) ∨ N ≤ g
theorem Grn.start {e : TypeId} {s B : Nat} {v : Value} {n : Nat} {xs : List Value} {N : Nat} {w : World} (h : w.ownsRow B e s v n xs) (hl : ∀ b, v.ownBlock = some b → b < N) : Grn e s B v n xs N 0 v w := by
  refine ⟨⟨[], by simpa using h⟩, h, hl, fun g hgg => .inl ?_⟩
  rcases h.2 with ⟨rfl, _⟩ | ⟨g', cap, cur, rfl, rest⟩
  · cases hgg
  · simp only [Value.ownBlock, Option.some.injEq] at hgg
    subst hgg
    exact ⟨cap, rfl, rfl⟩
/-- what another one's growth leaves -/
theorem Grn.other {e e' : TypeId} {s B : Nat} {v vv : Value} {n : Nat} {xs : List Value} {N k : Nat} {vk : Value} {wk W : World} (h : Grn e s B v n xs N k vk wk) (hg : wk.grownBy W vv.ownBlock) (hne : e' ≠ e) (hk : ∀ g, vv.ownBlock = some g → ∃ c fz, wk.heap[g]? = some (.cells c e' fz)) : Grn e s B v n xs N k vk W := by
  obtain ⟨zs, ho⟩ := h.own
  exact ⟨⟨zs, owns_grown ho hg hne hk⟩, owns_grown h.old hg hne hk, h.lt, h.at_⟩
theorem Grn.step {e t : TypeId} {i0 : TypeInfo} {z : Value} {s bt : Nat} (ht : Try.prog.underlying t = some (.slice e)) (hi : Try.prog.info? e = some i0) (hz : i0.zero = some z) (hs : i0.size = s) (hb : i0.bytes = bt) (hzs : z.cells.size = s) (hs0 : 0 < s)
    {B : Nat} {v : Value} {n : Nat} {xs : List Value} {N : Nat} {k : Nat} {vk : Value} {wk : World} (h : Grn e s B v n xs N k vk wk) (cs : Array Value) (hcs : cs.toList.length = s) (h1 : ∀ u ∈ cs.toList, u.oneCell' = true) (hn : n + k + 1 ≤ maxLen) (hby : (n + k + 1) * bt ≤ 140737488355328) (hB : B ≤ wk.heap.size) (hN : N ≤ wk.heap.size) :
    ∃ g c W3, (∀ ty, (Builtin.append_ #[t, t] ty #[vk, .slice (some ⟨wk.heap.size, 0, none⟩) 1 1]).run Try.prog (wk.alloc (.cells cs e)) = .ok (.slice (some ⟨g, 0, none⟩) (n + k + 1) c) W3) ∧ Grn e s B v n xs N (k + 1) (.slice (some ⟨g, 0, none⟩) (n + k + 1) c) W3 ∧ wk.grownBy W3 vk.ownBlock := by
  obtain ⟨zs, ho⟩ := h.own
  obtain ⟨g, c, W3, r1, r2, r3⟩ := app2 ht hi hz hs hb hzs hs0 wk B vk (n + k) (xs ++ zs) ho cs hcs h1 hn hby hB
  refine ⟨g, c, W3, r1, ?_⟩
  have hxl : xs.length = n * s := h.old.1
  rcases r3 with ⟨rfl, hg⟩ | ⟨hge, hg⟩
  · refine ⟨?_, hg⟩
    rcases h.at_ g rfl with ⟨c', e1, e2⟩ | hge
    · have hc : c' = c := by
        have := congrArg (fun v : Value => match v with | .slice _ _ c => c | _ => 0) e2
        exact this.symm
      subst hc
      subst e1
      refine ⟨⟨zs ++ cs.toList, by rw [← List.append_assoc]; exact r2⟩, ?_, h.lt, fun g' hg' => ?_⟩
      · rcases r2.2 with ⟨hh, _⟩ | ⟨g2, cap2, cur, e3, q1, q2, q3, q4, q5, q6⟩
        · cases hh
        · injection e3 with e3 _ e4
          injection e3 with e3
          injection e3 with e3
          subst e3 e4
          refine ⟨hxl, .inr ⟨g, c', cur, rfl, q1, q2, ?_, q4, q5, ?_⟩⟩
          · omega
          · have e5 := congrArg (List.take (n * s)) q6
            rw [List.take_take, Nat.min_eq_left (Nat.mul_le_mul_right _ (by omega)), List.append_assoc, ← hxl, List.take_left] at e5
            rw [← hxl]
            exact e5
      · simp only [Value.ownBlock, Option.some.injEq] at hg'
        subst hg'
        exact .inl ⟨c', rfl, rfl⟩
    · refine ⟨⟨zs ++ cs.toList, by rw [← List.append_assoc]; exact r2⟩, owns_gr h.old hg (fun b hb e => ?_), h.lt, fun g' hg' => .inr ?_⟩
      · injection e with e
        have := h.lt b hb
        omega
      · simp only [Value.ownBlock, Option.some.injEq] at hg'
        omega
  · refine ⟨⟨⟨zs ++ cs.toList, by rw [← List.append_assoc]; exact r2⟩, owns_gr h.old hg (fun b hb e => by cases e), h.lt, fun g' hg' => .inr ?_⟩, gr_weak hg _⟩
    simp only [Value.ownBlock, Option.some.injEq] at hg'
    omega
/-! ### agents whose lists are written over -/
def updF {α : Type} (f : Nat → α) (i : Nat) (x : α) : Nat → α := fun j => if j = i then x else f j
theorem updF_self {α : Type} (f : Nat → α) (i : Nat) (x : α) : updF f i x i = x := by simp [updF]
theorem updF_ne {α : Type} (f : Nat → α) {i j : Nat} (x : α) (h : j ≠ i) : updF f i x j = f j := by simp [updF, h]
structure SpA (W0 W : World) (H T n b : Nat) (cur : Array Value) (A : Nat → List Hd) (D : Nat → List Int) (pa ph : Nat → Value) : Prop where
  bel : Below H W0 W
  far : ∀ y, T ≤ y → y < W0.heap.size → W.heap[y]? = W0.heap[y]?
  hT : T ≤ W0.heap.size
  hH : H ≤ W0.heap.size
  blk : 0 < n → W.heap[b]? = some (.cells cur 53 (0, 0))
  cA : ∀ i, i < n → cur[i * 4 + 2]? = some (pa i)
  cH : ∀ i, i < n → cur[i * 4 + 3]? = some (ph i)
  arms : ∀ i, i < n → W.ownsRow H 58 2 (pa i) (A i).length (hdsC (A i))
  held : ∀ i, i < n → W.ownsRow H 3 1 (ph i) (D i).length (rowC (D i))
  apA : ∀ i j, i < n → j < n → i ≠ j → ∀ g, (pa i).ownBlock = some g → (pa j).ownBlock ≠ some g
  apH : ∀ i j, i < n → j < n → i ≠ j → ∀ g, (ph i).ownBlock = some g → (ph j).ownBlock ≠ some g
  loA : ∀ i, i < n → ∀ g, (pa i).ownBlock = some g → g < T
  loH : ∀ i, i < n → ∀ g, (ph i).ownBlock = some g → g < T
theorem rowC_set (l : List Int) (k : Nat) (x : Int) : rowC (l.set k x) = (rowC l).set k (.int .i64 x) := by
  unfold rowC; rw [List.map_set]
theorem hdsC_set (l : List Hd) (k : Nat) (hk : k < l.length) (x : Hd) : hdsC (l.set k x) = ((hdsC l).set (k * 2) (.int .i64 x.chan)).set (k * 2 + 1) (.bool x.send) := by
  induction l generalizing k with
  | nil => simp at hk
  | cons y r ih =>
    cases k with
    | zero => rfl
    | succ k =>
      rw [List.set_cons_succ, show (k + 1) * 2 = k * 2 + 2 by omega]
      show hdC y ++ hdsC (r.set k x) = ((hdC y ++ hdsC r).set _ _).set _ _
      rw [ih k (by simpa using hk)]
      simp [hdC, List.set_cons_succ]
theorem kind_ne {W : World} {B s n : Nat} {t t' : TypeId} {v : Value} {cs : List Value} (h : W.ownsRow B t s v n cs) {g : Nat} {c : Array Value} {fz : Nat × Nat} (hg : W.heap[g]? = some (.cells c t' fz)) (ht : t ≠ t') : v.ownBlock ≠ some g := fun e => by
  obtain ⟨c2, f2, q⟩ := owns_kind h g e
  rw [hg] at q
  injection q with q
  injection q with _ q
  exact ht q.symm
set_option maxHeartbeats 1000000 in
/-- a number of the list i is written -/
theorem SpA.markH {W0 W W' : World} {H T n b : Nat} {cur : Array Value} {A : Nat → List Hd} {D : Nat → List Int} {pa ph : Nat → Value} (h : SpA W0 W H T n b cur A D pa ph) {i : Nat} (hi : i < n) {g m c : Nat} (he : ph i = .slice (some ⟨g, 0, none⟩) m c) (k : Nat) (x : Int) (hW : W.setCell ⟨g, k, none⟩ (.int .i64 x) = W') : SpA W0 W' H T n b cur A (updF D i ((D i).set k x)) pa ph := by
  subst hW
  have hr := h.held i hi
  obtain ⟨a', c', e'⟩ := owns_slice hr
  rw [he] at e' hr
  simp only [Value.slice.injEq] at e'
  obtain ⟨rfl, rfl, rfl⟩ := e'
  have hgB := owns_block hr (g := g) rfl
  have hgT : g < T := h.loH i hi g (by rw [he]; rfl)
  obtain ⟨c1, f1, hgk⟩ := owns_kind hr g rfl
  have hoth : ∀ y, y ≠ g → (W.setCell ⟨g, k, none⟩ (.int .i64 x)).heap[y]? = W.heap[y]? := fun y hy => Below.heap_setCell W ⟨g, k, none⟩ _ y hy
  have keep : ∀ {t : TypeId} {s n : Nat} {v : Value} {xs : List Value}, W.ownsRow H t s v n xs → v.ownBlock ≠ some g → (W.setCell ⟨g, k, none⟩ (.int .i64 x)).ownsRow H t s v n xs := fun hv hne => own_same hv fun y o hy ho => by
    rw [hoth y (fun e => hne (by rw [hy, e]))]; exact ho
  refine ⟨h.bel.trans ((Below.refl H W).setCell (p := ⟨g, k, none⟩) hgB.1 _), fun y h1 h2 => (hoth y (by omega)).trans (h.far y h1 h2), h.hT, h.hH, fun h0 => ?_, h.cA, h.cH, fun j hj => keep (h.arms j hj) (kind_ne (h.arms j hj) hgk (by decide)), fun j hj => ?_, h.apA, h.apH, h.loA, h.loH⟩
  · rw [hoth b (fun e => ?_)]
    · exact h.blk h0
    · have := h.blk h0
      rw [e, hgk] at this
      injection this with this
      injection this with _ this
      exact absurd this (by decide)
  · by_cases hij : j = i
    · subst hij
      rw [updF_self, List.length_set, rowC_set, he]
      exact own_put hr k _
    · rw [updF_ne _ _ hij]
      exact keep (h.held j hj) (h.apH i j hi hj (fun e => hij e.symm) g (by rw [he]; rfl))
set_option maxHeartbeats 1000000 in
theorem SpA.markA {W0 W W' : World} {H T n b : Nat} {cur : Array Value} {A : Nat → List Hd} {D : Nat → List Int} {pa ph : Nat → Value} (h : SpA W0 W H T n b cur A D pa ph) {i : Nat} (hi : i < n) {g m c : Nat} (he : pa i = .slice (some ⟨g, 0, none⟩) m c) {k : Nat} (hk : k < (A i).length) (x : Int) (hW : W.setCells g (k * 2) [.int .i64 x, .bool false] = W') : SpA W0 W' H T n b cur (updF A i ((A i).set k ⟨x, false⟩)) D pa ph := by
  subst hW
  have hr := h.arms i hi
  obtain ⟨a', c', e'⟩ := owns_slice hr
  rw [he] at e' hr
  simp only [Value.slice.injEq] at e'
  obtain ⟨rfl, rfl, rfl⟩ := e'
  have hgB := owns_block hr (g := g) rfl
  have hgT : g < T := h.loA i hi g (by rw [he]; rfl)
  obtain ⟨c1, f1, hgk⟩ := owns_kind hr g rfl
  have hoth : ∀ y, y ≠ g → (W.setCells g (k * 2) [.int .i64 x, .bool false]).heap[y]? = W.heap[y]? := fun y hy => by
    show ((W.setCell ⟨g, k * 2, none⟩ _).setCell ⟨g, k * 2 + 1, none⟩ _).heap[y]? = _
    rw [Below.heap_setCell _ ⟨g, _, none⟩ _ y hy, Below.heap_setCell _ ⟨g, _, none⟩ _ y hy]
  have keep : ∀ {t : TypeId} {s n : Nat} {v : Value} {xs : List Value}, W.ownsRow H t s v n xs → v.ownBlock ≠ some g → (W.setCells g (k * 2) [.int .i64 x, .bool false]).ownsRow H t s v n xs := fun hv hne => own_same hv fun y o hy ho => by
    rw [hoth y (fun e => hne (by rw [hy, e]))]; exact ho
  refine ⟨h.bel.trans (((Below.refl H W).setCell (p := ⟨g, k * 2, none⟩) hgB.1 _).setCell (p := ⟨g, k * 2 + 1, none⟩) hgB.1 _), fun y h1 h2 => (hoth y (by omega)).trans (h.far y h1 h2), h.hT, h.hH, fun h0 => ?_, h.cA, h.cH, fun j hj => ?_, fun j hj => keep (h.held j hj) (kind_ne (h.held j hj) hgk (by decide)), h.apA, h.apH, h.loA, h.loH⟩
  · rw [hoth b (fun e => ?_)]
    · exact h.blk h0
    · have := h.blk h0
      rw [e, hgk] at this
      injection this with this
      injection this with _ this
      exact absurd this (by decide)
  · by_cases hij : j = i
    · subst hij
      rw [updF_self, List.length_set, hdsC_set _ _ hk, he]
      exact own_put (own_put hr (k * 2) _) (k * 2 + 1) _
    · rw [updF_ne _ _ hij]
      exact keep (h.arms j hj) (h.apA i j hi hj (fun e => hij e.symm) g (by rw [he]; rfl))
/-- a list that grew out of the i-th: all stay as they are -/
theorem SpA.grewH {W0 W W' : World} {H T n b : Nat} {cur : Array Value} {A : Nat → List Hd} {D : Nat → List Int} {pa ph : Nat → Value} (h : SpA W0 W H T n b cur A D pa ph) {i : Nat} (hi : i < n) {k : Nat} {vk vk' : Value} (hk : Grn 3 1 H (ph i) (D i).length (rowC (D i)) W0.heap.size k vk W) (hk' : Grn 3 1 H (ph i) (D i).length (rowC (D i)) W0.heap.size (k + 1) vk' W') (hg : W.grownBy W' vk.ownBlock) : SpA W0 W' H T n b cur A D pa ph := by
  obtain ⟨zs, ho⟩ := hk.own
  have kk := owns_kind ho
  have hz := h.bel.size
  have hHT := h.hH
  have hTT := h.hT
  have vb : ∀ g, vk.ownBlock = some g → (ph i).ownBlock = some g ∨ W0.heap.size ≤ g := fun g hgk => by
    rcases hk.at_ g hgk with ⟨c, e1, _⟩ | h1
    · exact .inl (by rw [e1]; rfl)
    · exact .inr h1
  have vH : ∀ g, vk.ownBlock = some g → H ≤ g := fun g hgk => (owns_block ho hgk).1
  refine ⟨h.bel.trans ((Below.refl H W).grown hg (by omega) vH), fun y h1 h2 => (hg.block y (by omega) (fun e => ?_)).trans (h.far y h1 h2), h.hT, h.hH, fun h0 => grown_at hg (h.blk h0) (fun e => ?_), h.cA, h.cH, fun j hj => owns_grown (h.arms j hj) hg (by decide) kk, fun j hj => ?_, h.apA, h.apH, h.loA, h.loH⟩
  · rcases vb y e.symm with q | q
    · have := h.loH i hi y q; omega
    · omega
  · obtain ⟨c2, f2, q⟩ := kk b e
    rw [h.blk h0] at q
    injection q with q
    injection q with _ q
    exact absurd q (by decide)
  · by_cases hij : j = i
    · subst hij; exact hk'.old
    · refine owns_gr (h.held j hj) hg fun g hgj e => ?_
      rcases vb g e with q | q
      · exact h.apH i j hi hj (fun e => hij e.symm) g q hgj
      · have := h.loH j hj g hgj; omega
theorem SpA.grewA {W0 W W' : World} {H T n b : Nat} {cur : Array Value} {A : Nat → List Hd} {D : Nat → List Int} {pa ph : Nat → Value} (h : SpA W0 W H T n b cur A D pa ph) {i : Nat} (hi : i < n) {k : Nat} {vk vk' : Value} (hk : Grn 58 2 H (pa i) (A i).length (hdsC (A i)) W0.heap.size k vk W) (hk' : Grn 58 2 H (pa i) (A i).length (hdsC (A i)) W0.heap.size (k + 1) vk' W') (hg : W.grownBy W' vk.ownBlock) : SpA W0 W' H T n b cur A D pa ph := by
  obtain ⟨zs, ho⟩ := hk.own
  have kk := owns_kind ho
  have hz := h.bel.size
  have hHT := h.hH
  have hTT := h.hT
  have vb : ∀ g, vk.ownBlock = some g → (pa i).ownBlock = some g ∨ W0.heap.size ≤ g := fun g hgk => by
    rcases hk.at_ g hgk with ⟨c, e1, _⟩ | h1
    · exact .inl (by rw [e1]; rfl)
    · exact .inr h1
  have vH : ∀ g, vk.ownBlock = some g → H ≤ g := fun g hgk => (owns_block ho hgk).1
  refine ⟨h.bel.trans ((Below.refl H W).grown hg (by omega) vH), fun y h1 h2 => (hg.block y (by omega) (fun e => ?_)).trans (h.far y h1 h2), h.hT, h.hH, fun h0 => grown_at hg (h.blk h0) (fun e => ?_), h.cA, h.cH, fun j hj => ?_, fun j hj => owns_grown (h.held j hj) hg (by decide) kk, h.apA, h.apH, h.loA, h.loH⟩
  · rcases vb y e.symm with q | q
    · have := h.loA i hi y q; omega
    · omega
  · obtain ⟨c2, f2, q⟩ := kk b e
    rw [h.blk h0] at q
    injection q with q
    injection q with _ q
    exact absurd q (by decide)
  · by_cases hij : j = i
    · subst hij; exact hk'.old
    · refine owns_gr (h.arms j hj) hg fun g hgj e => ?_
      rcases vb g e with q | q
      · exact h.apA i j hi hj (fun e => hij e.symm) g q hgj
      · have := h.loA j hj g hgj; omega
end Go.Proofs.Ytjabdhmkibahlaa
namespace Go.Proofs.Ytjabdhmkibahlaa
open Go.RowKit
set_option linter.unusedVariables false
set_option linter.unusedSimpArgs false

theorem fm_inj {α β : Type} {f : α → Option β} : ∀ (l : List α), (l.filterMap f).Nodup → ∀ (p q : Nat) (x y : α) (g : β), l[p]? = some x → l[q]? = some y → f x = some g → f y = some g → p = q
  | [], _, p, q, x, y, g, h, _, _, _ => by simp at h
  | a :: r, hn, p, q, x, y, g, hp, hq, hx, hy => by
    have hr : (r.filterMap f).Nodup := by
      rw [List.filterMap_cons] at hn
      split at hn
      · exact hn
      · exact (List.nodup_cons.1 hn).2
    have hno : f a = some g → ∀ z ∈ r, f z ≠ some g := fun ha z hz e => by
      rw [List.filterMap_cons, ha] at hn
      exact (List.nodup_cons.1 hn).1 (List.mem_filterMap.2 ⟨z, hz, e⟩)
    cases p with
    | zero =>
      cases q with
      | zero => rfl
      | succ q =>
        simp at hp hq
        subst hp
        exact absurd hy (hno hx y (List.mem_of_getElem? hq))
    | succ p =>
      cases q with
      | zero =>
        simp at hp hq
        subst hq
        exact absurd hx (hno hy x (List.mem_of_getElem? hp))
      | succ q =>
        simp at hp hq
        rw [fm_inj r hr p q x y g hp hq hx hy]
/-- all marked -/
def MkD (A : Nat → List Hd) (D : Nat → List Int) (al dl : Nat → Nat) (j : Nat) : Prop := (∀ t, t < dl j → (D j)[t]? = some (-10 - (j : Int))) ∧ ∀ t, t < al j → (A j)[t]? = some ⟨-10 - (j : Int), false⟩
def LnD (A : Nat → List Hd) (D : Nat → List Int) (al dl : Nat → Nat) (n : Nat) : Prop := ∀ j, j < n → (A j).length = al j ∧ (D j).length = dl j
theorem MkD.other {A A' : Nat → List Hd} {D D' : Nat → List Int} {al dl : Nat → Nat} {j : Nat} (h : MkD A D al dl j) (hA : A' j = A j) (hD : D' j = D j) : MkD A' D' al dl j := by
  unfold MkD; rw [hA, hD]; exact h
theorem LnD.setD {A : Nat → List Hd} {D : Nat → List Int} {al dl : Nat → Nat} {n : Nat} (h : LnD A D al dl n) (i k : Nat) (x : Int) : LnD A (updF D i ((D i).set k x)) al dl n := fun j hj => by
  by_cases e : j = i
  · subst e; rw [updF_self, List.length_set]; exact h j hj
  · rw [updF_ne _ _ e]; exact h j hj
theorem LnD.setA {A : Nat → List Hd} {D : Nat → List Int} {al dl : Nat → Nat} {n : Nat} (h : LnD A D al dl n) (i k : Nat) (x : Hd) : LnD (updF A i ((A i).set k x)) D al dl n := fun j hj => by
  by_cases e : j = i
  · subst e; rw [updF_self, List.length_set]; exact h j hj
  · rw [updF_ne _ _ e]; exact h j hj
theorem set_get {α : Type} {l : List α} {k : Nat} {x : α} (hk : k < l.length) (h : ∀ t, t < k → l[t]? = some x) : ∀ t, t < k + 1 → (l.set k x)[t]? = some x := fun t ht => by
  by_cases e : k = t
  · subst e; rw [List.getElem?_set_self hk]
  · rw [List.getElem?_set_ne e]; exact h t (by omega)
theorem wpList_put2x {ops : Array Oper} {rest : List Oper} {op : Oper} {a : Act} {w W8 : World} {Q : Exit → Act → World → Prop} (hgd : op.guard = none) (x y : Operand) (ho : op.op = .store 58 x y) (b o : Nat) (n : Int) (hx : a.eval x = .pointer (some ⟨b, o, none⟩)) (hy : a.eval y = .agg #[.int .i64 n, .bool false]) (ht : w.there b o 2) (hW : w.setCells b o [.int .i64 n, .bool false] = W8)
    (h : wpList Try.prog ops Q rest (a.put op.dst undef) W8) : wpList Try.prog ops Q (op :: rest) a w := by
  subst hW
  exact wpList_store_mid hgd 58 x y ho b o #[.int .i64 n, .bool false] hx hy ht (by kernel_rfl) (by simp [Value.oneCell']) h
/-- what a row tells of itself -/
theorem SpA.gH {W0 W : World} {H T n b : Nat} {cur : Array Value} {A : Nat → List Hd} {D : Nat → List Int} {pa ph : Nat → Value} (h : SpA W0 W H T n b cur A D pa ph) {i : Nat} (hi : i < n) {a : Option Addr} {m c : Nat} (he : ph i = .slice a m c) : m = (D i).length ∧ m ≤ c ∧ W.cell? ⟨b, i * 4 + 3, none⟩ = some (.slice a m c) ∧ ∀ k, k < m → ∃ g, a = some ⟨g, 0, none⟩ ∧ W.frozen? ⟨g, k, none⟩ = false ∧ ∃ x, (D i)[k]? = some x ∧ W.cell? ⟨g, k, none⟩ = some (.int .i64 x) := by
  have hr := h.held i hi
  rw [he] at hr
  obtain ⟨a', c', e⟩ := owns_slice hr
  simp only [Value.slice.injEq] at e
  obtain ⟨rfl, rfl, rfl⟩ := e
  have hb := h.blk (by omega)
  refine ⟨rfl, ?_, cell_blk hb (by rw [h.cH i hi, he]), fun k hk => ?_⟩
  · rcases hr.2 with ⟨_, q⟩ | ⟨g, cap, cu, q, _, _, q3, _⟩
    · omega
    · simp only [Value.slice.injEq] at q; omega
  · rcases hr.2 with ⟨_, q⟩ | ⟨g, cap, cu, q, _, hg, q3, _⟩
    · omega
    · simp only [Value.slice.injEq] at q
      obtain ⟨rfl, _, rfl⟩ := q
      refine ⟨g, rfl, frz_blk hg, (D i)[k], List.getElem?_eq_getElem hk, owns_cellj hr ?_⟩
      unfold rowC
      rw [List.getElem?_map, List.getElem?_eq_getElem hk]
      rfl
theorem SpA.gA {W0 W : World} {H T n b : Nat} {cur : Array Value} {A : Nat → List Hd} {D : Nat → List Int} {pa ph : Nat → Value} (h : SpA W0 W H T n b cur A D pa ph) {i : Nat} (hi : i < n) {a : Option Addr} {m c : Nat} (he : pa i = .slice a m c) : m = (A i).length ∧ m ≤ c ∧ W.cell? ⟨b, i * 4 + 2, none⟩ = some (.slice a m c) ∧ ∀ k, k < m → ∃ g, a = some ⟨g, 0, none⟩ ∧ W.there g (k * 2) 2 ∧ ∃ x, (A i)[k]? = some x ∧ W.cell? ⟨g, k * 2, none⟩ = some (.int .i64 x.chan) := by
  have hr := h.arms i hi
  rw [he] at hr
  obtain ⟨a', c', e⟩ := owns_slice hr
  simp only [Value.slice.injEq] at e
  obtain ⟨rfl, rfl, rfl⟩ := e
  have hb := h.blk (by omega)
  refine ⟨rfl, ?_, cell_blk hb (by rw [h.cA i hi, he]), fun k hk => ?_⟩
  · rcases hr.2 with ⟨_, q⟩ | ⟨g, cap, cu, q, _, _, q3, _⟩
    · omega
    · simp only [Value.slice.injEq] at q; omega
  · rcases hr.2 with ⟨_, q⟩ | ⟨g, cap, cu, q, _, hg, q3, _⟩
    · omega
    · simp only [Value.slice.injEq] at q
      obtain ⟨rfl, _, rfl⟩ := q
      exact ⟨g, rfl, (Czb.of hr).1.there (by omega), (A i)[k], List.getElem?_eq_getElem hk, owns_cellj hr (hdsC_at _ k hk).1⟩
set_option maxHeartbeats 1000000 in
/-- agents of one's own, each list in a block of its own, as they are written over -/
theorem SpA.of {W : World} {H T : Nat} {v : Value} {gs : List Ag} {cs : List Value} (ho : W.ownsRow H 53 4 v gs.length cs) (hA : AgC W H gs cs) (hN : (blks cs).Nodup) (hT : ∀ g ∈ blks cs, g < T) (hTW : T ≤ W.heap.size) (hHW : H ≤ W.heap.size) :
    ∃ pv cv b cur pa ph, v = .slice pv gs.length cv ∧ (0 < gs.length → pv = some ⟨b, 0, none⟩) ∧ gs.length ≤ cv ∧ SpA W W H T gs.length b cur (fun i => (gs[i]?.getD zA).arms) (fun i => (gs[i]?.getD zA).held) pa ph := by
  have hlen := hA.len
  have at4 : ∀ i, i < gs.length → ∃ ap ac hp hc, cs[i * 4 + 2]? = some (.slice ap (gs[i]?.getD zA).arms.length ac) ∧ cs[i * 4 + 3]? = some (.slice hp (gs[i]?.getD zA).held.length hc) ∧ W.ownsRow H 58 2 (.slice ap (gs[i]?.getD zA).arms.length ac) (gs[i]?.getD zA).arms.length (hdsC (gs[i]?.getD zA).arms) ∧ W.ownsRow H 3 1 (.slice hp (gs[i]?.getD zA).held.length hc) (gs[i]?.getD zA).held.length (rowC (gs[i]?.getD zA).held) := fun i hi => by
    obtain ⟨c4, ⟨ap, ac, hp, hc, e, _, _, _, h4, h5⟩, hat⟩ := hA.at i hi
    subst e
    have eg : gs[i]?.getD zA = gs[i] := by rw [List.getElem?_eq_getElem hi]; rfl
    rw [eg]
    exact ⟨ap, ac, hp, hc, hat 2 (by omega), hat 3 (by omega), h4, h5⟩
  obtain ⟨pa, hpa⟩ : ∃ pa : Nat → Value, pa = fun i => cs[i * 4 + 2]?.getD undef := ⟨_, rfl⟩
  obtain ⟨ph, hph⟩ : ∃ ph : Nat → Value, ph = fun i => cs[i * 4 + 3]?.getD undef := ⟨_, rfl⟩
  have ePa : ∀ i, i < gs.length → cs[i * 4 + 2]? = some (pa i) := fun i hi => by
    obtain ⟨ap, ac, hp, hc, e1, _⟩ := at4 i hi
    rw [hpa]; simp only [e1, Option.getD_some]
  have ePh : ∀ i, i < gs.length → cs[i * 4 + 3]? = some (ph i) := fun i hi => by
    obtain ⟨ap, ac, hp, hc, _, e1, _⟩ := at4 i hi
    rw [hph]; simp only [e1, Option.getD_some]
  have mem : ∀ {p : Nat} {x : Value} {g : Nat}, cs[p]? = some x → x.ownBlock = some g → g ∈ blks cs := fun hp hx => List.mem_filterMap.2 ⟨_, List.mem_of_getElem? hp, hx⟩
  have main : ∀ b cur, (0 < gs.length → W.heap[b]? = some (.cells cur 53 (0, 0))) → (∀ p, p < gs.length * 4 → cur[p]? = cs[p]?) → SpA W W H T gs.length b cur (fun i => (gs[i]?.getD zA).arms) (fun i => (gs[i]?.getD zA).held) pa ph := fun b cur hb hc => by
    refine ⟨Below.refl _ _, fun _ _ _ => rfl, hTW, hHW, hb, fun i hi => by rw [hc _ (by omega)]; exact ePa i hi, fun i hi => by rw [hc _ (by omega)]; exact ePh i hi, fun i hi => ?_, fun i hi => ?_, fun i j hi hj hij g h1 h2 => ?_, fun i j hi hj hij g h1 h2 => ?_, fun i hi g hg => hT g (mem (ePa i hi) hg), fun i hi g hg => hT g (mem (ePh i hi) hg)⟩
    · obtain ⟨ap, ac, hp, hc', e1, _, h4, _⟩ := at4 i hi
      have : pa i = .slice ap (gs[i]?.getD zA).arms.length ac := by
        have := ePa i hi
        rw [e1] at this
        exact (Option.some.inj this).symm
      rw [this]; exact h4
    · obtain ⟨ap, ac, hp, hc', _, e1, _, h4⟩ := at4 i hi
      have : ph i = .slice hp (gs[i]?.getD zA).held.length hc' := by
        have := ePh i hi
        rw [e1] at this
        exact (Option.some.inj this).symm
      rw [this]; exact h4
    · have := fm_inj cs hN _ _ _ _ g (ePa i hi) (ePa j hj) h1 h2
      omega
    · have := fm_inj cs hN _ _ _ _ g (ePh i hi) (ePh j hj) h1 h2
      omega
  rcases ho.2 with ⟨e, h0⟩ | ⟨b, cap, cur, e, _, hg, q1, _, q3, q4⟩
  · exact ⟨none, 0, 0, #[], pa, ph, by rw [e, h0], fun h => by omega, by omega, main 0 #[] (fun h => by omega) (fun p hp => by omega)⟩
  · refine ⟨some ⟨b, 0, none⟩, cap, b, cur, pa, ph, e, fun _ => rfl, q1, main b cur (fun _ => hg) fun p hp => ?_⟩
    rw [← q4, List.getElem?_take_of_lt hp, Array.getElem?_toList]
end Go.Proofs.Ytjabdhmkibahlaa
