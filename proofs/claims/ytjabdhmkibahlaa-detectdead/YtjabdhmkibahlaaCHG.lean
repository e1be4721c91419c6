import Derived.Test.YtjabdhmkibahlaaCGN
import Derived.Test.YtjabdhmkibahlaaCGIp
namespace Go.Proofs.Ytjabdhmkibahlaa
open Go.RowKit
set_option linter.unusedVariables false
set_option linter.unusedSimpArgs false

/-! ### the book: lists of links that were answered, in rows of one's own, and what was asked for -/
theorem lksC_snoc1 (l : List Lk) (x : Lk) : lksC (l ++ [x]) = lksC l ++ lkC x := by simp [lksC, List.flatMap_append]
theorem lksC_ln (l : List Lk) : (lksC l).length = l.length * 3 := by
  induction l with
  | nil => rfl
  | cons x r ih => simp only [lksC, List.flatMap_cons, List.length_append] at ih ⊢; rw [ih]; simp [lkC]; omega
theorem infoSL : (Try.prog.info? 36).map (fun i => (i.zero, i.size, i.bytes)) = some (some (.slice none 0 0), 1, 24) := by kernel_rfl
/-- cs: what the lists hold, os: the slices; ls, ws: those that were asked for -/
structure Bk (W : World) (B : Nat) (go co gw cw : Nat) (cs ls : List (List Lk)) (os ws : List Value) : Prop where
  lo : os.length = cs.length
  lw : ws.length = ls.length
  outs : W.ownsRow B 36 1 (.slice (some ⟨go, 0, none⟩) cs.length co) cs.length os
  wants : W.ownsRow B 36 1 (.slice (some ⟨gw, 0, none⟩) ls.length cw) ls.length ws
  gne : go ≠ gw
  row : ∀ i (h1 : i < cs.length) (h2 : i < os.length), W.ownsRow B 24 3 os[i] cs[i].length (lksC cs[i])
  wrow : ∀ i (h1 : i < ls.length) (h2 : i < ws.length), W.ownsRow B 24 3 ws[i] ls[i].length (lksC ls[i])
  ap : ∀ i j (h1 : i < os.length) (h2 : j < os.length), i ≠ j → ∀ g, os[i].ownBlock = some g → os[j].ownBlock ≠ some g
  aq : ∀ i j (h1 : i < os.length) (h2 : j < ws.length), ∀ g, os[i].ownBlock = some g → ws[j].ownBlock ≠ some g
theorem Bk.on {W W' : World} {B go co gw cw : Nat} {cs ls : List (List Lk)} {os ws : List Value} (h : Bk W B go co gw cw cs ls os ws) (hb : ∀ g, B ≤ g → g < W.heap.size → W'.heap[g]? = W.heap[g]?) : Bk W' B go co gw cw cs ls os ws :=
  ⟨h.lo, h.lw, owns_same h.outs hb, owns_same h.wants hb, h.gne, fun i h1 h2 => owns_same (h.row i h1 h2) hb, fun i h1 h2 => owns_same (h.wrow i h1 h2) hb, h.ap, h.aq⟩
theorem Bk.later {W W' : World} {B go co gw cw : Nat} {cs ls : List (List Lk)} {os ws : List Value} (h : Bk W B go co gw cw cs ls os ws) (hb : Below W.heap.size W W') : Bk W' B go co gw cw cs ls os ws := h.on fun g _ hg => hb.block g hg
theorem Bk.start (w : World) (H : Nat) (hH : w.heap.size = H) : Bk ((w.alloc (.cells #[] 36)).alloc (.cells #[] 36)) H H 0 (H + 1) 0 [] [] [] [] := by
  subst hH
  refine ⟨rfl, rfl, ⟨rfl, .inr ⟨w.heap.size, 0, #[], rfl, Nat.le_refl _, ?_, Nat.le_refl _, by simp [maxLen], rfl, rfl⟩⟩, ⟨rfl, .inr ⟨w.heap.size + 1, 0, #[], rfl, Nat.le_succ _, heap_newH _ _ _ (by simp), Nat.le_refl _, by simp [maxLen], rfl, rfl⟩⟩, by omega, fun i h => by simp at h, fun i h => by simp at h, fun i j h => by simp at h, fun i j h => by simp at h⟩
  rw [Below.heap_alloc _ _ _ (by simp)]
  exact heap_newH _ _ _ rfl
/-- a list more that was answered, and one more that was asked for -/
structure Add (W W1 W2 : World) (go co gw cw go' co' gw' cw' : Nat) (cs : List (List Lk)) (x : List Lk) (vo vw : Value) (B : Nat) (os ws : List Value) : Prop where
  r1 : ∀ ty, (Builtin.append_ #[27, 27] ty #[.slice (some ⟨go, 0, none⟩) cs.length co, .slice (some ⟨W.heap.size, 0, none⟩) 1 1]).run Try.prog (W.alloc (.cells #[vo] 36)) = .ok (.slice (some ⟨go', 0, none⟩) (cs.length + 1) co') W1
  r2 : ∀ ty, (Builtin.append_ #[27, 27] ty #[.slice (some ⟨gw, 0, none⟩) cs.length cw, .slice (some ⟨W1.heap.size, 0, none⟩) 1 1]).run Try.prog (W1.alloc (.cells #[vw] 36)) = .ok (.slice (some ⟨gw', 0, none⟩) (cs.length + 1) cw') W2
  bk : Bk W2 B go' co' gw' cw' (cs ++ [x]) (cs ++ [x]) (os ++ [vo]) (ws ++ [vw])
  bel : Below B W W2
theorem owns_gr {w w' : World} {row : Option Nat} {B s n : Nat} {e : TypeId} {v : Value} {xs : List Value} (h : w.ownsRow B e s v n xs) (hg : w.grownBy w' row) (hr : ∀ b, v.ownBlock = some b → row ≠ some b) : w'.ownsRow B e s v n xs := by
  refine own_same h fun g o hgb ho => ?_
  rw [hg.block g (heap_lt ho) (fun e => hr g hgb (by rw [e]))]; exact ho
theorem owns_one {W : World} {B s n : Nat} {t : TypeId} {v : Value} {cs : List Value} (h : W.ownsRow B t s v n cs) : v.oneCell' = true := by
  obtain ⟨a, c, rfl⟩ := owns_slice h
  rfl
set_option maxHeartbeats 1000000 in
theorem Bk.add {W : World} {B go co gw cw : Nat} {cs : List (List Lk)} {os ws : List Value} (h : Bk W B go co gw cw cs cs os ws) (hB : B ≤ W.heap.size) (hn : cs.length ≤ 100) (x : List Lk) (vo vw : Value) (ho : W.ownsRow B 24 3 vo x.length (lksC x)) (hw : W.ownsRow B 24 3 vw x.length (lksC x))
    (h1 : ∀ j (h : j < os.length) g, vo.ownBlock = some g → os[j].ownBlock ≠ some g) (h2 : ∀ j (h : j < ws.length) g, vo.ownBlock = some g → ws[j].ownBlock ≠ some g) (h3 : ∀ j (h : j < os.length) g, vw.ownBlock = some g → os[j].ownBlock ≠ some g) (h4 : ∀ g, vo.ownBlock = some g → vw.ownBlock ≠ some g) :
    ∃ W1 W2 go' co' gw' cw', Add W W1 W2 go co gw cw go' co' gw' cw' cs x vo vw B os ws := by
  obtain ⟨i0, hi0, iz0, iz1, iz2⟩ := info_parts infoSL
  have e1 : ∀ u ∈ (#[vo] : Array Value).toList, u.oneCell' = true := fun u hu => by simp at hu; subst hu; exact owns_one ho
  have e2 : ∀ u ∈ (#[vw] : Array Value).toList, u.oneCell' = true := fun u hu => by simp at hu; subst hu; exact owns_one hw
  obtain ⟨go', co', W1, r1, n1, g1, _, d1⟩ := app1 Try.underlying27 hi0 iz0 iz1 iz2 rfl (by decide) W B _ cs.length _ h.outs #[vo] rfl e1 (by unfold maxLen; omega) (by omega) hB
  have k1 := owns_kind h.outs
  have hs1 := g1.size
  have w1 : W1.ownsRow B 36 1 (.slice (some ⟨gw, 0, none⟩) cs.length cw) cs.length ws := owns_gr h.wants g1 fun b hb e => by
    simp only [Value.ownBlock, Option.some.injEq] at hb e
    exact h.gne (by omega)
  have rows1 : ∀ {v : Value} {l : List Lk}, W.ownsRow B 24 3 v l.length (lksC l) → W1.ownsRow B 24 3 v l.length (lksC l) := fun hr => owns_grown hr g1 (by decide) k1
  obtain ⟨gw', cw', W2, r2, n2, g2, _, d2⟩ := app1 Try.underlying27 hi0 iz0 iz1 iz2 rfl (by decide) W1 B _ cs.length _ w1 #[vw] rfl e2 (by unfold maxLen; omega) (by omega) (by omega)
  have k2 := owns_kind w1
  have hgo : go' < W1.heap.size := (owns_block n1 rfl).2
  have hgwl : gw < W.heap.size := (owns_block h.wants rfl).2
  have hgol : go < W.heap.size := (owns_block h.outs rfl).2
  have hne1 : go' ≠ gw := by
    rcases d1 with d | d
    · simp only [Value.ownBlock, Option.some.injEq] at d
      have := h.gne
      omega
    · omega
  have hne2 : go' ≠ gw' := by
    rcases d2 with d | d
    · simp only [Value.ownBlock, Option.some.injEq] at d
      omega
    · omega
  have o2 : W2.ownsRow B 36 1 (.slice (some ⟨go', 0, none⟩) (cs.length + 1) co') (cs.length + 1) (os ++ [vo]) := owns_gr n1 g2 fun b hb e => by
    simp only [Value.ownBlock, Option.some.injEq] at hb e
    omega
  have rows2 : ∀ {v : Value} {l : List Lk}, W.ownsRow B 24 3 v l.length (lksC l) → W2.ownsRow B 24 3 v l.length (lksC l) := fun hr => owns_grown (rows1 hr) g2 (by decide) k2
  have hlo := h.lo
  have hlw := h.lw
  have gt : ∀ (L : List Value) (z : Value) (i : Nat) (hi : i < (L ++ [z]).length), (∃ hh : i < L.length, (L ++ [z])[i] = L[i]) ∨ (i = L.length ∧ (L ++ [z])[i] = z) := fun L z i hi => by
    by_cases hh : i < L.length
    · exact .inl ⟨hh, List.getElem_append_left hh⟩
    · have : i = L.length := by simp at hi; omega
      subst this
      exact .inr ⟨rfl, by simp⟩
  refine ⟨W1, W2, go', co', gw', cw', r1, r2, ⟨by simp [hlo], by simp [hlw], by rw [List.length_append]; exact o2, by rw [List.length_append]; exact n2, hne2, fun i k1 k2 => ?_, fun i k1 k2 => ?_, fun i j k1 k2 hij g => ?_, fun i j k1 k2 g => ?_⟩, ?_⟩
  · by_cases hi : i < cs.length
    · have hl : i < os.length := by omega
      simp only [List.getElem_append_left hi, List.getElem_append_left hl]
      exact rows2 (h.row i hi hl)
    · have hie : i = cs.length := by simp at k1; omega
      subst hie
      simp only [List.getElem_append_right (Nat.le_refl _), List.getElem_append_right (show os.length ≤ cs.length by omega), hlo, Nat.sub_self, List.getElem_cons_zero]
      exact rows2 ho
  · by_cases hi : i < cs.length
    · have hl : i < ws.length := by omega
      simp only [List.getElem_append_left hi, List.getElem_append_left hl]
      exact rows2 (h.wrow i hi hl)
    · have hie : i = cs.length := by simp at k1; omega
      subst hie
      simp only [List.getElem_append_right (Nat.le_refl _), List.getElem_append_right (show ws.length ≤ cs.length by omega), hlw, Nat.sub_self, List.getElem_cons_zero]
      exact rows2 hw
  · rcases gt os vo i k1 with ⟨a1, a2⟩ | ⟨a1, a2⟩ <;> rcases gt os vo j k2 with ⟨b1, b2⟩ | ⟨b1, b2⟩ <;> rw [a2, b2]
    · exact h.ap i j a1 b1 hij g
    · intro e1 e2; exact h1 i a1 g e2 e1
    · exact h1 j b1 g
    · omega
  · rcases gt os vo i k1 with ⟨a1, a2⟩ | ⟨a1, a2⟩ <;> rcases gt ws vw j k2 with ⟨b1, b2⟩ | ⟨b1, b2⟩ <;> rw [a2, b2]
    · exact h.aq i j a1 b1 g
    · intro e1 e2; exact h3 i a1 g e2 e1
    · exact h2 j b1 g
    · exact h4 g
  · have b1 : Below B W W1 := (Below.refl _ _).grown g1 hB fun k hk => (owns_block h.outs hk).1
    exact b1.trans ((Below.refl _ _).grown g2 (by omega) fun k hk => (owns_block w1 hk).1)
/-! ### what is written over -/
theorem lksC_set (l : List Lk) (k : Nat) (hk : k < l.length) (x : Lk) : lksC (l.set k x) = (((lksC l).set (k * 3) (.int .i64 x.waker)).set (k * 3 + 1) (.int .i64 x.woken)).set (k * 3 + 2) (.int .i64 x.chan) := by
  induction l generalizing k with
  | nil => simp at hk
  | cons y r ih =>
    cases k with
    | zero => rfl
    | succ k =>
      rw [List.set_cons_succ, show (k + 1) * 3 = k * 3 + 3 by omega]
      show lkC y ++ lksC (r.set k x) = (((lkC y ++ lksC r).set _ _).set _ _).set _ _
      rw [ih k (by simpa using hk)]
      simp [lkC, List.set_cons_succ]
theorem own_put {w : World} {B : Nat} {e : TypeId} {s g n cap : Nat} {xs : List Value} (h : w.ownsRow B e s (.slice (some ⟨g, 0, none⟩) n cap) n xs) (j : Nat) (u : Value) : (w.setCell ⟨g, j, none⟩ u).ownsRow B e s (.slice (some ⟨g, 0, none⟩) n cap) n (xs.set j u) := by
  refine ⟨by rw [List.length_set]; exact h.1, ?_⟩
  rcases h.2 with ⟨q, _⟩ | ⟨g', cap', cur, q, hB, hg, q1, q2, q3, q4⟩
  · cases q
  · simp only [Value.slice.injEq, Option.some.injEq, Addr.mk.injEq] at q
    obtain ⟨⟨rfl, _⟩, _, rfl⟩ := q
    refine .inr ⟨g, cap, cur.setIfInBounds j u, rfl, hB, Lib.heap_setCell_same (i := j) hg u, q1, q2, by simpa using q3, ?_⟩
    rw [Array.toList_setIfInBounds, List.take_set, q4]
theorem Bk.get {W : World} {B go co gw cw : Nat} {cs ls : List (List Lk)} {os ws : List Value} (h : Bk W B go co gw cw cs ls os ws) {i : Nat} (hi : i < cs.length) : ∃ a c, os[i]'(by have := h.lo; omega) = .slice a cs[i].length c ∧ W.cell? ⟨go, i, none⟩ = some (.slice a cs[i].length c) := by
  have hlo := h.lo
  obtain ⟨a, c, e⟩ := owns_slice (h.row i hi (by omega))
  exact ⟨a, c, e, owns_cellj h.outs (by rw [← e, List.getElem?_eq_getElem (by omega)])⟩
theorem Bk.wget {W : World} {B go co gw cw : Nat} {cs ls : List (List Lk)} {os ws : List Value} (h : Bk W B go co gw cw cs ls os ws) {i : Nat} (hi : i < ls.length) : ∃ a c, ws[i]'(by have := h.lw; omega) = .slice a ls[i].length c ∧ W.cell? ⟨gw, i, none⟩ = some (.slice a ls[i].length c) := by
  have hlo := h.lw
  obtain ⟨a, c, e⟩ := owns_slice (h.wrow i hi (by omega))
  exact ⟨a, c, e, owns_cellj h.wants (by rw [← e, List.getElem?_eq_getElem (by omega)])⟩
/-- one entry of the list i is written -/
theorem Bk.mark {W W' : World} {B go co gw cw : Nat} {cs ls : List (List Lk)} {os ws : List Value} (h : Bk W B go co gw cw cs ls os ws) {i : Nat} (hi : i < cs.length) {g n c : Nat} (he : os[i]'(by have := h.lo; omega) = .slice (some ⟨g, 0, none⟩) n c) {k : Nat} (hk : k < cs[i].length) (x : Lk)
    (hW : W.setCells g (k * 3) [.int .i64 x.waker, .int .i64 x.woken, .int .i64 x.chan] = W') : Bk W' B go co gw cw (cs.set i (cs[i].set k x)) ls os ws ∧ Below B W W' := by
  subst hW
  have hlo := h.lo
  have hio : i < os.length := by omega
  have hr := h.row i hi hio
  rw [he] at hr
  have hn : n = cs[i].length := by
    obtain ⟨a, c', e⟩ := owns_slice hr
    simp only [Value.slice.injEq] at e
    exact e.2.1
  subst hn
  have hgB := owns_block hr (g := g) rfl
  obtain ⟨cur, fz, hgk⟩ := owns_kind hr g rfl
  have hoth : ∀ y, y ≠ g → (W.setCells g (k * 3) [.int .i64 x.waker, .int .i64 x.woken, .int .i64 x.chan]).heap[y]? = W.heap[y]? := fun y hy => by
    show (((W.setCell ⟨g, k * 3, none⟩ _).setCell ⟨g, k * 3 + 1, none⟩ _).setCell ⟨g, k * 3 + 1 + 1, none⟩ _).heap[y]? = _
    rw [Below.heap_setCell _ ⟨g, _, none⟩ _ y hy, Below.heap_setCell _ ⟨g, _, none⟩ _ y hy, Below.heap_setCell _ ⟨g, _, none⟩ _ y hy]
  have hnr : (W.setCells g (k * 3) [.int .i64 x.waker, .int .i64 x.woken, .int .i64 x.chan]).ownsRow B 24 3 (.slice (some ⟨g, 0, none⟩) cs[i].length c) cs[i].length (lksC (cs[i].set k x)) := by
    rw [lksC_set _ k hk]
    exact own_put (own_put (own_put hr (k * 3) _) (k * 3 + 1) _) (k * 3 + 1 + 1) _
  have keep : ∀ {v : Value} {t : TypeId} {s n : Nat} {xs : List Value}, W.ownsRow B t s v n xs → v.ownBlock ≠ some g → (W.setCells g (k * 3) [.int .i64 x.waker, .int .i64 x.woken, .int .i64 x.chan]).ownsRow B t s v n xs := fun hv hne => own_same hv fun y o hy ho => by
    rw [hoth y (fun e => hne (by rw [hy, e]))]; exact ho
  have hgo : go ≠ g := fun e => by
    obtain ⟨c1, f1, q⟩ := owns_kind h.outs go rfl
    rw [e, hgk] at q
    injection q with q
    injection q with _ q
    exact absurd q (by decide)
  have hgw : gw ≠ g := fun e => by
    obtain ⟨c1, f1, q⟩ := owns_kind h.wants gw rfl
    rw [e, hgk] at q
    injection q with q
    injection q with _ q
    exact absurd q (by decide)
  refine ⟨⟨by rw [List.length_set]; exact hlo, h.lw, by rw [List.length_set]; exact keep h.outs (by simpa [Value.ownBlock] using hgo), keep h.wants (by simpa [Value.ownBlock] using hgw), h.gne, fun j k1 k2 => ?_, fun j k1 k2 => keep (h.wrow j k1 k2) (h.aq i j hio k2 g (by rw [he]; rfl)), h.ap, h.aq⟩, ?_⟩
  · rw [List.length_set] at k1
    by_cases hij : i = j
    · subst hij
      simp only [List.getElem_set_self]
      rw [he, List.length_set]
      exact hnr
    · simp only [List.getElem_set_ne hij]
      exact keep (h.row j k1 k2) (h.ap i j hio k2 hij g (by rw [he]; rfl))
  · exact (((Below.refl B W).setCell (p := ⟨g, k * 3, none⟩) hgB.1 _).trans ((Below.refl B _).setCell (p := ⟨g, k * 3 + 1, none⟩) hgB.1 _)).trans ((Below.refl B _).setCell (p := ⟨g, k * 3 + 1 + 1, none⟩) hgB.1 _)
/-- one entry more behind the list i -/
structure Grow (W W1 W2 : World) (B go co gw cw : Nat) (cs ls : List (List Lk)) (os ws : List Value) (i : Nat) (a : Option Addr) (c n : Nat) (x : Lk) (g' c' : Nat) : Prop where
  r1 : ∀ ty, (Builtin.append_ #[36, 36] ty #[.slice a n c, .slice (some ⟨W.heap.size, 0, none⟩) 1 1]).run Try.prog (W.alloc (.cells #[.int .i64 x.waker, .int .i64 x.woken, .int .i64 x.chan] 24)) = .ok (.slice (some ⟨g', 0, none⟩) (n + 1) c') W1
  k1 : W1.cell? ⟨go, i, none⟩ = some (.slice a n c)
  f1 : W1.frozen? ⟨go, i, none⟩ = false
  w2 : W1.setCell ⟨go, i, none⟩ (.slice (some ⟨g', 0, none⟩) (n + 1) c') = W2
  bk : Bk W2 B go co gw cw (cs.set i ((cs[i]?.getD []) ++ [x])) ls (os.set i (.slice (some ⟨g', 0, none⟩) (n + 1) c')) ws
  bel : Below B W W2
set_option maxHeartbeats 1000000 in
theorem Bk.grow {W : World} {B go co gw cw : Nat} {cs ls : List (List Lk)} {os ws : List Value} (h : Bk W B go co gw cw cs ls os ws) (hB : B ≤ W.heap.size) {i : Nat} (hi : i < cs.length) {a : Option Addr} {n c : Nat} (he : os[i]'(by have := h.lo; omega) = .slice a n c) (hn : n = cs[i].length) (hl : n + 1 ≤ 5000000000100) (x : Lk) :
    ∃ W1 W2 g' c', Grow W W1 W2 B go co gw cw cs ls os ws i a c n x g' c' := by
  subst hn
  have hlo := h.lo
  have hio : i < os.length := by omega
  have hr := h.row i hi hio
  have hcell := owns_cellj h.outs (show os[i]? = some (.slice a cs[i].length c) by rw [List.getElem?_eq_getElem hio, he])
  rw [he] at hr
  obtain ⟨i0, hi0, iz0, iz1, iz2⟩ := info_parts infoL
  obtain ⟨g', c', W1, r1, n1, g1, _, d1⟩ := app1 Try.underlying36 hi0 iz0 iz1 iz2 rfl (by decide) W B _ cs[i].length _ hr #[.int .i64 x.waker, .int .i64 x.woken, .int .i64 x.chan] rfl (by simp [Value.oneCell']) (by unfold maxLen; omega) (by omega) hB
  have k1 := owns_kind hr
  have hgo : ∀ g, (Value.slice a cs[i].length c).ownBlock = some g → go ≠ g := fun g hg e => by
    obtain ⟨c1, f1, q⟩ := owns_kind h.outs go rfl
    obtain ⟨c2, f2, q'⟩ := k1 g hg
    rw [e, q'] at q
    injection q with q
    injection q with _ q
    exact absurd q (by decide)
  have o1 : W1.ownsRow B 36 1 (.slice (some ⟨go, 0, none⟩) cs.length co) cs.length os := owns_grown h.outs g1 (by decide) k1
  have w1 : W1.ownsRow B 36 1 (.slice (some ⟨gw, 0, none⟩) ls.length cw) ls.length ws := owns_grown h.wants g1 (by decide) k1
  obtain ⟨W2, hW2⟩ : ∃ W2, W1.setCell ⟨go, i, none⟩ (.slice (some ⟨g', 0, none⟩) (cs[i].length + 1) c') = W2 := ⟨_, rfl⟩
  have hk2 : ∀ y, y ≠ go → W2.heap[y]? = W1.heap[y]? := fun y hy => by rw [← hW2]; exact Below.heap_setCell W1 ⟨go, i, none⟩ _ y hy
  have keep2 : ∀ {v : Value} {t : TypeId} {s n : Nat} {xs : List Value}, W1.ownsRow B t s v n xs → v.ownBlock ≠ some go → W2.ownsRow B t s v n xs := fun hv hne => own_same hv fun y o hy ho => by
    rw [hk2 y (fun e => hne (by rw [hy, e]))]; exact ho
  have hgoB := owns_block h.outs (g := go) rfl
  have kgo : ∃ c fz, W1.heap[go]? = some (.cells c 36 fz) := owns_kind o1 go rfl
  have lnk : ∀ {v : Value} {l : List Lk}, W1.ownsRow B 24 3 v l.length (lksC l) → v.ownBlock ≠ some go := fun hv e => by
    obtain ⟨c1, f1, q⟩ := kgo
    obtain ⟨c2, f2, q'⟩ := owns_kind hv go e
    rw [q] at q'
    injection q' with q'
    injection q' with _ q'
    exact absurd q' (by decide)
  have hio2 : ∀ j, j < os.length → ∀ g, os[j]?.bind (·.ownBlock) = some g → g < W.heap.size := fun j hj g hg => by
    rw [List.getElem?_eq_getElem hj] at hg
    exact (owns_block (h.row j (by omega) hj) hg).2
  have fz1 : W1.frozen? ⟨go, i, none⟩ = false := by
    rcases o1.2 with ⟨q, _⟩ | ⟨g2, c2, cur, q, _, hg2, _⟩
    · cases q
    · simp only [Value.slice.injEq, Option.some.injEq, Addr.mk.injEq] at q
      obtain ⟨⟨rfl, _⟩, _⟩ := q
      exact frz_blk hg2
  refine ⟨W1, W2, g', c', r1, owns_cellj o1 (by rw [List.getElem?_eq_getElem hio, he]), fz1, hW2, ⟨by simp [hlo], h.lw, ?_, keep2 w1 (by simp [Value.ownBlock]; exact fun e => h.gne e.symm), h.gne, fun j q1 q2 => ?_, fun j q1 q2 => ?_, fun j1 j2 q1 q2 hij g => ?_, fun j1 j2 q1 q2 g => ?_⟩, ?_⟩
  · rw [List.length_set, ← hW2]
    exact own_put o1 i _
  · rw [List.length_set] at q1
    by_cases hij : i = j
    · subst hij
      simp only [List.getElem_set_self]
      rw [List.getElem?_eq_getElem hi, Option.getD_some, List.length_append, lksC_snoc1]
      refine keep2 n1 ?_
      intro e
      simp only [Value.ownBlock, Option.some.injEq] at e
      obtain ⟨c1, f1, q⟩ := kgo
      obtain ⟨c2, f2, q'⟩ := owns_kind n1 g' rfl
      rw [e, q] at q'
      injection q' with q'
      injection q' with _ q'
      exact absurd q' (by decide)
    · rw [List.length_set] at q2
      simp only [List.getElem_set_ne hij]
      have hw1 : W1.ownsRow B 24 3 os[j] cs[j].length (lksC cs[j]) := owns_gr (h.row j q1 q2) g1 fun b hb e => h.ap i j hio q2 hij b (by rw [he]; exact e) hb
      exact keep2 hw1 (lnk hw1)
  · have hw1 : W1.ownsRow B 24 3 ws[j] ls[j].length (lksC ls[j]) := owns_gr (h.wrow j q1 q2) g1 fun b hb e => h.aq i j hio q2 b (by rw [he]; exact e) hb
    exact keep2 hw1 (lnk hw1)
  · rw [List.length_set] at q1 q2
    by_cases e1 : i = j1
    · subst e1
      simp only [List.getElem_set_self, List.getElem_set_ne hij]
      intro hg hg2
      simp only [Value.ownBlock, Option.some.injEq] at hg
      rcases d1 with d | d
      · exact h.ap i j2 hio q2 hij g (by rw [he, d, hg]) hg2
      · have := hio2 j2 q2 g (by rw [List.getElem?_eq_getElem q2]; exact hg2)
        omega
    · by_cases e2 : i = j2
      · subst e2
        simp only [List.getElem_set_self, List.getElem_set_ne e1]
        intro hg2 hg
        simp only [Value.ownBlock, Option.some.injEq] at hg
        rcases d1 with d | d
        · exact h.ap i j1 hio q1 e1 g (by rw [he, d, hg]) hg2
        · have := hio2 j1 q1 g (by rw [List.getElem?_eq_getElem q1]; exact hg2)
          omega
      · simp only [List.getElem_set_ne e1, List.getElem_set_ne e2]
        exact h.ap j1 j2 q1 q2 hij g
  · rw [List.length_set] at q1
    by_cases e1 : i = j1
    · subst e1
      simp only [List.getElem_set_self]
      intro hg hg2
      simp only [Value.ownBlock, Option.some.injEq] at hg
      rcases d1 with d | d
      · exact h.aq i j2 hio q2 g (by rw [he, d, hg]) hg2
      · have := (owns_block (h.wrow j2 (by have := h.lw; omega) q2) hg2).2
        omega
    · simp only [List.getElem_set_ne e1]
      exact h.aq j1 j2 q1 q2 g
  · rw [← hW2]
    exact ((Below.refl _ _).grown g1 hB fun k hk => (owns_block hr hk).1).trans ((Below.refl B W1).setCell (p := ⟨go, i, none⟩) hgoB.1 _)
end Go.Proofs.Ytjabdhmkibahlaa
namespace Go.Proofs.Ytjabdhmkibahlaa
open Go.RowKit
set_option linter.unusedVariables false
set_option linter.unusedSimpArgs false

/-! ### calls in a region that draws its order -/
section
variable {P : Program} {ops : Array Oper} {o : Oper} {a : Act} {w : World} {K : Act → World → Prop} {Q : Exit → Act → World → Prop} {E : Prop}
theorem step_call (hg : o.guard = none) (f : FuncId) (xs : Array Operand) (ts : Array TypeId) (hop : o.op = Op.call { callee := Callee.value (.func f), args := xs, argTypes := ts }) (args : Array Value) (hr : (execOp a.eval o).run P w = .ok (.enter f args) w) {Post : Ending → World → Prop} (hc : Calls P f args w Post) (hK : ∀ e w', Post e w' → ∃ r, e = .returned r ∧ K (a.put o.dst r) w') :
    if Region.wanted o (yielded ops a.tmps) = true then Oper.wp P o a w K Q else E := by
  have hw : Region.wanted o (yielded ops a.tmps) = true := by simp [Region.wanted, hg]
  rw [if_pos hw]
  unfold Oper.wp
  rw [hr, Oper.upon_enter]
  refine Calls.mono hc ?_
  intro e w' h
  obtain ⟨r, rfl, hk⟩ := hK e w' h
  exact hk
end
end Go.Proofs.Ytjabdhmkibahlaa
namespace Go.Proofs.Ytjabdhmkibahlaa
set_option linter.unusedVariables false
set_option linter.unusedSimpArgs false

/-! ### a drawn region whose operations yield the same whatever the order: one frame for all of it -/
section
variable {P : Program} {ops : Array Oper} {Q : Exit → Act → World → Prop} {S : World → Prop}
def unlF (L : Array Bool) : Nat := L.toList.count false
theorem unlF_set {L : Array Bool} {i : Nat} (h : L.getD i true = false) : unlF (L.setIfInBounds i true) + 1 = unlF L := by
  have hi : i < L.size := by
    rcases Nat.lt_or_ge i L.size with h' | h'
    · exact h'
    · rw [Array.getD_eq_getD_getElem?, Array.getElem?_eq_none h'] at h; cases h
  have he : L.toList[i]? = some false := by
    rw [Array.getD_eq_getD_getElem?, Array.getElem?_eq_getElem hi] at h
    rw [Array.getElem?_toList, Array.getElem?_eq_getElem hi]
    simpa using h
  unfold unlF
  rw [Array.toList_setIfInBounds]
  have key : ∀ (l : List Bool) (i : Nat), l[i]? = some false → (l.set i true).count false + 1 = l.count false := by
    intro l
    induction l with
    | nil => intro i h; simp at h
    | cons b r ih =>
      intro i h
      cases i with
      | zero =>
        simp at h; subst h
        simp
      | succ k =>
        simp at h
        have := ih k h
        rw [List.set_cons_succ, List.count_cons, List.count_cons]
        omega
  exact key _ _ he
def flowEnd : List Oper → List Value → Act → Act
  | o :: os, v :: vs, a => flowEnd os vs (a.put o.dst v)
  | _, _, a => a
theorem put_size (a : Act) (d : Option Tmp) (v : Value) : (a.put d v).tmps.size = a.tmps.size := by cases d <;> simp [Act.put]
theorem put_def (a : Act) (d : Option Tmp) (v : Value) : (a.put d v).defers = a.defers := by cases d <;> rfl
theorem put_ne (a : Act) (d : Option Tmp) (v : Value) {t : Tmp} (h : d ≠ some t) : (a.put d v).tmps[t]? = a.tmps[t]? := by
  cases d with
  | none => rfl
  | some d =>
    have : d ≠ t := fun e => h (by rw [e])
    simp [Act.put, Array.getElem?_setIfInBounds_ne this]
theorem put_eq (a : Act) (v : Value) (t : Tmp) : (a.put (some t) v).tmps[t]? = if t < a.tmps.size then some v else none := by
  simp [Act.put, Array.getElem?_setIfInBounds]
theorem flow_size : ∀ (os : List Oper) (vs : List Value) (a : Act), (flowEnd os vs a).tmps.size = a.tmps.size ∧ (flowEnd os vs a).defers = a.defers
  | [], _, a => ⟨rfl, rfl⟩
  | _ :: _, [], a => ⟨rfl, rfl⟩
  | o :: os, v :: vs, a => by
    obtain ⟨h1, h2⟩ := flow_size os vs (a.put o.dst v)
    exact ⟨h1.trans (put_size _ _ _), h2.trans (put_def _ _ _)⟩
theorem flow_ne {t : Tmp} : ∀ (os : List Oper) (vs : List Value) (a : Act), (∀ o ∈ os, o.dst ≠ some t) → (flowEnd os vs a).tmps[t]? = a.tmps[t]?
  | [], _, a, _ => rfl
  | _ :: _, [], a, _ => rfl
  | o :: os, v :: vs, a, h => by
    show (flowEnd os vs (a.put o.dst v)).tmps[t]? = _
    rw [flow_ne os vs _ (fun x hx => h x (List.mem_cons_of_mem _ hx)), put_ne _ _ _ (h o List.mem_cons_self)]
theorem flow_at {t : Tmp} : ∀ (os : List Oper) (vs : List Value) (a : Act), vs.length = os.length → os.Pairwise (fun x y => ∀ d, x.dst = some d → y.dst ≠ some d) → ∀ (i : Nat) (o : Oper) (v : Value), os[i]? = some o → vs[i]? = some v → o.dst = some t → (flowEnd os vs a).tmps[t]? = if t < a.tmps.size then some v else none
  | [], _, a, _, _ => fun i o v h => by simp at h
  | _ :: _, [], a, h, _ => by simp at h
  | o :: os, v :: vs, a, hl, hp => by
    intro i x y hx hy hd
    rw [List.pairwise_cons] at hp
    cases i with
    | zero =>
      simp at hx hy
      subst hx; subst hy
      show (flowEnd os vs (a.put o.dst v)).tmps[t]? = _
      rw [flow_ne os vs _ (fun z hz => hp.1 z hz t hd), hd, put_eq]
    | succ k =>
      simp at hx hy
      show (flowEnd os vs (a.put o.dst v)).tmps[t]? = _
      rw [flow_at os vs (a.put o.dst v) (by simpa using hl) hp.2 k x y hx hy hd, put_size]
/-- what an operation does in the frame of the end -/
def FlowStep (P : Program) (ops : Array Oper) (S : World → Prop) (F : Act) (o : Oper) (v : Value) : Prop :=
  (Region.wanted o (yielded ops F.tmps) = true ∧ ∀ w, S w → (execOp F.eval o).run P w = .ok (.value v) w) ∨
  (Region.wanted o (yielded ops F.tmps) = false ∧ v = undef) ∨
  (Region.wanted o (yielded ops F.tmps) = true ∧ ∀ w, S w → ∃ f args, (execOp F.eval o).run P w = .ok (.enter f args) w ∧ Calls P f args w fun e w' => e = .returned v ∧ S w')
def FlowAll (P : Program) (ops : Array Oper) (S : World → Prop) (F : Act) : List Oper → List Value → Prop
  | o :: os, v :: vs => FlowStep P ops S F o v ∧ FlowAll P ops S F os vs
  | [], [] => True
  | _, _ => False
theorem FlowAll.len {F : Act} : ∀ {os : List Oper} {vs : List Value}, FlowAll P ops S F os vs → vs.length = os.length
  | [], [], _ => rfl
  | [], _ :: _, h => h.elim
  | _ :: _, [], h => h.elim
  | _ :: os, _ :: vs, h => by simp [FlowAll.len h.2]
theorem FlowAll.at_ {F : Act} : ∀ {os : List Oper} {vs : List Value}, FlowAll P ops S F os vs → ∀ (i : Nat) (o : Oper), os[i]? = some o → ∃ v, vs[i]? = some v ∧ FlowStep P ops S F o v
  | [], [], _ => fun i o h => by simp at h
  | [], _ :: _, h => h.elim
  | _ :: _, [], h => h.elim
  | _ :: os, v :: vs, h => by
    intro i o hi
    cases i with
    | zero => simp at hi; subst hi; exact ⟨v, rfl, h.1⟩
    | succ k => simp at hi; simpa using FlowAll.at_ h.2 k o hi
/-- the shape: who looks at another one's temporary waits for it; each has its own temporary -/
def flowOk (ops : Array Oper) : Bool :=
  Region.noSelect ops &&
  (List.range ops.size).all fun i => match ops[i]? with
    | none => true
    | some o => (o.after.all fun e => decide (e.on < i)) && (List.range ops.size).all fun j => match ops[j]? with
      | none => true
      | some oj => match oj.dst with
        | none => true
        | some d => (!(o.looksAt ops).contains d || o.after.any fun e => e.on == j && Region.binds .any e) && (i == j || o.dst != some d)
theorem flow_spec (h : flowOk ops = true) {i : Nat} {o : Oper} (hi : ops[i]? = some o) :
    (∀ e ∈ o.after, e.on < i) ∧ ∀ (j : Nat) (oj : Oper) (d : Tmp), ops[j]? = some oj → oj.dst = some d →
      (d ∈ o.looksAt ops → ∃ e ∈ o.after, e.on = j ∧ Region.binds .any e = true) ∧ (i ≠ j → o.dst ≠ some d) := by
  unfold flowOk at h
  rw [Bool.and_eq_true] at h
  have h2 := List.all_eq_true.1 h.2 i (by simpa using (Array.getElem?_eq_some_iff.1 hi).1)
  simp only [hi] at h2
  rw [Bool.and_eq_true] at h2
  refine ⟨fun e he => by simpa using Array.all_eq_true'.1 h2.1 e he, fun j oj d hj hd => ?_⟩
  have h3 := List.all_eq_true.1 h2.2 j (by simpa using (Array.getElem?_eq_some_iff.1 hj).1)
  simp only [hj, hd] at h3
  rw [Bool.and_eq_true] at h3
  refine ⟨fun hm => ?_, fun hne => ?_⟩
  · rcases Bool.or_eq_true _ _ ▸ h3.1 with h4 | h4
    · simp [hm] at h4
    · rw [Array.any_eq_true'] at h4
      obtain ⟨e, he, h5⟩ := h4
      rw [Bool.and_eq_true] at h5
      exact ⟨e, he, by simpa using h5.1, h5.2⟩
  · rcases Bool.or_eq_true _ _ ▸ h3.2 with h4 | h4
    · exact absurd (by simpa using h4) hne
    · simpa using h4
theorem all_on {L : Array Bool} (hL : L.size = ops.size) (hdown : ∀ (i : Nat) (o : Oper), ops[i]? = some o → ∀ e ∈ o.after, e.on < i) (hr : Region.ready .any ops L = []) : ∀ i, i < ops.size → L.getD i false = true := by
  intro i
  induction i using Nat.strongRecOn with
  | ind i ih =>
    intro hi
    cases h : L.getD i false with
    | true => rfl
    | false =>
      have hmem : i ∈ Region.ready .any ops L := by
        refine mem_ready.2 ⟨?_, ops[i], Array.getElem?_eq_getElem hi, fun e he _ => ?_⟩
        · rw [Array.getD_eq_getD_getElem?, Array.getElem?_eq_getElem (by omega)] at h ⊢
          exact h
        · have := hdown i ops[i] (Array.getElem?_eq_getElem hi) e he
          exact ih e.on this (by omega)
      rw [hr] at hmem
      cases hmem
/-- a frame that agrees with that of the end but for what has not come up yet -/
structure Agr (ops : Array Oper) (F : Act) (L : Array Bool) (a : Act) : Prop where
  def_ : a.defers = F.defers
  size : a.tmps.size = F.tmps.size
  get : ∀ t, (∀ (j : Nat) (o : Oper), ops[j]? = some o → o.dst = some t → L.getD j false = true) → a.tmps[t]? = F.tmps[t]?
theorem Agr.eval {F : Act} {L : Array Bool} {a : Act} (h : Agr ops F L a) (hok : flowOk ops = true) {i : Nat} {o : Oper} (hi : ops[i]? = some o) (hall : ∀ e ∈ o.after, Region.binds .any e = true → L.getD e.on false = true) :
    ∀ t ∈ o.looksAt ops, a.tmps[t]? = F.tmps[t]? := by
  intro t ht
  refine h.get t (fun j oj hj hd => ?_)
  obtain ⟨e, he, h1, h2⟩ := ((flow_spec hok hi).2 j oj t hj hd).1 ht
  rw [← h1]
  exact hall e he h2
theorem eval_same {F a : Act} {o : Oper} (hs : ∀ cs b, o.op ≠ .select cs b) (h : ∀ t ∈ o.looksAt ops, a.tmps[t]? = F.tmps[t]?) : execOp a.eval o = execOp F.eval o := by
  refine execOp_congr o hs (fun x hx => ?_)
  cases x with
  | tmp t =>
    have : t ∈ o.looksAt ops := List.mem_append_left _ (List.mem_filterMap.2 ⟨.tmp t, by simpa using hx, rfl⟩)
    simp only [Act.eval, Array.getD_eq_getD_getElem?, h t this]
  | _ => rfl
theorem want_same {F a : Act} {o : Oper} (h : ∀ t ∈ o.looksAt ops, a.tmps[t]? = F.tmps[t]?) : Region.wanted o (yielded ops a.tmps) = Region.wanted o (yielded ops F.tmps) := by
  unfold Region.wanted
  cases hg : o.guard with
  | none => rfl
  | some gw =>
    obtain ⟨g, want⟩ := gw
    have : yielded ops a.tmps g = yielded ops F.tmps g := by
      unfold yielded
      cases ht : (ops[g]?).bind (·.dst) with
      | none => rfl
      | some t => simp only [Option.bind_some, h t (by simp [Oper.looksAt, hg, ht])]
    simp only [this]
theorem Agr.put {F : Act} {L : Array Bool} {a : Act} (h : Agr ops F L a) (hok : flowOk ops = true) {i : Nat} {o : Oper} (hi : ops[i]? = some o) (hL : L.size = ops.size) {v : Value} (hv : ∀ t, o.dst = some t → F.tmps[t]? = if t < F.tmps.size then some v else none) :
    Agr ops F (L.setIfInBounds i true) (a.put o.dst v) := by
  refine ⟨(put_def _ _ _).trans h.def_, (put_size _ _ _).trans h.size, fun t ht => ?_⟩
  by_cases hd : o.dst = some t
  · rw [hv t hd, hd, put_eq, h.size]
  · rw [put_ne _ _ _ hd]
    refine h.get t (fun j oj hj hdj => ?_)
    have := ht j oj hj hdj
    by_cases hji : i = j
    · subst hji
      rw [hi] at hj
      cases hj
      exact absurd hdj hd
    · rw [getD_set_ne false hji] at this
      exact this
theorem flow_any {F : Act} (hok : flowOk ops = true)
    (hstep : ∀ (i : Nat) (o : Oper), ops[i]? = some o → ∃ v, FlowStep P ops S F o v ∧ ∀ t, o.dst = some t → F.tmps[t]? = if t < F.tmps.size then some v else none)
    (hend : ∀ w, S w → Q .normal F w) : ∀ (fuel : Nat) (L : Array Bool) (a : Act) (w : World), unlF L ≤ fuel → L.size = ops.size → Agr ops F L a → S w → wpAny P .any ops Q fuel L a w := by
  have hfin : ∀ (L : Array Bool) (a : Act) (w : World), L.size = ops.size → Agr ops F L a → S w → Region.ready .any ops L = [] → Q .normal a w := by
    intro L a w hL hA hS hr
    have hon := all_on hL (fun i o hi => (flow_spec hok hi).1) hr
    have : a = F := by
      have h1 : a.tmps = F.tmps := Array.ext_getElem? (fun t => hA.get t (fun j o hj _ => hon j (Array.getElem?_eq_some_iff.1 hj).1))
      cases a; cases F
      simp only at h1
      have h2 := hA.def_
      simp only at h2
      rw [h1, h2]
    rw [this]
    exact hend w hS
  have hns : Region.noSelect ops = true := by
    unfold flowOk at hok
    rw [Bool.and_eq_true] at hok
    exact hok.1
  intro fuel
  induction fuel with
  | zero =>
    intro L a w hf hL hA hS
    have hr : Region.ready .any ops L = [] := by
      rw [List.eq_nil_iff_forall_not_mem]
      intro i hi
      obtain ⟨hu, _⟩ := mem_ready.1 hi
      have := unlF_set hu
      omega
    exact ⟨hr, hfin L a w hL hA hS hr⟩
  | succ fuel ih =>
    intro L a w hf hL hA hS
    refine ⟨fun hr => hfin L a w hL hA hS hr, fun i hi => ?_⟩
    obtain ⟨hu, o, ho, hall⟩ := mem_ready.1 hi
    obtain ⟨v, hst, hv⟩ := hstep i o ho
    have hlook := hA.eval hok ho hall
    have he := eval_same (fun cs b => Region.noSelect_spec hns i o cs b ho) hlook
    have hw := want_same hlook
    have hnext : ∀ w', S w' → wpAny P .any ops Q fuel (L.setIfInBounds i true) (a.put o.dst v) w' := fun w' hS' => ih _ _ _ (by have := unlF_set hu; omega) (by simpa using hL) (hA.put hok ho hL hv) hS'
    unfold wpOp
    simp only [ho]
    rw [hw]
    rcases hst with ⟨h1, h2⟩ | ⟨h1, rfl⟩ | ⟨h1, h2⟩
    · rw [if_pos h1]
      refine .inl ?_
      unfold Oper.wp
      rw [he, h2 w hS]
      exact hnext w hS
    · rw [if_neg (by rw [h1]; decide)]
      exact hnext w hS
    · rw [if_pos h1]
      refine .inl ?_
      unfold Oper.wp
      obtain ⟨f, args, h3, h4⟩ := h2 w hS
      rw [he, h3, Oper.upon_enter]
      refine Calls.mono h4 ?_
      rintro e w' ⟨rfl, h5⟩
      exact hnext w' h5
/-- **A REGION THAT DRAWS ITS ORDER, WHERE EACH OPERATION YIELDS ONE VALUE**: the values, the condition that is kept, and what each operation does in the frame of the end -/
theorem region_flow {id : Nat} {a : Act} {w : World} (vs : List Value) (S : World → Prop) (hm : P.follows .mixedOrders = true) (hok : flowOk ops = true) (hS : S w.drew)
    {F : Act} (hF : flowEnd ops.toList vs a = F) (hall : FlowAll P ops S F ops.toList vs) (hend : ∀ w', S w' → Q .normal F w') : (Code.region id ops true).wp P Q a w := by
  have hpw : ops.toList.Pairwise (fun x y => ∀ d, x.dst = some d → y.dst ≠ some d) := by
    rw [List.pairwise_iff_getElem]
    intro i j hi hj hij d h1 h2
    have hi' : ops[i]? = some (ops.toList[i]) := by rw [← Array.getElem?_toList]; exact List.getElem?_eq_getElem hi
    have hj' : ops[j]? = some (ops.toList[j]) := by rw [← Array.getElem?_toList]; exact List.getElem?_eq_getElem hj
    exact ((flow_spec hok hj').2 i _ d hi' h1).2 (by omega) h2
  obtain ⟨hs1, hs2⟩ := flow_size ops.toList vs a
  refine wp_region_any hm (flow_any (F := F) (S := S) hok (fun i o hi => ?_) hend ops.size _ a _ ?_ (by simp) ?_ hS)
  · obtain ⟨v, hv, hst⟩ := hall.at_ i o (by rw [Array.getElem?_toList]; exact hi)
    refine ⟨v, hst, fun t ht => ?_⟩
    have := flow_at ops.toList vs a hall.len hpw i o v (by rw [Array.getElem?_toList]; exact hi) hv ht
    rw [← hF, this, hs1]
  · unfold unlF
    refine Nat.le_trans List.count_le_length ?_
    simp
  · refine ⟨by rw [← hF, hs2], by rw [← hF, hs1], fun t ht => ?_⟩
    rw [← hF]
    refine (flow_ne ops.toList vs a (fun o ho hd => ?_)).symm
    obtain ⟨j, hj⟩ := List.getElem?_of_mem ho
    rw [Array.getElem?_toList] at hj
    have := ht j o hj hd
    have hlt := (Array.getElem?_eq_some_iff.1 hj).1
    simp [hlt] at this
theorem region_flowL {l : List Oper} {id : Nat} {a : Act} {w : World} (vs : List Value) (S : World → Prop) (hm : P.follows .mixedOrders = true) (hok : flowOk l.toArray = true) (hS : S w.drew)
    {F : Act} (hF : flowEnd l vs a = F) (hall : FlowAll P l.toArray S F l vs) (hend : ∀ w', S w' → Q .normal F w') : (Code.region id l.toArray true).wp P Q a w :=
  region_flow vs S hm hok hS (by simpa using hF) (by simpa using hall) hend
theorem flow_cons {F : Act} {o : Oper} {os : List Oper} {v : Value} {vs : List Value} (h1 : FlowStep P ops S F o v) (h2 : FlowAll P ops S F os vs) : FlowAll P ops S F (o :: os) (v :: vs) := ⟨h1, h2⟩
theorem flow_nil {F : Act} : FlowAll P ops S F [] [] := trivial
theorem flow_pure {F : Act} {o : Oper} {v : Value} (hw : Region.wanted o (yielded ops F.tmps) = true) (h : ∀ w, S w → (execOp F.eval o).run P w = .ok (.value v) w) : FlowStep P ops S F o v := .inl ⟨hw, h⟩
theorem flow_not {F : Act} {o : Oper} (hw : Region.wanted o (yielded ops F.tmps) = false) : FlowStep P ops S F o undef := .inr (.inl ⟨hw, rfl⟩)
theorem flow_call {F : Act} {o : Oper} {v : Value} (f : FuncId) (args : Array Value) (hw : Region.wanted o (yielded ops F.tmps) = true) (h : ∀ w, S w → (execOp F.eval o).run P w = .ok (.enter f args) w) (hc : ∀ w, S w → Calls P f args w fun e w' => e = .returned v ∧ S w') : FlowStep P ops S F o v := .inr (.inr ⟨hw, fun w hS => ⟨f, args, h w hS, hc w hS⟩⟩)
end
end Go.Proofs.Ytjabdhmkibahlaa
namespace Go.Proofs.Ytjabdhmkibahlaa
set_option linter.unusedVariables false
set_option linter.unusedSimpArgs false

/-! ### the frame of the end, where the temporaries follow one another -/
theorem flow_run : ∀ (os : List Oper) (vs : List Value) (t0 : Nat) (tl : List Value) (df : List Deferred), os.map (·.dst) = (List.range' t0 os.length).map some → vs.length = os.length → t0 + os.length ≤ tl.length →
    flowEnd os vs ⟨tl.toArray, df⟩ = ⟨(tl.take t0 ++ (vs ++ tl.drop (t0 + os.length))).toArray, df⟩
  | [], vs, t0, tl, df, _, h2, h3 => by
    obtain rfl : vs = [] := List.eq_nil_of_length_eq_zero (by simpa using h2)
    simp [flowEnd]
  | o :: os, [], t0, tl, df, _, h2, h3 => by simp at h2
  | o :: os, v :: vs, t0, tl, df, h1, h2, h3 => by
    rw [List.length_cons, List.range'_succ, List.map_cons, List.map_cons, List.cons.injEq] at h1
    simp only [List.length_cons] at h2 h3
    have hd : o.dst = some t0 := h1.1
    have ht : t0 < tl.length := by omega
    show flowEnd os vs (Act.put ⟨tl.toArray, df⟩ o.dst v) = _
    rw [hd]
    show flowEnd os vs ⟨tl.toArray.setIfInBounds t0 v, df⟩ = _
    rw [List.setIfInBounds_toArray, flow_run os vs (t0 + 1) (tl.set t0 v) df h1.2 (by omega) (by rw [List.length_set]; omega)]
    have e1 : (tl.set t0 v).take (t0 + 1) = tl.take t0 ++ [v] := by
      rw [List.take_succ_eq_append_getElem (by rw [List.length_set]; exact ht), List.getElem_set_self, List.take_set_of_le (Nat.le_refl _)]
    have e2 : (tl.set t0 v).drop (t0 + 1 + os.length) = tl.drop (t0 + (os.length + 1)) := by
      rw [List.drop_set_of_lt (by omega), show t0 + 1 + os.length = t0 + (os.length + 1) by omega]
    rw [e1, e2]
    simp
theorem flow_split : ∀ (m : Nat) (l : List Oper) (vs : List Value) (a : Act), vs.length = l.length → flowEnd l vs a = flowEnd (l.drop m) (vs.drop m) (flowEnd (l.take m) (vs.take m) a)
  | 0, l, vs, a, _ => rfl
  | m + 1, [], vs, a, h => by
    obtain rfl : vs = [] := List.eq_nil_of_length_eq_zero (by simpa using h)
    rfl
  | m + 1, o :: l, [], a, h => by simp at h
  | m + 1, o :: l, v :: vs, a, h => by
    show flowEnd l vs (a.put o.dst v) = flowEnd (l.drop m) (vs.drop m) (flowEnd (l.take m) (vs.take m) (a.put o.dst v))
    exact flow_split m l vs _ (by simpa using h)
theorem flowF {l : List Oper} {vs : List Value} {tl : List Value} {df : List Deferred} {F : Act} (t0 m : Nat) (h1 : (l.take m).map (·.dst) = (List.range' t0 m).map some) (h2 : vs.length = l.length) (h3 : m ≤ l.length) (h4 : t0 + m ≤ tl.length)
    (h5 : flowEnd (l.drop m) (vs.drop m) ⟨(tl.take t0 ++ (vs.take m ++ tl.drop (t0 + m))).toArray, df⟩ = F) : flowEnd l vs ⟨tl.toArray, df⟩ = F := by
  have e : (l.take m).length = m := by rw [List.length_take]; omega
  rw [flow_split m l vs _ h2, flow_run (l.take m) (vs.take m) t0 tl df (by rw [e]; exact h1) (by rw [List.length_take, List.length_take]; omega) (by rw [e]; exact h4), e]
  exact h5
end Go.Proofs.Ytjabdhmkibahlaa
