import Derived.Test.YtjfabholalnbeabCEO
import Derived.Test.YtjfabholalnbeabCGIb
namespace Go.Proofs.Ytjfabholalnbeab
open Go.RowKit Go.MapKept Go.ChangeMaps Go.WideShapes
set_option linter.unusedVariables false
set_option linter.unusedSimpArgs false

/-! ### who wakes, in plain words -/
theorem lkd_wk {a : Ag} {wk : Hd → Option Int} {l : Lk} (h : lkD a wk = some l) : ∃ x ∈ a.arms, wk x = some l.waker ∧ l.woken = a.id ∧ l.chan = x.chan := by
  unfold lkD at h
  obtain ⟨x, hx, h⟩ := List.exists_of_findSome?_eq_some h
  cases hw : wk x with
  | none => rw [hw] at h; cases h
  | some i => rw [hw] at h; cases h; exact ⟨x, hx, hw, rfl, rfl⟩
theorem ho_val (f : Int → Ag) (A : Int → List Int) (ids : List Int) (c i : Int) (h : hoD f A ids c = some i) : i ∈ ids := by
  have step : ∀ (id : Int) (l : List Int) (H : Int → Option Int), (hoHeld A id H l c = some i) → H c = some i ∨ i = id := by
    intro id l
    induction l with
    | nil => intro H h; exact .inl h
    | cons x r ih =>
      intro H h
      rcases ih (hoStep A id H x) h with h | h
      · unfold hoStep at h
        split at h
        · by_cases e : c = x
          · subst e; rw [upd_same] at h; cases h; exact .inr rfl
          · rw [upd_other _ _ e] at h; exact .inl h
        · exact .inl h
      · exact .inr h
  have key : ∀ (ids : List Int) (H : Int → Option Int), hoF f A H ids c = some i → H c = some i ∨ i ∈ ids := by
    intro ids
    induction ids with
    | nil => intro H h; exact .inl h
    | cons x r ih =>
      intro H h
      rcases ih (hoHeld A x H (f x).held) h with h | h
      · rcases step x _ H h with h | h
        · exact .inl h
        · exact .inr (by rw [h]; exact List.mem_cons_self)
      · exact .inr (List.mem_cons_of_mem _ h)
  rcases key ids _ h with h | h
  · cases h
  · exact h
theorem aw_mem {s : List Ag} {x : Int} (h : x ∈ awD s) : x ∈ idsK s := by
  obtain ⟨a, ha, rfl⟩ := List.mem_map.1 h
  exact List.mem_map.2 ⟨a, (List.mem_filter.1 ha).1, rfl⟩
theorem ha_mem (s : List Ag) (c : Hd) (x : Int) (h : x ∈ haD s c) : x ∈ idsK s := by
  have arms : ∀ (l : List Hd) (B : Hd → List Int) (id : Int), x ∈ haArms B id l c → x ∈ B c ∨ x = id := by
    intro l
    induction l with
    | nil => intro B id h; exact .inl h
    | cons y r ih =>
      intro B id h
      rcases ih (haStep id B y) id h with h | h
      · unfold haStep at h
        split at h
        · by_cases e : c = y
          · subst e
            rw [updH_same] at h
            rcases List.mem_append.1 h with h | h
            · exact .inl h
            · exact .inr (by simpa using h)
          · rw [updH_other _ _ e] at h; exact .inl h
        · exact .inl h
      · exact .inr h
  have key : ∀ (s : List Ag) (B : Hd → List Int), x ∈ haF B s c → x ∈ B c ∨ x ∈ s.map (·.id) := by
    intro s
    induction s with
    | nil => intro B h; exact .inl h
    | cons a r ih =>
      intro B h
      rcases ih (haArms B a.id a.arms) h with h | h
      · rcases arms _ _ _ h with h | h
        · exact .inl h
        · exact .inr (by rw [h]; exact List.mem_cons_self)
      · exact .inr (List.mem_cons_of_mem _ h)
  rcases key s _ h with h | h
  · cases h
  · exact h
/-- whose numbers may stand for a waker -/
def WkOk (s : List Ag) (x : Int) : Prop := x = -1 ∨ x = 0 ∨ x ∈ idsK s
theorem n0_wk {s : List Ag} {id : Int} {l : Lk} (h : N0D s id = some l) : WkOk s l.waker := by
  have key : ∀ (H : Int → Option Int) (B : Hd → List Int) (t : List Ag) (O : Int → Option Lk), (∀ c i, H c = some i → i ∈ idsK s) → (∀ c, ∀ x ∈ B c, x ∈ idsK s) → (∀ k l, O k = some l → WkOk s l.waker) → ∀ k l, t.foldl (ouStep H B) O k = some l → WkOk s l.waker := by
    intro H B t
    induction t with
    | nil => intro O _ _ h k l; exact h k l
    | cons a r ih =>
      intro O h1 h2 h3 k l hk
      refine ih (ouStep H B O a) h1 h2 (fun k l hk => ?_) k l hk
      unfold ouStep at hk
      cases hl : lkD a (wk1 H B a.id) with
      | none => rw [hl] at hk; exact h3 k l hk
      | some l0 =>
        rw [hl] at hk
        simp only at hk
        by_cases e : k = a.id
        · subst e
          rw [upd_same] at hk
          cases hk
          obtain ⟨x, hx, hw, _⟩ := lkd_wk hl
          unfold wk1 at hw
          split at hw
          · exact .inl (Option.some.inj hw).symm
          · cases hH : H x.chan with
            | some i => rw [hH] at hw; cases hw; exact .inr (.inr (h1 _ _ hH))
            | none =>
              rw [hH] at hw
              simp only [otI] at hw
              exact .inr (.inr (h2 _ _ (List.mem_of_find?_eq_some hw)))
        · rw [upd_other _ _ e] at hk; exact h3 k l hk
  exact key _ _ s _ (fun c i hi => aw_mem (ho_val _ _ _ _ _ hi)) (fun c x hx => ha_mem s c x hx) (fun k l h => by cases h) id l h
theorem lvl_wk {s : List Ag} {k : Nat} {A : Int → List Int} {Y : Int → Option Wy} {N : Int → Option Lk} (h : Lvl (whoD s) (atD s) (N0D s) k A Y N) : (∀ id l, N id = some l → WkOk s l.waker) ∧ (∀ id y, Y id = some y → WkOk s y.2.waker ∧ ∃ j : Nat, y.1 = j ∧ 1 ≤ j ∧ j < k) ∧ 1 ≤ k := by
  induction h with
  | one => exact ⟨fun id l h => n0_wk h, fun id y h => (by cases h), Nat.le_refl _⟩
  | @step k A Y N N' ids h1 hi hp ih =>
    refine ⟨fun id l hl => ?_, fun id y hy => ?_, by omega⟩
    · obtain ⟨e, _, _⟩ := hp.no id (by rw [hl]; simp)
      rw [hl] at e
      cases e
      unfold opL lk0
      cases hk : lkD (whoD s id) (fun h => hoD (whoD s) A ids h.chan) with
      | none => exact .inr (.inl rfl)
      | some l0 =>
        obtain ⟨x, _, hw, _⟩ := lkd_wk hk
        have h3 := (hi.2 _).1 (ho_val _ _ _ _ _ hw)
        exact .inr (.inr ((lvl_mem h1).2 _ (by intro e; simp only [Option.getD_some] at e; rw [e] at h3; cases h3)))
    · unfold wyN at hy
      cases hn : N id with
      | some l =>
        rw [hn] at hy
        cases hy
        exact ⟨ih.1 id l hn, k, rfl, ih.2.2, by omega⟩
      | none =>
        rw [hn] at hy
        obtain ⟨q1, j, q2, q3, q4⟩ := ih.2.1 id y hy
        exact ⟨q1, j, q2, q3, by omega⟩
theorem fdr_wk {s : List Ag} {sought : Int} {Y : Int → Option Wy} (h : FdR s sought Y) : ∀ id y, Y id = some y → WkOk s y.2.waker ∧ ∃ j : Nat, y.1 = j ∧ 1 ≤ j ∧ j ≤ 4097 := fun id y hy => by
  obtain ⟨k, A, Y', N, h1, hk, _, h3⟩ := h
  obtain ⟨a1, a2, a3⟩ := lvl_wk h1
  rcases h3 with ⟨_, rfl⟩ | ⟨_, h3⟩
  · obtain ⟨q1, j, q2, q3, q4⟩ := a2 id y hy
    exact ⟨q1, j, q2, q3, by omega⟩
  · rcases h3 id with h | ⟨l, h4, h5⟩
    · rw [hy] at h
      obtain ⟨q1, j, q2, q3, q4⟩ := a2 id y h.symm
      exact ⟨q1, j, q2, q3, by omega⟩
    · rw [hy] at h5
      cases h5
      exact ⟨a1 id l h4, k, rfl, a3, hk⟩
theorem wk_64 {w : World} {p : Option Addr} {c : Nat} {s : List Ag} (h : AgsR w p c s) {x : Int} (hx : WkOk s x) : I64 x := by
  rcases hx with rfl | rfl | hx
  · exact ⟨by omega, by omega⟩
  · exact ⟨by omega, by omega⟩
  · obtain ⟨a, ha, rfl⟩ := List.mem_map.1 hx
    obtain ⟨i, hi, rfl⟩ := List.mem_iff_getElem.1 ha
    obtain ⟨_, _, _, _, _, _, _, h1, _⟩ := h.at_ i hi
    exact h1.id
end Go.Proofs.Ytjfabholalnbeab
namespace Go.Proofs.Ytjfabholalnbeab
open Go.RowKit Go.MapKept Go.ChangeMaps Go.WideShapes
set_option linter.unusedVariables false
set_option linter.unusedSimpArgs false

/-! ### chains -/
def yAt (Y : Int → Option Wy) : Nat → Wy → Wy
  | 0, y => y
  | i + 1, y => wy0 (Y (yAt Y i y).2.waker)
def chL (Y : Int → Option Wy) (n : Nat) (y : Wy) : List Lk := (List.range n).map fun p => (yAt Y (n - 1 - p) y).2
/-- the row of links under way: the last i are laid -/
def ChW (X : World) (cb n i : Nat) (Y : Int → Option Wy) (y : Wy) : Prop := ∃ us, X.heap[cb]? = some (.cells us 38 (0, 0)) ∧ us.size = n * 3 ∧ ∀ p, n - i ≤ p → p < n → us[p * 3]? = some (.int .i64 (yAt Y (n - 1 - p) y).2.waker) ∧ us[p * 3 + 1]? = some (.int .i64 (yAt Y (n - 1 - p) y).2.woken) ∧ us[p * 3 + 2]? = some (.int .i64 (yAt Y (n - 1 - p) y).2.chan)
theorem make_links (w : World) (n : Nat) (hn : n ≤ 2147483647) : ∃ us, us.size = n * 3 ∧ (Instr.makeSlice 33 (.int .i64 n) (.int .i64 n)).run Try.prog w = .ok (.slice (some ⟨w.heap.size, 0, none⟩) n n) (w.alloc (.cells us 38)) := by
  obtain ⟨i0, hi, hz0, hz1, hz2⟩ := info_parts infoL
  have := run_make (P := Try.prog) w 33 38 i0 (.agg #[.int .i64 0, .int .i64 0, .int .i64 0]) Try.underlying33 hi hz0 .i64 .i64 (n : Int) (n : Int) (by omega) (by omega) (by rw [hz2]; omega) (by omega)
  rw [hz1] at this
  refine ⟨madeCells (Value.agg #[.int .i64 0, .int .i64 0, .int .i64 0]).cells (n * 3), ?_, by simpa using this⟩
  simp [madeCells]
theorem ChW.start {w : World} {n : Nat} {us : Array Value} (hs : us.size = n * 3) (Y : Int → Option Wy) (y : Wy) : ChW (w.alloc (.cells us 38)) w.heap.size n 0 Y y := ⟨us, World.alloc_heap_new _ _, hs, fun p h1 h2 => by omega⟩
theorem set3 {X : World} {cb : Nat} {us : Array Value} {t : TypeId} (h : X.heap[cb]? = some (.cells us t (0, 0))) (j : Nat) (a b c : Value) : (((X.setCell ⟨cb, j, none⟩ a).setCell ⟨cb, j + 1, none⟩ b).setCell ⟨cb, j + 2, none⟩ c).heap[cb]? = some (.cells (((us.setIfInBounds j a).setIfInBounds (j + 1) b).setIfInBounds (j + 2) c) t (0, 0)) := blk_set (blk_set (blk_set h j a) (j + 1) b) (j + 2) c
end Go.Proofs.Ytjfabholalnbeab
namespace Go.Proofs.Ytjfabholalnbeab
open Go.RowKit Go.MapKept Go.ChangeMaps Go.WideShapes
set_option linter.unusedVariables false
set_option linter.unusedSimpArgs false

/-! ### where a link comes from -/
def Src (s : List Ag) (l : Lk) : Prop := l = ⟨0, 0, 0⟩ ∨ ∃ a ∈ s, ∃ x ∈ a.arms, l.woken = a.id ∧ l.chan = x.chan
theorem whoD_in (s : List Ag) (k : Int) : whoD s k = zA ∨ whoD s k ∈ s := by
  have key : ∀ (t : List Ag) (g : Int → Ag), (g k = zA ∨ g k ∈ s) → (∀ a ∈ t, a ∈ s) → t.foldl (fun f a => upd f a.id a) g k = zA ∨ t.foldl (fun f a => upd f a.id a) g k ∈ s := by
    intro t
    induction t with
    | nil => intro g h _; exact h
    | cons a r ih =>
      intro g h ha
      refine ih (upd g a.id a) ?_ (fun b hb => ha b (List.mem_cons_of_mem _ hb))
      by_cases e : k = a.id
      · subst e; rw [upd_same]; exact .inr (ha a List.mem_cons_self)
      · rw [upd_other _ _ e]; exact h
  exact key s _ (.inl rfl) (fun a h => h)
theorem n0_src {s : List Ag} {id : Int} {l : Lk} (h : N0D s id = some l) : Src s l := by
  have key : ∀ (H : Int → Option Int) (B : Hd → List Int) (t : List Ag) (O : Int → Option Lk), (∀ a ∈ t, a ∈ s) → (∀ k l, O k = some l → Src s l) → ∀ k l, t.foldl (ouStep H B) O k = some l → Src s l := by
    intro H B t
    induction t with
    | nil => intro O _ h k l; exact h k l
    | cons a r ih =>
      intro O h1 h3 k l hk
      refine ih (ouStep H B O a) (fun b hb => h1 b (List.mem_cons_of_mem _ hb)) (fun k l hk => ?_) k l hk
      unfold ouStep at hk
      cases hl : lkD a (wk1 H B a.id) with
      | none => rw [hl] at hk; exact h3 k l hk
      | some l0 =>
        rw [hl] at hk
        simp only at hk
        by_cases e : k = a.id
        · subst e
          rw [upd_same] at hk
          cases hk
          obtain ⟨x, hx, _, h4, h5⟩ := lkd_wk hl
          exact .inr ⟨a, h1 a List.mem_cons_self, x, hx, h4, h5⟩
        · rw [upd_other _ _ e] at hk; exact h3 k l hk
  exact key _ _ s _ (fun a h => h) (fun k l h => by cases h) id l h
theorem lvl_src {s : List Ag} {k : Nat} {A : Int → List Int} {Y : Int → Option Wy} {N : Int → Option Lk} (h : Lvl (whoD s) (atD s) (N0D s) k A Y N) : (∀ id l, N id = some l → Src s l) ∧ (∀ id y, Y id = some y → Src s y.2) := by
  induction h with
  | one => exact ⟨fun id l h => n0_src h, fun id y h => (by cases h)⟩
  | @step k A Y N N' ids h1 hi hp ih =>
    refine ⟨fun id l hl => ?_, fun id y hy => ?_⟩
    · obtain ⟨e, _, _⟩ := hp.no id (by rw [hl]; simp)
      rw [hl] at e
      cases e
      unfold opL lk0
      cases hk : lkD (whoD s id) (fun h => hoD (whoD s) A ids h.chan) with
      | none => exact .inl rfl
      | some l0 =>
        obtain ⟨x, hx, _, h4, h5⟩ := lkd_wk hk
        rcases whoD_in s id with e | e
        · rw [e] at hx; cases hx
        · exact .inr ⟨_, e, x, hx, h4, h5⟩
    · unfold wyN at hy
      cases hn : N id with
      | some l => rw [hn] at hy; cases hy; exact ih.1 id l hn
      | none => rw [hn] at hy; exact ih.2 id y hy
theorem fdr_src {s : List Ag} {sought : Int} {Y : Int → Option Wy} (h : FdR s sought Y) : ∀ id y, Y id = some y → Src s y.2 := fun id y hy => by
  obtain ⟨k, A, Y', N, h1, hk, _, h3⟩ := h
  obtain ⟨a1, a2⟩ := lvl_src h1
  rcases h3 with ⟨_, rfl⟩ | ⟨_, h3⟩
  · exact a2 id y hy
  · rcases h3 id with h | ⟨l, h4, h5⟩
    · rw [hy] at h
      exact a2 id y h.symm
    · rw [hy] at h5
      cases h5
      exact a1 id l h4
theorem fdr_64 {w : World} {p : Option Addr} {c : Nat} {s : List Ag} (hs : AgsR w p c s) {sought : Int} {Y : Int → Option Wy} (h : FdR s sought Y) (id : Int) : Lk64 (wy0 (Y id)).2 := by
  cases hy : Y id with
  | none => exact ⟨⟨by decide, by decide⟩, ⟨by decide, by decide⟩, ⟨by decide, by decide⟩⟩
  | some y =>
    have h1 := wk_64 hs (fdr_wk h id y hy).1
    rcases fdr_src h id y hy with e | ⟨a, ha, x, hx, e1, e2⟩
    · simp only [wy0, Option.getD_some]
      rw [e]
      exact ⟨⟨by decide, by decide⟩, ⟨by decide, by decide⟩, ⟨by decide, by decide⟩⟩
    · obtain ⟨i, hi, rfl⟩ := List.mem_iff_getElem.1 ha
      obtain ⟨_, _, _, _, _, _, _, hA, _⟩ := hs.at_ i hi
      obtain ⟨j, hj, rfl⟩ := List.mem_iff_getElem.1 hx
      obtain ⟨_, _, _, h2, _⟩ := hA.arms.at_ j hj
      simp only [wy0, Option.getD_some]
      exact ⟨h1, by rw [e1]; exact hA.id, by rw [e2]; exact h2⟩
theorem yAt_64 {Y : Int → Option Wy} {y : Wy} (h0 : Lk64 y.2) (h : ∀ id, Lk64 (wy0 (Y id)).2) : ∀ i, Lk64 (yAt Y i y).2
  | 0 => h0
  | i + 1 => h _

/-! ### a round of a chain, in memory -/
def wyC (y : Wy) : Array Value := #[.int .i64 y.1, .int .i64 y.2.waker, .int .i64 y.2.woken, .int .i64 y.2.chan]
structure CH (w wr : World) (ym nn wb cb n i : Nat) (Y : Int → Option Wy) (y : Wy) : Prop where
  bel : Below w.heap.size w wr
  map : WyM wr ym nn Y
  way : wr.heap[wb]? = some (.cells (wyC (yAt Y i y)) 57 (0, 0))
  row : ChW wr cb n i Y y
theorem CH.laid {w wr : World} {ym nn wb cb n i j : Nat} {Y : Int → Option Wy} {y : Wy} (h : CH w wr ym nn wb cb n i Y y) (hb : w.heap.size ≤ cb) (h1 : ym ≠ cb) (h2 : wb ≠ cb) (hj : n = i + 1 + j) : ∀ X, ((wr.setCell ⟨cb, j * 3, none⟩ (.int .i64 (yAt Y i y).2.waker)).setCell ⟨cb, j * 3 + 1, none⟩ (.int .i64 (yAt Y i y).2.woken)).setCell ⟨cb, j * 3 + 2, none⟩ (.int .i64 (yAt Y i y).2.chan) = X → Below w.heap.size w X ∧ WyM X ym nn Y ∧ X.heap[wb]? = some (.cells (wyC (yAt Y i y)) 57 (0, 0)) ∧ ChW X cb n (i + 1) Y y := by
  rintro X rfl
  have ho : ∀ g, g ≠ cb → (((wr.setCell ⟨cb, j * 3, none⟩ (.int .i64 (yAt Y i y).2.waker)).setCell ⟨cb, j * 3 + 1, none⟩ (.int .i64 (yAt Y i y).2.woken)).setCell ⟨cb, j * 3 + 2, none⟩ (.int .i64 (yAt Y i y).2.chan)).heap[g]? = wr.heap[g]? := fun g hg => by
    rw [Below.heap_setCell _ _ _ g hg, Below.heap_setCell _ _ _ g hg, Below.heap_setCell _ _ _ g hg]
  refine ⟨((h.bel.setCell (p := ⟨cb, j * 3, none⟩) hb _).setCell (p := ⟨cb, j * 3 + 1, none⟩) hb _).setCell (p := ⟨cb, j * 3 + 2, none⟩) hb _, MpI.same h.map (ho ym h1), (ho wb h2).trans h.way, ?_⟩
  obtain ⟨us, hu, hs, ha⟩ := h.row
  refine ⟨_, set3 hu (j * 3) _ _ _, by simp [hs], fun p h3 h4 => ?_⟩
  by_cases e : p = j
  · subst e
    rw [show n - 1 - p = i by omega]
    refine ⟨?_, ?_, ?_⟩ <;> simp only [Array.getElem?_setIfInBounds, Array.size_setIfInBounds, hs] <;> repeat (first | rw [if_pos trivial] | rw [if_pos (by omega)] | rw [if_neg (by omega)])
  · obtain ⟨q0, q1, q2⟩ := ha p (by omega) h4
    refine ⟨?_, ?_, ?_⟩ <;> simp only [Array.getElem?_setIfInBounds, Array.size_setIfInBounds, hs] <;> rw [if_neg (by omega), if_neg (by omega), if_neg (by omega)] <;> assumption
theorem CH.next {w X : World} {ym nn wb cb n i : Nat} {Y : Int → Option Wy} {y : Wy} (h : Below w.heap.size w X ∧ WyM X ym nn Y ∧ X.heap[wb]? = some (.cells (wyC (yAt Y i y)) 57 (0, 0)) ∧ ChW X cb n (i + 1) Y y) (hb : w.heap.size ≤ wb) (h1 : ym ≠ wb) (h2 : cb ≠ wb) {z : Wy} (hz : z = yAt Y (i + 1) y) : CH w ((((X.setCell ⟨wb, 0, none⟩ (.int .i64 z.1)).setCell ⟨wb, 1, none⟩ (.int .i64 z.2.waker)).setCell ⟨wb, 2, none⟩ (.int .i64 z.2.woken)).setCell ⟨wb, 3, none⟩ (.int .i64 z.2.chan)) ym nn wb cb n (i + 1) Y y := by
  subst hz
  obtain ⟨b, m, k, r⟩ := h
  have ho : ∀ (a b c d : Value) g, g ≠ wb → ((((X.setCell ⟨wb, 0, none⟩ a).setCell ⟨wb, 1, none⟩ b).setCell ⟨wb, 2, none⟩ c).setCell ⟨wb, 3, none⟩ d).heap[g]? = X.heap[g]? := fun a b c d g hg => by
    rw [Below.heap_setCell _ _ _ g hg, Below.heap_setCell _ _ _ g hg, Below.heap_setCell _ _ _ g hg, Below.heap_setCell _ _ _ g hg]
  refine ⟨(((b.setCell (p := ⟨wb, 0, none⟩) hb _).setCell (p := ⟨wb, 1, none⟩) hb _).setCell (p := ⟨wb, 2, none⟩) hb _).setCell (p := ⟨wb, 3, none⟩) hb _, MpI.same m (ho _ _ _ _ ym h1), ?_, ?_⟩
  · exact blk_set (blk_set (blk_set (blk_set k 0 _) 1 _) 2 _) 3 _
  · obtain ⟨us, hu, hs, ha⟩ := r
    exact ⟨us, (ho _ _ _ _ cb h2).trans hu, hs, ha⟩
/-- what is laid may be read -/
theorem ChW.read {X : World} {cb n : Nat} {Y : Int → Option Wy} {y : Wy} (h : ChW X cb n n Y y) (hn : n ≤ 4097) (h64 : ∀ i, Lk64 (yAt Y i y).2) : LksR X (some ⟨cb, 0, none⟩) n (chL Y n y) := by
  obtain ⟨us, hu, hs, ha⟩ := h
  have hl := (Array.getElem?_eq_some_iff.1 hu).1
  refine ⟨by simp [chL], by unfold maxLen; omega, fun i hi => ⟨cb, 0, rfl, ?_, fun Z hZ => ?_⟩⟩
  · simp only [chL, List.getElem_map, List.getElem_range]
    exact h64 _
  · have hi' : i < n := by simpa [chL] using hi
    obtain ⟨q0, q1, q2⟩ := ha i (by omega) hi'
    simp only [chL, List.getElem_map, List.getElem_range, Nat.zero_add]
    exact ⟨by rw [hZ.cell (p := ⟨cb, i * 3, none⟩) hl]; exact cell_of hu q0, by rw [hZ.cell (p := ⟨cb, i * 3 + 1, none⟩) hl]; exact cell_of hu q1, by rw [hZ.cell (p := ⟨cb, i * 3 + 2, none⟩) hl]; exact cell_of hu q2⟩
end Go.Proofs.Ytjfabholalnbeab
