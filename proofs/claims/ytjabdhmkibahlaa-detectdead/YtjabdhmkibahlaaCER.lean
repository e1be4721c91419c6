import Derived.Test.YtjabdhmkibahlaaCEO
namespace Go.Proofs.Ytjabdhmkibahlaa
open Go.RowKit Go.MapKept Go.ChangeMaps Go.WideShapes
set_option linter.unusedVariables false
set_option linter.unusedSimpArgs false

/-! ### chains -/
def yAt (Y : Int → Option Wy) : Nat → Wy → Wy
  | 0, y => y
  | i + 1, y => wy0 (Y (yAt Y i y).2.waker)
def chL (Y : Int → Option Wy) (n : Nat) (y : Wy) : List Lk := (List.range n).map fun p => (yAt Y (n - 1 - p) y).2
/-- the row of links under way: the last i are laid -/
def ChW (X : World) (cb n i : Nat) (Y : Int → Option Wy) (y : Wy) : Prop := ∃ us, X.heap[cb]? = some (.cells us 24 (0, 0)) ∧ us.size = n * 3 ∧ ∀ p, n - i ≤ p → p < n → us[p * 3]? = some (.int .i64 (yAt Y (n - 1 - p) y).2.waker) ∧ us[p * 3 + 1]? = some (.int .i64 (yAt Y (n - 1 - p) y).2.woken) ∧ us[p * 3 + 2]? = some (.int .i64 (yAt Y (n - 1 - p) y).2.chan)
theorem make_links (w : World) (n : Nat) (hn : n ≤ 2147483647) : ∃ us, us.size = n * 3 ∧ (Instr.makeSlice 36 (.int .i64 n) (.int .i64 n)).run Try.prog w = .ok (.slice (some ⟨w.heap.size, 0, none⟩) n n) (w.alloc (.cells us 24)) := by
  obtain ⟨i0, hi, hz0, hz1, hz2⟩ := info_parts infoL
  have := run_make (P := Try.prog) w 36 24 i0 (.agg #[.int .i64 0, .int .i64 0, .int .i64 0]) Try.underlying36 hi hz0 .i64 .i64 (n : Int) (n : Int) (by omega) (by omega) (by rw [hz2]; omega) (by omega)
  rw [hz1] at this
  refine ⟨madeCells (Value.agg #[.int .i64 0, .int .i64 0, .int .i64 0]).cells (n * 3), ?_, by simpa using this⟩
  simp [madeCells]
theorem ChW.start {w : World} {n : Nat} {us : Array Value} (hs : us.size = n * 3) (Y : Int → Option Wy) (y : Wy) : ChW (w.alloc (.cells us 24)) w.heap.size n 0 Y y := ⟨us, World.alloc_heap_new _ _, hs, fun p h1 h2 => by omega⟩
theorem set3 {X : World} {cb : Nat} {us : Array Value} {t : TypeId} (h : X.heap[cb]? = some (.cells us t (0, 0))) (j : Nat) (a b c : Value) : (((X.setCell ⟨cb, j, none⟩ a).setCell ⟨cb, j + 1, none⟩ b).setCell ⟨cb, j + 2, none⟩ c).heap[cb]? = some (.cells (((us.setIfInBounds j a).setIfInBounds (j + 1) b).setIfInBounds (j + 2) c) t (0, 0)) := blk_set (blk_set (blk_set h j a) (j + 1) b) (j + 2) c
end Go.Proofs.Ytjabdhmkibahlaa
namespace Go.Proofs.Ytjabdhmkibahlaa
open Go.RowKit Go.MapKept Go.ChangeMaps Go.WideShapes
set_option linter.unusedVariables false
set_option linter.unusedSimpArgs false

/-! ### where a link comes from -/
def Src (s : List Ag) (l : Lk) : Prop := l = ⟨0, 0, 0⟩ ∨ ∃ a ∈ s, ∃ x ∈ a.arms, l.woken = a.id ∧ l.chan = x.chan
theorem whoD_in (s : List Ag) (k : Int) : whoD s k = zA ∨ whoD s k ∈ s := by
  have key : ∀ (t : List Ag) (g : Int → Ag), (g k = zA ∨ g k ∈ s) → (∀ a ∈ t, a ∈ s) → t.foldl (fun f a => upd f a.id a) g k = zA ∨ t.foldl (fun f a => upd f a.id a) g k ∈ s := by
    intro t
    induction t with
    | nil => intro g h _; exact h
    | cons a r ih =>
      intro g h ha
      refine ih (upd g a.id a) ?_ (fun b hb => ha b (List.mem_cons_of_mem _ hb))
      by_cases e : k = a.id
      · subst e; rw [upd_same]; exact .inr (ha a List.mem_cons_self)
      · rw [upd_other _ _ e]; exact h
  exact key s _ (.inl rfl) (fun a h => h)
theorem n0_src {s : List Ag} {id : Int} {l : Lk} (h : N0D s id = some l) : Src s l := by
  have key : ∀ (H : Int → Option Int) (B : Hd → List Int) (t : List Ag) (O : Int → Option Lk), (∀ a ∈ t, a ∈ s) → (∀ k l, O k = some l → Src s l) → ∀ k l, t.foldl (ouStep H B) O k = some l → Src s l := by
    intro H B t
    induction t with
    | nil => intro O _ h k l; exact h k l
    | cons a r ih =>
      intro O h1 h3 k l hk
      refine ih (ouStep H B O a) (fun b hb => h1 b (List.mem_cons_of_mem _ hb)) (fun k l hk => ?_) k l hk
      unfold ouStep at hk
      cases hl : lkD a (wk1 H B a.id) with
      | none => rw [hl] at hk; exact h3 k l hk
      | some l0 =>
        rw [hl] at hk
        simp only at hk
        by_cases e : k = a.id
        · subst e
          rw [upd_same] at hk
          cases hk
          obtain ⟨x, hx, _, h4, h5⟩ := lkd_wk hl
          exact .inr ⟨a, h1 a List.mem_cons_self, x, hx, h4, h5⟩
        · rw [upd_other _ _ e] at hk; exact h3 k l hk
  exact key _ _ s _ (fun a h => h) (fun k l h => by cases h) id l h
theorem lvl_src {s : List Ag} {k : Nat} {A : Int → List Int} {Y : Int → Option Wy} {N : Int → Option Lk} (h : Lvl (whoD s) (atD s) (N0D s) k A Y N) : (∀ id l, N id = some l → Src s l) ∧ (∀ id y, Y id = some y → Src s y.2) := by
  induction h with
  | one => exact ⟨fun id l h => n0_src h, fun id y h => (by cases h)⟩
  | @step k A Y N N' ids h1 hi hp ih =>
    refine ⟨fun id l hl => ?_, fun id y hy => ?_⟩
    · obtain ⟨e, _, _⟩ := hp.no id (by rw [hl]; simp)
      rw [hl] at e
      cases e
      unfold opL lk0
      cases hk : lkD (whoD s id) (fun h => hoD (whoD s) A ids h.chan) with
      | none => exact .inl rfl
      | some l0 =>
        obtain ⟨x, hx, _, h4, h5⟩ := lkd_wk hk
        rcases whoD_in s id with e | e
        · rw [e] at hx; cases hx
        · exact .inr ⟨_, e, x, hx, h4, h5⟩
    · unfold wyN at hy
      cases hn : N id with
      | some l => rw [hn] at hy; cases hy; exact ih.1 id l hn
      | none => rw [hn] at hy; exact ih.2 id y hy
theorem fdr_src {s : List Ag} {sought : Int} {Y : Int → Option Wy} (h : FdR s sought Y) : ∀ id y, Y id = some y → Src s y.2 := fun id y hy => by
  obtain ⟨k, A, Y', N, h1, hk, _, h3⟩ := h
  obtain ⟨a1, a2⟩ := lvl_src h1
  rcases h3 with ⟨_, rfl⟩ | ⟨_, h3⟩
  · exact a2 id y hy
  · rcases h3 id with h | ⟨l, h4, h5⟩
    · rw [hy] at h
      exact a2 id y h.symm
    · rw [hy] at h5
      cases h5
      exact a1 id l h4
theorem fdr_64 {w : World} {p : Option Addr} {c : Nat} {s : List Ag} (hs : AgsR w p c s) {sought : Int} {Y : Int → Option Wy} (h : FdR s sought Y) (id : Int) : Lk64 (wy0 (Y id)).2 := by
  cases hy : Y id with
  | none => exact ⟨⟨by decide, by decide⟩, ⟨by decide, by decide⟩, ⟨by decide, by decide⟩⟩
  | some y =>
    have h1 := wk_64 hs (fdr_wk h id y hy).1
    rcases fdr_src h id y hy with e | ⟨a, ha, x, hx, e1, e2⟩
    · simp only [wy0, Option.getD_some]
      rw [e]
      exact ⟨⟨by decide, by decide⟩, ⟨by decide, by decide⟩, ⟨by decide, by decide⟩⟩
    · obtain ⟨i, hi, rfl⟩ := List.mem_iff_getElem.1 ha
      obtain ⟨_, _, _, _, _, _, _, hA, _⟩ := hs.at_ i hi
      obtain ⟨j, hj, rfl⟩ := List.mem_iff_getElem.1 hx
      obtain ⟨_, _, _, h2, _⟩ := hA.arms.at_ j hj
      simp only [wy0, Option.getD_some]
      exact ⟨h1, by rw [e1]; exact hA.id, by rw [e2]; exact h2⟩
theorem yAt_64 {Y : Int → Option Wy} {y : Wy} (h0 : Lk64 y.2) (h : ∀ id, Lk64 (wy0 (Y id)).2) : ∀ i, Lk64 (yAt Y i y).2
  | 0 => h0
  | i + 1 => h _

/-! ### a round of a chain, in memory -/
def wyC (y : Wy) : Array Value := #[.int .i64 y.1, .int .i64 y.2.waker, .int .i64 y.2.woken, .int .i64 y.2.chan]
structure CH (w wr : World) (ym nn wb cb n i : Nat) (Y : Int → Option Wy) (y : Wy) : Prop where
  bel : Below w.heap.size w wr
  map : WyM wr ym nn Y
  way : wr.heap[wb]? = some (.cells (wyC (yAt Y i y)) 83 (0, 0))
  row : ChW wr cb n i Y y
theorem CH.laid {w wr : World} {ym nn wb cb n i j : Nat} {Y : Int → Option Wy} {y : Wy} (h : CH w wr ym nn wb cb n i Y y) (hb : w.heap.size ≤ cb) (h1 : ym ≠ cb) (h2 : wb ≠ cb) (hj : n = i + 1 + j) : ∀ X, ((wr.setCell ⟨cb, j * 3, none⟩ (.int .i64 (yAt Y i y).2.waker)).setCell ⟨cb, j * 3 + 1, none⟩ (.int .i64 (yAt Y i y).2.woken)).setCell ⟨cb, j * 3 + 2, none⟩ (.int .i64 (yAt Y i y).2.chan) = X → Below w.heap.size w X ∧ WyM X ym nn Y ∧ X.heap[wb]? = some (.cells (wyC (yAt Y i y)) 83 (0, 0)) ∧ ChW X cb n (i + 1) Y y := by
  rintro X rfl
  have ho : ∀ g, g ≠ cb → (((wr.setCell ⟨cb, j * 3, none⟩ (.int .i64 (yAt Y i y).2.waker)).setCell ⟨cb, j * 3 + 1, none⟩ (.int .i64 (yAt Y i y).2.woken)).setCell ⟨cb, j * 3 + 2, none⟩ (.int .i64 (yAt Y i y).2.chan)).heap[g]? = wr.heap[g]? := fun g hg => by
    rw [Below.heap_setCell _ _ _ g hg, Below.heap_setCell _ _ _ g hg, Below.heap_setCell _ _ _ g hg]
  refine ⟨((h.bel.setCell (p := ⟨cb, j * 3, none⟩) hb _).setCell (p := ⟨cb, j * 3 + 1, none⟩) hb _).setCell (p := ⟨cb, j * 3 + 2, none⟩) hb _, MpI.same h.map (ho ym h1), (ho wb h2).trans h.way, ?_⟩
  obtain ⟨us, hu, hs, ha⟩ := h.row
  refine ⟨_, set3 hu (j * 3) _ _ _, by simp [hs], fun p h3 h4 => ?_⟩
  by_cases e : p = j
  · subst e
    rw [show n - 1 - p = i by omega]
    refine ⟨?_, ?_, ?_⟩ <;> simp only [Array.getElem?_setIfInBounds, Array.size_setIfInBounds, hs] <;> repeat (first | rw [if_pos trivial] | rw [if_pos (by omega)] | rw [if_neg (by omega)])
  · obtain ⟨q0, q1, q2⟩ := ha p (by omega) h4
    refine ⟨?_, ?_, ?_⟩ <;> simp only [Array.getElem?_setIfInBounds, Array.size_setIfInBounds, hs] <;> rw [if_neg (by omega), if_neg (by omega), if_neg (by omega)] <;> assumption
theorem CH.next {w X : World} {ym nn wb cb n i : Nat} {Y : Int → Option Wy} {y : Wy} (h : Below w.heap.size w X ∧ WyM X ym nn Y ∧ X.heap[wb]? = some (.cells (wyC (yAt Y i y)) 83 (0, 0)) ∧ ChW X cb n (i + 1) Y y) (hb : w.heap.size ≤ wb) (h1 : ym ≠ wb) (h2 : cb ≠ wb) {z : Wy} (hz : z = yAt Y (i + 1) y) : CH w ((((X.setCell ⟨wb, 0, none⟩ (.int .i64 z.1)).setCell ⟨wb, 1, none⟩ (.int .i64 z.2.waker)).setCell ⟨wb, 2, none⟩ (.int .i64 z.2.woken)).setCell ⟨wb, 3, none⟩ (.int .i64 z.2.chan)) ym nn wb cb n (i + 1) Y y := by
  subst hz
  obtain ⟨b, m, k, r⟩ := h
  have ho : ∀ (a b c d : Value) g, g ≠ wb → ((((X.setCell ⟨wb, 0, none⟩ a).setCell ⟨wb, 1, none⟩ b).setCell ⟨wb, 2, none⟩ c).setCell ⟨wb, 3, none⟩ d).heap[g]? = X.heap[g]? := fun a b c d g hg => by
    rw [Below.heap_setCell _ _ _ g hg, Below.heap_setCell _ _ _ g hg, Below.heap_setCell _ _ _ g hg, Below.heap_setCell _ _ _ g hg]
  refine ⟨(((b.setCell (p := ⟨wb, 0, none⟩) hb _).setCell (p := ⟨wb, 1, none⟩) hb _).setCell (p := ⟨wb, 2, none⟩) hb _).setCell (p := ⟨wb, 3, none⟩) hb _, MpI.same m (ho _ _ _ _ ym h1), ?_, ?_⟩
  · exact blk_set (blk_set (blk_set (blk_set k 0 _) 1 _) 2 _) 3 _
  · obtain ⟨us, hu, hs, ha⟩ := r
    exact ⟨us, (ho _ _ _ _ cb h2).trans hu, hs, ha⟩
/-- what is laid may be read -/
theorem ChW.read {X : World} {cb n : Nat} {Y : Int → Option Wy} {y : Wy} (h : ChW X cb n n Y y) (hn : n ≤ 4097) (h64 : ∀ i, Lk64 (yAt Y i y).2) : LksR X (some ⟨cb, 0, none⟩) n (chL Y n y) := by
  obtain ⟨us, hu, hs, ha⟩ := h
  have hl := (Array.getElem?_eq_some_iff.1 hu).1
  refine ⟨by simp [chL], by unfold maxLen; omega, fun i hi => ⟨cb, 0, rfl, ?_, fun Z hZ => ?_⟩⟩
  · simp only [chL, List.getElem_map, List.getElem_range]
    exact h64 _
  · have hi' : i < n := by simpa [chL] using hi
    obtain ⟨q0, q1, q2⟩ := ha i (by omega) hi'
    simp only [chL, List.getElem_map, List.getElem_range, Nat.zero_add]
    exact ⟨by rw [hZ.cell (p := ⟨cb, i * 3, none⟩) hl]; exact cell_of hu q0, by rw [hZ.cell (p := ⟨cb, i * 3 + 1, none⟩) hl]; exact cell_of hu q1, by rw [hZ.cell (p := ⟨cb, i * 3 + 2, none⟩) hl]; exact cell_of hu q2⟩
end Go.Proofs.Ytjabdhmkibahlaa
namespace Go.Proofs.Ytjabdhmkibahlaa
open Go.RowKit Go.MapKept Go.ChangeMaps Go.WideShapes
set_option linter.unusedVariables false
set_option linter.unusedSimpArgs false

/-! ### Chain -/
def ChPost (w : World) (s : List Ag) (id : Int) (e : Ending) (w' : World) : Prop := ∃ Y, FdR s id Y ∧ (Y id = none ∧ e = .returned (.tuple #[.slice none 0 0, .bool false]) ∨ ∃ (n : Nat) (l : Lk) (q : Option Addr) (d : Nat), Y id = some ((n : Int), l) ∧ 1 ≤ n ∧ n ≤ 4097 ∧ e = .returned (.tuple #[.slice q (chL Y n ((n : Int), l)).length d, .bool true]) ∧ LksR w' q d (chL Y n ((n : Int), l))) ∧ Below w.heap.size w w'
set_option maxRecDepth 100000 in
theorem Chain_no (w : World) (p : Option Addr) (c : Nat) (s : List Ag) (id : Int) (h : AgsR w p c s) (ht : totA s ≤ 2147483647) (hok : stOk s = false) : Calls Try.prog 27 #[.slice p s.length c, .int .i64 id] w fun e w' => e = .returned (.tuple #[.slice none 0 0, .bool false]) ∧ Below w.heap.size w w' := by
  have HC : Bx (Calls Try.prog 9 #[.slice p s.length c] w fun e w' => e = .returned (.int .i64 140) ∧ Below w.heap.size w w') := ⟨by
    have := Check_any w p c s h (few_of ht)
    rw [show chkI s = 140 by simp [chkI, hok]] at this
    exact this⟩
  clear h hok
  go_enter Try.func27, Try.ntmps27
  go_wp2_with (first | (go_at_call 9; refine Calls.mono HC.out ?_; rintro e w1 ⟨rfl, hb1⟩))
  exact bodyPost_ret (v := .tuple #[.slice none 0 0, .bool false]) (by simp [results, Try.results27, go_sem]) rfl ⟨rfl, hb1⟩
/-- .. in a row of one's own -/
def ChOwn (w : World) (s : List Ag) (id : Int) (e : Ending) (w' : World) : Prop := ∃ Y, FdR s id Y ∧ (Y id = none ∧ e = .returned (.tuple #[.slice none 0 0, .bool false]) ∨ ∃ (n : Nat) (l : Lk) (q : Option Addr) (d : Nat), Y id = some ((n : Int), l) ∧ 1 ≤ n ∧ n ≤ 4097 ∧ e = .returned (.tuple #[.slice q (chL Y n ((n : Int), l)).length d, .bool true]) ∧ LksR w' q d (chL Y n ((n : Int), l)) ∧ w'.ownsRow w.heap.size 24 3 (.slice q (chL Y n ((n : Int), l)).length d) (chL Y n ((n : Int), l)).length (lksC (chL Y n ((n : Int), l)))) ∧ Below w.heap.size w w'
theorem lksC_lnz (l : List Lk) : (lksC l).length = l.length * 3 := by
  induction l with
  | nil => rfl
  | cons x r ih => simp only [lksC, List.flatMap_cons, List.length_append] at ih ⊢; rw [ih]; simp [lkC]; omega
theorem ChW.own {X : World} {cb n : Nat} {Y : Int → Option Wy} {y : Wy} (h : ChW X cb n n Y y) (hn : n ≤ 4097) (B : Nat) (hB : B ≤ cb) : X.ownsRow B 24 3 (.slice (some ⟨cb, 0, none⟩) (chL Y n y).length n) (chL Y n y).length (lksC (chL Y n y)) := by
  obtain ⟨us, hu, hs, ha⟩ := h
  have hl : (chL Y n y).length = n := by simp [chL]
  rw [hl]
  refine ⟨by rw [lksC_lnz, hl], .inr ⟨cb, n, us, rfl, hB, hu, Nat.le_refl _, by unfold maxLen; omega, hs, ?_⟩⟩
  rw [List.take_of_length_le (by simp [hs])]
  refine List.ext_getElem? fun j => ?_
  by_cases hj : j < n * 3
  · have hp : j / 3 < n := by omega
    obtain ⟨q0, q1, q2⟩ := ha (j / 3) (by omega) hp
    obtain ⟨z0, z1, z2⟩ := lksC_at (chL Y n y) (j / 3) (by omega)
    have e : (chL Y n y)[j / 3]'(by omega) = (yAt Y (n - 1 - j / 3) y).2 := by simp [chL]
    rw [e] at z0 z1 z2
    have h3 : j % 3 = 0 ∨ j % 3 = 1 ∨ j % 3 = 2 := by omega
    rw [Array.getElem?_toList]
    rcases h3 with h3 | h3 | h3
    · rw [show j / 3 * 3 = j by omega] at q0 z0
      rw [q0, z0]
    · rw [show j / 3 * 3 + 1 = j by omega] at q1 z1
      rw [q1, z1]
    · rw [show j / 3 * 3 + 2 = j by omega] at q2 z2
      rw [q2, z2]
  · rw [List.getElem?_eq_none (by simp [hs]; omega), List.getElem?_eq_none (by rw [lksC_lnz, hl]; omega)]
set_option maxRecDepth 100000 in
set_option maxHeartbeats 4000000 in
theorem Chain_ob (w : World) (p : Option Addr) (c : Nat) (s : List Ag) (id : Int) (h : AgsR w p c s) (ht : totA s ≤ 2147483647) (hid : I64 id) (hok : stOk s = true) : Calls Try.prog 27 #[.slice p s.length c, .int .i64 id] w (ChOwn w s id) := by
  have hlc := h.len
  have hcm := h.max
  unfold maxLen at hcm
  have hl := st_len hok
  have HS : Bx (AgsR w p c s) := ⟨h⟩
  have HC : Bx (Calls Try.prog 9 #[.slice p s.length c] w fun e w' => e = .returned (.int .i64 0) ∧ Below w.heap.size w w') := ⟨by
    have := Check_any w p c s h (few_of ht)
    rw [show chkI s = 0 by simp [chkI, hok]] at this
    exact this⟩
  clear h hok
  go_enter Try.func27, Try.ntmps27
  go_wp2_with (first
    | (go_at_call 9; refine Calls.mono HC.out ?_; rintro e w1 ⟨rfl, hb1⟩; have B1 : Bx _ := ⟨hb1⟩; clear hb1 HC))
  go_at_call 50
  refine Calls.mono (find_any w1 p c s id (HS.out.later B1.out) hl (Nat.le_trans ht (by decide)) hid) ?_
  rintro e w2 ⟨ym, nn, Y, rfl, hY, hF, hn, hb2⟩
  have I2 : Bx (WyM w2 ym nn Y ∧ FdR s id Y ∧ Below w.heap.size w w2) := ⟨hY, hF, B1.out.trans (hb2.mono B1.out.size)⟩
  have hlk := WyM.look2 hY hid
  have h64 := fdr_64 HS.out hF
  have hwk := fdr_wk hF id
  clear hY hF hn hb2
  cases hy : Y id with
  | none =>
    rw [hy] at hlk
    have HY : Bx _ := ⟨hy⟩
    clear hwk h64 hy
    simp only [wy0, Option.getD_none, Option.isSome_none] at hlk
    go_wp2
    exact bodyPost_ret (v := .tuple #[.slice none 0 0, .bool false]) (by simp [results, Try.results27, go_sem]) rfl ⟨Y, I2.out.2.1, .inl ⟨HY.out, rfl⟩, I2.out.2.2.alloc I2.out.2.2.size _⟩
  | some y =>
    obtain ⟨_, n, hn1, hn2, hn3⟩ := hwk y hy
    obtain ⟨y1, l⟩ := y
    simp only at hn1
    subst hn1
    rw [hy] at hlk
    have H64 : Bx (∀ i, Lk64 (yAt Y i ((n : Int), l)).2) := ⟨yAt_64 (by have := h64 id; rw [hy] at this; exact this) h64⟩
    have HY : Bx _ := ⟨hy⟩
    clear hwk h64 hy
    simp only [wy0, Option.getD_some, Option.isSome_some] at hlk
    obtain ⟨X, hX⟩ : ∃ X, w2.alloc (.cells #[.int .i64 (n : Int), .int .i64 l.waker, .int .i64 l.woken, .int .i64 l.chan] 83) = X := ⟨_, rfl⟩
    obtain ⟨us, hus, hmk⟩ := make_links X n (by omega)
    have HXS : Bx (X.heap.size = w2.heap.size + 1) := ⟨by rw [← hX]; simp⟩
    have hkX : X.heap[w2.heap.size]? = some (.cells #[.int .i64 (n : Int), .int .i64 l.waker, .int .i64 l.woken, .int .i64 l.chan] 83 (0, 0)) := by rw [← hX]; exact World.alloc_heap_new _ _
    have c0 : X.cell? ⟨w2.heap.size, 0, none⟩ = some (.int .i64 (n : Int)) := cell_of hkX rfl
    have HXE : Bx (_ = X) := ⟨hX⟩
    have HU : Bx _ := ⟨hus⟩
    rw [← hX] at hmk c0
    clear hX hkX hus
    go_wp2
    have HI0 : Bx (CH w ((w2.alloc (.cells #[.int .i64 (n : Int), .int .i64 l.waker, .int .i64 l.woken, .int .i64 l.chan] 83)).alloc (.cells us 24)) ym nn w2.heap.size (w2.heap.size + 1) n 0 Y ((n : Int), l)) := ⟨by
      rw [HXE.out]
      have h1 : Below w2.heap.size w2 X := by rw [← HXE.out]; exact below1 _ _
      have h2 := below1 X (.cells us 24)
      have h3 := h1.trans (h2.mono h1.size)
      refine ⟨I2.out.2.2.trans (h3.mono I2.out.2.2.size), MpI.below I2.out.1 h3, ?_, ?_⟩
      · rw [Below.heap_alloc _ _ _ (by have := HXS.out; omega), ← HXE.out]; exact World.alloc_heap_new _ _
      · rw [← HXS.out]; exact ChW.start HU.out Y _⟩
    have hy1 : ym < w2.heap.size := MpI.lt I2.out.1
    have hw1 : w.heap.size ≤ w2.heap.size := I2.out.2.2.size
    have HF : Bx _ := ⟨I2.out.2.1⟩
    clear hlk hmk c0 HXE HXS HU I2 B1 HS
    go_loopg [10] (n + 1) (fun k v10 wr => ∃ i, k = n + 1 - i ∧ i ≤ n ∧ v10 = .int .i64 ((n : Int) - 1 - (i : Nat)) ∧ Bx (CH w wr ym nn w2.heap.size (w2.heap.size + 1) n i Y ((n : Int), l)))
    case atStart => exact ⟨0, by simp, by omega, by simp, HI0⟩
    case round =>
      obtain ⟨i, hk, hil, rfl, HR⟩ := hrel
      clear HI0
      by_cases hlt : i < n
      · obtain ⟨j, hj⟩ : ∃ j, n = i + 1 + j := ⟨n - i - 1, by omega⟩
        have e1 : (n : Int) - 1 - (i : Nat) = (j : Nat) := by omega
        rw [e1]
        have hjn : j < n := by omega
        have hjm : j ≤ 4097 := by omega
        have hwy := HR.out.way
        obtain ⟨vs, hv, hvs, _⟩ := HR.out.row
        obtain ⟨X, hX⟩ : ∃ X, ((wr.setCell ⟨w2.heap.size + 1, j * 3, none⟩ (.int .i64 (yAt Y i ((n : Int), l)).2.waker)).setCell ⟨w2.heap.size + 1, j * 3 + 1, none⟩ (.int .i64 (yAt Y i ((n : Int), l)).2.woken)).setCell ⟨w2.heap.size + 1, j * 3 + 2, none⟩ (.int .i64 (yAt Y i ((n : Int), l)).2.chan) = X := ⟨_, rfl⟩
        have HL := HR.out.laid (by omega) (by omega) (by omega) hj X hX
        have hi64 := (H64.out i).1
        have hlk := MpI.look HL.2.1 Try.underlying80 Try.zeroValue83 hi64
        have HN := CH.next HL (by omega) (by omega) (by omega) (z := wy0 (Y (yAt Y i ((n : Int), l)).2.waker)) rfl
        have HNB : Bx _ := ⟨HN⟩
        have hx := HL.2.2.1
        clear HL HN HR
        simp only [wyV] at hlk
        generalize yAt Y i ((n : Int), l) = z at *
        obtain ⟨z1, zw, zn, zc⟩ := z
        simp only [wyC] at hwy hx hlk hX HNB hi64
        generalize wy0 (Y zw) = z' at *
        have d1 : wr.cell? ⟨w2.heap.size, 1, none⟩ = some (.int .i64 zw) := cell_of hwy rfl
        have d2 : wr.cell? ⟨w2.heap.size, 2, none⟩ = some (.int .i64 zn) := cell_of hwy rfl
        have d3 : wr.cell? ⟨w2.heap.size, 3, none⟩ = some (.int .i64 zc) := cell_of hwy rfl
        obtain ⟨a0, q0⟩ : ∃ a, vs[j * 3]? = some a := ⟨_, Array.getElem?_eq_getElem (by omega)⟩
        obtain ⟨a1, q1⟩ : ∃ a, vs[j * 3 + 1]? = some a := ⟨_, Array.getElem?_eq_getElem (by omega)⟩
        obtain ⟨a2, q2⟩ : ∃ a, vs[j * 3 + 2]? = some a := ⟨_, Array.getElem?_eq_getElem (by omega)⟩
        have g0 : wr.cell? ⟨w2.heap.size + 1, j * 3, none⟩ = some a0 := cell_of hv q0
        have g1 : wr.cell? ⟨w2.heap.size + 1, j * 3 + 1, none⟩ = some a1 := cell_of hv q1
        have g2 : wr.cell? ⟨w2.heap.size + 1, j * 3 + 2, none⟩ = some a2 := cell_of hv q2
        have f0 : ∀ o, wr.frozen? ⟨w2.heap.size + 1, o, none⟩ = false := fun o => by simp [World.frozen?, hv]
        have x0 : X.cell? ⟨w2.heap.size, 0, none⟩ = some (.int .i64 z1) := cell_of hx rfl
        have x1 : X.cell? ⟨w2.heap.size, 1, none⟩ = some (.int .i64 zw) := cell_of hx rfl
        have x2 : X.cell? ⟨w2.heap.size, 2, none⟩ = some (.int .i64 zn) := cell_of hx rfl
        have x3 : X.cell? ⟨w2.heap.size, 3, none⟩ = some (.int .i64 zc) := cell_of hx rfl
        have f1 : ∀ o, X.frozen? ⟨w2.heap.size, o, none⟩ = false := fun o => by simp [World.frozen?, hx]
        have HXE : Bx (_ = X) := ⟨hX⟩
        rw [← hX] at x0 x1 x2 x3 f1 hlk
        clear hX hwy hx hv hvs q0 q1 q2
        go_wp2
        rw [HXE.out]
        go_roundg (n + 1 - (i + 1))
        case measure => omega
        case rel => exact ⟨i + 1, rfl, by omega, by congr 1; omega, HNB⟩
      · have hie : i = n := by omega
        subst hie
        have e1 : (i : Int) - 1 - (i : Nat) = -1 := by omega
        rw [e1]
        have HQ : Bx (LksR wr (some ⟨w2.heap.size + 1, 0, none⟩) i (chL Y i ((i : Int), l))) := ⟨HR.out.row.read hn3 H64.out⟩
        have HOW : Bx _ := ⟨HR.out.row.own hn3 w.heap.size (by omega)⟩
        have HB : Bx _ := ⟨HR.out.bel⟩
        have HLN : Bx ((chL Y i ((i : Int), l)).length = i) := ⟨by simp [chL]⟩
        clear HR
        go_wp2
        exact bodyPost_ret (v := .tuple #[.slice (some ⟨w2.heap.size + 1, 0, none⟩) i i, .bool true]) (by simp [results, Try.results27, go_sem]) rfl ⟨Y, HF.out, .inr ⟨i, l, some ⟨w2.heap.size + 1, 0, none⟩, i, HY.out, hn2, hn3, by rw [HLN.out], HQ.out, HOW.out⟩, HB.out⟩
theorem Chain_yes (w : World) (p : Option Addr) (c : Nat) (s : List Ag) (id : Int) (h : AgsR w p c s) (ht : totA s ≤ 2147483647) (hid : I64 id) (hok : stOk s = true) : Calls Try.prog 27 #[.slice p s.length c, .int .i64 id] w (ChPost w s id) := (Chain_ob w p c s id h ht hid hok).mono fun e w' ⟨Y, h1, h2, h3⟩ => ⟨Y, h1, h2.imp (fun q => q) fun ⟨n, l, q, d, g1, g2, g3, g4, g5, _⟩ => ⟨n, l, q, d, g1, g2, g3, g4, g5⟩, h3⟩
end Go.Proofs.Ytjabdhmkibahlaa
namespace Go.Proofs.Ytjabdhmkibahlaa
open Go.RowKit Go.MapKept Go.ChangeMaps Go.WideShapes
set_option linter.unusedVariables false
set_option linter.unusedSimpArgs false

/-! ### levels, in plain words -/
theorem ids_none {N : Int → Option Lk} {ids : List Int} (hi : IdsOf N ids) (h : ∀ id, N id = none) : ids = [] := by
  cases ids with
  | nil => rfl
  | cons x r => have := (hi.2 x).1 List.mem_cons_self; rw [h x] at this; cases this
theorem lvl_none {f : Int → Ag} {A0 : Int → List Int} {N0 : Int → Option Lk} (h0 : ∀ id, N0 id = none) {k : Nat} {A : Int → List Int} {Y : Int → Option Wy} {N : Int → Option Lk} (h : Lvl f A0 N0 k A Y N) : (∀ id, N id = none) ∧ ∀ id, Y id = none := by
  induction h with
  | one => exact ⟨h0, fun _ => rfl⟩
  | @step k A Y N N' ids h1 hi hp ih =>
    have e := ids_none hi ih.1
    subst e
    refine ⟨fun id => ?_, fun id => ?_⟩
    · cases hn : N' id with
      | none => rfl
      | some l =>
        obtain ⟨_, _, c, hc, _⟩ := hp.no id (by rw [hn]; simp)
        cases hc
    · unfold wyN; rw [ih.1 id]; exact ih.2 id
theorem lvl_first {f : Int → Ag} {A0 : Int → List Int} {N0 : Int → Option Lk} {k : Nat} {A : Int → List Int} {Y : Int → Option Wy} {N : Int → Option Lk} (h : Lvl f A0 N0 k A Y N) {id : Int} {l : Lk} (h0 : N0 id = some l) : (k = 1 ∧ N = N0 ∧ Y id = none) ∨ (Y id = some (1, l) ∧ N id = none) := by
  have stop : ∀ {k : Nat} {A : Int → List Int} {Y : Int → Option Wy} {N N' : Int → Option Lk} {L : Int → Lk} {d : Int → Bool}, OpO A (fun i => (wyN k Y N i).isSome) L d N' → (wyN k Y N id).isSome = true → N' id = none := fun {k A Y N N' L d} hp h => by
    cases hn : N' id with
    | none => rfl
    | some l =>
      obtain ⟨_, h2, _⟩ := hp.no id (by rw [hn]; simp)
      rw [h] at h2
      cases h2
  induction h with
  | one => exact .inl ⟨rfl, rfl, rfl⟩
  | @step k A Y N N' ids h1 hi hp ih =>
    rcases ih with ⟨e1, e2, e3⟩ | ⟨e1, e2⟩
    · subst e1 e2
      have : wyN ((1 : Nat) : Int) Y N id = some (1, l) := by unfold wyN; rw [h0]; rfl
      exact .inr ⟨this, stop hp (by rw [this]; rfl)⟩
    · have : wyN (k : Int) Y N id = some (1, l) := by unfold wyN; rw [e2]; exact e1
      exact .inr ⟨this, stop hp (by rw [this]; rfl)⟩

/-! ### the example -/
def exA : List Ag := [⟨0, false, [⟨3, false⟩], [3]⟩]
def exB : List Ag := [⟨0, false, [⟨3, false⟩], [3]⟩, ⟨1, true, [], [3]⟩]
theorem exA_ok : stOk exA = true := by decide
theorem exB_ok : stOk exB = true := by decide
theorem exA_n0 (id : Int) : N0D exA id = none := by
  cases h : N0D exA id with
  | none => rfl
  | some l =>
    have h2 : id ∈ exA.map (·.id) := ou_mem _ _ exA id (by show N0D exA id ≠ none; rw [h]; simp)
    simp only [exA, List.map_cons, List.map_nil, List.mem_singleton] at h2
    subst h2
    have : N0D exA 0 = none := by rfl
    rw [this] at h
    cases h
theorem exB_n0 : N0D exB 0 = some ⟨1, 0, 3⟩ := by rfl
theorem exA_dead {Y : Int → Option Wy} (h : Full exA Y) : ddL Y exA = [0] := by
  obtain ⟨k, A, N, h1, _⟩ := h
  have := (lvl_none exA_n0 h1).2 0
  simp [ddL, ddA, exA, this]
theorem exB_dead {Y : Int → Option Wy} (h : Full exB Y) : ddL Y exB = [] := by
  obtain ⟨k, A, N, h1, h2⟩ := h
  rcases lvl_first h1 exB_n0 with ⟨_, e, _⟩ | ⟨e, _⟩
  · have := h2 0
    rw [e, exB_n0] at this
    cases this
  · simp [ddL, ddA, exB, e]
theorem exB_chain {Y : Int → Option Wy} (h : FdR exB 0 Y) : Y 0 = some (1, ⟨1, 0, 3⟩) := by
  obtain ⟨k, A, Y', N, h1, _, h2, h3⟩ := h
  rcases lvl_first h1 exB_n0 with ⟨rfl, e, _⟩ | ⟨e, _⟩
  · rcases h3 with ⟨h3, _⟩ | ⟨⟨l, h3, h4⟩, _⟩
    · have := h3 0
      rw [e, exB_n0] at this
      cases this
    · rw [e, exB_n0] at h3
      cases h3
      exact h4
  · rw [h2] at e
    cases e
end Go.Proofs.Ytjabdhmkibahlaa
