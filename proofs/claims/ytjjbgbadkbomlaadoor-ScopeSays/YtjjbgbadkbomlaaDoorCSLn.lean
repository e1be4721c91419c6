import Derived.Test.YtjjbgbadkbomlaaDoorCSU
import Derived.Deep.AppendLies
namespace Go.Proofs.YtjjbgbadkbomlaaDoor
open Go.RowKit
set_option linter.unusedVariables false
set_option linter.unusedSimpArgs false

/-- a node's cells -/
def ndq (n : Nd) (kv : Value) : Nat → Value
  | 0 => .int .i64 n.kind
  | 1 => .int .i64 n.pos
  | 2 => kv
  | 3 => .string n.name
  | _ => .int .i64 n.num
def kdv (n : Nd) (kb kc : Nat) : Value := .slice (some ⟨kb, 0, none⟩) n.kids.length kc
/-- nodes of one's own: a block for the nodes, and one for the kids of each -/
structure LN (W : World) (ab N : Nat) (f : Nat → Nd) (kb kc : Nat → Nat) : Prop where
  blk : ∃ C : Array Value, W.heap[ab]? = some (.cells C 36 (0, 0)) ∧ ∀ j, j < N → ∀ q, q < 5 → C[j * 5 + q]? = some (ndq (f j) (kdv (f j) (kb j) (kc j)) q)
  kid : ∀ j, j < N → kb j ≠ ab ∧ (f j).kids.length ≤ kc j ∧ ∃ D : Array Value, W.heap[kb j]? = some (.cells D 3 (0, 0)) ∧ ∀ i (h : i < (f j).kids.length), D[i]? = some (.int .i64 (f j).kids[i])
def lst (N : Nat) (f : Nat → Nd) : List Nd := (List.range N).map f
theorem lst_len (N : Nat) (f : Nat → Nd) : (lst N f).length = N := by simp [lst]
theorem lst_nd {N : Nat} (f : Nat → Nd) {j : Nat} (h : j < N) : ndN (lst N f) j = f j := by
  unfold ndN lst
  rw [List.getD_eq_getElem?_getD, List.getElem?_map, List.getElem?_range h]
  rfl
theorem lst_no {N : Nat} (f : Nat → Nd) {j : Nat} (h : N ≤ j) : ndN (lst N f) j = nd0 := by
  unfold ndN lst
  rw [List.getD_eq_getElem?_getD, List.getElem?_eq_none (by simpa using h)]
  rfl
theorem nd_no {l : List Nd} {j : Nat} (h : l.length ≤ j) : ndN l j = nd0 := by
  unfold ndN
  rw [List.getD_eq_getElem?_getD, List.getElem?_eq_none h]
  rfl
theorem lst_self (l : List Nd) : lst l.length (ndN l) = l := by
  apply List.ext_getElem?
  intro j
  unfold lst
  rw [List.getElem?_map]
  by_cases h : j < l.length
  · rw [List.getElem?_range h, List.getElem?_eq_getElem h]
    simp [ndN, List.getD_eq_getElem?_getD, h]
  · rw [List.getElem?_eq_none (by simpa using h), List.getElem?_eq_none (by omega)]
    rfl
section
variable {W W' : World} {ab N : Nat} {f : Nat → Nd} {kb kc : Nat → Nat}
theorem LN.lt (h : LN W ab N f kb kc) : ab < W.heap.size := by
  obtain ⟨C, h1, _⟩ := h.blk
  exact (Array.getElem?_eq_some_iff.1 h1).1
theorem LN.cell (h : LN W ab N f kb kc) {j q : Nat} (hj : j < N) (hq : q < 5) : W.cell? ⟨ab, j * 5 + q, none⟩ = some (ndq (f j) (kdv (f j) (kb j) (kc j)) q) := by
  obtain ⟨C, h1, h2⟩ := h.blk
  rw [cell_of_row W ab _ C _ (0, 0) h1]
  exact h2 j hj q hq
theorem LN.frozen (h : LN W ab N f kb kc) (i : Nat) : W.frozen? ⟨ab, i, none⟩ = false := by
  obtain ⟨C, h1, h2⟩ := h.blk
  simp [World.frozen?, h1]
theorem LN.below (h : LN W ab N f kb kc) (hb : Below W.heap.size W W') : LN W' ab N f kb kc := by
  obtain ⟨C, h1, h2⟩ := h.blk
  refine ⟨⟨C, by rw [hb.block _ h.lt]; exact h1, h2⟩, fun j hj => ?_⟩
  obtain ⟨a, b, D, d1, d2⟩ := h.kid j hj
  exact ⟨a, b, D, by rw [hb.block _ (Array.getElem?_eq_some_iff.1 d1).1]; exact d1, d2⟩
theorem LN.same (h : LN W ab N f kb kc) (hs : W'.heap = W.heap) : LN W' ab N f kb kc := by
  obtain ⟨C, h1, h2⟩ := h.blk
  refine ⟨⟨C, by rw [hs]; exact h1, h2⟩, fun j hj => ?_⟩
  obtain ⟨a, b, D, d1, d2⟩ := h.kid j hj
  exact ⟨a, b, D, by rw [hs]; exact d1, d2⟩
/-- a cell is written over -/
theorem LN.put (h : LN W ab N f kb kc) {i q : Nat} (hi : i < N) (hq : q < 5) (n : Nd) (v : Value) (hk : n.kids = (f i).kids) (ho : ∀ p, p < 5 → p ≠ q → ndq n (kdv n (kb i) (kc i)) p = ndq (f i) (kdv (f i) (kb i) (kc i)) p) (hv : ndq n (kdv n (kb i) (kc i)) q = v) :
    LN (W.setCell ⟨ab, i * 5 + q, none⟩ v) ab N (upd f i n) kb kc := by
  obtain ⟨C, h1, h2⟩ := h.blk
  refine ⟨⟨C.setIfInBounds (i * 5 + q) v, heap_setCell_same W ab (i * 5 + q) _ _ _ h1, fun j hj p hp => ?_⟩, fun j hj => ?_⟩
  · rw [Array.getElem?_setIfInBounds]
    by_cases e : j = i
    · subst e
      rw [upd_same]
      by_cases e2 : p = q
      · subst e2
        have hlt : j * 5 + p < C.size := (Array.getElem?_eq_some_iff.1 (h2 j hj p hp)).1
        rw [if_pos rfl, if_pos hlt, hv]
      · rw [if_neg (by omega), ho p hp e2]
        exact h2 j hj p hp
    · rw [if_neg (by omega), upd_other e]
      exact h2 j hj p hp
  · obtain ⟨a, b, D, d1, d2⟩ := h.kid j hj
    have d1' : (W.setCell ⟨ab, i * 5 + q, none⟩ v).heap[kb j]? = some (.cells D 3 (0, 0)) := by
      rw [heap_setCell_other _ _ (kb j) _ a]
      exact d1
    by_cases e : j = i
    · subst e
      rw [upd_same]
      refine ⟨a, by rw [hk]; exact b, D, d1', fun i h => ?_⟩
      have e2 : n.kids[i] = (f j).kids[i]'(by rw [← hk]; exact h) := by simp [hk]
      rw [e2]
      exact d2 i _
    · rw [upd_other e]
      exact ⟨a, b, D, d1', d2⟩
theorem LN.pos (h : LN W ab N f kb kc) {i : Nat} (hi : i < N) (x : Int) : LN (W.setCell ⟨ab, i * 5 + 1, none⟩ (.int .i64 x)) ab N (upd f i { f i with pos := x }) kb kc :=
  h.put hi (by omega) _ _ rfl (fun p hp hne => by match p, hp with | 0, _ => rfl | 1, _ => exact absurd rfl hne | 2, _ => rfl | 3, _ => rfl | 4, _ => rfl) rfl
theorem LN.name (h : LN W ab N f kb kc) {i : Nat} (hi : i < N) (x : ByteArray) : LN (W.setCell ⟨ab, i * 5 + 3, none⟩ (.string x)) ab N (upd f i { f i with name := x }) kb kc :=
  h.put hi (by omega) _ _ rfl (fun p hp hne => by match p, hp with | 0, _ => rfl | 1, _ => rfl | 2, _ => rfl | 3, _ => exact absurd rfl hne | 4, _ => rfl) rfl
theorem LN.num (h : LN W ab N f kb kc) {i : Nat} (hi : i < N) (x : Int) : LN (W.setCell ⟨ab, i * 5 + 4, none⟩ (.int .i64 x)) ab N (upd f i { f i with num := x }) kb kc :=
  h.put hi (by omega) _ _ rfl (fun p hp hne => by match p, hp with | 0, _ => rfl | 1, _ => rfl | 2, _ => rfl | 3, _ => rfl | 4, _ => exact absurd rfl hne) rfl
theorem LN.nodes (h : LN W ab N f kb kc) {nc : Nat} (hwf : ∀ j, j < N → NdWf (f j)) (hm : ∀ j, j < N → (f j).kids.length ≤ maxLen) (hN : N ≤ maxLen) (hc : N ≤ nc) : Nodes W W.heap.size ab 0 nc (lst N f) := by
  refine ⟨fun j hj => ?_, fun j hj => ?_, h.lt, Nat.le_refl _, by rw [lst_len]; exact hN, by rw [lst_len]; exact hc⟩
  · rw [lst_len] at hj
    rw [lst_nd f hj, Nat.zero_add]
    obtain ⟨a, b, D, d1, d2⟩ := h.kid j hj
    refine ⟨some ⟨kb j, 0, none⟩, kc j, h.cell hj (q := 0) (by omega), h.cell hj (q := 1) (by omega), h.cell hj (q := 2) (by omega), h.cell hj (q := 3) (by omega), h.cell hj (q := 4) (by omega), ⟨_, _, rfl, b, hm j hj, fun _ => ⟨kb j, 0, rfl, (Array.getElem?_eq_some_iff.1 d1).1, fun i hi => ?_⟩⟩⟩
    rw [Nat.zero_add, cell_of_row W (kb j) i D _ (0, 0) d1]
    exact d2 i hi
  · rw [lst_len] at hj
    rw [lst_nd f hj]
    exact hwf j hj
theorem LN.as (h : LN W ab N f kb kc) {g : Nat → Nd} (hg : ∀ j, j < N → g j = f j) : LN W ab N g kb kc := by
  obtain ⟨C, h1, h2⟩ := h.blk
  exact ⟨⟨C, h1, fun j hj q hq => by rw [hg j hj]; exact h2 j hj q hq⟩, fun j hj => by rw [hg j hj]; exact h.kid j hj⟩
end
/-! ### lend, in its midst -/
def nd5 (n : Nd) (kb kc : Nat) : List Value := [.int .i64 n.kind, .int .i64 n.pos, kdv n kb kc, .string n.name, .int .i64 n.num]
def ndsF (f : Nat → Nd) (kb kc : Nat → Nat) (i : Nat) : List Value := ((List.range i).map fun j => nd5 (f j) (kb j) (kc j)).flatten
theorem ndsF_succ (f : Nat → Nd) (kb kc : Nat → Nat) (i : Nat) : ndsF f kb kc (i + 1) = ndsF f kb kc i ++ nd5 (f i) (kb i) (kc i) := by
  simp [ndsF, List.range_succ]
theorem ndsF_congr {f : Nat → Nd} {kb kc kb' kc' : Nat → Nat} {i : Nat} (h : ∀ j, j < i → kb' j = kb j ∧ kc' j = kc j) : ndsF f kb' kc' i = ndsF f kb kc i := by
  unfold ndsF
  congr 1
  apply List.map_congr_left
  intro j hj
  rw [List.mem_range] at hj
  rw [(h j hj).1, (h j hj).2]
theorem ndsF_len (f : Nat → Nd) (kb kc : Nat → Nat) : ∀ i, (ndsF f kb kc i).length = i * 5
  | 0 => rfl
  | i + 1 => by rw [ndsF_succ, List.length_append, ndsF_len f kb kc i]; simp [nd5]; omega
theorem ndsF_at (f : Nat → Nd) (kb kc : Nat → Nat) {i j q : Nat} (hj : j < i) (hq : q < 5) : (ndsF f kb kc i)[j * 5 + q]? = some (ndq (f j) (kdv (f j) (kb j) (kc j)) q) := by
  induction i with
  | zero => omega
  | succ i ih =>
    rw [ndsF_succ]
    have hl := ndsF_len f kb kc i
    by_cases e : j < i
    · rw [List.getElem?_append_left (by omega)]
      exact ih e
    · have : j = i := by omega
      subst this
      rw [List.getElem?_append_right (by omega), hl, show j * 5 + q - j * 5 = q by omega]
      match q, hq with
      | 0, _ => rfl
      | 1, _ => rfl
      | 2, _ => rfl
      | 3, _ => rfl
      | 4, _ => rfl
def kidX (n : Nd) : List Int := n.kids ++ [-77, -78]
def fullV (n : Nd) (kb kc : Nat) : Value := .slice (some ⟨kb, 0, none⟩) (n.kids.length + 2) kc
structure LS (w wr : World) (B : Nat) (f : Nat → Nd) (i : Nat) (av bv : Value) (kb kc : Nat → Nat) : Prop where
  bel : Below w.heap.size w wr
  all : wr.ownsRow B 36 5 av i (ndsF f kb kc i)
  ks : wr.ownsRow B 25 1 bv i ((List.range i).map fun j => fullV (f j) (kb j) (kc j))
  ne : ∀ g, av.ownBlock = some g → bv.ownBlock = some g → False
  kid : ∀ j, j < i → av.ownBlock ≠ some (kb j) ∧ bv.ownBlock ≠ some (kb j) ∧ B ≤ kb j ∧ (f j).kids.length + 2 ≤ kc j ∧ ∃ D : Array Value, wr.heap[kb j]? = some (.cells D 3 (0, 0)) ∧ ∀ i (h : i < (kidX (f j)).length), D[i]? = some (.int .i64 (kidX (f j))[i])
theorem LS.ln {w wr : World} {B : Nat} {f : Nat → Nd} {i : Nat} {av bv : Value} {kb kc : Nat → Nat} (h : LS w wr B f i av bv kb kc) (hi : 0 < i) : ∃ ab cap, av = .slice (some ⟨ab, 0, none⟩) i cap ∧ i ≤ cap ∧ LN wr ab i f kb kc := by
  obtain ⟨h1, h2⟩ := h.all
  rcases h2 with ⟨_, h2⟩ | ⟨g, cap, cur, hv, hb, hg, hc, hm, hs, ht⟩
  · omega
  · refine ⟨g, cap, hv, hc, ⟨⟨cur, hg, fun j hj q hq => ?_⟩, fun j hj => ?_⟩⟩
    · have := ndsF_at f kb kc hj hq
      rw [← ht, List.getElem?_take, if_pos (by omega)] at this
      rw [← Array.getElem?_toList]
      exact this
    · obtain ⟨a1, a2, a3, a4, D, a5, a6⟩ := h.kid j hj
      refine ⟨fun e => a1 (by rw [hv, e]; rfl), by omega, D, a5, fun i hi => ?_⟩
      have := a6 i (by unfold kidX; simp; omega)
      rw [this]
      unfold kidX
      rw [List.getElem_append_left hi]
end Go.Proofs.YtjjbgbadkbomlaaDoor
namespace Go.Proofs.YtjjbgbadkbomlaaDoor
open Go.RowKit
set_option linter.unusedVariables false
set_option linter.unusedSimpArgs false

theorem infoNd5 : (Tryd.prog.info? 36).map (fun i => (i.zero, i.size, i.bytes)) = some (some (.agg #[.int .i64 0, .int .i64 0, .slice none 0 0, .string ⟨#[]⟩, .int .i64 0]), 5, 64) := by kernel_rfl
theorem infoIs : (Tryd.prog.info? 25).map (fun i => (i.zero, i.size, i.bytes)) = some (some (.slice none 0 0), 1, 24) := by kernel_rfl
theorem ints_cells' {w : World} {B : Nat} {a : Option Addr} {n c : Nat} {xs : List Int} (h : IntsV w B (.slice a n c) xs) (h0 : 0 < xs.length) : ∃ b o, a = some ⟨b, o, none⟩ ∧ b < B ∧ n ≤ c ∧ ∀ i (hi : i < xs.length), w.cell? ⟨b, o + i, none⟩ = some (.int .i64 xs[i]) := by
  obtain ⟨a', c', e, h1, h2, h3⟩ := h.ex
  simp only [Value.slice.injEq] at e
  obtain ⟨rfl, rfl, rfl⟩ := e
  obtain ⟨b, o, e, hb, hc⟩ := h3 h0
  exact ⟨b, o, e, hb, h1, hc⟩
theorem IntsV.mono' {w : World} {B B' : Nat} {v : Value} {ks : List Int} (h : IntsV w B v ks) (hB : B ≤ B') : IntsV w B' v ks := by
  obtain ⟨a, cap, e, h1, h2, h3⟩ := h.ex
  refine ⟨a, cap, e, h1, h2, fun h0 => ?_⟩
  obtain ⟨b, o, e2, hb, hc⟩ := h3 h0
  exact ⟨b, o, e2, by omega, hc⟩
/-- numbers behind none, in a row of one's own -/
theorem app_ints (W : World) (g0 B : Nat) (ka : Option Addr) (kc : Nat) (ks : List Int) (hg : W.heap[g0]? = some (.cells #[] 3 (0, 0))) (hi : IntsV W B (.slice ka ks.length kc) ks) (hl : ks.length ≤ 2147483647) :
    ∃ g c W3, (∀ ty, (Builtin.append_ #[25, 25] ty #[.slice (some ⟨g0, 0, none⟩) 0 0, .slice ka ks.length kc]).run Tryd.prog W = .ok (.slice (some ⟨g, 0, none⟩) ks.length c) W3) ∧ W3.ownsRow g0 3 1 (.slice (some ⟨g, 0, none⟩) ks.length c) ks.length (intsC ks) ∧ W.grownBy W3 (some g0) ∧ (g0 = g ∨ g = W.heap.size) ∧ g < W3.heap.size := by
  obtain ⟨i0, hi0, hz0, hz1, hz2⟩ := info_parts info3
  have hg0 : g0 < W.heap.size := (Array.getElem?_eq_some_iff.1 hg).1
  have hown : W.ownsRow g0 3 1 (.slice (some ⟨g0, 0, none⟩) 0 0) 0 [] := ⟨rfl, .inr ⟨g0, 0, #[], rfl, Nat.le_refl _, hg, Nat.le_refl _, by simp [maxLen], rfl, rfl⟩⟩
  by_cases h0 : 0 < ks.length
  · obtain ⟨b, o, rfl, hb, hnc, hc⟩ := ints_cells' hi h0
    obtain ⟨g, c, W3, r1, r2, r3, r4, r5⟩ := run_append_lies (P := Tryd.prog) W 25 3 g0 3 i0 (.int .i64 0) 1 8 Tryd.underlying25 hi0 hz0 hz1 hz2 rfl (by decide) _ _ _ hown ⟨b, o, none⟩ ks.length kc (intsC ks) (by simp [intsC]) (by
      intro j u hu
      have hj : j < ks.length := by
        rcases Nat.lt_or_ge j ks.length with e | e
        · exact e
        · rw [List.getElem?_eq_none (by simp [intsC]; exact e)] at hu; cases hu
      have ha : (⟨b, o, none⟩ : Addr).add j = ⟨b, o + j, none⟩ := by unfold Addr.add; split <;> simp_all
      rw [ha, hc j hj]
      simpa [intsC, hj] using hu) (by
      intro u hu
      unfold intsC at hu
      rw [List.mem_map] at hu
      obtain ⟨x, _, rfl⟩ := hu
      rfl) h0 (by unfold maxLen; omega) (by omega) (by omega) W.heap.size rfl
    rw [Nat.zero_add] at r1 r2
    refine ⟨g, c, W3, fun ty => r1, by simpa using r2, r3, ?_, r5⟩
    rcases r4 with e | e
    · left; simpa [Value.ownBlock] using e
    · exact .inr e
  · have hx : ks = [] := List.eq_nil_of_length_eq_zero (by omega)
    subst hx
    refine ⟨g0, 0, W, fun ty => ?_, hown, ⟨rfl, rfl, rfl, Nat.le_refl _, fun _ _ _ => rfl⟩, .inl rfl, hg0⟩
    have hu : (Tryd.prog.underlying 25) = some (.slice 3) := Tryd.underlying25
    cases ka with
    | none => simp [Builtin.append_, run_underlying hu, sizeOf, typeInfo, hi0, Builtin.lenOf, Builtin.firstCells, storeCells]
    | some a => simp [Builtin.append_, run_underlying hu, sizeOf, typeInfo, hi0, Builtin.lenOf, Builtin.firstCells, storeCells, loadCells, loadCellsFrom]
/-- in the midst of lend -/
structure LI (w wr : World) (f : Nat → Nd) (i : Nat) (av bv : Value) (kb kc : Nat → Nat) : Prop where
  ls : LS w wr (w.heap.size + 2) f i av bv kb kc
  rb : wr.heap[w.heap.size]? = some (.cells #[.slice none 0 0, .slice none 0 0] 40 (0, 0))
  xb : wr.heap[w.heap.size + 1]? = some (.cells #[av, bv] 40 (0, 0))
theorem grown_bel {B : Nat} {w0 w w' : World} {row : Option Nat} (hb : Below B w0 w) (hg : w.grownBy w' row) (hs : B ≤ w.heap.size) (hr : ∀ k, row = some k → B ≤ k) : Below B w0 w' :=
  hb.trans ⟨hg.os, hg.tape, hg.output, hg.size, fun k hk => hg.block k (by omega) fun e => by have := hr k e.symm; omega⟩
theorem two_news (X : World) (x y : Value) (t : TypeId) : ∀ (j : Nat) (u : Value), [x, y][j]? = some u → (X.alloc (.cells #[x, y] t)).cell? ((⟨X.heap.size, 0, none⟩ : Addr).add j) = some u :=
  World.news_of_block (cs := #[x, y]) (heap_alloc_new X _)
theorem one_news (X : World) (x : Value) (t : TypeId) : ∀ (j : Nat) (u : Value), [x][j]? = some u → (X.alloc (.cells #[x] t)).cell? ((⟨X.heap.size, 0, none⟩ : Addr).add j) = some u :=
  World.news_of_block (cs := #[x]) (heap_alloc_new X _)
theorem five_news (X : World) (a b c d e : Value) (t : TypeId) : ∀ (j : Nat) (u : Value), [a, b, c, d, e][j]? = some u → (X.alloc (.cells #[a, b, c, d, e] t)).cell? ((⟨X.heap.size, 0, none⟩ : Addr).add j) = some u :=
  World.news_of_block (cs := #[a, b, c, d, e]) (heap_alloc_new X _)
/-- the first half of a round: a copy of the node, and one of its kids -/
theorem lend_half {wr : World} (n : Nd) (ka : Option Addr) (kc0 : Nat) (hk : IntsV wr wr.heap.size (.slice ka n.kids.length kc0) n.kids) (hl : n.kids.length ≤ 2147483647) :
    ∃ g1 c1 W3, (∀ ty, (Builtin.append_ #[25, 25] ty #[.slice (some ⟨wr.heap.size + 1, 0, none⟩) 0 0, .slice ka n.kids.length kc0]).run Tryd.prog ((wr.alloc (.cells #[.int .i64 n.kind, .int .i64 n.pos, .slice ka n.kids.length kc0, .string n.name, .int .i64 n.num] 36)).alloc (.cells #[] 3)) = .ok (.slice (some ⟨g1, 0, none⟩) n.kids.length c1) W3) ∧
    ∃ g2 c2 W5, (∀ ty, (Builtin.append_ #[25, 25] ty #[.slice (some ⟨g1, 0, none⟩) n.kids.length c1, .slice (some ⟨W3.heap.size, 0, none⟩) 2 2]).run Tryd.prog (W3.alloc (.cells #[.int .i64 (-77), .int .i64 (-78)] 3)) = .ok (.slice (some ⟨g2, 0, none⟩) (n.kids.length + 2) c2) W5) ∧
    W5.heap[wr.heap.size]? = some (.cells #[.int .i64 n.kind, .int .i64 n.pos, .slice ka n.kids.length kc0, .string n.name, .int .i64 n.num] 36 (0, 0)) ∧ Below wr.heap.size wr W5 ∧ wr.heap.size < g2 ∧ n.kids.length + 2 ≤ c2 ∧ ∃ D : Array Value, W5.heap[g2]? = some (.cells D 3 (0, 0)) ∧ ∀ i (h : i < (kidX n).length), D[i]? = some (.int .i64 (kidX n)[i]) := by
  obtain ⟨i0, hi0, hz0, hz1, hz2⟩ := info_parts info3
  generalize hW2 : (wr.alloc (.cells #[.int .i64 n.kind, .int .i64 n.pos, .slice ka n.kids.length kc0, .string n.name, .int .i64 n.num] 36)).alloc (.cells #[] 3) = W2
  have s2 : W2.heap.size = wr.heap.size + 2 := by rw [← hW2]; simp
  have b2 : Below wr.heap.size wr W2 := by rw [← hW2]; exact ((Below.refl _ _).alloc (Nat.le_refl _) _).alloc (by simp) _
  have n2 : W2.heap[wr.heap.size]? = some (.cells #[.int .i64 n.kind, .int .i64 n.pos, .slice ka n.kids.length kc0, .string n.name, .int .i64 n.num] 36 (0, 0)) := by
    rw [← hW2, (below1 (wr.alloc (.cells #[.int .i64 n.kind, .int .i64 n.pos, .slice ka n.kids.length kc0, .string n.name, .int .i64 n.num] 36)) _).block _ (by simp)]
    exact heap_alloc_new wr _
  have e2 : W2.heap[wr.heap.size + 1]? = some (.cells #[] 3 (0, 0)) := by
    rw [← hW2]
    simpa using heap_alloc_new (wr.alloc (.cells #[.int .i64 n.kind, .int .i64 n.pos, .slice ka n.kids.length kc0, .string n.name, .int .i64 n.num] 36)) (.cells #[] 3)
  obtain ⟨g1, c1, W3, r1, o1, gr1, at1, lt1⟩ := app_ints W2 (wr.heap.size + 1) wr.heap.size ka kc0 n.kids e2 (hk.below b2) (by omega)
  have b3 : Below (wr.heap.size + 1) W2 W3 := grown_bel (Below.refl _ _) gr1 (by omega) (fun k hk => by cases hk; exact Nat.le_refl _)
  have s3 := b3.size
  have o1' : (W3.alloc (.cells #[.int .i64 (-77), .int .i64 (-78)] 3)).ownsRow (wr.heap.size + 1) 3 1 (.slice (some ⟨g1, 0, none⟩) n.kids.length c1) n.kids.length (intsC n.kids) := o1.alloc _
  obtain ⟨g2, c2, W5, r2, o2, gr2, at2, lt2⟩ := run_append_lies (P := Tryd.prog) (W3.alloc (.cells #[.int .i64 (-77), .int .i64 (-78)] 3)) 25 3 (wr.heap.size + 1) 3 i0 (.int .i64 0) 1 8 Tryd.underlying25 hi0 hz0 hz1 hz2 rfl (by decide) _ _ _ o1' ⟨W3.heap.size, 0, none⟩ 2 2 [.int .i64 (-77), .int .i64 (-78)] rfl (two_news W3 _ _ _) (by intro u hu; simp at hu; rcases hu with rfl | rfl <;> rfl) (by decide) (by unfold maxLen; omega) (by omega) (by simp; omega) _ rfl
  have g1b : ∀ k, (Value.slice (some ⟨g1, 0, none⟩) n.kids.length c1).ownBlock = some k → wr.heap.size + 1 ≤ k := fun k hk => by
    have : g1 = k := by simpa [Value.ownBlock] using hk
    rcases at1 with e | e <;> omega
  have b5 : Below (wr.heap.size + 1) W2 W5 := grown_bel (b3.trans (((Below.refl _ _).alloc (Nat.le_refl _) _).mono (by omega))) gr2 (by simp; omega) g1b
  refine ⟨g1, c1, W3, r1, g2, c2, W5, fun ty => r2, (b5.block _ (by omega)).trans n2, b2.trans (b5.mono (by omega)), ?_, ?_⟩
  · rcases at2 with e | e
    · have : g1 = g2 := by simpa [Value.ownBlock] using e
      rcases at1 with e | e <;> omega
    · simp at e; omega
  · obtain ⟨q1, q2⟩ := o2
    rcases q2 with ⟨q2, _⟩ | ⟨g, cap, cur, hv, hb, hg, hc, hm, hs, ht⟩
    · cases q2
    · simp only [Value.slice.injEq, Option.some.injEq, Addr.mk.injEq, true_and, and_true] at hv
      obtain ⟨rfl, rfl⟩ := hv
      refine ⟨hc, cur, hg, fun i hi => ?_⟩
      have hl2 : (kidX n).length = n.kids.length + 2 := by simp [kidX]
      have : (cur.toList.take ((n.kids.length + 2) * 1))[i]? = some (.int .i64 (kidX n)[i]) := by
        rw [ht]
        have e : intsC n.kids ++ [.int .i64 (-77), .int .i64 (-78)] = intsC (kidX n) := by simp [intsC, kidX]
        rw [e]
        simp [intsC, hi]
      rw [List.getElem?_take, if_pos (by omega)] at this
      rw [← Array.getElem?_toList]
      exact this
end Go.Proofs.YtjjbgbadkbomlaaDoor
namespace Go.Proofs.YtjjbgbadkbomlaaDoor
open Go.RowKit
set_option linter.unusedVariables false
set_option linter.unusedSimpArgs false

set_option maxHeartbeats 1000000 in
/-- the other half of a round -/
theorem lend_rest {w wr W5 : World} {f : Nat → Nd} {i : Nat} {av bv : Value} {kb kc : Nat → Nat} (h : LI w wr f i av bv kb kc) (hi : i ≤ 2147483647) (n : Nd) (hn : n = f i) (ka : Option Addr) (kc0 g2 c2 : Nat)
    (n5 : W5.heap[wr.heap.size]? = some (.cells #[.int .i64 n.kind, .int .i64 n.pos, .slice ka n.kids.length kc0, .string n.name, .int .i64 n.num] 36 (0, 0))) (b5 : Below wr.heap.size wr W5) (hg2 : wr.heap.size < g2) (hc2 : n.kids.length + 2 ≤ c2)
    (D : Array Value) (hD : W5.heap[g2]? = some (.cells D 3 (0, 0))) (hDi : ∀ i (h : i < (kidX n).length), D[i]? = some (.int .i64 (kidX n)[i])) :
    W5.cell? ⟨wr.heap.size, 2, none⟩ = some (.slice ka n.kids.length kc0) ∧ W5.frozen? ⟨wr.heap.size, 2, none⟩ = false ∧ ∃ W6, W5.setCell ⟨wr.heap.size, 2, none⟩ (.slice (some ⟨g2, 0, none⟩) n.kids.length c2) = W6 ∧
    W6.cell? ⟨w.heap.size + 1, 0, none⟩ = some av ∧ W6.cell? ⟨wr.heap.size, 0, none⟩ = some (.int .i64 n.kind) ∧ W6.cell? ⟨wr.heap.size, 1, none⟩ = some (.int .i64 n.pos) ∧ W6.cell? ⟨wr.heap.size, 2, none⟩ = some (.slice (some ⟨g2, 0, none⟩) n.kids.length c2) ∧ W6.cell? ⟨wr.heap.size, 3, none⟩ = some (.string n.name) ∧ W6.cell? ⟨wr.heap.size, 4, none⟩ = some (.int .i64 n.num) ∧
    ∃ W7, W6.alloc (.cells #[.int .i64 n.kind, .int .i64 n.pos, .slice (some ⟨g2, 0, none⟩) n.kids.length c2, .string n.name, .int .i64 n.num] 36) = W7 ∧
    ∃ g3 c3 W8, (∀ ty, (Builtin.append_ #[22, 22] ty #[av, .slice (some ⟨W6.heap.size, 0, none⟩) 1 1]).run Tryd.prog W7 = .ok (.slice (some ⟨g3, 0, none⟩) (i + 1) c3) W8) ∧ W8.cell? ⟨w.heap.size + 1, 0, none⟩ = some av ∧ W8.frozen? ⟨w.heap.size + 1, 0, none⟩ = false ∧
    ∃ W9, W8.setCell ⟨w.heap.size + 1, 0, none⟩ (.slice (some ⟨g3, 0, none⟩) (i + 1) c3) = W9 ∧ W9.cell? ⟨w.heap.size + 1, 1, none⟩ = some bv ∧
    ∃ W10, W9.alloc (.cells #[.slice (some ⟨g2, 0, none⟩) (n.kids.length + 2) c2] 25) = W10 ∧
    ∃ g4 c4 W11, (∀ ty, (Builtin.append_ #[26, 26] ty #[bv, .slice (some ⟨W9.heap.size, 0, none⟩) 1 1]).run Tryd.prog W10 = .ok (.slice (some ⟨g4, 0, none⟩) (i + 1) c4) W11) ∧ W11.cell? ⟨w.heap.size + 1, 1, none⟩ = some bv ∧ W11.frozen? ⟨w.heap.size + 1, 1, none⟩ = false ∧
    ∃ W12, W11.setCell ⟨w.heap.size + 1, 1, none⟩ (.slice (some ⟨g4, 0, none⟩) (i + 1) c4) = W12 ∧ Bx (LI w W12 f (i + 1) (.slice (some ⟨g3, 0, none⟩) (i + 1) c3) (.slice (some ⟨g4, 0, none⟩) (i + 1) c4) (upd kb i g2) (upd kc i c2)) := by
  obtain ⟨i0, hi0, hz0, hz1, hz2⟩ := info_parts infoNd5
  obtain ⟨j0, hj0, jz0, jz1, jz2⟩ := info_parts infoIs
  have hx := h.xb
  have hr := h.rb
  have sx : w.heap.size + 1 < wr.heap.size := (Array.getElem?_eq_some_iff.1 hx).1
  have s5 := b5.size
  have lt5 : wr.heap.size < W5.heap.size := (Array.getElem?_eq_some_iff.1 n5).1
  have ltg : g2 < W5.heap.size := (Array.getElem?_eq_some_iff.1 hD).1
  have ab := h.ls.all.lt
  have bb := h.ls.ks.lt
  refine ⟨(cell_of_row W5 _ 2 _ _ _ n5).trans rfl, by simp [World.frozen?, n5], ?_⟩
  obtain ⟨W6, hW6⟩ : ∃ W6, W5.setCell ⟨wr.heap.size, 2, none⟩ (.slice (some ⟨g2, 0, none⟩) n.kids.length c2) = W6 := ⟨_, rfl⟩
  have s6 : W6.heap.size = W5.heap.size := by rw [← hW6]; simp
  have k6 : ∀ x, x ≠ wr.heap.size → W6.heap[x]? = W5.heap[x]? := fun x hx => by rw [← hW6]; exact heap_setCell_other W5 _ x _ hx
  have n6 : W6.heap[wr.heap.size]? = some (.cells #[.int .i64 n.kind, .int .i64 n.pos, .slice (some ⟨g2, 0, none⟩) n.kids.length c2, .string n.name, .int .i64 n.num] 36 (0, 0)) := by
    rw [← hW6, heap_setCell_same W5 wr.heap.size 2 _ _ _ n5]
    rfl
  have b6 : Below wr.heap.size wr W6 := by rw [← hW6]; exact Below.setCell (p := ⟨wr.heap.size, 2, none⟩) b5 (Nat.le_refl _) _
  have x6 := (b6.block _ sx).trans hx
  refine ⟨W6, hW6, (cell_of_row W6 _ 0 _ _ _ x6).trans rfl, (cell_of_row W6 _ 0 _ _ _ n6).trans rfl, (cell_of_row W6 _ 1 _ _ _ n6).trans rfl, (cell_of_row W6 _ 2 _ _ _ n6).trans rfl, (cell_of_row W6 _ 3 _ _ _ n6).trans rfl, (cell_of_row W6 _ 4 _ _ _ n6).trans rfl, ?_⟩
  obtain ⟨W7, hW7⟩ : ∃ W7, W6.alloc (.cells #[.int .i64 n.kind, .int .i64 n.pos, .slice (some ⟨g2, 0, none⟩) n.kids.length c2, .string n.name, .int .i64 n.num] 36) = W7 := ⟨_, rfl⟩
  have s7 : W7.heap.size = W6.heap.size + 1 := by rw [← hW7]; simp
  have b7 : Below W6.heap.size W6 W7 := by rw [← hW7]; exact below1 W6 _
  have B7 : Below wr.heap.size wr W7 := b6.trans (b7.mono (by omega))
  have a7 : W7.ownsRow (w.heap.size + 2) 36 5 av i (ndsF f kb kc i) := row_same h.ls.all fun b hb => B7.block b (ab b hb).2
  have v7 : W7.ownsRow (w.heap.size + 2) 25 1 bv i ((List.range i).map fun j => fullV (f j) (kb j) (kc j)) := row_same h.ls.ks fun b hb => B7.block b (bb b hb).2
  obtain ⟨g3, c3, W8, r3, o3, gr3, at3, lt3⟩ := run_append_lies (P := Tryd.prog) W7 22 3 (w.heap.size + 2) 36 i0 _ 5 64 Tryd.underlying22 hi0 hz0 hz1 hz2 rfl (by decide) av i _ a7 ⟨W6.heap.size, 0, none⟩ 1 1 [.int .i64 n.kind, .int .i64 n.pos, .slice (some ⟨g2, 0, none⟩) n.kids.length c2, .string n.name, .int .i64 n.num] rfl (by rw [← hW7]; exact five_news W6 _ _ _ _ _ _) (by intro u hu; simp at hu; rcases hu with rfl | rfl | rfl | rfl | rfl <;> rfl) (by decide) (by unfold maxLen; omega) (by omega) (by omega) W7.heap.size rfl
  have s8 := gr3.size
  have k8 : ∀ x, x < W7.heap.size → av.ownBlock ≠ some x → W8.heap[x]? = W7.heap[x]? := fun x hx hne => gr3.block x hx fun e => hne e.symm
  have x7 := (B7.block _ sx).trans hx
  have r7 := (B7.block _ (by omega : w.heap.size < wr.heap.size)).trans hr
  have x8 : W8.heap[w.heap.size + 1]? = some (.cells #[av, bv] 40 (0, 0)) := (k8 _ (by omega) fun e => by have := (ab _ e).1; omega).trans x7
  have r8 : W8.heap[w.heap.size]? = some (.cells #[.slice none 0 0, .slice none 0 0] 40 (0, 0)) := (k8 _ (by omega) fun e => by have := (ab _ e).1; omega).trans r7
  have at3' : av.ownBlock = some g3 ∨ g3 = W7.heap.size := at3
  have g3b : w.heap.size + 2 ≤ g3 := by rcases at3' with e | e; exact (ab _ e).1; omega
  refine ⟨W7, hW7, g3, c3, W8, fun ty => r3, (cell_of_row W8 _ 0 _ _ _ x8).trans rfl, by simp [World.frozen?, x8], ?_⟩
  obtain ⟨W9, hW9⟩ : ∃ W9, W8.setCell ⟨w.heap.size + 1, 0, none⟩ (.slice (some ⟨g3, 0, none⟩) (i + 1) c3) = W9 := ⟨_, rfl⟩
  have s9 : W9.heap.size = W8.heap.size := by rw [← hW9]; simp
  have k9 : ∀ x, x ≠ w.heap.size + 1 → W9.heap[x]? = W8.heap[x]? := fun x hx => by rw [← hW9]; exact heap_setCell_other W8 _ x _ hx
  have x9 : W9.heap[w.heap.size + 1]? = some (.cells #[.slice (some ⟨g3, 0, none⟩) (i + 1) c3, bv] 40 (0, 0)) := by
    rw [← hW9, heap_setCell_same W8 _ 0 _ _ _ x8]
    rfl
  refine ⟨W9, hW9, (cell_of_row W9 _ 1 _ _ _ x9).trans rfl, ?_⟩
  obtain ⟨W10, hW10⟩ : ∃ W10, W9.alloc (.cells #[.slice (some ⟨g2, 0, none⟩) (n.kids.length + 2) c2] 25) = W10 := ⟨_, rfl⟩
  have s10 : W10.heap.size = W9.heap.size + 1 := by rw [← hW10]; simp
  have b10 : Below W9.heap.size W9 W10 := by rw [← hW10]; exact below1 W9 _
  have bne : ∀ g, bv.ownBlock = some g → g ≠ g3 := fun g hg e => by
    rcases at3' with q | q
    · exact h.ls.ne g (by rw [e]; exact q) hg
    · have := (bb g hg).2; omega
  have k710 : ∀ x, x < W7.heap.size → av.ownBlock ≠ some x → x ≠ w.heap.size + 1 → W10.heap[x]? = W7.heap[x]? := fun x h1 h2 h3 => ((b10.block x (by omega)).trans (k9 x h3)).trans (k8 x h1 h2)
  have v10 : W10.ownsRow (w.heap.size + 2) 25 1 bv i ((List.range i).map fun j => fullV (f j) (kb j) (kc j)) := row_same v7 fun b hb => k710 b (by have := (bb b hb).2; omega) (fun e => h.ls.ne b e hb) (by have := (bb b hb).1; omega)
  obtain ⟨g4, c4, W11, r4, o4, gr4, at4, lt4⟩ := run_append_lies (P := Tryd.prog) W10 26 3 (w.heap.size + 2) 25 j0 _ 1 24 Tryd.underlying26 hj0 jz0 jz1 jz2 rfl (by decide) bv i _ v10 ⟨W9.heap.size, 0, none⟩ 1 1 [.slice (some ⟨g2, 0, none⟩) (n.kids.length + 2) c2] rfl (by rw [← hW10]; exact one_news W9 _ _) (by intro u hu; simp at hu; subst hu; rfl) (by decide) (by unfold maxLen; omega) (by omega) (by omega) W10.heap.size rfl
  have s11 := gr4.size
  have k11 : ∀ x, x < W10.heap.size → bv.ownBlock ≠ some x → W11.heap[x]? = W10.heap[x]? := fun x hx hne => gr4.block x hx fun e => hne e.symm
  have x11 : W11.heap[w.heap.size + 1]? = some (.cells #[.slice (some ⟨g3, 0, none⟩) (i + 1) c3, bv] 40 (0, 0)) := (k11 _ (by omega) fun e => by have := (bb _ e).1; omega).trans ((b10.block _ (by omega)).trans x9)
  refine ⟨W10, hW10, g4, c4, W11, fun ty => r4, (cell_of_row W11 _ 1 _ _ _ x11).trans rfl, by simp [World.frozen?, x11], ?_⟩
  obtain ⟨W12, hW12⟩ : ∃ W12, W11.setCell ⟨w.heap.size + 1, 1, none⟩ (.slice (some ⟨g4, 0, none⟩) (i + 1) c4) = W12 := ⟨_, rfl⟩
  have k12 : ∀ x, x ≠ w.heap.size + 1 → W12.heap[x]? = W11.heap[x]? := fun x hx => by rw [← hW12]; exact heap_setCell_other W11 _ x _ hx
  have x12 : W12.heap[w.heap.size + 1]? = some (.cells #[.slice (some ⟨g3, 0, none⟩) (i + 1) c3, .slice (some ⟨g4, 0, none⟩) (i + 1) c4] 40 (0, 0)) := by
    rw [← hW12, heap_setCell_same W11 _ 1 _ _ _ x11]
    rfl
  -- what stays from the seventh on
  have keep : ∀ x, x < W7.heap.size → av.ownBlock ≠ some x → bv.ownBlock ≠ some x → x ≠ w.heap.size + 1 → W12.heap[x]? = W7.heap[x]? := fun x h1 h2 h3 h4 => (k12 x h4).trans ((k11 x (by omega) h3).trans (k710 x h1 h2 h4))
  have at4' : bv.ownBlock = some g4 ∨ g4 = W10.heap.size := at4
  have g4b : w.heap.size + 2 ≤ g4 := by rcases at4' with e | e; exact (bb _ e).1; omega
  have k67 : ∀ x, x < W6.heap.size → W7.heap[x]? = W6.heap[x]? := fun x hx => b7.block x hx
  have hD7 : W7.heap[g2]? = some (.cells D 3 (0, 0)) := by rw [k67 _ (by omega), k6 _ (by omega)]; exact hD
  have hD12 : W12.heap[g2]? = some (.cells D 3 (0, 0)) := by
    rw [keep g2 (by omega) (fun e => by have := (ab _ e).2; omega) (fun e => by have := (bb _ e).2; omega) (by omega)]
    exact hD7
  have g34 : g3 ≠ g4 := fun e => by
    rcases at4' with q | q
    · exact bne g4 q e.symm
    · omega
  refine ⟨W12, hW12, ⟨⟨?_, ?_, ?_, fun g h1 h2 => ?_, fun j hj => ?_⟩, ?_, x12⟩⟩
  · -- below
    refine h.ls.bel.trans ?_
    have sw := h.ls.bel.size
    refine (B7.mono sw).trans ?_
    have q8 : Below w.heap.size W7 W8 := grown_bel (Below.refl _ _) gr3 (by omega) (fun k hk => by have := (ab k hk).1; omega)
    have q9 : Below w.heap.size W8 W9 := by rw [← hW9]; exact Below.setCell (p := ⟨w.heap.size + 1, 0, none⟩) (Below.refl _ _) (Nat.le_succ _) _
    have q11 : Below w.heap.size W10 W11 := grown_bel (Below.refl _ _) gr4 (by omega) (fun k hk => by have := (bb k hk).1; omega)
    have q12 : Below w.heap.size W11 W12 := by rw [← hW12]; exact Below.setCell (p := ⟨w.heap.size + 1, 1, none⟩) (Below.refl _ _) (Nat.le_succ _) _
    exact q8.trans (q9.trans ((b10.mono (by omega)).trans (q11.trans q12)))
  · -- the nodes
    have e1 : ndsF f (upd kb i g2) (upd kc i c2) i = ndsF f kb kc i := ndsF_congr fun j hj => ⟨upd_other (by omega), upd_other (by omega)⟩
    have e2 : nd5 (f i) (upd kb i g2 i) (upd kc i c2 i) = [.int .i64 n.kind, .int .i64 n.pos, .slice (some ⟨g2, 0, none⟩) n.kids.length c2, .string n.name, .int .i64 n.num] := by
      rw [upd_same, upd_same, ← hn]
      rfl
    have e : ndsF f (upd kb i g2) (upd kc i c2) (i + 1) = ndsF f kb kc i ++ [.int .i64 n.kind, .int .i64 n.pos, .slice (some ⟨g2, 0, none⟩) n.kids.length c2, .string n.name, .int .i64 n.num] := by
      rw [ndsF_succ, e1, e2]
    rw [e]
    refine row_same o3 fun b hb => ?_
    have : g3 = b := by simpa [Value.ownBlock] using hb
    subst this
    exact (k12 _ (by omega)).trans ((k11 _ (by omega) (fun e => bne _ e rfl)).trans ((b10.block _ (by omega)).trans (k9 _ (by omega))))
  · -- their kids
    have e1 : ((List.range i).map fun j => fullV (f j) (upd kb i g2 j) (upd kc i c2 j)) = (List.range i).map fun j => fullV (f j) (kb j) (kc j) := by
      apply List.map_congr_left
      intro j hj
      rw [List.mem_range] at hj
      rw [upd_other (by omega), upd_other (by omega)]
    have e2 : fullV (f i) (upd kb i g2 i) (upd kc i c2 i) = .slice (some ⟨g2, 0, none⟩) (n.kids.length + 2) c2 := by
      rw [upd_same, upd_same, ← hn]
      rfl
    have e : ((List.range (i + 1)).map fun j => fullV (f j) (upd kb i g2 j) (upd kc i c2 j)) = ((List.range i).map fun j => fullV (f j) (kb j) (kc j)) ++ [.slice (some ⟨g2, 0, none⟩) (n.kids.length + 2) c2] := by
      rw [List.range_succ, List.map_append, e1, List.map_cons, List.map_nil, e2]
    rw [e]
    refine row_same o4 fun b hb => ?_
    have : g4 = b := by simpa [Value.ownBlock] using hb
    subst this
    exact k12 _ (by omega)
  · have e1 : g3 = g := by simpa [Value.ownBlock] using h1
    have e2 : g4 = g := by simpa [Value.ownBlock] using h2
    exact g34 (by omega)
  · by_cases e : j = i
    · subst e
      rw [upd_same, upd_same, ← hn]
      refine ⟨fun e => ?_, fun e => ?_, by omega, hc2, D, hD12, hDi⟩
      · have e1 : g3 = g2 := by simpa [Value.ownBlock] using e
        rcases at3' with q | q
        · have := (ab _ q).2; omega
        · omega
      · have e1 : g4 = g2 := by simpa [Value.ownBlock] using e
        rcases at4' with q | q
        · have := (bb _ q).2; omega
        · omega
    · rw [upd_other e, upd_other e]
      obtain ⟨a1, a2, a3, a4, D', a5, a6⟩ := h.ls.kid j (by omega)
      have lk : kb j < wr.heap.size := (Array.getElem?_eq_some_iff.1 a5).1
      refine ⟨fun e => ?_, fun e => ?_, a3, a4, D', ?_, a6⟩
      · have e1 : g3 = kb j := by simpa [Value.ownBlock] using e
        rcases at3' with q | q
        · exact a1 (by rw [← e1]; exact q)
        · omega
      · have e1 : g4 = kb j := by simpa [Value.ownBlock] using e
        rcases at4' with q | q
        · exact a2 (by rw [← e1]; exact q)
        · omega
      · rw [keep _ (by omega) a1 a2 (by omega), B7.block _ lk]
        exact a5
  · -- the variable of what is answered
    rw [keep _ (by omega) (fun e => by have := (ab _ e).1; omega) (fun e => by have := (bb _ e).1; omega) (by omega)]
    exact r7
theorem wpList_app {P : Program} {w w' : World} {ops : Array Oper} {rest : List Oper} {o : Oper} {a : Act} {Q : Exit → Act → World → Prop} (hgd : o.guard = none) (s x : Operand) (t : TypeId)
    (ho : o.op = .call { callee := .builtin .append, args := #[s, x], argTypes := #[t, t] }) {v u r : Value} (hs : a.eval s = v) (hx : a.eval x = u) (hr : ∀ ty, (Builtin.append_ #[t, t] ty #[v, u]).run P w = .ok r w')
    (h : wpList P ops Q rest (a.put o.dst r) w') : wpList P ops Q (o :: rest) a w := by
  refine wpList_plain hgd fun K hK => ?_
  unfold Oper.wp
  simp [execOp, ho, resolve, invoke, builtin, hs, hx, hr, Result.andThen]
  exact hK _ _ h
set_option maxHeartbeats 1000000 in
/-- the node behind them, and what is answered -/
theorem lend_last {w wr : World} {f : Nat → Nd} {i : Nat} {av bv : Value} {kb kc : Nat → Nat} (h : LI w wr f i av bv kb kc) (hi : i ≤ 2147483647) :
    wr.cell? ⟨w.heap.size + 1, 0, none⟩ = some av ∧ ∃ W7, wr.alloc (.cells #[.int .i64 (-9), .int .i64 0, .slice none 0 0, .string ⟨#[]⟩, .int .i64 0] 36) = W7 ∧
    ∃ g3 c3 W8, (∀ ty, (Builtin.append_ #[22, 22] ty #[av, .slice (some ⟨wr.heap.size, 0, none⟩) 1 1]).run Tryd.prog W7 = .ok (.slice (some ⟨g3, 0, none⟩) (i + 1) c3) W8) ∧ W8.cell? ⟨w.heap.size + 1, 0, none⟩ = some av ∧ W8.frozen? ⟨w.heap.size + 1, 0, none⟩ = false ∧ W8.cell? ⟨w.heap.size + 1, 1, none⟩ = some bv ∧ W8.cell? ⟨w.heap.size, 0, none⟩ = some (.slice none 0 0) ∧ W8.cell? ⟨w.heap.size, 1, none⟩ = some (.slice none 0 0) ∧ (∀ q, W8.frozen? ⟨w.heap.size, q, none⟩ = false) ∧
    ∃ W9, W8.setCell ⟨w.heap.size + 1, 0, none⟩ (.slice (some ⟨g3, 0, none⟩) (i + 1) c3) = W9 ∧ W9.cell? ⟨w.heap.size + 1, 0, none⟩ = some (.slice (some ⟨g3, 0, none⟩) (i + 1) c3) ∧ W9.cell? ⟨w.heap.size + 1, 1, none⟩ = some bv ∧ W9.cell? ⟨w.heap.size, 0, none⟩ = some (.slice none 0 0) ∧ W9.cell? ⟨w.heap.size, 1, none⟩ = some (.slice none 0 0) ∧ (∀ q, W9.frozen? ⟨w.heap.size, q, none⟩ = false) ∧
    ∃ W10, (W9.setCell ⟨w.heap.size, 0, none⟩ (.slice (some ⟨g3, 0, none⟩) (i + 1) c3)).setCell ⟨w.heap.size, 1, none⟩ bv = W10 ∧ W10.cell? ⟨w.heap.size, 0, none⟩ = some (.slice (some ⟨g3, 0, none⟩) (i + 1) c3) ∧ W10.cell? ⟨w.heap.size, 1, none⟩ = some bv ∧ Bx (LN W10 g3 i f kb kc ∧ i + 1 ≤ c3 ∧ Below w.heap.size w W10 ∧ w.heap.size ≤ g3) := by
  obtain ⟨i0, hi0, hz0, hz1, hz2⟩ := info_parts infoNd5
  have hx := h.xb
  have hr := h.rb
  have sx : w.heap.size + 1 < wr.heap.size := (Array.getElem?_eq_some_iff.1 hx).1
  have ab := h.ls.all.lt
  have bb := h.ls.ks.lt
  refine ⟨(cell_of_row wr _ 0 _ _ _ hx).trans rfl, ?_⟩
  obtain ⟨W7, hW7⟩ : ∃ W7, wr.alloc (.cells #[.int .i64 (-9), .int .i64 0, .slice none 0 0, .string ⟨#[]⟩, .int .i64 0] 36) = W7 := ⟨_, rfl⟩
  have s7 : W7.heap.size = wr.heap.size + 1 := by rw [← hW7]; simp
  have B7 : Below wr.heap.size wr W7 := by rw [← hW7]; exact below1 wr _
  have a7 : W7.ownsRow (w.heap.size + 2) 36 5 av i (ndsF f kb kc i) := row_same h.ls.all fun b hb => B7.block b (ab b hb).2
  obtain ⟨g3, c3, W8, r3, o3, gr3, at3, lt3⟩ := run_append_lies (P := Tryd.prog) W7 22 3 (w.heap.size + 2) 36 i0 _ 5 64 Tryd.underlying22 hi0 hz0 hz1 hz2 rfl (by decide) av i _ a7 ⟨wr.heap.size, 0, none⟩ 1 1 [.int .i64 (-9), .int .i64 0, .slice none 0 0, .string ⟨#[]⟩, .int .i64 0] rfl (by rw [← hW7]; exact five_news wr _ _ _ _ _ _) (by intro u hu; simp at hu; rcases hu with rfl | rfl | rfl | rfl | rfl <;> rfl) (by decide) (by unfold maxLen; omega) (by omega) (by omega) W7.heap.size rfl
  have s8 := gr3.size
  have k8 : ∀ x, x < W7.heap.size → av.ownBlock ≠ some x → W8.heap[x]? = W7.heap[x]? := fun x hx hne => gr3.block x hx fun e => hne e.symm
  have x7 := (B7.block _ sx).trans hx
  have r7 := (B7.block _ (by omega : w.heap.size < wr.heap.size)).trans hr
  have x8 : W8.heap[w.heap.size + 1]? = some (.cells #[av, bv] 40 (0, 0)) := (k8 _ (by omega) fun e => by have := (ab _ e).1; omega).trans x7
  have r8 : W8.heap[w.heap.size]? = some (.cells #[.slice none 0 0, .slice none 0 0] 40 (0, 0)) := (k8 _ (by omega) fun e => by have := (ab _ e).1; omega).trans r7
  have at3' : av.ownBlock = some g3 ∨ g3 = W7.heap.size := at3
  have g3b : w.heap.size + 2 ≤ g3 := by rcases at3' with e | e; exact (ab _ e).1; omega
  refine ⟨W7, hW7, g3, c3, W8, fun ty => r3, (cell_of_row W8 _ 0 _ _ _ x8).trans rfl, by simp [World.frozen?, x8], (cell_of_row W8 _ 1 _ _ _ x8).trans rfl, (cell_of_row W8 _ 0 _ _ _ r8).trans rfl, (cell_of_row W8 _ 1 _ _ _ r8).trans rfl, fun q => by simp [World.frozen?, r8], ?_⟩
  obtain ⟨W9, hW9⟩ : ∃ W9, W8.setCell ⟨w.heap.size + 1, 0, none⟩ (.slice (some ⟨g3, 0, none⟩) (i + 1) c3) = W9 := ⟨_, rfl⟩
  have s9 : W9.heap.size = W8.heap.size := by rw [← hW9]; simp
  have k9 : ∀ x, x ≠ w.heap.size + 1 → W9.heap[x]? = W8.heap[x]? := fun x hx => by rw [← hW9]; exact heap_setCell_other W8 _ x _ hx
  have x9 : W9.heap[w.heap.size + 1]? = some (.cells #[.slice (some ⟨g3, 0, none⟩) (i + 1) c3, bv] 40 (0, 0)) := by
    rw [← hW9, heap_setCell_same W8 _ 0 _ _ _ x8]
    rfl
  have r9 := (k9 w.heap.size (by omega)).trans r8
  refine ⟨W9, hW9, (cell_of_row W9 _ 0 _ _ _ x9).trans rfl, (cell_of_row W9 _ 1 _ _ _ x9).trans rfl, (cell_of_row W9 _ 0 _ _ _ r9).trans rfl, (cell_of_row W9 _ 1 _ _ _ r9).trans rfl, fun q => by simp [World.frozen?, r9], ?_⟩
  obtain ⟨W10, hW10⟩ : ∃ W10, (W9.setCell ⟨w.heap.size, 0, none⟩ (.slice (some ⟨g3, 0, none⟩) (i + 1) c3)).setCell ⟨w.heap.size, 1, none⟩ bv = W10 := ⟨_, rfl⟩
  have k10 : ∀ x, x ≠ w.heap.size → W10.heap[x]? = W9.heap[x]? := fun x hx => by rw [← hW10, heap_setCell_other _ _ x _ hx, heap_setCell_other _ _ x _ hx]
  have r10 : W10.heap[w.heap.size]? = some (.cells #[.slice (some ⟨g3, 0, none⟩) (i + 1) c3, bv] 40 (0, 0)) := by
    rw [← hW10, heap_setCell_same _ _ 1 _ _ _ (heap_setCell_same W9 _ 0 _ _ _ r9)]
    rfl
  have keep : ∀ x, x < W7.heap.size → av.ownBlock ≠ some x → x ≠ w.heap.size + 1 → x ≠ w.heap.size → W10.heap[x]? = W7.heap[x]? := fun x h1 h2 h3 h4 => (k10 x h4).trans ((k9 x h3).trans (k8 x h1 h2))
  refine ⟨W10, hW10, (cell_of_row W10 _ 0 _ _ _ r10).trans rfl, (cell_of_row W10 _ 1 _ _ _ r10).trans rfl, ⟨?_, ?_, ?_, by omega⟩⟩
  · obtain ⟨q1, q2⟩ := o3
    rcases q2 with ⟨q2, _⟩ | ⟨g, cap, cur, hv, hb, hg, hc, hm, hs, ht⟩
    · cases q2
    · simp only [Value.slice.injEq, Option.some.injEq, Addr.mk.injEq, true_and, and_true] at hv
      obtain ⟨rfl, rfl⟩ := hv
      refine ⟨⟨cur, by rw [k10 _ (by omega), k9 _ (by omega)]; exact hg, fun j hj q hq => ?_⟩, fun j hj => ?_⟩
      · have hl := ndsF_len f kb kc i
        have := ndsF_at f kb kc hj hq
        have e : (ndsF f kb kc i ++ [.int .i64 (-9), .int .i64 0, .slice none 0 0, .string ⟨#[]⟩, .int .i64 0])[j * 5 + q]? = (ndsF f kb kc i)[j * 5 + q]? := List.getElem?_append_left (by omega)
        rw [← e, ← ht, List.getElem?_take, if_pos (by omega)] at this
        rw [← Array.getElem?_toList]
        exact this
      · obtain ⟨a1, a2, a3, a4, D', a5, a6⟩ := h.ls.kid j hj
        have lk : kb j < wr.heap.size := (Array.getElem?_eq_some_iff.1 a5).1
        refine ⟨fun e => ?_, by omega, D', ?_, fun p hp => ?_⟩
        · rcases at3' with q | q
          · exact a1 (by rw [e]; exact q)
          · omega
        · rw [keep _ (by omega) a1 (by omega) (by omega), B7.block _ lk]
          exact a5
        · have := a6 p (by unfold kidX; simp; omega)
          rw [this]
          unfold kidX
          rw [List.getElem_append_left hp]
  · obtain ⟨q1, q2⟩ := o3
    rcases q2 with ⟨q2, _⟩ | ⟨g, cap, cur, hv, hb, hg, hc, hm, hs, ht⟩
    · cases q2
    · simp only [Value.slice.injEq, Option.some.injEq, Addr.mk.injEq, true_and, and_true] at hv
      obtain ⟨rfl, rfl⟩ := hv
      exact hc
  · refine h.ls.bel.trans ?_
    have sw := h.ls.bel.size
    refine (B7.mono sw).trans ?_
    have q8 : Below w.heap.size W7 W8 := grown_bel (Below.refl _ _) gr3 (by omega) (fun k hk => by have := (ab k hk).1; omega)
    have q9 : Below w.heap.size W8 W9 := by rw [← hW9]; exact Below.setCell (p := ⟨w.heap.size + 1, 0, none⟩) (Below.refl _ _) (Nat.le_succ _) _
    have q10 : Below w.heap.size W9 W10 := by rw [← hW10]; exact Below.setCell (p := ⟨w.heap.size, 1, none⟩) (Below.setCell (p := ⟨w.heap.size, 0, none⟩) (Below.refl _ _) (Nat.le_refl _) _) (Nat.le_refl _) _
    exact q8.trans (q9.trans q10)
set_option maxRecDepth 100000 in
set_option maxHeartbeats 4000000 in
/-- **lend** -/
theorem lend_any (w : World) (B nb no nc : Nat) (l : List Nd) (hn : Nodes w B nb no nc l) (h0 : 0 < l.length) (hl31 : l.length ≤ 2147483647) (hk31 : ∀ j, j < l.length → (ndN l j).kids.length ≤ 2147483647) :
    Calls Tryd.prog 13 #[.slice (some ⟨nb, no, none⟩) l.length nc] w fun e w' => ∃ ab cap gb cb kb kc, e = .returned (.agg #[.slice (some ⟨ab, 0, none⟩) (l.length + 1) cap, .slice (some ⟨gb, 0, none⟩) l.length cb]) ∧ LN w' ab l.length (ndN l) kb kc ∧ l.length + 1 ≤ cap ∧ Below w.heap.size w w' ∧ w.heap.size ≤ ab := by
  have HN := Bx.mk hn
  have hB := hn.hi
  have hnb := hn.lo
  have HK := Bx.mk hk31
  have H0 : Bx (∀ W, ((w.alloc (.cells #[.slice none 0 0, .slice none 0 0] 40)).alloc (.cells #[.slice none 0 0, .slice none 0 0] 40)) = W → LI w W (ndN l) 0 (.slice none 0 0) (.slice none 0 0) (fun _ => 0) (fun _ => 0)) := ⟨fun W hW => by
    refine ⟨⟨?_, World.ownsRow_nil _ _ _ _, World.ownsRow_nil _ _ _ _, (fun g h => by simp [Value.ownBlock] at h), fun j hj => absurd hj (by omega)⟩, ?_, ?_⟩
    · rw [← hW]; exact ((Below.refl _ _).alloc (Nat.le_refl _) _).alloc (by simp) _
    · rw [← hW, (below1 (w.alloc (.cells #[.slice none 0 0, .slice none 0 0] 40)) _).block _ (by simp)]
      exact heap_alloc_new w _
    · rw [← hW]
      simpa using heap_alloc_new (w.alloc (.cells #[.slice none 0 0, .slice none 0 0] 40)) (.cells #[.slice none 0 0, .slice none 0 0] 40)⟩
  clear hn hk31
  go_enter Tryd.func13, Tryd.ntmps13
  go_wp2
  go_loopw [4] (fun x wr => ∃ k : Nat, ∃ av bv kb kc, k ≤ l.length ∧ x = .int .i64 k ∧ Bx (LI w wr (ndN l) k av bv kb kc)) (fun x _ => l.length - (intOf x).toNat)
  case atStart => exact ⟨0, _, _, _, _, Nat.zero_le _, rfl, ⟨H0.out _ rfl⟩⟩
  case round =>
    obtain ⟨k, av, bv, kb, kc, hk, rfl, HL⟩ := hrel
    clear H0
    by_cases hlt : k < l.length
    · have hbel := HL.out.ls.bel
      have hsz := hbel.size
      obtain ⟨ka, kc0, hX⟩ := (HN.out.below (hbel.mono hB)).at_ k hlt
      obtain ⟨c0, c1, c2, c3, c4, hkk⟩ := hX
      have hkl := HK.out k hlt
      obtain ⟨g1, c1', W3, run1, g2, c2', W5, run2, n5, b5, hg2, hcc, D, hD, hDi⟩ := lend_half (wr := wr) (ndN l k) ka kc0 (hkk.mono' (by omega)) hkl
      obtain ⟨x1, x2, W6, hW6, d0, d1, d2, d3, d4, d5, W7, hW7, g3, c3', W8, run3, y1, y2, W9, hW9, z1, W10, hW10, g4, c4', W11, run4, v1, v2, W12, hW12, HL'⟩ := lend_rest HL.out (by omega) (ndN l k) rfl ka kc0 g2 c2' n5 b5 hg2 hcc D hD hDi
      clear n5 b5 hD hDi hkk hbel HL
      generalize (ndN l k).kids.length = lk at *
      go_wp2_with (first
        | (at_builtin; refine wpList_app rfl (.tmp 19) (.tmp 21) 25 rfl rfl rfl run1 ?_; clear run1)
        | (at_builtin; refine wpList_app rfl (.tmp 23) (.tmp 24) 25 rfl rfl rfl run2 ?_; clear run2)
        | (at_builtin; refine wpList_app rfl (.tmp 33) (.tmp 35) 22 rfl rfl rfl run3 ?_; clear run3)
        | (at_builtin; refine wpList_app rfl (.tmp 39) (.tmp 41) 26 rfl rfl rfl run4 ?_; clear run4))
      go_roundw
      case rel => exact ⟨k + 1, _, _, _, _, by omega, by go_num, HL'⟩
      case measure => simp [intOf]; omega
    · have hke : k = l.length := by omega
      subst hke
      obtain ⟨gb, cb, rfl, _, _⟩ := HL.out.ls.ks.form h0
      obtain ⟨x1, W7, hW7, g3, c3, W8, run3, y1, y2, y3, y4, y5, y6, W9, hW9, z1, z2, z3, z4, z5, W10, hW10, v1, v2, HR⟩ := lend_last HL.out (by omega)
      have hwlt : w.heap.size < wr.heap.size := by have := (Array.getElem?_eq_some_iff.1 HL.out.xb).1; omega
      clear HL HN HK
      go_wp2_with (first
        | (at_builtin; refine wpList_app rfl (.tmp 45) (.tmp 47) 22 rfl rfl rfl run3 ?_; clear run3))
      refine bodyPost_ret (v := .agg #[.slice (some ⟨g3, 0, none⟩) (l.length + 1) c3, .slice (some ⟨gb, 0, none⟩) l.length cb]) (by simp [results, Tryd.results13, go_sem, v1, v2]) rfl ?_
      exact ⟨g3, c3, gb, cb, kb, kc, rfl, HR.out⟩
end Go.Proofs.YtjjbgbadkbomlaaDoor
