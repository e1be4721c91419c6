import Derived.Test.YtikijkpklneihaaCVS
import Derived.Test.YtikijkpklneihaaCVGt
import Derived.Laws.AppendOwn
import Derived.Laws.AppendOwnNone
import Derived.Deep.AppendLies
import Derived.OneCell
import Derived.Laws.Rows
import Derived.Lib.BufferMore
import Derived.Test.YtikijkpklneihaaCVMk
import Derived.Test.YtikijkpklneihaaCVTr
namespace Go.Proofs.Ytikijkpklneihaa
open Go.RowKit
set_option linter.unusedVariables false
set_option linter.unusedSimpArgs false

/-! ### rows of one's own -/
theorem run_append_zero {P : Program} {w : World} (base : Nat) (t ty e : TypeId) (i : TypeInfo) (size : Nat) (ht : P.underlying t = some (.slice e)) (hi : P.info? e = some i)
    (v : Value) (n : Nat) (xs : List Value) (hown : w.ownsRow base e size v n xs) (p : Option Addr) (c : Nat) :
    (Builtin.append_ #[t, t] ty #[v, .slice p 0 c]).run P w = .ok v w := by
  have hl : ∀ a : Addr, (Go.loadCells a 0).run P w = .ok #[] w := fun a => by
    have := run_loadCells_list (P := P) w a [] (by simp)
    simpa using this
  rcases hown.2 with ⟨rfl, rfl⟩ | ⟨g, cap, cur, rfl, _, _, hnc, _⟩
  · cases p <;> simp [Builtin.append_, run_underlying ht, sizeOf, typeInfo, hi, Builtin.lenOf, Builtin.firstCells, storeCells, hl]
  · cases p <;> simp [Builtin.append_, run_underlying ht, sizeOf, typeInfo, hi, Builtin.lenOf, Builtin.firstCells, storeCells, hl, hnc]
theorem own_low {W : World} {base base' : Nat} {e : TypeId} {s : Nat} {v : Value} {n : Nat} {cs : List Value} (h : W.ownsRow base e s v n cs) (hb : base' ≤ base) : W.ownsRow base' e s v n cs :=
  ⟨h.1, by
    rcases h.2 with h | ⟨g, cap, cur, e, h1, h2⟩
    · exact .inl h
    · exact .inr ⟨g, cap, cur, e, by omega, h2⟩⟩
theorem block_cells (W : World) (g : Nat) (us : Array Value) (t : TypeId) (hg : W.heap[g]? = some (.cells us t (0, 0))) : ∀ (j : Nat) (x : Value), us.toList[j]? = some x → W.cell? ((⟨g, 0, none⟩ : Addr).add j) = some x := by
  intro j x hx
  have e : (⟨g, 0, none⟩ : Addr).add j = ⟨g, j, none⟩ := by
    cases j with
    | zero => simp [Addr.add]
    | succ j => simp [Addr.add]
  rw [e]
  simp only [World.cell?, hg]
  simpa using hx
theorem owns_same {W W' : World} {B : Nat} {e : TypeId} {s : Nat} {v : Value} {n : Nat} {cs : List Value} (h : W.ownsRow B e s v n cs) (hb : ∀ g, B ≤ g → g < W.heap.size → W'.heap[g]? = W.heap[g]?) : W'.ownsRow B e s v n cs := by
  refine ⟨h.1, ?_⟩
  rcases h.2 with hn | ⟨g, cap, cur, rfl, hB, hgg, rest⟩
  · exact .inl hn
  · exact .inr ⟨g, cap, cur, rfl, hB, by rw [hb g hB (Array.getElem?_eq_some_iff.1 hgg).1]; exact hgg, rest⟩
theorem owns_block {W : World} {B : Nat} {e : TypeId} {s : Nat} {v : Value} {n : Nat} {cs : List Value} (h : W.ownsRow B e s v n cs) {g : Nat} (hg : v.ownBlock = some g) : B ≤ g ∧ g < W.heap.size := by
  rcases h.2 with ⟨rfl, _⟩ | ⟨g', cap, cur, rfl, hB, hgg, rest⟩
  · cases hg
  · simp only [Value.ownBlock, Option.some.injEq] at hg
    subst hg
    exact ⟨hB, (Array.getElem?_eq_some_iff.1 hgg).1⟩
theorem owns_kind {W : World} {B : Nat} {e : TypeId} {s : Nat} {v : Value} {n : Nat} {cs : List Value} (h : W.ownsRow B e s v n cs) : ∀ g, v.ownBlock = some g → ∃ c fz, W.heap[g]? = some (.cells c e fz) := by
  intro g hg
  rcases h.2 with ⟨rfl, _⟩ | ⟨g', cap, cur, rfl, hB, hgg, rest⟩
  · cases hg
  · simp only [Value.ownBlock, Option.some.injEq] at hg
    subst hg
    exact ⟨_, _, hgg⟩
theorem cell_blk {w : World} {b i : Nat} {cs : Array Value} {t : TypeId} {fz : Nat × Nat} {v : Value} (h : w.heap[b]? = some (.cells cs t fz)) (hv : cs[i]? = some v) : w.cell? ⟨b, i, none⟩ = some v := by
  rw [World.cell?]
  simp only [h]
  exact hv
theorem frz_blk {w : World} {b i : Nat} {cs : Array Value} {t : TypeId} (h : w.heap[b]? = some (.cells cs t (0, 0))) : w.frozen? ⟨b, i, none⟩ = false := by simp [World.frozen?, h]
theorem heap_lt {w : World} {b : Nat} {o : Obj} (h : w.heap[b]? = some o) : b < w.heap.size := (Array.getElem?_eq_some_iff.1 h).1
theorem heap_newH (w : World) (o : Obj) (H : Nat) (h : w.heap.size = H) : (w.alloc o).heap[H]? = some o := by subst h; exact World.alloc_heap_new w o
theorem wpList_appI {P : Program} {w w' : World} {ops : Array Oper} {rest : List Oper} {o : Oper} {a : Act} {Q : Exit → Act → World → Prop} (hgd : o.guard = none) (s x : Operand) (t : TypeId)
    (ho : o.op = .call { callee := .builtin .append, args := #[s, x], argTypes := #[t, t] }) {v u r : Value} (hs : a.eval s = v) (hx : a.eval x = u) (hr : ∀ ty, (Builtin.append_ #[t, t] ty #[v, u]).run P w = .ok r w')
    (h : wpList P ops Q rest (a.put o.dst r) w') : wpList P ops Q (o :: rest) a w := by
  refine wpList_plain hgd fun K hK => ?_
  unfold Oper.wp
  simp [execOp, ho, resolve, invoke, builtin, hs, hx, hr, Result.andThen]
  exact hK _ _ h
theorem owns_slice {W : World} {B s n : Nat} {t : TypeId} {v : Value} {cs : List Value} (h : W.ownsRow B t s v n cs) : ∃ a c, v = .slice a n c := by
  rcases h.2 with ⟨rfl, rfl⟩ | ⟨g, cap, cur, rfl, _⟩
  · exact ⟨_, _, rfl⟩
  · exact ⟨_, _, rfl⟩
/-- one element behind a row of one's own -/
theorem app1 {e t : TypeId} {i0 : TypeInfo} {z : Value} {s bt : Nat} (ht : Try.prog.underlying t = some (.slice e)) (hi : Try.prog.info? e = some i0) (hz : i0.zero = some z) (hs : i0.size = s) (hb : i0.bytes = bt) (hzs : z.cells.size = s) (hs0 : 0 < s)
    (W : World) (B : Nat) (v : Value) (n : Nat) (xs : List Value) (ho : W.ownsRow B e s v n xs) (cs : Array Value) (hcs : cs.toList.length = s) (h1 : ∀ u ∈ cs.toList, u.oneCell' = true) (hn : n + 1 ≤ maxLen) (hby : (n + 1) * bt ≤ 140737488355328) (hB : B ≤ W.heap.size) :
    ∃ g c W3, (∀ ty, (Builtin.append_ #[t, t] ty #[v, .slice (some ⟨W.heap.size, 0, none⟩) 1 1]).run Try.prog (W.alloc (.cells cs e)) = .ok (.slice (some ⟨g, 0, none⟩) (n + 1) c) W3) ∧ W3.ownsRow B e s (.slice (some ⟨g, 0, none⟩) (n + 1) c) (n + 1) (xs ++ cs.toList) ∧ W.grownBy W3 v.ownBlock ∧ n + 1 ≤ c ∧ (v.ownBlock = some g ∨ W.heap.size ≤ g) := by
  have ho' : (W.alloc (.cells cs e)).ownsRow B e s v n xs := own_new ho (below1 _ _)
  obtain ⟨g, c, W3, r1, r2, r3, r4, r5⟩ := run_append_lies (P := Try.prog) (W.alloc (.cells cs e)) t e B e i0 z s bt ht hi hz hs hb hzs hs0 v n xs ho' ⟨W.heap.size, 0, none⟩ 1 1 cs.toList (by omega) (block_cells _ _ _ _ (World.alloc_heap_new W _)) h1 (by omega) hn hby (by simp; omega) _ rfl
  have hc : n + 1 ≤ c := by
    rcases r2.2 with ⟨e1, _⟩ | ⟨g', cap', cur, e1, _, _, q1, _⟩
    · cases e1
    · simp only [Value.slice.injEq] at e1
      obtain ⟨_, _, rfl⟩ := e1
      exact q1
  refine ⟨g, c, W3, fun ty => r1, r2, ⟨r3.os, r3.tape, r3.output, Nat.le_trans (by simp) r3.size, fun k hk hne => ?_⟩, hc, ?_⟩
  · rw [r3.block k (by simp; omega) hne, Below.heap_alloc W _ k hk]
  · rcases r4 with r4 | r4
    · exact .inl r4
    · exact .inr (by rw [r4]; simp)
/-- a list that lies somewhere, behind a row of one's own -/
theorem appL {e t : TypeId} {i0 : TypeInfo} {z : Value} {s bt : Nat} (ht : Try.prog.underlying t = some (.slice e)) (hi : Try.prog.info? e = some i0) (hz : i0.zero = some z) (hs : i0.size = s) (hb : i0.bytes = bt) (hzs : z.cells.size = s) (hs0 : 0 < s)
    (W : World) (B : Nat) (v : Value) (n : Nat) (xs : List Value) (ho : W.ownsRow B e s v n xs) (p : Option Addr) (m c : Nat) (news : List Value) (hl : news.length = m * s) (hc : 0 < m → ∃ ad, p = some ad ∧ ∀ j u, news[j]? = some u → W.cell? (ad.add j) = some u) (h1 : ∀ u ∈ news, u.oneCell' = true) (hn : n + m ≤ maxLen) (hby : (n + m) * bt ≤ 140737488355328) (hB : B ≤ W.heap.size) :
    ∃ v' W3, (∀ ty, (Builtin.append_ #[t, t] ty #[v, .slice p m c]).run Try.prog W = .ok v' W3) ∧ W3.ownsRow B e s v' (n + m) (xs ++ news) ∧ W.grownBy W3 v.ownBlock := by
  by_cases h0 : 0 < m
  · obtain ⟨ad, rfl, hcc⟩ := hc h0
    obtain ⟨g, c, W3, r1, r2, r3, r4, r5⟩ := run_append_lies (P := Try.prog) W t e B e i0 z s bt ht hi hz hs hb hzs hs0 v n xs ho ad m c news hl hcc h1 h0 hn hby hB _ rfl
    exact ⟨_, W3, fun ty => r1, r2, r3⟩
  · obtain rfl : m = 0 := by omega
    have : news = [] := List.eq_nil_of_length_eq_zero (by omega)
    subst this
    exact ⟨v, W, fun ty => run_append_zero (P := Try.prog) (w := W) B t ty e i0 s ht hi v n xs ho p c, by simpa using ho, World.grownBy.refl _ _⟩
/-- a row stays where one of another kind grows -/
theorem owns_grown {W W' : World} {B s n : Nat} {t t' : TypeId} {v vv : Value} {cs : List Value} (h : W.ownsRow B t s v n cs) (hg : W.grownBy W' vv.ownBlock) (ht : t' ≠ t) (hne : ∀ g, vv.ownBlock = some g → ∃ c fz, W.heap[g]? = some (.cells c t' fz)) : W'.ownsRow B t s v n cs := by
  refine ⟨h.1, ?_⟩
  rcases h.2 with hn | ⟨g, cap, cur, rfl, hB, hgg, rest⟩
  · exact .inl hn
  · refine .inr ⟨g, cap, cur, rfl, hB, ?_, rest⟩
    rw [hg.block g (heap_lt hgg) (fun e => by
      obtain ⟨c, fz, h2⟩ := hne g e.symm
      rw [h2] at hgg
      injection hgg with hgg
      injection hgg with _ hgg
      exact absurd hgg ht)]
    exact hgg
theorem grown_at {W W' : World} {r : Option Nat} (hg : W.grownBy W' r) {b : Nat} {o : Obj} (h : W.heap[b]? = some o) (hr : r ≠ some b) : W'.heap[b]? = some o := by
  rw [hg.block b (heap_lt h) (fun e => hr (by rw [e]))]; exact h
end Go.Proofs.Ytikijkpklneihaa
namespace Go.Proofs.Ytikijkpklneihaa
open Go.RowKit
set_option linter.unusedVariables false
set_option linter.unusedSimpArgs false

/-! ### the book: values that were handed out, each with what it must read as -/
theorem set1b {W : World} {b : Nat} {cur : Array Value} {t : TypeId} (h : W.heap[b]? = some (.cells cur t (0, 0))) (o : Nat) (v : Value) : (W.setCell ⟨b, o, none⟩ v).heap[b]? = some (.cells (cur.setIfInBounds o v) t (0, 0)) := by
  simp [World.setCell, Array.getElem?_modify, h]
theorem own_last3 {W : World} {B n g c : Nat} {e : TypeId} {xs : List Value} {a0 b0 d0 : Value} (a b d : Value) (h : W.ownsRow B e 3 (.slice (some ⟨g, 0, none⟩) (n + 1) c) (n + 1) (xs ++ [a0, b0, d0])) (hx : xs.length = n * 3) :
    (((W.setCell ⟨g, n * 3, none⟩ a).setCell ⟨g, n * 3 + 1, none⟩ b).setCell ⟨g, n * 3 + 2, none⟩ d).ownsRow B e 3 (.slice (some ⟨g, 0, none⟩) (n + 1) c) (n + 1) (xs ++ [a, b, d]) := by
  refine ⟨by simp; omega, ?_⟩
  rcases h.2 with ⟨e1, _⟩ | ⟨g', cap, cur, e1, h1, h2, h3, h4, h5, h6⟩
  · cases e1
  · simp only [Value.slice.injEq, Option.some.injEq, Addr.mk.injEq] at e1
    obtain ⟨⟨rfl, _⟩, _, rfl⟩ := e1
    refine .inr ⟨g, c, _, rfl, h1, set1b (set1b (set1b h2 _ _) _ _) _ _, h3, h4, by simpa using h5, ?_⟩
    have e2 : ((n + 1) * 3) = xs.length + 3 := by omega
    simp only [Array.toList_setIfInBounds, List.take_set, h6]
    have q0 : n * 3 = xs.length := hx.symm
    rw [q0]
    simp [List.set_append_right]
/-- a row's values, each with its tree -/
def Ents (W : World) (ρ : Gh) (e n : Nat) (X : Nat → V) (cs : List Value) : Prop :=
  ∀ i, i < n → ∃ p c, cs[i * 3]? = some (.int .i64 (X i).k) ∧ cs[i * 3 + 1]? = some (.int .i64 (X i).n) ∧ cs[i * 3 + 2]? = some (.slice p (X i).l.length c) ∧ I64 (X i).k ∧ I64 (X i).n ∧ TrV W ρ (2 * i + e) [] (X i) p c
theorem Ents.keep {W W' : World} {ρ : Gh} {e n : Nat} {X : Nat → V} {cs : List Value} (h : Ents W ρ e n X cs) (hb : ∀ b, b < W.heap.size → ρ b ≠ none → W'.heap[b]? = W.heap[b]?) : Ents W' ρ e n X cs := fun i hi => by
  obtain ⟨p, c, h1, h2, h3, h4, h5, h6⟩ := h i hi
  exact ⟨p, c, h1, h2, h3, h4, h5, TrV.keep _ h6 fun b hb2 hu => by
    obtain ⟨s, hs⟩ := hu
    exact hb b hb2 (by rw [hs]; simp)⟩
theorem Ents.re {W : World} {ρ ρ' : Gh} {e n : Nat} {X : Nat → V} {cs : List Value} (h : Ents W ρ e n X cs) (hr : ∀ b id s, ρ b = some (id, s) → ρ' b = some (id, s)) : Ents W ρ' e n X cs := fun i hi => by
  obtain ⟨p, c, h1, h2, h3, h4, h5, h6⟩ := h i hi
  exact ⟨p, c, h1, h2, h3, h4, h5, TrV.re _ h6 fun b s hs => hr b _ _ hs⟩
/-- one more -/
theorem Ents.snoc {W : World} {ρ : Gh} {e n : Nat} {X : Nat → V} {cs : List Value} (h : Ents W ρ e n X cs) (hl : cs.length = n * 3) {x : V} {p : Option Addr} {c : Nat} (hk : I64 x.k) (hn : I64 x.n) (ht : TrV W ρ (2 * n + e) [] x p c) : Ents W ρ e (n + 1) (fun j => if j = n then x else X j) (cs ++ [.int .i64 x.k, .int .i64 x.n, .slice p x.l.length c]) := fun i hi => by
  by_cases he : i = n
  · subst he
    simp only [if_true]
    refine ⟨p, c, ?_, ?_, ?_, hk, hn, ht⟩
    · rw [List.getElem?_append_right (by omega), hl, Nat.sub_self]; rfl
    · rw [List.getElem?_append_right (by omega), hl, Nat.add_sub_cancel_left]; rfl
    · rw [List.getElem?_append_right (by omega), hl, Nat.add_sub_cancel_left]; rfl
  · obtain ⟨p', c', h1, h2, h3, h4, h5, h6⟩ := h i (by omega)
    simp only [if_neg he]
    exact ⟨p', c', by rw [List.getElem?_append_left (by omega)]; exact h1, by rw [List.getElem?_append_left (by omega)]; exact h2, by rw [List.getElem?_append_left (by omega)]; exact h3, h4, h5, h6⟩
structure Bk (W : World) (lo h : Nat) (ρ : Gh) (ov wv : Value) (n : Nat) (X : Nat → V) : Prop where
  hd : W.heap[h]? = some (.cells #[ov, wv] 30 (0, 0))
  low : h < lo
  siz : lo ≤ W.heap.size
  orow : ∃ cs, W.ownsRow lo 24 3 ov n cs ∧ Ents W ρ 0 n X cs
  wrow : ∃ cs, W.ownsRow lo 24 3 wv n cs ∧ Ents W ρ 1 n X cs
  sup : ∀ b, ρ b ≠ none → b < W.heap.size ∧ b ≠ h ∧ ov.ownBlock ≠ some b ∧ wv.ownBlock ≠ some b
  ids : ∀ b id q, ρ b = some (id, q) → id < 2 * n
  ne : ∀ b, ov.ownBlock = some b → wv.ownBlock ≠ some b
/-- it stays where its blocks stay -/
theorem Bk.keep {W W' : World} {lo h : Nat} {ρ : Gh} {ov wv : Value} {n : Nat} {X : Nat → V} (hB : Bk W lo h ρ ov wv n X) (hs : W.heap.size ≤ W'.heap.size) (hb : ∀ b, b < W.heap.size → b = h ∨ ov.ownBlock = some b ∨ wv.ownBlock = some b ∨ ρ b ≠ none → W'.heap[b]? = W.heap[b]?) : Bk W' lo h ρ ov wv n X := by
  obtain ⟨cs, o1, o2⟩ := hB.orow
  obtain ⟨ds, w1, w2⟩ := hB.wrow
  have hl := hB.low
  have hz := hB.siz
  exact ⟨(hb h (by omega) (.inl rfl)).trans hB.hd, hl, by omega, ⟨cs, own_same o1 fun g o hg ho => (hb g (heap_lt ho) (.inr (.inl hg))).trans ho, o2.keep fun b h1 h2 => hb b h1 (.inr (.inr (.inr h2)))⟩, ⟨ds, own_same w1 fun g o hg ho => (hb g (heap_lt ho) (.inr (.inr (.inl hg)))).trans ho, w2.keep fun b h1 h2 => hb b h1 (.inr (.inr (.inr h2)))⟩, fun b hb2 => by have := hB.sup b hb2; exact ⟨by omega, this.2⟩, hB.ids, hB.ne⟩
theorem Bk.next {W W' : World} {lo h : Nat} {ρ : Gh} {ov wv : Value} {n : Nat} {X : Nat → V} (hB : Bk W lo h ρ ov wv n X) (hb : Below W.heap.size W W') : Bk W' lo h ρ ov wv n X := hB.keep hb.size fun b h1 _ => hb.block b h1
/-- one of its values, and what it must read as -/
theorem Bk.at_ {W : World} {lo h : Nat} {ρ : Gh} {ov wv : Value} {n : Nat} {X : Nat → V} (hB : Bk W lo h ρ ov wv n X) {i : Nat} (hi : i < n) : ∃ g c g' c' p pc p' pc', ov = .slice (some ⟨g, 0, none⟩) n c ∧ wv = .slice (some ⟨g', 0, none⟩) n c' ∧ (n ≤ c ∧ c ≤ maxLen ∧ n ≤ c' ∧ c' ≤ maxLen ∧ g < W.heap.size ∧ g' < W.heap.size ∧ h < W.heap.size) ∧
    (W.cell? ⟨g, i * 3, none⟩ = some (.int .i64 (X i).k) ∧ W.cell? ⟨g, i * 3 + 1, none⟩ = some (.int .i64 (X i).n) ∧ W.cell? ⟨g, i * 3 + 2, none⟩ = some (.slice p (X i).l.length pc)) ∧
    (W.cell? ⟨g', i * 3, none⟩ = some (.int .i64 (X i).k) ∧ W.cell? ⟨g', i * 3 + 1, none⟩ = some (.int .i64 (X i).n) ∧ W.cell? ⟨g', i * 3 + 2, none⟩ = some (.slice p' (X i).l.length pc')) ∧ (W.cell? ⟨h, 0, none⟩ = some ov ∧ W.cell? ⟨h, 1, none⟩ = some wv) ∧ (I64 (X i).k ∧ I64 (X i).n) ∧ TrV W ρ (2 * i) [] (X i) p pc ∧ TrV W ρ (2 * i + 1) [] (X i) p' pc' := by
  obtain ⟨cs, o1, o2⟩ := hB.orow
  obtain ⟨ds, w1, w2⟩ := hB.wrow
  obtain ⟨p, pc, a1, a2, a3, a4, a5, a6⟩ := o2 i hi
  obtain ⟨p', pc', b1, b2, b3, b4, b5, b6⟩ := w2 i hi
  have hl := hB.low
  have hz := hB.siz
  have key : ∀ {v : Value} {cs : List Value}, W.ownsRow lo 24 3 v n cs → ∃ g c, v = .slice (some ⟨g, 0, none⟩) n c ∧ n ≤ c ∧ c ≤ maxLen ∧ g < W.heap.size ∧ ∀ j u, j < n * 3 → cs[j]? = some u → W.cell? ⟨g, j, none⟩ = some u := fun {v cs} ho => by
    rcases ho.2 with ⟨_, e⟩ | ⟨g, cap, cur, e1, h1, h2, h3, h4, h5, h6⟩
    · omega
    · refine ⟨g, cap, e1, h3, h4, heap_lt h2, fun j u hj hu => cell_blk h2 ?_⟩
      rw [← h6, List.getElem?_take_of_lt hj, Array.getElem?_toList] at hu
      exact hu
  obtain ⟨g, c, e1, q1, q2, q3, q4⟩ := key o1
  obtain ⟨g', c', f1, r1, r2, r3, r4⟩ := key w1
  exact ⟨g, c, g', c', p, pc, p', pc', e1, f1, ⟨q1, q2, r1, r2, q3, r3, by omega⟩, ⟨q4 _ _ (by omega) a1, q4 _ _ (by omega) a2, q4 _ _ (by omega) a3⟩, ⟨r4 _ _ (by omega) b1, r4 _ _ (by omega) b2, r4 _ _ (by omega) b3⟩, ⟨cell_blk hB.hd rfl, cell_blk hB.hd rfl⟩, ⟨a4, a5⟩, a6, b6⟩
theorem TrV.isv {W : World} {ρ : Gh} {id : Nat} {q : List Nat} {x : V} {p : Option Addr} {c : Nat} (h : TrV W ρ id q x p c) (hk : I64 x.k) (hn : I64 x.n) : IsV W W.heap.size (agV x.k x.n p x.l.length c) x := ⟨⟨p, c, rfl, TrV.sl x h⟩, hk, hn⟩
end Go.Proofs.Ytikijkpklneihaa
