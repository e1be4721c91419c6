import Derived.Test.YtjabdhmkibahlaaCGSl
import Derived.Test.YtjabdhmkibahlaaCGUa
import Derived.Laws.Rows
import Derived.Lib.BufferMore
import Derived.Deep.MidRow
namespace Go.Proofs.Ytjabdhmkibahlaa
open Go.RowKit
set_option linter.unusedVariables false
set_option linter.unusedSimpArgs false

/-! ### rows of one's own: what is needed of them besides -/
theorem owns_same {W W' : World} {B : Nat} {e : TypeId} {s : Nat} {v : Value} {n : Nat} {cs : List Value} (h : W.ownsRow B e s v n cs) (hb : ∀ g, B ≤ g → g < W.heap.size → W'.heap[g]? = W.heap[g]?) : W'.ownsRow B e s v n cs := by
  refine ⟨h.1, ?_⟩
  rcases h.2 with hn | ⟨g, cap, cur, rfl, hB, hgg, rest⟩
  · exact .inl hn
  · exact .inr ⟨g, cap, cur, rfl, hB, by rw [hb g hB (Array.getElem?_eq_some_iff.1 hgg).1]; exact hgg, rest⟩
theorem owns_block {W : World} {B : Nat} {e : TypeId} {s : Nat} {v : Value} {n : Nat} {cs : List Value} (h : W.ownsRow B e s v n cs) {g : Nat} (hg : v.ownBlock = some g) : B ≤ g ∧ g < W.heap.size := by
  rcases h.2 with ⟨rfl, _⟩ | ⟨g', cap, cur, rfl, hB, hgg, rest⟩
  · cases hg
  · simp only [Value.ownBlock, Option.some.injEq] at hg
    subst hg
    exact ⟨hB, (Array.getElem?_eq_some_iff.1 hgg).1⟩
theorem owns_kind {W : World} {B : Nat} {e : TypeId} {s : Nat} {v : Value} {n : Nat} {cs : List Value} (h : W.ownsRow B e s v n cs) : ∀ g, v.ownBlock = some g → ∃ c fz, W.heap[g]? = some (.cells c e fz) := by
  intro g hg
  rcases h.2 with ⟨rfl, _⟩ | ⟨g', cap, cur, rfl, hB, hgg, rest⟩
  · cases hg
  · simp only [Value.ownBlock, Option.some.injEq] at hg
    subst hg
    exact ⟨_, _, hgg⟩
theorem cell_blk {w : World} {b i : Nat} {cs : Array Value} {t : TypeId} {fz : Nat × Nat} {v : Value} (h : w.heap[b]? = some (.cells cs t fz)) (hv : cs[i]? = some v) : w.cell? ⟨b, i, none⟩ = some v := by
  rw [World.cell?]
  simp only [h]
  exact hv
theorem frz_blk {w : World} {b i : Nat} {cs : Array Value} {t : TypeId} (h : w.heap[b]? = some (.cells cs t (0, 0))) : w.frozen? ⟨b, i, none⟩ = false := by simp [World.frozen?, h]
theorem heap_lt {w : World} {b : Nat} {o : Obj} (h : w.heap[b]? = some o) : b < w.heap.size := (Array.getElem?_eq_some_iff.1 h).1
theorem heap_newH (w : World) (o : Obj) (H : Nat) (h : w.heap.size = H) : (w.alloc o).heap[H]? = some o := by subst h; exact World.alloc_heap_new w o
theorem wpList_appI {P : Program} {w w' : World} {ops : Array Oper} {rest : List Oper} {o : Oper} {a : Act} {Q : Exit → Act → World → Prop} (hgd : o.guard = none) (s x : Operand) (t : TypeId)
    (ho : o.op = .call { callee := .builtin .append, args := #[s, x], argTypes := #[t, t] }) {v u r : Value} (hs : a.eval s = v) (hx : a.eval x = u) (hr : ∀ ty, (Builtin.append_ #[t, t] ty #[v, u]).run P w = .ok r w')
    (h : wpList P ops Q rest (a.put o.dst r) w') : wpList P ops Q (o :: rest) a w := by
  refine wpList_plain hgd fun K hK => ?_
  unfold Oper.wp
  simp [execOp, ho, resolve, invoke, builtin, hs, hx, hr, Result.andThen]
  exact hK _ _ h
theorem owns_slice {W : World} {B s n : Nat} {t : TypeId} {v : Value} {cs : List Value} (h : W.ownsRow B t s v n cs) : ∃ a c, v = .slice a n c := by
  rcases h.2 with ⟨rfl, rfl⟩ | ⟨g, cap, cur, rfl, _⟩
  · exact ⟨_, _, rfl⟩
  · exact ⟨_, _, rfl⟩
theorem owns_sl {W : World} {B s n : Nat} {t : TypeId} {v : Value} {cs : List Value} (h : W.ownsRow B t s v n cs) : ∃ a k c, v = .slice a k c := by
  obtain ⟨a, c, e⟩ := owns_slice h
  exact ⟨a, n, c, e⟩
/-- one element behind a row of one's own -/
theorem app1 {e t : TypeId} {i0 : TypeInfo} {z : Value} {s bt : Nat} (ht : Try.prog.underlying t = some (.slice e)) (hi : Try.prog.info? e = some i0) (hz : i0.zero = some z) (hs : i0.size = s) (hb : i0.bytes = bt) (hzs : z.cells.size = s) (hs0 : 0 < s)
    (W : World) (B : Nat) (v : Value) (n : Nat) (xs : List Value) (ho : W.ownsRow B e s v n xs) (cs : Array Value) (hcs : cs.toList.length = s) (h1 : ∀ u ∈ cs.toList, u.oneCell' = true) (hn : n + 1 ≤ maxLen) (hby : (n + 1) * bt ≤ 140737488355328) (hB : B ≤ W.heap.size) :
    ∃ g c W3, (∀ ty, (Builtin.append_ #[t, t] ty #[v, .slice (some ⟨W.heap.size, 0, none⟩) 1 1]).run Try.prog (W.alloc (.cells cs e)) = .ok (.slice (some ⟨g, 0, none⟩) (n + 1) c) W3) ∧ W3.ownsRow B e s (.slice (some ⟨g, 0, none⟩) (n + 1) c) (n + 1) (xs ++ cs.toList) ∧ W.grownBy W3 v.ownBlock ∧ n + 1 ≤ c ∧ (v.ownBlock = some g ∨ W.heap.size ≤ g) := by
  have ho' : (W.alloc (.cells cs e)).ownsRow B e s v n xs := own_new ho (below1 _ _)
  obtain ⟨g, c, W3, r1, r2, r3, r4, r5⟩ := run_append_lies (P := Try.prog) (W.alloc (.cells cs e)) t e B e i0 z s bt ht hi hz hs hb hzs hs0 v n xs ho' ⟨W.heap.size, 0, none⟩ 1 1 cs.toList (by omega) (block_cells _ _ _ _ (World.alloc_heap_new W _)) h1 (by omega) hn hby (by simp; omega) _ rfl
  have hc : n + 1 ≤ c := by
    rcases r2.2 with ⟨e1, _⟩ | ⟨g', cap', cur, e1, _, _, q1, _⟩
    · cases e1
    · simp only [Value.slice.injEq] at e1
      obtain ⟨_, _, rfl⟩ := e1
      exact q1
  refine ⟨g, c, W3, fun ty => r1, r2, ⟨r3.os, r3.tape, r3.output, Nat.le_trans (by simp) r3.size, fun k hk hne => ?_⟩, hc, ?_⟩
  · rw [r3.block k (by simp; omega) hne, Below.heap_alloc W _ k hk]
  · rcases r4 with r4 | r4
    · exact .inl r4
    · exact .inr (by rw [r4]; simp)
/-- a list that lies somewhere, behind a row of one's own -/
theorem appL {e t : TypeId} {i0 : TypeInfo} {z : Value} {s bt : Nat} (ht : Try.prog.underlying t = some (.slice e)) (hi : Try.prog.info? e = some i0) (hz : i0.zero = some z) (hs : i0.size = s) (hb : i0.bytes = bt) (hzs : z.cells.size = s) (hs0 : 0 < s)
    (W : World) (B : Nat) (v : Value) (n : Nat) (xs : List Value) (ho : W.ownsRow B e s v n xs) (p : Option Addr) (m c : Nat) (news : List Value) (hl : news.length = m * s) (hc : 0 < m → ∃ ad, p = some ad ∧ ∀ j u, news[j]? = some u → W.cell? (ad.add j) = some u) (h1 : ∀ u ∈ news, u.oneCell' = true) (hn : n + m ≤ maxLen) (hby : (n + m) * bt ≤ 140737488355328) (hB : B ≤ W.heap.size) :
    ∃ v' W3, (∀ ty, (Builtin.append_ #[t, t] ty #[v, .slice p m c]).run Try.prog W = .ok v' W3) ∧ W3.ownsRow B e s v' (n + m) (xs ++ news) ∧ W.grownBy W3 v.ownBlock := by
  by_cases h0 : 0 < m
  · obtain ⟨ad, rfl, hcc⟩ := hc h0
    obtain ⟨g, c, W3, r1, r2, r3, r4, r5⟩ := run_append_lies (P := Try.prog) W t e B e i0 z s bt ht hi hz hs hb hzs hs0 v n xs ho ad m c news hl hcc h1 h0 hn hby hB _ rfl
    exact ⟨_, W3, fun ty => r1, r2, r3⟩
  · obtain rfl : m = 0 := by omega
    have : news = [] := List.eq_nil_of_length_eq_zero (by omega)
    subst this
    exact ⟨v, W, fun ty => run_append_zero (P := Try.prog) (w := W) B t ty e i0 s ht hi v n xs ho p c, by simpa using ho, World.grownBy.refl _ _⟩
/-- a row stays where one of another kind grows -/
theorem owns_grown {W W' : World} {B s n : Nat} {t t' : TypeId} {v vv : Value} {cs : List Value} (h : W.ownsRow B t s v n cs) (hg : W.grownBy W' vv.ownBlock) (ht : t' ≠ t) (hne : ∀ g, vv.ownBlock = some g → ∃ c fz, W.heap[g]? = some (.cells c t' fz)) : W'.ownsRow B t s v n cs := by
  refine ⟨h.1, ?_⟩
  rcases h.2 with hn | ⟨g, cap, cur, rfl, hB, hgg, rest⟩
  · exact .inl hn
  · refine .inr ⟨g, cap, cur, rfl, hB, ?_, rest⟩
    rw [hg.block g (heap_lt hgg) (fun e => by
      obtain ⟨c, fz, h2⟩ := hne g e.symm
      rw [h2] at hgg
      injection hgg with hgg
      injection hgg with _ hgg
      exact absurd hgg ht)]
    exact hgg
theorem grown_at {W W' : World} {r : Option Nat} (hg : W.grownBy W' r) {b : Nat} {o : Obj} (h : W.heap[b]? = some o) (hr : r ≠ some b) : W'.heap[b]? = some o := by
  rw [hg.block b (heap_lt h) (fun e => hr (by rw [e]))]; exact h
/-- the beginning of a row -/
theorem owns_cut {w : World} {B g n m c s : Nat} {t : TypeId} {xs ys : List Value} (h : w.ownsRow B t s (.slice (some ⟨g, 0, none⟩) n c) n (xs ++ ys)) (hm : xs.length = m * s) (hmn : m ≤ n) : w.ownsRow B t s (.slice (some ⟨g, 0, none⟩) m c) m xs := by
  rcases h.2 with ⟨e, _⟩ | ⟨g', cap', cur, e, hB, hg, q1, q2, q3, q4⟩
  · cases e
  · simp only [Value.slice.injEq, Option.some.injEq, Addr.mk.injEq] at e
    obtain ⟨⟨rfl, _⟩, _, rfl⟩ := e
    refine ⟨hm, .inr ⟨g, c, cur, rfl, hB, hg, by omega, q2, q3, ?_⟩⟩
    have e2 := congrArg (List.take (m * s)) q4
    have hle : m * s ≤ n * s := Nat.mul_le_mul_right _ hmn
    rw [List.take_take, Nat.min_eq_left hle, List.take_append_of_le_length (by omega)] at e2
    rw [e2]
    exact List.take_of_length_le (by omega)
/-! ### a block of a kind, of a size at the least -/
def Czb (w : World) (t : TypeId) (g n : Nat) : Prop := ∃ cur, w.heap[g]? = some (.cells cur t (0, 0)) ∧ n ≤ cur.size
theorem Czb.set {w : World} {t : TypeId} {g n : Nat} (h : Czb w t g n) (b i : Nat) (v : Value) : Czb (w.setCell ⟨b, i, none⟩ v) t g n := by
  obtain ⟨cur, h1, h2⟩ := h
  by_cases hb : g = b
  · subst hb
    exact ⟨_, Lib.heap_setCell_same (i := i) h1 v, by simpa using h2⟩
  · exact ⟨cur, by rw [Below.heap_setCell w ⟨b, i, none⟩ v g hb]; exact h1, h2⟩
theorem Czb.at_ {w : World} {t : TypeId} {g n : Nat} (h : Czb w t g n) {i : Nat} (hi : i < n) : (∃ x, w.cell? ⟨g, i, none⟩ = some x) ∧ w.frozen? ⟨g, i, none⟩ = false := by
  obtain ⟨cur, h1, h2⟩ := h
  exact ⟨⟨cur[i], cell_blk h1 (Array.getElem?_eq_getElem (by omega))⟩, frz_blk h1⟩
theorem Czb.of {W : World} {B s n g k c : Nat} {t : TypeId} {cs : List Value} (h : W.ownsRow B t s (.slice (some ⟨g, 0, none⟩) k c) n cs) : Czb W t g (n * s) ∧ B ≤ g := by
  rcases h.2 with ⟨e, _⟩ | ⟨g', cap, cur, e, hB, hg, q1, q2, q3, q4⟩
  · cases e
  · simp only [Value.slice.injEq, Option.some.injEq, Addr.mk.injEq] at e
    obtain ⟨⟨rfl, _⟩, _, rfl⟩ := e
    exact ⟨⟨cur, hg, by rw [q3]; exact Nat.mul_le_mul_right _ q1⟩, hB⟩
theorem owns_cellj {w : World} {B s n c g : Nat} {e : TypeId} {xs : List Value} (h : w.ownsRow B e s (.slice (some ⟨g, 0, none⟩) n c) n xs) {j : Nat} {u : Value} (hj : xs[j]? = some u) : w.cell? ⟨g, j, none⟩ = some u := by
  have hl : j < n * s := by
    have := (List.getElem?_eq_some_iff.1 hj).1
    have := h.1
    omega
  rw [h.cellAt j hl]; exact hj
/-- hands and numbers that lie somewhere, as cells -/
theorem HdsR.news {w : World} {p : Option Addr} {c : Nat} {l : List Hd} (h : HdsR w p c l) : 0 < l.length → ∃ ad, p = some ad ∧ ∀ j u, (hdsC l)[j]? = some u → w.cell? (ad.add j) = some u := by
  intro h0
  obtain ⟨b, o, e, _, _⟩ := h.at_ 0 h0
  refine ⟨⟨b, o, none⟩, e, fun j u hj => ?_⟩
  have hl : j < l.length * 2 := by
    have := (List.getElem?_eq_some_iff.1 hj).1
    rw [hdsC_len] at this
    exact this
  obtain ⟨b', o', e', _, hc⟩ := h.at_ (j / 2) (by omega)
  rw [e] at e'
  cases e'
  obtain ⟨q1, q2⟩ := hc w (Below.refl _ _)
  obtain ⟨z1, z2⟩ := hdsC_at l (j / 2) (by omega)
  rw [add_off]
  rcases Nat.mod_two_eq_zero_or_one j with hm | hm
  · have ej : j / 2 * 2 = j := by omega
    rw [ej] at q1 z1
    rw [q1, ← z1, hj]
  · have ej : j / 2 * 2 + 1 = j := by omega
    rw [show o + j / 2 * 2 + 1 = o + j by omega] at q2
    rw [ej] at z2
    rw [q2, ← z2, hj]
theorem IntsR.news {w : World} {p : Option Addr} {c : Nat} {l : List Int} (h : IntsR w p c l) : 0 < l.length → ∃ ad, p = some ad ∧ ∀ j u, (rowC l)[j]? = some u → w.cell? (ad.add j) = some u := by
  intro h0
  obtain ⟨b, o, e, _, _⟩ := h.at_ 0 h0
  refine ⟨⟨b, o, none⟩, e, fun j u hj => ?_⟩
  have hl : j < l.length := by
    have := (List.getElem?_eq_some_iff.1 hj).1
    simpa [rowC] using this
  obtain ⟨b', o', e', _, hc⟩ := h.at_ j hl
  rw [e] at e'
  cases e'
  rw [add_off, hc w (Below.refl _ _)]
  simp [rowC, hl] at hj
  rw [hj]
theorem rowC_on (l : List Int) : ∀ u ∈ rowC l, u.oneCell' = true := fun u hu => by
  unfold rowC at hu
  obtain ⟨x, _, rfl⟩ := List.mem_map.1 hu
  rfl
theorem rowC_ln (l : List Int) : (rowC l).length = l.length := by simp [rowC]
theorem HdsR.i64 {w : World} {p : Option Addr} {c : Nat} {l : List Hd} (h : HdsR w p c l) : ∀ x ∈ l, I64 x.chan := fun x hx => by
  obtain ⟨j, hj, rfl⟩ := List.getElem_of_mem hx
  obtain ⟨_, _, _, h6, _⟩ := h.at_ j hj
  exact h6
theorem IntsR.i64 {w : World} {p : Option Addr} {c : Nat} {l : List Int} (h : IntsR w p c l) : ∀ x ∈ l, I64 x := fun x hx => by
  obtain ⟨j, hj, rfl⟩ := List.getElem_of_mem hx
  obtain ⟨_, _, _, h6, _⟩ := h.at_ j hj
  exact h6
end Go.Proofs.Ytjabdhmkibahlaa
namespace Go.Proofs.Ytjabdhmkibahlaa
open Go.RowKit
set_option linter.unusedVariables false
set_option linter.unusedSimpArgs false

/-! ### agents that are lent: a row of them, rows of their lists, a mark behind each list -/
abbrev Gh := (Nat × Nat) × (Nat × Nat)
def amC (s : List Ag) (gs : List Gh) : List Value := (s.zip gs).map fun x => .slice (some ⟨x.2.1.1, 0, none⟩) (x.1.arms.length + 1) x.2.1.2
def hlC (s : List Ag) (gs : List Gh) : List Value := (s.zip gs).map fun x => .slice (some ⟨x.2.2.1, 0, none⟩) (x.1.held.length + 1) x.2.2.2
def alC1 (a : Ag) (g : Gh) : List Value := [.int .i64 a.id, .bool a.awake, .slice (some ⟨g.1.1, 0, none⟩) a.arms.length g.1.2, .slice (some ⟨g.2.1, 0, none⟩) a.held.length g.2.2]
def alC (s : List Ag) (gs : List Gh) : List Value := (s.zip gs).flatMap fun x => alC1 x.1 x.2
theorem amC_snoc {s : List Ag} {gs : List Gh} (h : gs.length = s.length) (a : Ag) (g : Gh) : amC (s ++ [a]) (gs ++ [g]) = amC s gs ++ [.slice (some ⟨g.1.1, 0, none⟩) (a.arms.length + 1) g.1.2] := by
  unfold amC
  rw [List.zip_append h.symm, List.map_append]
  rfl
theorem hlC_snoc {s : List Ag} {gs : List Gh} (h : gs.length = s.length) (a : Ag) (g : Gh) : hlC (s ++ [a]) (gs ++ [g]) = hlC s gs ++ [.slice (some ⟨g.2.1, 0, none⟩) (a.held.length + 1) g.2.2] := by
  unfold hlC
  rw [List.zip_append h.symm, List.map_append]
  rfl
theorem alC_snoc {s : List Ag} {gs : List Gh} (h : gs.length = s.length) (a : Ag) (g : Gh) : alC (s ++ [a]) (gs ++ [g]) = alC s gs ++ alC1 a g := by
  unfold alC
  rw [List.zip_append h.symm, List.flatMap_append]
  simp
def h77 : Hd := ⟨-77, false⟩
/-- the two lists of one that is lent -/
structure Lst2 (W : World) (B : Nat) (a : Ag) (g : Gh) : Prop where
  arms : W.ownsRow B 58 2 (.slice (some ⟨g.1.1, 0, none⟩) (a.arms.length + 1) g.1.2) (a.arms.length + 1) (hdsC a.arms ++ [.int .i64 (-77), .bool false])
  held : W.ownsRow B 3 1 (.slice (some ⟨g.2.1, 0, none⟩) (a.held.length + 1) g.2.2) (a.held.length + 1) (rowC a.held ++ [.int .i64 (-78)])
theorem Lst2.on {W W' : World} {B : Nat} {a : Ag} {g : Gh} (h : Lst2 W B a g) (hb : ∀ y, B ≤ y → y < W.heap.size → W'.heap[y]? = W.heap[y]?) : Lst2 W' B a g := ⟨owns_same h.arms hb, owns_same h.held hb⟩
theorem Lst2.low {W : World} {B B' : Nat} {a : Ag} {g : Gh} (h : Lst2 W B a g) (hb : B' ≤ B) : Lst2 W B' a g := ⟨own_low h.arms hb, own_low h.held hb⟩
theorem Lst2.grown {W W' : World} {B : Nat} {a : Ag} {g : Gh} {vv : Value} {t' : TypeId} (h : Lst2 W B a g) (hg : W.grownBy W' vv.ownBlock) (h1 : t' ≠ 58) (h2 : t' ≠ 3) (hne : ∀ g, vv.ownBlock = some g → ∃ c fz, W.heap[g]? = some (.cells c t' fz)) : Lst2 W' B a g := ⟨owns_grown h.arms hg h1 hne, owns_grown h.held hg h2 hne⟩
theorem Lst2.lt {W : World} {B : Nat} {a : Ag} {g : Gh} (h : Lst2 W B a g) : (B ≤ g.1.1 ∧ g.1.1 < W.heap.size) ∧ B ≤ g.2.1 ∧ g.2.1 < W.heap.size := ⟨owns_block h.arms rfl, owns_block h.held rfl⟩
structure Lnd (W : World) (B : Nat) (s : List Ag) (va vm vh : Value) (gs : List Gh) : Prop where
  len : gs.length = s.length
  all : W.ownsRow B 53 4 va s.length (alC s gs)
  arms : W.ownsRow B 51 1 vm s.length (amC s gs)
  held : W.ownsRow B 45 1 vh s.length (hlC s gs)
  two : ∀ i (h1 : i < s.length) (h2 : i < gs.length), Lst2 W B s[i] gs[i]
theorem Lnd.nil (W : World) (B : Nat) : Lnd W B [] (.slice none 0 0) (.slice none 0 0) (.slice none 0 0) [] := ⟨rfl, ⟨rfl, .inl ⟨rfl, rfl⟩⟩, ⟨rfl, .inl ⟨rfl, rfl⟩⟩, ⟨rfl, .inl ⟨rfl, rfl⟩⟩, fun i h => by simp at h⟩
theorem Lnd.on {W W' : World} {B : Nat} {s : List Ag} {va vm vh : Value} {gs : List Gh} (h : Lnd W B s va vm vh gs) (hb : ∀ g, B ≤ g → g < W.heap.size → W'.heap[g]? = W.heap[g]?) : Lnd W' B s va vm vh gs :=
  ⟨h.len, owns_same h.all hb, owns_same h.arms hb, owns_same h.held hb, fun i h1 h2 => (h.two i h1 h2).on hb⟩
theorem infoSH : (Try.prog.info? 51).map (fun i => (i.zero, i.size, i.bytes)) = some (some (.slice none 0 0), 1, 24) := by kernel_rfl
theorem infoSI : (Try.prog.info? 45).map (fun i => (i.zero, i.size, i.bytes)) = some (some (.slice none 0 0), 1, 24) := by kernel_rfl
/-- what an agent looks like in its block -/
abbrev agB (a : Ag) (x y : Value) : Obj := .cells #[.int .i64 a.id, .bool a.awake, x, y] 53 (0, 0)
abbrev lnX (a b c : Value) : Obj := .cells #[a, b, c] 31 (0, 0)
/-- lend under way -/
structure Lst (w W : World) (H : Nat) (s : List Ag) (va vm vh : Value) (gs : List Gh) : Prop where
  bel : Below H w W
  r0 : W.heap[H]? = some (lnX (.slice none 0 0) (.slice none 0 0) (.slice none 0 0))
  rx : W.heap[H + 1]? = some (lnX va vm vh)
  lnd : Lnd W (H + 2) s va vm vh gs
theorem Lst.sz {w W : World} {H : Nat} {s : List Ag} {va vm vh : Value} {gs : List Gh} (h : Lst w W H s va vm vh gs) : H + 2 ≤ W.heap.size := heap_lt h.rx
/-- the worlds of the first half of a round: the two lists -/
structure RndA (W0 W2 W3 W4 W5 W6 W7 W8 : World) (H n m : Nat) (a : Ag) (v3 v6 : Value) (pa : Option Addr) (ca : Nat) (ph : Option Addr) (ch : Nat) (g : Gh) : Prop where
  w2 : (W0.alloc (agB a (.slice pa n ca) (.slice ph m ch))).alloc (.cells #[] 58) = W2
  c2 : W2.cell? ⟨W0.heap.size, 2, none⟩ = some (.slice pa n ca)
  r3 : ∀ ty, (Builtin.append_ #[51, 51] ty #[.slice (some ⟨W0.heap.size + 1, 0, none⟩) 0 0, .slice pa n ca]).run Try.prog W2 = .ok v3 W3
  r4 : ∀ ty, (Builtin.append_ #[51, 51] ty #[v3, .slice (some ⟨W3.heap.size, 0, none⟩) 1 1]).run Try.prog (W3.alloc (.cells #[.int .i64 (-77), .bool false] 58)) = .ok (.slice (some ⟨g.1.1, 0, none⟩) (n + 1) g.1.2) W4
  cp : n + 1 ≤ g.1.2
  w5 : W4.alloc (.cells #[] 3) = W5
  c5 : W5.cell? ⟨W0.heap.size, 3, none⟩ = some (.slice ph m ch)
  r6 : ∀ ty, (Builtin.append_ #[45, 45] ty #[.slice (some ⟨W4.heap.size, 0, none⟩) 0 0, .slice ph m ch]).run Try.prog W5 = .ok v6 W6
  r7 : ∀ ty, (Builtin.append_ #[45, 45] ty #[v6, .slice (some ⟨W6.heap.size, 0, none⟩) 1 1]).run Try.prog (W6.alloc (.cells #[.int .i64 (-78)] 3)) = .ok (.slice (some ⟨g.2.1, 0, none⟩) (m + 1) g.2.2) W7
  cq : m + 1 ≤ g.2.2
  c7 : W7.cell? ⟨W0.heap.size, 2, none⟩ = some (.slice pa n ca)
  d7 : W7.cell? ⟨W0.heap.size, 3, none⟩ = some (.slice ph m ch)
  f7 : W7.frozen? ⟨W0.heap.size, 2, none⟩ = false
  g7 : W7.frozen? ⟨W0.heap.size, 3, none⟩ = false
  w8 : (W7.setCell ⟨W0.heap.size, 2, none⟩ (.slice (some ⟨g.1.1, 0, none⟩) n g.1.2)).setCell ⟨W0.heap.size, 3, none⟩ (.slice (some ⟨g.2.1, 0, none⟩) m g.2.2) = W8
  b8 : W8.heap[W0.heap.size]? = some (agB a (.slice (some ⟨g.1.1, 0, none⟩) n g.1.2) (.slice (some ⟨g.2.1, 0, none⟩) m g.2.2))
  bel : Below W0.heap.size W0 W8
  two : Lst2 W8 (W0.heap.size + 1) a g
set_option maxHeartbeats 2000000 in
theorem rnd_a {W0 : World} (H : Nat) (a : Ag) (n m : Nat) (hn : n = a.arms.length) (hm : m = a.held.length) (pa : Option Addr) (ca : Nat) (ph : Option Addr) (ch : Nat) (hA : AgR W0 a pa ca ph ch) (hln : n ≤ 2147483647) (hlm : m ≤ 2147483647) :
    ∃ W2 W3 W4 W5 W6 W7 W8 v3 v6 g, RndA W0 W2 W3 W4 W5 W6 W7 W8 H n m a v3 v6 pa ca ph ch g := by
  subst hn
  subst hm
  obtain ⟨i0, hi0, iz0, iz1, iz2⟩ := info_parts infoI
  obtain ⟨j0, hj0, jz0, jz1, jz2⟩ := info_parts infoH
  obtain ⟨E, hE⟩ : ∃ E, E = W0.heap.size := ⟨_, rfl⟩
  obtain ⟨W1, hW1⟩ : ∃ W1, W0.alloc (agB a (.slice pa a.arms.length ca) (.slice ph a.held.length ch)) = W1 := ⟨_, rfl⟩
  have hs1 : W1.heap.size = E + 1 := by rw [← hW1, hE]; simp
  have b1 : Below E W0 W1 := by rw [← hW1, hE]; exact below1 _ _
  have he1 : W1.heap[E]? = some (agB a (.slice pa a.arms.length ca) (.slice ph a.held.length ch)) := by rw [← hW1, hE]; exact heap_newH _ _ _ rfl
  obtain ⟨W2, hW2⟩ : ∃ W2, W1.alloc (.cells #[] 58) = W2 := ⟨_, rfl⟩
  have hs2 : W2.heap.size = E + 2 := by rw [← hW2]; simp [hs1]
  have b2 : Below (E + 1) W1 W2 := by rw [← hW2, ← hs1]; exact below1 _ _
  have n2 : W2.ownsRow (E + 1) 58 2 (.slice (some ⟨E + 1, 0, none⟩) 0 0) 0 [] := ⟨rfl, .inr ⟨E + 1, 0, #[], rfl, Nat.le_refl _, by rw [← hW2]; exact heap_newH _ _ _ hs1, Nat.le_refl _, by simp [maxLen], rfl, rfl⟩⟩
  have hb02 : Below E W0 W2 := b1.trans (b2.mono (by omega))
  have hA2 : AgR W2 a pa ca ph ch := hA.later (by rw [← hE]; exact hb02)
  obtain ⟨v3, W3, r3, n3, g3⟩ := appL Try.underlying51 hj0 jz0 jz1 jz2 rfl (by decide) W2 (E + 1) _ 0 [] n2 pa a.arms.length ca (hdsC a.arms) (hdsC_len _) hA2.arms.news (hdsC_one _) (by unfold maxLen; omega) (by omega) (by omega)
  rw [List.nil_append, Nat.zero_add] at n3
  have b3 : Below (E + 1) W2 W3 := (Below.refl _ _).grown g3 (by omega) fun k hk => (owns_block n2 hk).1
  have hs3 := b3.size
  obtain ⟨ga, cga, W4, r4, n4, g4, hcp, _⟩ := app1 Try.underlying51 hj0 jz0 jz1 jz2 rfl (by decide) W3 (E + 1) v3 a.arms.length _ n3 #[.int .i64 (-77), .bool false] rfl (by simp [Value.oneCell']) (by unfold maxLen; omega) (by omega) (by omega)
  have b4 : Below (E + 1) W3 W4 := (Below.refl _ _).grown g4 (by omega) fun k hk => (owns_block n3 hk).1
  have hs4 := b4.size
  obtain ⟨F, hF⟩ : ∃ F, F = W4.heap.size := ⟨_, rfl⟩
  obtain ⟨W5, hW5⟩ : ∃ W5, W4.alloc (.cells #[] 3) = W5 := ⟨_, rfl⟩
  have hs5 : W5.heap.size = F + 1 := by rw [← hW5, hF]; simp
  have b5 : Below F W4 W5 := by rw [← hW5, hF]; exact below1 _ _
  have n5 : W5.ownsRow F 3 1 (.slice (some ⟨F, 0, none⟩) 0 0) 0 [] := ⟨rfl, .inr ⟨F, 0, #[], rfl, Nat.le_refl _, by rw [← hW5]; exact heap_newH _ _ _ hF.symm, Nat.le_refl _, by simp [maxLen], rfl, rfl⟩⟩
  have b15 : Below (E + 1) W1 W5 := b2.trans (b3.trans (b4.trans (b5.mono (by omega))))
  have hA5 : AgR W5 a pa ca ph ch := hA.later (by rw [← hE]; exact b1.trans (b15.mono (by omega)))
  obtain ⟨v6, W6, r6, n6, g6⟩ := appL Try.underlying45 hi0 iz0 iz1 iz2 rfl (by decide) W5 F _ 0 [] n5 ph a.held.length ch (rowC a.held) (by rw [rowC_ln, Nat.mul_one]) hA5.held.news (rowC_on _) (by unfold maxLen; omega) (by omega) (by omega)
  rw [List.nil_append, Nat.zero_add] at n6
  have b6 : Below F W5 W6 := (Below.refl _ _).grown g6 (by omega) fun k hk => (owns_block n5 hk).1
  have hs6 := b6.size
  obtain ⟨gh, cgh, W7, r7, n7, g7, hcq, _⟩ := app1 Try.underlying45 hi0 iz0 iz1 iz2 rfl (by decide) W6 F v6 a.held.length _ n6 #[.int .i64 (-78)] rfl (by simp [Value.oneCell']) (by unfold maxLen; omega) (by omega) (by omega)
  have b7 : Below F W6 W7 := (Below.refl _ _).grown g7 (by omega) fun k hk => (owns_block n6 hk).1
  have b47 : Below F W4 W7 := b5.trans (b6.trans b7)
  have b17 : Below (E + 1) W1 W7 := b2.trans (b3.trans (b4.trans (b47.mono (by omega))))
  have he2 : W2.heap[E]? = some (agB a (.slice pa a.arms.length ca) (.slice ph a.held.length ch)) := by rw [b2.block E (by omega)]; exact he1
  have he5 : W5.heap[E]? = some (agB a (.slice pa a.arms.length ca) (.slice ph a.held.length ch)) := by rw [b15.block E (by omega)]; exact he1
  have he7 : W7.heap[E]? = some (agB a (.slice pa a.arms.length ca) (.slice ph a.held.length ch)) := by rw [b17.block E (by omega)]; exact he1
  have n74 : W7.ownsRow (E + 1) 58 2 (.slice (some ⟨ga, 0, none⟩) (a.arms.length + 1) cga) (a.arms.length + 1) (hdsC a.arms ++ [.int .i64 (-77), .bool false]) := owns_same n4 fun y _ hy => b47.block y (by omega)
  obtain ⟨W8, hW8⟩ : ∃ W8, (W7.setCell ⟨E, 2, none⟩ (.slice (some ⟨ga, 0, none⟩) a.arms.length cga)).setCell ⟨E, 3, none⟩ (.slice (some ⟨gh, 0, none⟩) a.held.length cgh) = W8 := ⟨_, rfl⟩
  have hk8 : ∀ y, y ≠ E → W8.heap[y]? = W7.heap[y]? := fun y hy => by
    rw [← hW8, Below.heap_setCell _ ⟨E, 3, none⟩ _ y hy, Below.heap_setCell _ ⟨E, 2, none⟩ _ y hy]
  have he8 : W8.heap[E]? = some (agB a (.slice (some ⟨ga, 0, none⟩) a.arms.length cga) (.slice (some ⟨gh, 0, none⟩) a.held.length cgh)) := by
    have a1 : (W7.setCell ⟨E, 2, none⟩ (.slice (some ⟨ga, 0, none⟩) a.arms.length cga)).heap[E]? = some (agB a (.slice (some ⟨ga, 0, none⟩) a.arms.length cga) (.slice ph a.held.length ch)) := by
      have := Lib.heap_setCell_same (i := 2) he7 (.slice (some ⟨ga, 0, none⟩) a.arms.length cga)
      simpa using this
    rw [← hW8]
    have := Lib.heap_setCell_same (i := 3) a1 (.slice (some ⟨gh, 0, none⟩) a.held.length cgh)
    simpa using this
  have hb8 : Below E W0 W8 := by
    rw [← hW8]
    exact (b1.trans (b17.mono (by omega))).trans (((Below.refl E W7).setCell (p := ⟨E, 2, none⟩) (Nat.le_refl _) _).trans ((Below.refl E _).setCell (p := ⟨E, 3, none⟩) (Nat.le_refl _) _))
  refine ⟨W2, W3, W4, W5, W6, W7, W8, v3, v6, ((ga, cga), (gh, cgh)), ?_⟩
  subst hE
  subst hF
  refine ⟨by rw [hW1]; exact hW2, cell_blk he2 rfl, r3, r4, hcp, hW5, cell_blk he5 rfl, r6, r7, hcq, cell_blk he7 rfl, cell_blk he7 rfl, frz_blk he7, frz_blk he7, hW8, he8, hb8, ?_, ?_⟩
  · exact owns_same n74 fun y hy _ => hk8 y (by omega)
  · exact owns_same (own_low n7 (by omega)) fun y hy _ => hk8 y (by omega)
/-- the worlds of the second half: the three rows -/
structure RndB (w W8 W9 Wa Wb Wc Wd We : World) (H n m : Nat) (s : List Ag) (a : Ag) (va vm vh va' vm' vh' : Value) (g : Gh) (gs : List Gh) : Prop where
  c8 : W8.cell? ⟨H + 1, 1, none⟩ = some vm
  r9 : ∀ ty, (Builtin.append_ #[28, 28] ty #[vm, .slice (some ⟨W8.heap.size, 0, none⟩) 1 1]).run Try.prog (W8.alloc (.cells #[.slice (some ⟨g.1.1, 0, none⟩) (n + 1) g.1.2] 51)) = .ok vm' W9
  c9 : W9.cell? ⟨H + 1, 1, none⟩ = some vm
  f9 : W9.frozen? ⟨H + 1, 1, none⟩ = false
  wa : W9.setCell ⟨H + 1, 1, none⟩ vm' = Wa
  ca : Wa.cell? ⟨H + 1, 2, none⟩ = some vh
  rb : ∀ ty, (Builtin.append_ #[29, 29] ty #[vh, .slice (some ⟨Wa.heap.size, 0, none⟩) 1 1]).run Try.prog (Wa.alloc (.cells #[.slice (some ⟨g.2.1, 0, none⟩) (m + 1) g.2.2] 45)) = .ok vh' Wb
  cb : Wb.cell? ⟨H + 1, 2, none⟩ = some vh
  fb : Wb.frozen? ⟨H + 1, 2, none⟩ = false
  wc : Wb.setCell ⟨H + 1, 2, none⟩ vh' = Wc
  cc : Wc.cell? ⟨H + 1, 0, none⟩ = some va
  rd : ∀ ty, (Builtin.append_ #[22, 22] ty #[va, .slice (some ⟨Wc.heap.size, 0, none⟩) 1 1]).run Try.prog (Wc.alloc (agB a (.slice (some ⟨g.1.1, 0, none⟩) n g.1.2) (.slice (some ⟨g.2.1, 0, none⟩) m g.2.2))) = .ok va' Wd
  cd : Wd.cell? ⟨H + 1, 0, none⟩ = some va
  fd : Wd.frozen? ⟨H + 1, 0, none⟩ = false
  we : Wd.setCell ⟨H + 1, 0, none⟩ va' = We
  st : Lst w We H (s ++ [a]) va' vm' vh' (gs ++ [g])
set_option maxHeartbeats 2000000 in
theorem rnd_b {w W0 W8 : World} {H : Nat} {s : List Ag} {va vm vh : Value} {gs : List Gh} (h : Lst w W0 H s va vm vh gs) (hw : w.heap.size = H) (a : Ag) (g : Gh) (hb8 : Below W0.heap.size W0 W8) (h2 : Lst2 W8 (W0.heap.size + 1) a g) (E : Nat) (hE : W0.heap.size = E) (n m : Nat) (hn : n = a.arms.length) (hm : m = a.held.length) (hb : W8.heap[E]? = some (agB a (.slice (some ⟨g.1.1, 0, none⟩) n g.1.2) (.slice (some ⟨g.2.1, 0, none⟩) m g.2.2))) (hs : s.length ≤ 2147483647) :
    ∃ W9 Wa Wb Wc Wd We va' vm' vh', RndB w W8 W9 Wa Wb Wc Wd We H n m s a va vm vh va' vm' vh' g gs ∧ Wc.heap[E]? = some (agB a (.slice (some ⟨g.1.1, 0, none⟩) n g.1.2) (.slice (some ⟨g.2.1, 0, none⟩) m g.2.2)) := by
  subst hn
  subst hm
  have hz := h.sz
  rw [hE] at hb8 h2 hz
  have hz8 := hb8.size
  rw [hE] at hz8
  obtain ⟨i0, hi0, iz0, iz1, iz2⟩ := info_parts infoSI
  obtain ⟨j0, hj0, jz0, jz1, jz2⟩ := info_parts infoSH
  obtain ⟨k0, hk0, kz0, kz1, kz2⟩ := info_parts infoG
  have l8 : Lnd W8 (H + 2) s va vm vh gs := h.lnd.on fun y _ hy => hb8.block y (by omega)
  have hx8 : W8.heap[H + 1]? = some (lnX va vm vh) := by rw [hb8.block _ (by omega)]; exact h.rx
  have h08 : W8.heap[H]? = some (lnX (.slice none 0 0) (.slice none 0 0) (.slice none 0 0)) := by rw [hb8.block _ (by omega)]; exact h.r0
  have h28 : Lst2 W8 (H + 2) a g := h2.low (by omega)
  have kb : ∀ {v : Value} {t : TypeId} {sz : Nat} {cs : List Value}, W0.ownsRow (H + 2) t sz v s.length cs → ∀ k, v.ownBlock = some k → H + 2 ≤ k ∧ k < E := fun ho k hk => by have := owns_block ho hk; omega
  -- arms
  obtain ⟨gm, cm, W9, r9, n9, g9, _, _⟩ := app1 Try.underlying28 hj0 jz0 jz1 jz2 rfl (by decide) W8 (H + 2) vm s.length _ l8.arms #[.slice (some ⟨g.1.1, 0, none⟩) (a.arms.length + 1) g.1.2] rfl (by simp [Value.oneCell']) (by unfold maxLen; omega) (by omega) (by omega)
  have k9 := owns_kind l8.arms
  have o9 : ∀ k, vm.ownBlock = some k → H + 2 ≤ k ∧ k < E := kb h.lnd.arms
  have hx9 := grown_at g9 hx8 fun e => by have := o9 _ e; omega
  have h09 := grown_at g9 h08 fun e => by have := o9 _ e; omega
  have hE9 := grown_at g9 hb fun e => by have := o9 _ e; omega
  have al9 := owns_grown l8.all g9 (by decide) k9
  have hl9 := owns_grown l8.held g9 (by decide) k9
  have tw9 : ∀ i (h1 : i < s.length) (h2 : i < gs.length), Lst2 W9 (H + 2) s[i] gs[i] := fun i h1 h2 => (l8.two i h1 h2).grown g9 (by decide) (by decide) k9
  have nw9 := h28.grown g9 (by decide) (by decide) k9
  have b9 : Below H W8 W9 := (Below.refl _ _).grown g9 (by omega) fun k hk => by have := o9 k hk; omega
  obtain ⟨Wa, hWa⟩ : ∃ Wa, W9.setCell ⟨H + 1, 1, none⟩ (.slice (some ⟨gm, 0, none⟩) (s.length + 1) cm) = Wa := ⟨_, rfl⟩
  have hka : ∀ y, y ≠ H + 1 → Wa.heap[y]? = W9.heap[y]? := fun y hy => by rw [← hWa]; exact Below.heap_setCell W9 ⟨H + 1, 1, none⟩ _ y hy
  have hsa : Wa.heap.size = W9.heap.size := by rw [← hWa]; simp
  have hxa : Wa.heap[H + 1]? = some (lnX va (.slice (some ⟨gm, 0, none⟩) (s.length + 1) cm) vh) := by
    rw [← hWa]
    have := Lib.heap_setCell_same (i := 1) hx9 (.slice (some ⟨gm, 0, none⟩) (s.length + 1) cm)
    simpa using this
  have ba : Below H W9 Wa := by rw [← hWa]; exact (Below.refl H W9).setCell (p := ⟨H + 1, 1, none⟩) (Nat.le_succ _) _
  have sa : ∀ y, H + 2 ≤ y → y < W9.heap.size → Wa.heap[y]? = W9.heap[y]? := fun y hy _ => hka y (by omega)
  have h0a : Wa.heap[H]? = _ := (hka H (by omega)).trans h09
  have hEa : Wa.heap[E]? = _ := (hka E (by omega)).trans hE9
  have ala := owns_same al9 sa
  have hla := owns_same hl9 sa
  have ama := owns_same n9 sa
  have twa : ∀ i (h1 : i < s.length) (h2 : i < gs.length), Lst2 Wa (H + 2) s[i] gs[i] := fun i h1 h2 => (tw9 i h1 h2).on sa
  have nwa := nw9.on sa
  have hz9 := b9.size
  -- held
  obtain ⟨gh, chh, Wb, rb, nb, gb, _, _⟩ := app1 Try.underlying29 hi0 iz0 iz1 iz2 rfl (by decide) Wa (H + 2) vh s.length _ hla #[.slice (some ⟨g.2.1, 0, none⟩) (a.held.length + 1) g.2.2] rfl (by simp [Value.oneCell']) (by unfold maxLen; omega) (by omega) (by omega)
  have kbk := owns_kind hla
  have ob : ∀ k, vh.ownBlock = some k → H + 2 ≤ k ∧ k < E := kb h.lnd.held
  have hxb := grown_at gb hxa fun e => by have := ob _ e; omega
  have h0b := grown_at gb h0a fun e => by have := ob _ e; omega
  have hEb := grown_at gb hEa fun e => by have := ob _ e; omega
  have alb := owns_grown ala gb (by decide) kbk
  have amb := owns_grown ama gb (by decide) kbk
  have twb : ∀ i (h1 : i < s.length) (h2 : i < gs.length), Lst2 Wb (H + 2) s[i] gs[i] := fun i h1 h2 => (twa i h1 h2).grown gb (by decide) (by decide) kbk
  have nwb := nwa.grown gb (by decide) (by decide) kbk
  have bb : Below H Wa Wb := (Below.refl _ _).grown gb (by omega) fun k hk => by have := ob k hk; omega
  obtain ⟨Wc, hWc⟩ : ∃ Wc, Wb.setCell ⟨H + 1, 2, none⟩ (.slice (some ⟨gh, 0, none⟩) (s.length + 1) chh) = Wc := ⟨_, rfl⟩
  have hkc : ∀ y, y ≠ H + 1 → Wc.heap[y]? = Wb.heap[y]? := fun y hy => by rw [← hWc]; exact Below.heap_setCell Wb ⟨H + 1, 2, none⟩ _ y hy
  have hsc : Wc.heap.size = Wb.heap.size := by rw [← hWc]; simp
  have hxc : Wc.heap[H + 1]? = some (lnX va (.slice (some ⟨gm, 0, none⟩) (s.length + 1) cm) (.slice (some ⟨gh, 0, none⟩) (s.length + 1) chh)) := by
    rw [← hWc]
    have := Lib.heap_setCell_same (i := 2) hxb (.slice (some ⟨gh, 0, none⟩) (s.length + 1) chh)
    simpa using this
  have bc : Below H Wb Wc := by rw [← hWc]; exact (Below.refl H Wb).setCell (p := ⟨H + 1, 2, none⟩) (Nat.le_succ _) _
  have sc : ∀ y, H + 2 ≤ y → y < Wb.heap.size → Wc.heap[y]? = Wb.heap[y]? := fun y hy _ => hkc y (by omega)
  have h0c : Wc.heap[H]? = _ := (hkc H (by omega)).trans h0b
  have hEc : Wc.heap[E]? = _ := (hkc E (by omega)).trans hEb
  have alc := owns_same alb sc
  have amc := owns_same amb sc
  have hlc := owns_same nb sc
  have twc : ∀ i (h1 : i < s.length) (h2 : i < gs.length), Lst2 Wc (H + 2) s[i] gs[i] := fun i h1 h2 => (twb i h1 h2).on sc
  have nwc := nwb.on sc
  have hzb := bb.size
  -- all
  obtain ⟨gv, cv, Wd, rd, nd, gd, _, _⟩ := app1 Try.underlying22 hk0 kz0 kz1 kz2 rfl (by decide) Wc (H + 2) va s.length _ alc #[.int .i64 a.id, .bool a.awake, .slice (some ⟨g.1.1, 0, none⟩) a.arms.length g.1.2, .slice (some ⟨g.2.1, 0, none⟩) a.held.length g.2.2] rfl (by simp [Value.oneCell']) (by unfold maxLen; omega) (by omega) (by omega)
  have kdk := owns_kind alc
  have od : ∀ k, va.ownBlock = some k → H + 2 ≤ k ∧ k < E := kb h.lnd.all
  have hxd := grown_at gd hxc fun e => by have := od _ e; omega
  have h0d := grown_at gd h0c fun e => by have := od _ e; omega
  have amd := owns_grown amc gd (by decide) kdk
  have hld := owns_grown hlc gd (by decide) kdk
  have twd : ∀ i (h1 : i < s.length) (h2 : i < gs.length), Lst2 Wd (H + 2) s[i] gs[i] := fun i h1 h2 => (twc i h1 h2).grown gd (by decide) (by decide) kdk
  have nwd := nwc.grown gd (by decide) (by decide) kdk
  have bd : Below H Wc Wd := (Below.refl _ _).grown gd (by omega) fun k hk => by have := od k hk; omega
  obtain ⟨We, hWe⟩ : ∃ We, Wd.setCell ⟨H + 1, 0, none⟩ (.slice (some ⟨gv, 0, none⟩) (s.length + 1) cv) = We := ⟨_, rfl⟩
  have hke : ∀ y, y ≠ H + 1 → We.heap[y]? = Wd.heap[y]? := fun y hy => by rw [← hWe]; exact Below.heap_setCell Wd ⟨H + 1, 0, none⟩ _ y hy
  have hxe : We.heap[H + 1]? = some (lnX (.slice (some ⟨gv, 0, none⟩) (s.length + 1) cv) (.slice (some ⟨gm, 0, none⟩) (s.length + 1) cm) (.slice (some ⟨gh, 0, none⟩) (s.length + 1) chh)) := by
    rw [← hWe]
    have := Lib.heap_setCell_same (i := 0) hxd (.slice (some ⟨gv, 0, none⟩) (s.length + 1) cv)
    simpa using this
  have be : Below H Wd We := by rw [← hWe]; exact (Below.refl H Wd).setCell (p := ⟨H + 1, 0, none⟩) (Nat.le_succ _) _
  have se : ∀ y, H + 2 ≤ y → y < Wd.heap.size → We.heap[y]? = Wd.heap[y]? := fun y hy _ => hke y (by omega)
  have h0e : We.heap[H]? = _ := (hke H (by omega)).trans h0d
  have bel : Below H w We := h.bel.trans ((hb8.mono (by omega)).trans (b9.trans (ba.trans (bb.trans (bc.trans (bd.trans be))))))
  have hgl := h.lnd.len
  refine ⟨W9, Wa, Wb, Wc, Wd, We, _, _, _, ⟨cell_blk hx8 rfl, r9, cell_blk hx9 rfl, frz_blk hx9, hWa, cell_blk hxa rfl, rb, cell_blk hxb rfl, frz_blk hxb, hWc, cell_blk hxc rfl, rd, cell_blk hxd rfl, frz_blk hxd, hWe, ⟨bel, h0e, hxe, ⟨by simp [hgl], ?_, ?_, ?_, fun i h1 h2 => ?_⟩⟩⟩, hEc⟩
  · rw [alC_snoc hgl, List.length_append]
    exact owns_same nd se
  · rw [amC_snoc hgl, List.length_append]
    exact owns_same amd se
  · rw [hlC_snoc hgl, List.length_append]
    exact owns_same hld se
  · by_cases hi : i < s.length
    · have hl : i < gs.length := by omega
      simp only [List.getElem_append_left hi, List.getElem_append_left hl]
      exact (twd i hi hl).on se
    · have hie : i = s.length := by simp at h1; omega
      subst hie
      simp only [List.getElem_append_right (Nat.le_refl _), List.getElem_append_right (show gs.length ≤ s.length by omega), hgl, Nat.sub_self, List.getElem_cons_zero]
      exact nwd.on se
end Go.Proofs.Ytjabdhmkibahlaa
namespace Go.Proofs.Ytjabdhmkibahlaa
open Go.RowKit
set_option linter.unusedVariables false
set_option linter.unusedSimpArgs false

theorem lst_start (w : World) (H : Nat) (hH : w.heap.size = H) (W : World) (h : (w.alloc (lnX (.slice none 0 0) (.slice none 0 0) (.slice none 0 0))).alloc (lnX (.slice none 0 0) (.slice none 0 0) (.slice none 0 0)) = W) : Lst w W H [] (.slice none 0 0) (.slice none 0 0) (.slice none 0 0) [] := by
  subst hH
  subst h
  refine ⟨(below1 w _).trans ((below1 _ _).mono (by simp)), ?_, heap_newH _ _ _ (by simp), Lnd.nil _ _⟩
  rw [Below.heap_alloc _ _ _ (by simp)]
  exact heap_newH _ _ _ rfl
def ag9 : List Value := [.int .i64 (-9), .bool false, .slice none 0 0, .slice none 0 0]
/-- what is lent: the agents with one more behind, their lists with a mark behind each -/
structure Lent (W : World) (B : Nat) (s : List Ag) (va vm vh : Value) (gs : List Gh) : Prop where
  len : gs.length = s.length
  all : W.ownsRow B 53 4 va (s.length + 1) (alC s gs ++ ag9)
  arms : W.ownsRow B 51 1 vm s.length (amC s gs)
  held : W.ownsRow B 45 1 vh s.length (hlC s gs)
  two : ∀ i (h1 : i < s.length) (h2 : i < gs.length), Lst2 W B s[i] gs[i]
theorem Lent.on {W W' : World} {B : Nat} {s : List Ag} {va vm vh : Value} {gs : List Gh} (h : Lent W B s va vm vh gs) (hb : ∀ g, B ≤ g → g < W.heap.size → W'.heap[g]? = W.heap[g]?) : Lent W' B s va vm vh gs :=
  ⟨h.len, owns_same h.all hb, owns_same h.arms hb, owns_same h.held hb, fun i h1 h2 => (h.two i h1 h2).on hb⟩
/-- the worlds of the end -/
structure Lfin (w W0 W1 W2 W3 : World) (H : Nat) (s : List Ag) (va vm vh va' : Value) (gs : List Gh) : Prop where
  c0 : W0.cell? ⟨H + 1, 0, none⟩ = some va
  r1 : ∀ ty, (Builtin.append_ #[22, 22] ty #[va, .slice (some ⟨W0.heap.size, 0, none⟩) 1 1]).run Try.prog (W0.alloc (.cells #[.int .i64 (-9), .bool false, .slice none 0 0, .slice none 0 0] 53 (0, 0))) = .ok va' W1
  c1 : W1.cell? ⟨H + 1, 0, none⟩ = some va
  f1 : W1.frozen? ⟨H + 1, 0, none⟩ = false
  w2 : W1.setCell ⟨H + 1, 0, none⟩ va' = W2
  c2 : W2.cell? ⟨H + 1, 0, none⟩ = some va'
  d2 : W2.cell? ⟨H + 1, 1, none⟩ = some vm
  e2 : W2.cell? ⟨H + 1, 2, none⟩ = some vh
  k0 : W2.cell? ⟨H, 0, none⟩ = some (.slice none 0 0)
  k1 : W2.cell? ⟨H, 1, none⟩ = some (.slice none 0 0)
  k2 : W2.cell? ⟨H, 2, none⟩ = some (.slice none 0 0)
  q0 : W2.frozen? ⟨H, 0, none⟩ = false
  q1 : W2.frozen? ⟨H, 1, none⟩ = false
  q2 : W2.frozen? ⟨H, 2, none⟩ = false
  w3 : ((W2.setCell ⟨H, 0, none⟩ va').setCell ⟨H, 1, none⟩ vm).setCell ⟨H, 2, none⟩ vh = W3
  c3 : W3.cell? ⟨H, 0, none⟩ = some va'
  d3 : W3.cell? ⟨H, 1, none⟩ = some vm
  e3 : W3.cell? ⟨H, 2, none⟩ = some vh
  b3 : W3.heap[H]? = some (lnX va' vm vh)
  bel : Below H w W3
  lent : Lent W3 (H + 2) s va' vm vh gs
set_option maxHeartbeats 2000000 in
theorem Lst.last {w W0 : World} {H : Nat} {s : List Ag} {va vm vh : Value} {gs : List Gh} (h : Lst w W0 H s va vm vh gs) (hs : s.length ≤ 2147483647) : ∃ W1 W2 W3 va', Lfin w W0 W1 W2 W3 H s va vm vh va' gs := by
  have hz := h.sz
  obtain ⟨k0, hk0, kz0, kz1, kz2⟩ := info_parts infoG
  obtain ⟨gv, cv, W1, r1, n1, g1, _, _⟩ := app1 Try.underlying22 hk0 kz0 kz1 kz2 rfl (by decide) W0 (H + 2) va s.length _ h.lnd.all #[.int .i64 (-9), .bool false, .slice none 0 0, .slice none 0 0] rfl (by simp [Value.oneCell']) (by unfold maxLen; omega) (by omega) (by omega)
  have kk := owns_kind h.lnd.all
  have oa : ∀ k, va.ownBlock = some k → H + 2 ≤ k := fun k hk => (owns_block h.lnd.all hk).1
  have hx1 := grown_at g1 h.rx fun e => by have := oa _ e; omega
  have h01 := grown_at g1 h.r0 fun e => by have := oa _ e; omega
  have b1 : Below H W0 W1 := (Below.refl _ _).grown g1 (by omega) fun k hk => by have := oa k hk; omega
  have am1 := owns_grown h.lnd.arms g1 (by decide) kk
  have hl1 := owns_grown h.lnd.held g1 (by decide) kk
  have tw1 : ∀ i (h1 : i < s.length) (h2 : i < gs.length), Lst2 W1 (H + 2) s[i] gs[i] := fun i h1 h2 => (h.lnd.two i h1 h2).grown g1 (by decide) (by decide) kk
  obtain ⟨va', hva⟩ : ∃ va' : Value, va' = .slice (some ⟨gv, 0, none⟩) (s.length + 1) cv := ⟨_, rfl⟩
  rw [← hva] at r1 n1
  obtain ⟨W2, hW2⟩ : ∃ W2, W1.setCell ⟨H + 1, 0, none⟩ va' = W2 := ⟨_, rfl⟩
  have hk2 : ∀ y, y ≠ H + 1 → W2.heap[y]? = W1.heap[y]? := fun y hy => by rw [← hW2]; exact Below.heap_setCell W1 ⟨H + 1, 0, none⟩ _ y hy
  have hx2 : W2.heap[H + 1]? = some (lnX va' vm vh) := by
    rw [← hW2]
    have := Lib.heap_setCell_same (i := 0) hx1 va'
    simpa using this
  have h02 : W2.heap[H]? = some (lnX (.slice none 0 0) (.slice none 0 0) (.slice none 0 0)) := by rw [hk2 H (by omega)]; exact h01
  have b2 : Below H W1 W2 := by rw [← hW2]; exact (Below.refl H W1).setCell (p := ⟨H + 1, 0, none⟩) (Nat.le_succ _) _
  obtain ⟨W3, hW3⟩ : ∃ W3, ((W2.setCell ⟨H, 0, none⟩ va').setCell ⟨H, 1, none⟩ vm).setCell ⟨H, 2, none⟩ vh = W3 := ⟨_, rfl⟩
  have hk3 : ∀ y, y ≠ H → W3.heap[y]? = W2.heap[y]? := fun y hy => by
    rw [← hW3, Below.heap_setCell _ ⟨H, 2, none⟩ _ y hy, Below.heap_setCell _ ⟨H, 1, none⟩ _ y hy, Below.heap_setCell _ ⟨H, 0, none⟩ _ y hy]
  have h03 : W3.heap[H]? = some (lnX va' vm vh) := by
    have a1 : (W2.setCell ⟨H, 0, none⟩ va').heap[H]? = some (lnX va' (.slice none 0 0) (.slice none 0 0)) := by
      have := Lib.heap_setCell_same (i := 0) h02 va'
      simpa using this
    have a2 : ((W2.setCell ⟨H, 0, none⟩ va').setCell ⟨H, 1, none⟩ vm).heap[H]? = some (lnX va' vm (.slice none 0 0)) := by
      have := Lib.heap_setCell_same (i := 1) a1 vm
      simpa using this
    rw [← hW3]
    have := Lib.heap_setCell_same (i := 2) a2 vh
    simpa using this
  have b3 : Below H W2 W3 := by
    rw [← hW3]
    exact (((Below.refl H W2).setCell (p := ⟨H, 0, none⟩) (Nat.le_refl _) _).trans ((Below.refl H _).setCell (p := ⟨H, 1, none⟩) (Nat.le_refl _) _)).trans ((Below.refl H _).setCell (p := ⟨H, 2, none⟩) (Nat.le_refl _) _)
  have hss : ∀ y, H + 2 ≤ y → y < W1.heap.size → W3.heap[y]? = W1.heap[y]? := fun y hy _ => by rw [hk3 y (by omega), hk2 y (by omega)]
  exact ⟨W1, W2, W3, va', ⟨cell_blk h.rx rfl, r1, cell_blk hx1 rfl, frz_blk hx1, hW2, cell_blk hx2 rfl, cell_blk hx2 rfl, cell_blk hx2 rfl, cell_blk h02 rfl, cell_blk h02 rfl, cell_blk h02 rfl, frz_blk h02, frz_blk h02, frz_blk h02, hW3, cell_blk h03 rfl, cell_blk h03 rfl, cell_blk h03 rfl, h03, h.bel.trans (b1.trans (b2.trans b3)), ⟨h.lnd.len, owns_same n1 hss, owns_same am1 hss, owns_same hl1 hss, fun i h1 h2 => (tw1 i h1 h2).on hss⟩⟩⟩
/-- agents that are lent, to be read -/
theorem alC_at : ∀ (s : List Ag) (gs : List Gh) (i : Nat) (h : i < s.length) (h2 : i < gs.length) (j : Nat), j < 4 → (alC s gs)[i * 4 + j]? = (alC1 s[i] gs[i])[j]?
  | a :: r, g :: q, 0, h, h2, j, hj => by
    show (alC1 a g ++ alC r q)[0 * 4 + j]? = _
    rw [Nat.zero_mul, Nat.zero_add, List.getElem?_append_left (by simpa [alC1] using hj)]
    rfl
  | a :: r, g :: q, i + 1, h, h2, j, hj => by
    show (alC1 a g ++ alC r q)[(i + 1) * 4 + j]? = _
    rw [List.getElem?_append_right (by simp [alC1]; omega), show (i + 1) * 4 + j - (alC1 a g).length = i * 4 + j by simp [alC1]; omega]
    exact alC_at r q i (by simpa using h) (by simpa using h2) j hj
theorem alC_len : ∀ (s : List Ag) (gs : List Gh), gs.length = s.length → (alC s gs).length = s.length * 4
  | [], [], _ => rfl
  | a :: r, g :: q, h => by
    show (alC1 a g ++ alC r q).length = _
    rw [List.length_append, alC_len r q (by simpa using h)]
    simp [alC1]; omega
theorem Lst2.read {W : World} {B : Nat} {a : Ag} {g : Gh} (h : Lst2 W B a g) (h1 : ∀ x ∈ a.arms, I64 x.chan) (h2 : ∀ x ∈ a.held, I64 x) : HdsR W (some ⟨g.1.1, 0, none⟩) g.1.2 a.arms ∧ IntsR W (some ⟨g.2.1, 0, none⟩) g.2.2 a.held :=
  ⟨hds_read (owns_cut h.arms (hdsC_len _) (by omega)) h1, ints_read (owns_cut h.held (by rw [rowC_ln, Nat.mul_one]) (by omega)) h2⟩
/-- an agent's numbers fit -/
structure Ag64 (a : Ag) : Prop where
  id : I64 a.id
  arms : ∀ x ∈ a.arms, I64 x.chan
  held : ∀ x ∈ a.held, I64 x
theorem AgR.a64 {w : World} {a : Ag} {ap hp : Option Addr} {ac hc : Nat} (h : AgR w a ap ac hp hc) : Ag64 a := ⟨h.id, h.arms.i64, h.held.i64⟩
theorem AgsR.a64 {w : World} {p : Option Addr} {c : Nat} {s : List Ag} (h : AgsR w p c s) : ∀ a ∈ s, Ag64 a := fun a ha => by
  obtain ⟨i, hi, rfl⟩ := List.getElem_of_mem ha
  obtain ⟨_, _, _, _, _, _, _, hA, _⟩ := h.at_ i hi
  exact hA.a64
theorem Lent.read {W : World} {B : Nat} {s : List Ag} {va vm vh : Value} {gs : List Gh} (h : Lent W B s va vm vh gs) (h6 : ∀ a ∈ s, Ag64 a) : ∃ ga c, va = .slice (some ⟨ga, 0, none⟩) (s.length + 1) c ∧ s.length + 1 ≤ c ∧ c ≤ maxLen ∧ B ≤ ga ∧ ga < W.heap.size ∧ AgsR W (some ⟨ga, 0, none⟩) c s ∧ ∀ X, Below W.heap.size W X → X.cell? ⟨ga, s.length * 4, none⟩ = some (.int .i64 (-9)) := by
  have hall := h.all
  rcases h.all.2 with ⟨_, x2⟩ | ⟨ga, cap, cur, x1, x2, x3, x4, x5, x6, x7⟩
  · omega
  · rw [x1] at hall
    have hl := heap_lt x3
    have hln := alC_len s gs h.len
    refine ⟨ga, cap, x1, x4, x5, x2, hl, ⟨by omega, x5, fun i hi => ?_⟩, fun X hX => ?_⟩
    · have hgi : i < gs.length := by have := h.len; omega
      obtain ⟨r1, r2⟩ := (h.two i hi hgi).read (h6 _ (List.getElem_mem hi)).arms (h6 _ (List.getElem_mem hi)).held
      refine ⟨ga, 0, _, _, _, _, rfl, ⟨(h6 _ (List.getElem_mem hi)).id, r1, r2⟩, fun X hX => ?_⟩
      have key : ∀ j, j < 4 → X.cell? ⟨ga, i * 4 + j, none⟩ = (alC1 s[i] gs[i])[j]? := fun j hj => by
        rw [hX.cell (p := ⟨ga, i * 4 + j, none⟩) hl, hall.cellAt (i * 4 + j) (by omega), List.getElem?_append_left (by omega)]
        exact alC_at s gs i hi hgi j hj
      rw [Nat.zero_add]
      exact ⟨key 0 (by omega), key 1 (by omega), key 2 (by omega), key 3 (by omega)⟩
    · rw [hX.cell (p := ⟨ga, s.length * 4, none⟩) hl, hall.cellAt (s.length * 4) (by omega), List.getElem?_append_right (by omega), hln, Nat.sub_self]
      rfl
theorem amC_at {s : List Ag} {gs : List Gh} {i : Nat} (h : i < s.length) (h2 : i < gs.length) : (amC s gs)[i]? = some (.slice (some ⟨gs[i].1.1, 0, none⟩) (s[i].arms.length + 1) gs[i].1.2) := by
  unfold amC
  have hz : i < (s.zip gs).length := by rw [List.length_zip]; omega
  rw [List.getElem?_map, List.getElem?_eq_getElem hz]
  simp
theorem hlC_at {s : List Ag} {gs : List Gh} {i : Nat} (h : i < s.length) (h2 : i < gs.length) : (hlC s gs)[i]? = some (.slice (some ⟨gs[i].2.1, 0, none⟩) (s[i].held.length + 1) gs[i].2.2) := by
  unfold hlC
  have hz : i < (s.zip gs).length := by rw [List.length_zip]; omega
  rw [List.getElem?_map, List.getElem?_eq_getElem hz]
  simp
/-- a row's entry -/
theorem row_at {W : World} {B n : Nat} {t : TypeId} {ad : Option Addr} {c : Nat} {cs : List Value} (h : W.ownsRow B t 1 (.slice ad n c) n cs) {i : Nat} (hi : i < n) {u : Value} (hu : cs[i]? = some u) : ∃ gl, ad = some ⟨gl, 0, none⟩ ∧ gl < W.heap.size ∧ W.cell? ⟨gl, i, none⟩ = some u := by
  have h' := h
  rcases h.2 with ⟨x, x2⟩ | ⟨g, cap, cur, x1, x2, x3, _⟩
  · simp only [Value.slice.injEq] at x; omega
  · simp only [Value.slice.injEq] at x1
    obtain ⟨rfl, _, rfl⟩ := x1
    exact ⟨g, rfl, heap_lt x3, owns_cellj h' hu⟩
/-! ### what wipe keeps -/
structure Wp (W wr : World) (B E X ga : Nat) (s : List Ag) (va vm vh : Value) (gs : List Gh) : Prop where
  bel : Below B W wr
  far : ∀ y, E ≤ y → y < W.heap.size → wr.heap[y]? = W.heap[y]?
  rx : wr.heap[X]? = some (lnX va vm vh)
  arms : wr.ownsRow B 51 1 vm s.length (amC s gs)
  held : wr.ownsRow B 45 1 vh s.length (hlC s gs)
  am : ∀ i (h1 : i < s.length) (h2 : i < gs.length), Czb wr 58 gs[i].1.1 ((s[i].arms.length + 1) * 2) ∧ B ≤ gs[i].1.1 ∧ gs[i].1.1 < E
  hl : ∀ i (h1 : i < s.length) (h2 : i < gs.length), Czb wr 3 gs[i].2.1 (s[i].held.length + 1) ∧ B ≤ gs[i].2.1 ∧ gs[i].2.1 < E
  all : Czb wr 53 ga ((s.length + 1) * 4) ∧ B ≤ ga ∧ ga < E
theorem Wp.set {W wr : World} {B E X ga : Nat} {s : List Ag} {va vm vh : Value} {gs : List Gh} (h : Wp W wr B E X ga s va vm vh gs) {t : TypeId} {b n : Nat} (hc : Czb wr t b n) (hb : B ≤ b) (hE : b < E) (h1 : t ≠ 31) (h2 : t ≠ 45) (h3 : t ≠ 51) (i : Nat) (v : Value) : Wp W (wr.setCell ⟨b, i, none⟩ v) B E X ga s va vm vh gs := by
  obtain ⟨cur, hc1, _⟩ := hc
  have hX : X ≠ b := fun e => by
    have := h.rx
    rw [e, hc1] at this
    injection this with this
    injection this with _ this
    exact h1 this
  have row : ∀ {t' : TypeId} {vv : Value} {n : Nat} {cs : List Value}, wr.ownsRow B t' 1 vv n cs → t ≠ t' → (wr.setCell ⟨b, i, none⟩ v).ownsRow B t' 1 vv n cs := fun {t' vv n cs} hr hne => by
    refine ⟨hr.1, ?_⟩
    rcases hr.2 with q | ⟨g, cap, c2, q0, q1, q2, q3⟩
    · exact .inl q
    · refine .inr ⟨g, cap, c2, q0, q1, ?_, q3⟩
      rw [Below.heap_setCell wr ⟨b, i, none⟩ v g (fun e => by
        have e : g = b := e
        rw [e, hc1] at q2
        injection q2 with q2
        injection q2 with _ q2
        exact hne q2)]
      exact q2
  exact ⟨h.bel.trans ((Below.refl B wr).setCell (p := ⟨b, i, none⟩) hb v), fun y hy hl => by rw [Below.heap_setCell wr ⟨b, i, none⟩ v y (by show y ≠ b; omega)]; exact h.far y hy hl, by rw [Below.heap_setCell wr ⟨b, i, none⟩ v X hX]; exact h.rx, row h.arms h3, row h.held h2, fun j k1 k2 => ⟨(h.am j k1 k2).1.set _ _ _, (h.am j k1 k2).2⟩, fun j k1 k2 => ⟨(h.hl j k1 k2).1.set _ _ _, (h.hl j k1 k2).2⟩, ⟨h.all.1.set _ _ _, h.all.2⟩⟩
theorem Wp.sets {W : World} {B E X ga : Nat} {s : List Ag} {va vm vh : Value} {gs : List Gh} {t : TypeId} {b n : Nat} (hb : B ≤ b) (hE : b < E) (h1 : t ≠ 31) (h2 : t ≠ 45) (h3 : t ≠ 51) : ∀ (vs : List Value) (o : Nat) (wr : World), Czb wr t b n → Wp W wr B E X ga s va vm vh gs → Wp W (wr.setCells b o vs) B E X ga s va vm vh gs
  | [], _, _, _, h => h
  | v :: r, o, wr, hc, h => Wp.sets hb hE h1 h2 h3 r (o + 1) _ (hc.set _ _ _) (h.set hc hb hE h1 h2 h3 o v)
theorem Wp.cells {W wr : World} {B E X ga : Nat} {s : List Ag} {va vm vh : Value} {gs : List Gh} (h : Wp W wr B E X ga s va vm vh gs) : wr.cell? ⟨X, 0, none⟩ = some va ∧ wr.cell? ⟨X, 1, none⟩ = some vm ∧ wr.cell? ⟨X, 2, none⟩ = some vh := ⟨cell_blk h.rx rfl, cell_blk h.rx rfl, cell_blk h.rx rfl⟩
theorem Czb.there {w : World} {t : TypeId} {g n : Nat} (h : Czb w t g n) {i k : Nat} (hk : i + k ≤ n) : w.there g i k := fun j hj => by
  obtain ⟨⟨y, z⟩, f⟩ := h.at_ (i := i + j) (by omega)
  exact ⟨by rw [z]; rfl, f⟩
end Go.Proofs.Ytjabdhmkibahlaa
