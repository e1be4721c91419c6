import Derived.Test.YtikijkpklneihaaCVMk
import Derived.Deep.DeepAppendWide
import Derived.Test.YtikijkpklneihaaCVHd
import Derived.Test.YtikijkpklneihaaCVSz
import Derived.Test.YtikijkpklneihaaCVCy
namespace Go.Proofs.Ytikijkpklneihaa
open Go.RowKit
set_option linter.unusedVariables false
set_option linter.unusedSimpArgs false

/-- y stands in x, which stands at q, at the way s -/
inductive Pl : List Nat → V → List Nat → V → Prop
  | me (q : List Nat) (x : V) : Pl q x q x
  | kid {q : List Nat} {x : V} {i : Nat} {s : List Nat} {y : V} (h : i < x.l.length) : Pl (i :: q) x.l[i] s y → Pl q x s y
theorem Pl.under {q s : List Nat} {x y : V} (h : Pl q x s y) : ∃ t, s = t ++ q := by
  induction h with
  | me q x => exact ⟨[], rfl⟩
  | @kid q x i s y _ _ ih =>
    obtain ⟨t, ht⟩ := ih
    exact ⟨t ++ [i], by rw [ht]; simp⟩
theorem Pl.one {q s : List Nat} {x y z : V} (h : Pl q x s y) : Pl q x s z → y = z := by
  induction h with
  | me q x =>
    intro g
    cases g with
    | me => rfl
    | kid h2 g2 =>
      obtain ⟨t, ht⟩ := g2.under
      have := congrArg List.length ht
      simp at this
      omega
  | kid h1 h2 ih =>
    intro g
    cases g with
    | me =>
      obtain ⟨t, ht⟩ := h2.under
      have := congrArg List.length ht
      simp at this
      omega
    | kid h3 g2 =>
      obtain ⟨t, ht⟩ := h2.under
      obtain ⟨u, hu⟩ := g2.under
      rw [ht] at hu
      have hl : t.length = u.length := by
        have := congrArg List.length hu
        simp at this
        exact this
      have := (List.append_inj hu hl).2
      simp at this
      subst this
      exact ih g2
/-- a tree stays where its cells stay -/
theorem TrV.keepC {W W' : World} {ρ : Gh} {id : Nat} : ∀ x : V, ∀ {q : List Nat} {p : Option Addr} {c : Nat}, TrV W ρ id q x p c → (∀ b s y o, Pl q x s y → ρ b = some (id, s) → o < y.l.length * 3 → W'.cell? ⟨b, o, none⟩ = W.cell? ⟨b, o, none⟩) → (∀ b N, Und ρ id q b → MRow W b N → MRow W' b N) → TrV W' ρ id q x p c := by
  intro x
  induction x using V.ind with
  | h k n l ih =>
    intro q p c h hc hr
    obtain ⟨h1, h2, h3⟩ := TrV.iff.1 h
    refine TrV.iff.2 ⟨h1, h2, ?_⟩
    rcases h3 with h3 | ⟨b, e1, e2, e3, e4⟩
    · exact .inl h3
    · have hb : ∀ o, o < l.length * 3 → W'.cell? ⟨b, o, none⟩ = W.cell? ⟨b, o, none⟩ := fun o ho => hc b q _ o (.me _ _) e2 ho
      refine .inr ⟨b, e1, e2, hr b _ (Und.self e2) e3, TrAll.of_get fun j hj => ?_⟩
      have hj2 : j < l.length := hj
      have g := e4.get j hj
      rw [Nat.zero_add] at g ⊢
      obtain ⟨p', c', g1, g2⟩ := g.c2
      exact ⟨by rw [hb _ (by omega)]; exact g.c0, by rw [hb _ (by omega)]; exact g.c1, g.k64, g.n64, p', c', by rw [hb _ (by omega)]; exact g1, ih _ (List.getElem_mem hj) g2 (fun b' s y o hp => hc b' s y o (.kid hj hp)) fun b' N hu => hr b' N hu.kid⟩
/-- what stands at a way stands in memory -/
theorem Pl.tree {W : World} {ρ : Gh} {id : Nat} {q s : List Nat} {x y : V} (h : Pl q x s y) : ∀ {p : Option Addr} {c : Nat}, TrV W ρ id q x p c → ∃ p' c', TrV W ρ id s y p' c' := by
  induction h with
  | me q x => exact fun h => ⟨_, _, h⟩
  | kid hi _ ih =>
    intro p c h
    obtain ⟨h1, h2, h3⟩ := TrV.iff.1 h
    rcases h3 with ⟨h3, _⟩ | ⟨b, e1, e2, e3, e4⟩
    · rw [h3] at hi; simp at hi
    · have g := e4.get _ hi
      rw [Nat.zero_add] at g
      obtain ⟨p', c', _, g2⟩ := g.c2
      exact ih g2
/-- cells behind a list's length may be turned -/
theorem TrV.spare {W W' : World} {ρ : Gh} {id : Nat} {q s : List Nat} {x y : V} {p : Option Addr} {c b : Nat} (h : TrV W ρ id q x p c) (hp : Pl q x s y) (hb : ρ b = some (id, s)) (hoth : ∀ z, z < W.heap.size → z ≠ b → W'.heap[z]? = W.heap[z]?) (hc : ∀ o, o < y.l.length * 3 → W'.cell? ⟨b, o, none⟩ = W.cell? ⟨b, o, none⟩) (hr : ∀ N, MRow W b N → MRow W' b N) (hlt : ∀ z, ρ z ≠ none → z < W.heap.size) : TrV W' ρ id q x p c := by
  refine TrV.keepC x h (fun b' s' y' o h1 h2 h3 => ?_) fun b' N hu h2 => ?_
  · by_cases e : b' = b
    · subst e
      rw [hb] at h2
      simp only [Option.some.injEq, Prod.mk.injEq, true_and] at h2
      subst h2
      obtain rfl := hp.one h1
      exact hc o h3
    · exact World.cell?_of_block (a := ⟨b', o, none⟩) (hoth b' (hlt b' (by rw [h2]; simp)) e)
  · by_cases e : b' = b
    · subst e
      exact hr N h2
    · exact h2.same (hoth b' h2.lt e)
end Go.Proofs.Ytikijkpklneihaa
namespace Go.Proofs.Ytikijkpklneihaa
open Go.RowKit
set_option linter.unusedVariables false
set_option linter.unusedSimpArgs false

/-- one more behind a list that has room: in its own block -/
theorem app_spare (W : World) (b c n : Nat) (h : MRow W b (c * 3)) (hn : n < c) (k m : Int) : ∃ W3, (∀ ty, (Builtin.append_ #[22, 22] ty #[.slice (some ⟨b, 0, none⟩) n c, .slice (some ⟨W.heap.size, 0, none⟩) 1 1]).run Try.prog (W.alloc (.cells #[.int .i64 k, .int .i64 m, .slice none 0 0] 24)) = .ok (.slice (some ⟨b, 0, none⟩) (n + 1) c) W3) ∧
    W.heap.size < W3.heap.size ∧ (∀ z, z < W.heap.size → z ≠ b → W3.heap[z]? = W.heap[z]?) ∧ (∀ o, o < n * 3 → W3.cell? ⟨b, o, none⟩ = W.cell? ⟨b, o, none⟩) ∧ MRow W3 b (c * 3) ∧ W3.cell? ⟨b, n * 3, none⟩ = some (.int .i64 k) ∧ W3.cell? ⟨b, n * 3 + 1, none⟩ = some (.int .i64 m) ∧ W3.cell? ⟨b, n * 3 + 2, none⟩ = some (.slice none 0 0) ∧ W3.os = W.os ∧ W3.tape = W.tape ∧ W3.output = W.output := by
  obtain ⟨i0, hi, hz0, hz1, hz2⟩ := info_parts infoVl
  obtain ⟨C, e1, e2⟩ := h.ex
  have hbl := h.lt
  obtain ⟨W1, hW1⟩ : ∃ W1, W.alloc (.cells #[.int .i64 k, .int .i64 m, .slice none 0 0] 24) = W1 := ⟨_, rfl⟩
  have b1 : Below W.heap.size W W1 := by rw [← hW1]; exact below1 _ _
  have qn : W1.heap[W.heap.size]? = some (.cells #[.int .i64 k, .int .i64 m, .slice none 0 0] 24 (0, 0)) := by rw [← hW1]; exact World.alloc_heap_new _ _
  have s1 : W1.heap.size = W.heap.size + 1 := by rw [← hW1]; simp
  have g1 : W1.heap[b]? = some (.cells C 24 (0, 0)) := (b1.block b hbl).trans e1
  obtain ⟨D, hD⟩ : ∃ D, (C.toList.take (n * 3) ++ [Value.int .i64 k, .int .i64 m, .slice none 0 0] ++ C.toList.drop (n * 3 + 3)) = D := ⟨_, rfl⟩
  have hDl : D.length = c * 3 := by rw [← hD]; simp; omega
  have hDat : ∀ o, o < n * 3 → D[o]? = C[o]? := fun o ho => by
    rw [← hD, List.append_assoc, List.getElem?_append_left (by simp; omega), List.getElem?_take, if_pos ho]
    simp
  have hDnew : ∀ o, o < 3 → D[n * 3 + o]? = [Value.int .i64 k, .int .i64 m, .slice none 0 0][o]? := fun o ho => by
    have hlt : (C.toList.take (n * 3)).length = n * 3 := by simp; omega
    rw [← hD, List.append_assoc, List.getElem?_append_right (by omega), hlt, Nat.add_sub_cancel_left, List.getElem?_append_left (by simpa using ho)]
  have hq : ∀ W3 : World, W3 = W1.setRow b D.toArray → W3.heap[b]? = some (.cells D.toArray 24 (0, 0)) ∧ (∀ z, z ≠ b → W3.heap[z]? = W1.heap[z]?) ∧ W3.heap.size = W1.heap.size ∧ W3.os = W1.os ∧ W3.tape = W1.tape ∧ W3.output = W1.output := fun W3 e => by
    subst e
    refine ⟨?_, fun z hz => ?_, ?_, rfl, rfl, rfl⟩
    · simp [World.setRow, Array.getElem?_modify, g1]
    · simp [World.setRow, Array.getElem?_modify, Ne.symm hz]
    · simp [World.setRow]
  obtain ⟨W3, hW3⟩ : ∃ W3, W3 = W1.setRow b D.toArray := ⟨_, rfl⟩
  obtain ⟨a1, a2, a3, a4, a5, a6⟩ := hq W3 hW3
  have hc : ∀ o, W3.cell? ⟨b, o, none⟩ = D[o]? := fun o => by simp [World.cell?, a1]
  refine ⟨W3, fun ty => ?_, by omega, fun z hz hne => (a2 z hne).trans (b1.block z hz), fun o ho => ?_, ⟨D.toArray, a1, by simpa using hDl⟩, ?_, ?_, ?_, a4.trans b1.os, a5.trans b1.tape, a6.trans b1.output⟩
  · have hr := run_append_room (P := Try.prog) (w := W1) 22 ty 24 i0 Try.underlying22 hi b n c C g1 ⟨W.heap.size, 0, none⟩ 1 1 [Value.int .i64 k, .int .i64 m, .slice none 0 0] (by rw [hz1]; rfl) (fun j u hj => by
      rw [show (⟨W.heap.size, 0, none⟩ : Addr).add j = ⟨W.heap.size, j, none⟩ by unfold Addr.add; split <;> simp_all]
      simp only [World.cell?, qn]
      rw [← hj]
      simp) (by simp [Value.oneCell']) (by omega) (by rw [hz1]; simp; omega)
    rw [hz1] at hr
    rw [hW1, hr, hW3, ← hD]
    rfl
  · rw [hc, hDat o ho]
    simp [World.cell?, e1]
  · rw [hc, show n * 3 = n * 3 + 0 from rfl, hDnew 0 (by omega)]; rfl
  · rw [hc, hDnew 1 (by omega)]; rfl
  · rw [hc, hDnew 2 (by omega)]; rfl
/-- one more behind a list that has no room: in a new block -/
theorem app_full (W : World) (b c n : Nat) (olds : List Value) (hlo : olds.length = n * 3) (hbl : b < W.heap.size) (hold : ∀ o, o < n * 3 → W.cell? ⟨b, o, none⟩ = olds[o]?) (hn : c ≤ n) (hn2 : n ≤ 2147483648) (k m : Int) : ∃ c' W3, (∀ ty, (Builtin.append_ #[22, 22] ty #[.slice (some ⟨b, 0, none⟩) n c, .slice (some ⟨W.heap.size, 0, none⟩) 1 1]).run Try.prog (W.alloc (.cells #[.int .i64 k, .int .i64 m, .slice none 0 0] 24)) = .ok (.slice (some ⟨W.heap.size + 1, 0, none⟩) (n + 1) c') W3) ∧
    n + 1 ≤ c' ∧ c' ≤ maxLen ∧ Below W.heap.size W W3 ∧ MRow W3 (W.heap.size + 1) (c' * 3) ∧ (∀ o, o < n * 3 → W3.cell? ⟨W.heap.size + 1, o, none⟩ = olds[o]?) ∧ W3.cell? ⟨W.heap.size + 1, n * 3, none⟩ = some (.int .i64 k) ∧ W3.cell? ⟨W.heap.size + 1, n * 3 + 1, none⟩ = some (.int .i64 m) ∧ W3.cell? ⟨W.heap.size + 1, n * 3 + 2, none⟩ = some (.slice none 0 0) := by
  obtain ⟨i0, hi, hz0, hz1, hz2⟩ := info_parts infoVl
  obtain ⟨W1, hW1⟩ : ∃ W1, W.alloc (.cells #[.int .i64 k, .int .i64 m, .slice none 0 0] 24) = W1 := ⟨_, rfl⟩
  have b1 : Below W.heap.size W W1 := by rw [← hW1]; exact below1 _ _
  have qn : W1.heap[W.heap.size]? = some (.cells #[.int .i64 k, .int .i64 m, .slice none 0 0] 24 (0, 0)) := by rw [← hW1]; exact World.alloc_heap_new _ _
  have s1 : W1.heap.size = W.heap.size + 1 := by rw [← hW1]; simp
  have hadd : ∀ (B j : Nat), (⟨B, 0, none⟩ : Addr).add j = ⟨B, j, none⟩ := fun B j => by unfold Addr.add; split <;> simp_all
  have hcap := grownCap_ge W1 (n + 1) c 24
  have hcm := grownCap_le_maxLen W1 (n + 1) c 24 (by unfold maxLen; omega)
  have hnx := Go.nextslicecap_le_wide (need := n + 1) (old := c) (by omega)
  have hr := fun ty => run_append_grow (P := Try.prog) (w := W1) 22 ty 24 i0 _ Try.underlying22 hi hz0 ⟨b, 0, none⟩ n c olds (by rw [hz1]; exact hlo) (fun j v hj => by
    rw [hadd, b1.cell (p := ⟨b, j, none⟩) hbl, hold j (by have := (List.getElem?_eq_some_iff.1 hj).1; omega)]
    exact hj) ⟨W.heap.size, 0, none⟩ 1 1 [Value.int .i64 k, .int .i64 m, .slice none 0 0] (by rw [hz1]; rfl) (World.news_of_block qn) (by omega) (by omega) (by rw [hz2]; omega)
  generalize grownCap W1 (n + 1) c 24 = c' at *
  obtain ⟨D, hD⟩ : ∃ D : Array Value, olds.toArray ++ [Value.int .i64 k, .int .i64 m, .slice none 0 0].toArray ++ Builtin.zeroCells (Value.agg #[Value.int .i64 0, Value.int .i64 0, Value.slice none 0 0]).cells (c' - (n + 1)) = D := ⟨_, rfl⟩
  have hDs : D.size = c' * 3 := by
    rw [← hD]
    simp only [Array.size_append, size_zeroCells, List.size_toArray, hlo]
    simp [Value.cells]
    omega
  have hDat : ∀ o, o < n * 3 → D[o]? = olds[o]? := fun o ho => by
    rw [← hD, Array.append_assoc, Array.getElem?_append_left (by simp; omega)]
    simp
  have hDnew : ∀ o, o < 3 → D[n * 3 + o]? = [Value.int .i64 k, .int .i64 m, .slice none 0 0][o]? := fun o ho => by
    rw [← hD, Array.append_assoc, Array.getElem?_append_right (by simp; omega), List.size_toArray, hlo, Nat.add_sub_cancel_left, Array.getElem?_append_left (by simpa using ho)]
    simp
  rw [hD] at hr
  obtain ⟨W3, hW3⟩ : ∃ W3, W1.drew.alloc (.cells D 24) = W3 := ⟨_, rfl⟩
  have q3 : W3.heap[W.heap.size + 1]? = some (.cells D 24 (0, 0)) := by
    rw [← hW3, ← s1]
    exact World.alloc_heap_new W1.drew _
  have b3 : Below W1.heap.size W1 W3 := by rw [← hW3]; exact (Below.refl _ _).drew.alloc (Nat.le_refl _) _
  have hc : ∀ o, W3.cell? ⟨W.heap.size + 1, o, none⟩ = D[o]? := fun o => by simp [World.cell?, q3]
  rw [hW3] at hr
  refine ⟨c', W3, fun ty => ?_, hcap, hcm, b1.trans (b3.mono b1.size), ⟨D, q3, hDs⟩, fun o ho => ?_, ?_, ?_, ?_⟩
  · rw [hW1, hr ty, s1]
  · rw [hc, hDat o ho]
  · rw [hc, show n * 3 = n * 3 + 0 from rfl, hDnew 0 (by omega)]; rfl
  · rw [hc, hDnew 1 (by omega)]; rfl
  · rw [hc, hDnew 2 (by omega)]; rfl
end Go.Proofs.Ytikijkpklneihaa
namespace Go.Proofs.Ytikijkpklneihaa
open Go.RowKit
set_option linter.unusedVariables false
set_option linter.unusedSimpArgs false

/-! ### what grew: two rows of slices that read alike -/
/-- a tree's list reads so, its blocks below lo -/
theorem TrV.slB {W : World} {ρ : Gh} {id lo : Nat} (hρ : ∀ b, ρ b ≠ none → b < lo) : ∀ x : V, ∀ {q : List Nat} {p : Option Addr} {c : Nat}, TrV W ρ id q x p c → SlV W lo p c x.l := by
  intro x
  induction x using V.ind with
  | h k n l ih =>
    intro q p c h
    obtain ⟨h1, h2, h3⟩ := TrV.iff.1 h
    refine ⟨h1.1, by unfold maxLen; omega, ?_⟩
    rcases h3 with h3 | ⟨b, e1, e2, e3, e4⟩
    · exact .inl h3.1
    · refine .inr ⟨b, 0, e1, hρ b (by rw [e2]; simp), AtVs.of_get fun j hj => ?_⟩
      have g := e4.get j hj
      obtain ⟨p', c', g1, g2⟩ := g.c2
      have ej : 0 + 3 * j = (0 + j) * 3 := by omega
      rw [ej]
      exact ⟨g.c0, g.c1, g.k64, g.n64, p', c', g1, ih _ (List.getElem_mem hj) g2⟩
theorem RowV.getG {W : World} {B : Nat} {l : List V} : ∀ {xs : List Value}, RowV W B l xs → ∀ i (h : i < l.length), xs[i * 3]? = some (.int .i64 l[i].k) ∧ xs[i * 3 + 1]? = some (.int .i64 l[i].n) ∧ I64 l[i].k ∧ I64 l[i].n ∧ ∃ q c, xs[i * 3 + 2]? = some (.slice q l[i].l.length c) ∧ SlV W B q c l[i].l := by
  induction l with
  | nil => intro xs h i hi; simp at hi
  | cons v vs ih =>
    intro xs h i hi
    obtain ⟨p, c, ys, rfl, h1, h2, h3, h4⟩ := h
    cases i with
    | zero => exact ⟨rfl, rfl, h2, h3, p, c, rfl, h1⟩
    | succ i =>
      have := ih h4 i (by simpa using hi)
      rw [show (i + 1) * 3 = i * 3 + 3 by omega]
      simpa using this
/-- a slice that grew, in a block from lo on -/
structure GrL (W : World) (lo g c : Nat) (l : List V) : Prop where
  ge : lo ≤ g
  blk : ∃ cur, W.heap[g]? = some (.cells cur 24 (0, 0))
  len : l.length ≤ c
  cap : c ≤ maxLen
  at_ : AtVs W lo g 0 l
theorem GrL.keep {W W' : World} {lo g c : Nat} {l : List V} (h : GrL W lo g c l) (hl : ∀ b, b < lo → W'.heap[b]? = W.heap[b]?) (hg : W'.heap[g]? = W.heap[g]?) : GrL W' lo g c l := by
  refine ⟨h.ge, by rw [hg]; exact h.blk, h.len, h.cap, AtVs.of_get fun i hi => ?_⟩
  have g' := h.at_.get i hi
  have hc : ∀ o, W'.cell? ⟨g, o, none⟩ = W.cell? ⟨g, o, none⟩ := fun o => by simp [World.cell?, hg]
  obtain ⟨p, c', h1, h2⟩ := g'.c2
  exact ⟨by rw [hc]; exact g'.c0, by rw [hc]; exact g'.c1, g'.k64, g'.n64, p, c', by rw [hc]; exact h1, h2.lo (Lo.blocks hl)⟩
def GrRow (W : World) (lo : Nat) (v : Value) (m : Nat) (L : Nat → List V) : Prop :=
  ∃ cs, W.ownsRow lo 22 1 v m cs ∧ ∀ j, j < m → ∃ g c, cs[j]? = some (.slice (some ⟨g, 0, none⟩) (L j).length c) ∧ GrL W lo g c (L j)
structure Gr (W : World) (lo : Nat) (ov wv : Value) (m : Nat) (L : Nat → List V) : Prop where
  o : GrRow W lo ov m L
  w : GrRow W lo wv m L
  ne : ∀ b, ov.ownBlock = some b → wv.ownBlock ≠ some b
theorem GrRow.own {W : World} {lo m : Nat} {v : Value} {L : Nat → List V} (h : GrRow W lo v m L) : (∀ b, v.ownBlock = some b → lo ≤ b ∧ b < W.heap.size) ∧ ∀ b, v.ownBlock = some b → ∃ c fz, W.heap[b]? = some (.cells c 22 fz) := by
  obtain ⟨cs, h1, _⟩ := h
  exact ⟨fun b hb => owns_block h1 hb, owns_kind h1⟩
/-- blocks of values stay, and the row's own -/
theorem GrRow.keep {W W' : World} {lo m : Nat} {v : Value} {L : Nat → List V} (h : GrRow W lo v m L) (hl : ∀ b, b < lo → W'.heap[b]? = W.heap[b]?) (hv : ∀ (b : Nat) (c : Array Value), W.heap[b]? = some (.cells c 24 (0, 0)) → W'.heap[b]? = W.heap[b]?) (ho : ∀ b, v.ownBlock = some b → W'.heap[b]? = W.heap[b]?) : GrRow W' lo v m L := by
  obtain ⟨cs, h1, h2⟩ := h
  refine ⟨cs, own_same h1 fun g o hg hgo => (ho g hg).trans hgo, fun j hj => ?_⟩
  obtain ⟨g, c, h3, h4⟩ := h2 j hj
  obtain ⟨cur, hc⟩ := h4.blk
  exact ⟨g, c, h3, h4.keep hl (hv g cur hc)⟩
theorem Gr.next {W W' : World} {lo m : Nat} {ov wv : Value} {L : Nat → List V} (h : Gr W lo ov wv m L) (hlo : lo ≤ W.heap.size) (hb : Below W.heap.size W W') : Gr W' lo ov wv m L :=
  ⟨h.o.keep (fun b hb' => hb.block b (by omega)) (fun b c hc => hb.block b (heap_lt hc)) fun b hb' => hb.block b (h.o.own.1 b hb').2, h.w.keep (fun b hb' => hb.block b (by omega)) (fun b c hc => hb.block b (heap_lt hc)) fun b hb' => hb.block b (h.w.own.1 b hb').2, h.ne⟩
/-- the frame -/
structure GF (w w' : World) (ov wv ov' wv' : Value) : Prop where
  os : w'.os = w.os
  tape : w'.tape = w.tape
  output : w'.output = w.output
  size : w.heap.size ≤ w'.heap.size
  blk : ∀ b, b < w.heap.size → ov.ownBlock ≠ some b → wv.ownBlock ≠ some b → w'.heap[b]? = w.heap[b]?
  ao : ∀ b, ov'.ownBlock = some b → ov.ownBlock = some b ∨ w.heap.size ≤ b
  aw : ∀ b, wv'.ownBlock = some b → wv.ownBlock = some b ∨ w.heap.size ≤ b
theorem GF.refl (w : World) (ov wv : Value) : GF w w ov wv ov wv := ⟨rfl, rfl, rfl, Nat.le_refl _, fun _ _ _ _ => rfl, fun _ h => .inl h, fun _ h => .inl h⟩
theorem GF.trans {w w1 w2 : World} {ov wv ov1 wv1 ov2 wv2 : Value} (h : GF w w1 ov wv ov1 wv1) (g : GF w1 w2 ov1 wv1 ov2 wv2) : GF w w2 ov wv ov2 wv2 := by
  have hs := h.size
  refine ⟨g.os.trans h.os, g.tape.trans h.tape, g.output.trans h.output, Nat.le_trans h.size g.size, fun b h1 h2 h3 => (g.blk b (by omega) (fun e => ?_) (fun e => ?_)).trans (h.blk b h1 h2 h3), fun b hb => ?_, fun b hb => ?_⟩
  · rcases h.ao b e with h4 | h4
    · exact h2 h4
    · omega
  · rcases h.aw b e with h4 | h4
    · exact h3 h4
    · omega
  · rcases g.ao b hb with h4 | h4
    · exact h.ao b h4
    · exact .inr (by omega)
  · rcases g.aw b hb with h4 | h4
    · exact h.aw b h4
    · exact .inr (by omega)
theorem GF.below {w w' : World} (ov wv : Value) (h : Below w.heap.size w w') : GF w w' ov wv ov wv := ⟨h.os, h.tape, h.output, h.size, fun b hb _ _ => h.block b hb, fun _ h => .inl h, fun _ h => .inl h⟩
/-- one more slice in one of the rows -/
theorem GrRow.snoc {W W3 : World} {lo m g c : Nat} {v v' : Value} {L : Nat → List V} {l : List V} (h : GrRow W lo v m L) (hlo : lo ≤ W.heap.size) (hg : W.grownBy W3 v.ownBlock) (hl : GrL W lo g c l) (hown : ∀ cs, W.ownsRow lo 22 1 v m cs → W3.ownsRow lo 22 1 v' (m + 1) (cs ++ [.slice (some ⟨g, 0, none⟩) l.length c])) : GrRow W3 lo v' (m + 1) (fun j => if j = m then l else L j) := by
  obtain ⟨cs, h1, h2⟩ := h
  have hk := owns_kind h1
  have hlow : ∀ b, b < lo → W3.heap[b]? = W.heap[b]? := fun b hb => hg.block b (by omega) fun e => by
    have := own_base h1 b e.symm
    omega
  have hval : ∀ (b : Nat) (cur : Array Value), W.heap[b]? = some (.cells cur 24 (0, 0)) → W3.heap[b]? = W.heap[b]? := fun b cur hc => hg.block b (heap_lt hc) fun e => by
    obtain ⟨c', fz, h3⟩ := hk b e.symm
    rw [h3] at hc
    injection hc with hc
    injection hc with _ hc
    exact absurd hc (by decide)
  refine ⟨_, hown cs h1, fun j hj => ?_⟩
  have hcl := h1.1
  by_cases e : j = m
  · subst e
    simp only [if_true]
    obtain ⟨cur, hc⟩ := hl.blk
    exact ⟨g, c, by rw [List.getElem?_append_right (by omega)]; simp [show j - cs.length = 0 by omega], hl.keep hlow (hval g cur hc)⟩
  · simp only [if_neg e]
    obtain ⟨g', c', h3, h4⟩ := h2 j (by omega)
    obtain ⟨cur, hc⟩ := h4.blk
    exact ⟨g', c', by rw [List.getElem?_append_left (by omega)]; exact h3, h4.keep hlow (hval g' cur hc)⟩
/-- the other row is not turned -/
theorem GrRow.other {W W3 : World} {lo m : Nat} {v u : Value} {L : Nat → List V} (h : GrRow W lo u m L) (hlo : lo ≤ W.heap.size) (hg : W.grownBy W3 v.ownBlock) (hv : ∀ b, v.ownBlock = some b → lo ≤ b) (hk : ∀ b, v.ownBlock = some b → ∃ c fz, W.heap[b]? = some (.cells c 22 fz)) (hne : ∀ b, v.ownBlock = some b → u.ownBlock ≠ some b) : GrRow W3 lo u m L :=
  h.keep (fun b hb => hg.block b (by omega) fun e => by have := hv b e.symm; omega) (fun b cur hc => hg.block b (heap_lt hc) fun e => by
    obtain ⟨c', fz, h3⟩ := hk b e.symm
    rw [h3] at hc
    injection hc with hc
    injection hc with _ hc
    exact absurd hc (by decide)) fun b hb => hg.block b (h.own.1 b hb).2 fun e => hne b e.symm hb
/-- one more in both rows -/
theorem Gr.snoc {W : World} {lo m g c g' c' : Nat} {ov wv : Value} {L : Nat → List V} {l : List V} (h : Gr W lo ov wv m L) (hlo : lo ≤ W.heap.size) (hm : m ≤ 100000000) (hl : GrL W lo g c l) (hl' : GrL W lo g' c' l) :
    ∃ ov' W3 wv' W5, (∀ ty, (Builtin.append_ #[45, 45] ty #[ov, .slice (some ⟨W.heap.size, 0, none⟩) 1 1]).run Try.prog (W.alloc (.cells #[.slice (some ⟨g, 0, none⟩) l.length c] 22)) = .ok ov' W3) ∧ (∀ ty, (Builtin.append_ #[45, 45] ty #[wv, .slice (some ⟨W3.heap.size, 0, none⟩) 1 1]).run Try.prog (W3.alloc (.cells #[.slice (some ⟨g', 0, none⟩) l.length c'] 22)) = .ok wv' W5) ∧ Gr W5 lo ov' wv' (m + 1) (fun j => if j = m then l else L j) ∧ GF W W5 ov wv ov' wv' := by
  obtain ⟨i0, hi, hz0, hz1, hz2⟩ := info_parts infoSl
  obtain ⟨cs, o1, o2⟩ := h.o
  obtain ⟨ds, w1, w2⟩ := h.w
  obtain ⟨ga, ca, W3, r3, n3, g3, _, p3⟩ := app1 Try.underlying45 hi hz0 hz1 hz2 rfl (by decide) W lo ov m cs o1 #[.slice (some ⟨g, 0, none⟩) l.length c] rfl (by simp [Value.oneCell']) (by unfold maxLen; omega) (by omega) hlo
  have hz3 := g3.size
  have hro : GrRow W3 lo (.slice (some ⟨ga, 0, none⟩) (m + 1) ca) (m + 1) (fun j => if j = m then l else L j) := h.o.snoc hlo g3 hl fun cs' hcs' => by
    have e : cs' = cs := by
      rcases hcs' with ⟨a1, a2⟩
      rcases a2 with ⟨e1, e2⟩ | ⟨y, cap, cur, e1, _, b1, _, _, _, b2⟩
      · subst e2
        have h2 := o1.1
        rw [Nat.zero_mul] at a1 h2
        rw [List.eq_nil_of_length_eq_zero a1, List.eq_nil_of_length_eq_zero h2]
      · rcases o1.2 with ⟨e3, e4⟩ | ⟨y', cap', cur', e3, _, b3, _, _, _, b4⟩
        · rw [e3] at e1; cases e1
        · rw [e3] at e1
          simp only [Value.slice.injEq, Option.some.injEq, Addr.mk.injEq, true_and, and_true] at e1
          obtain ⟨rfl, rfl⟩ := e1
          rw [b3] at b1
          injection b1 with b1
          injection b1 with b1 _
          subst b1
          rw [← b2, b4]
    rw [e]
    exact n3
  have hwl := h.w.other hlo g3 (fun b hb => own_base o1 b hb) (owns_kind o1) h.ne
  have hlow3 : ∀ b, b < lo → W3.heap[b]? = W.heap[b]? := fun b hb => g3.block b (by omega) fun e => by have := own_base o1 b e.symm; omega
  have hval3 : ∀ (b : Nat) (cur : Array Value), W.heap[b]? = some (.cells cur 24 (0, 0)) → W3.heap[b]? = W.heap[b]? := fun b cur hc => g3.block b (heap_lt hc) fun e => by
    obtain ⟨c', fz, h3⟩ := owns_kind o1 b e.symm
    rw [h3] at hc
    injection hc with hc
    injection hc with _ hc
    exact absurd hc (by decide)
  have hl3 : GrL W3 lo g' c' l := by
    obtain ⟨cur, hc⟩ := hl'.blk
    exact hl'.keep hlow3 (hval3 _ _ hc)
  have hne3 : ∀ b, (Value.slice (some ⟨ga, 0, none⟩) (m + 1) ca).ownBlock = some b → wv.ownBlock ≠ some b := fun b hb e => by
    simp only [Value.ownBlock, Option.some.injEq] at hb
    subst hb
    rcases p3 with p3 | p3
    · exact h.ne _ p3 e
    · have := (owns_block w1 e).2; omega
  obtain ⟨ds3, w3a, w3b⟩ := hwl
  have hds : W3.ownsRow lo 22 1 wv m ds3 := w3a
  obtain ⟨gb, cb, W5, r5, n5, g5, _, p5⟩ := app1 Try.underlying45 hi hz0 hz1 hz2 rfl (by decide) W3 lo wv m ds3 hds #[.slice (some ⟨g', 0, none⟩) l.length c'] rfl (by simp [Value.oneCell']) (by unfold maxLen; omega) (by omega) (by omega)
  have hrw : GrRow W5 lo (.slice (some ⟨gb, 0, none⟩) (m + 1) cb) (m + 1) (fun j => if j = m then l else L j) := GrRow.snoc ⟨ds3, w3a, w3b⟩ (by omega) g5 hl3 fun cs' hcs' => by
    have e : cs' = ds3 := by
      rcases hcs' with ⟨a1, a2⟩
      rcases a2 with ⟨e1, e2⟩ | ⟨y, cap, cur, e1, _, b1, _, _, _, b2⟩
      · subst e2
        have h2 := hds.1
        rw [Nat.zero_mul] at a1 h2
        rw [List.eq_nil_of_length_eq_zero a1, List.eq_nil_of_length_eq_zero h2]
      · rcases hds.2 with ⟨e3, e4⟩ | ⟨y', cap', cur', e3, _, b3, _, _, _, b4⟩
        · rw [e3] at e1; cases e1
        · rw [e3] at e1
          simp only [Value.slice.injEq, Option.some.injEq, Addr.mk.injEq, true_and, and_true] at e1
          obtain ⟨rfl, rfl⟩ := e1
          rw [b3] at b1
          injection b1 with b1
          injection b1 with b1 _
          subst b1
          rw [← b2, b4]
    rw [e]
    exact n5
  have hz5 := g5.size
  refine ⟨_, W3, _, W5, r3, r5, ⟨hro.other (by omega) g5 (fun b hb => own_base hds b hb) (owns_kind hds) fun b hb e => hne3 b e hb, hrw, fun b hb e => ?_⟩, ⟨g5.os.trans g3.os, g5.tape.trans g3.tape, g5.output.trans g3.output, by omega, fun b h1 h2 h3 => (g5.block b (by omega) (fun e => h3 e.symm)).trans (g3.block b h1 fun e => h2 e.symm), fun b hb => ?_, fun b hb => ?_⟩⟩
  · obtain rfl : ga = b := by simpa [Value.ownBlock] using hb
    replace e : gb = ga := by simpa [Value.ownBlock] using e
    rcases p5 with p5 | p5
    · exact hne3 ga rfl (by rw [p5, e])
    · have h9 : ga < W3.heap.size := (owns_block n3 rfl).2
      omega
  · obtain rfl : ga = b := by simpa [Value.ownBlock] using hb
    exact p3
  · obtain rfl : gb = b := by simpa [Value.ownBlock] using hb
    rcases p5 with p5 | p5
    · exact .inl p5
    · exact .inr (by omega)
end Go.Proofs.Ytikijkpklneihaa
