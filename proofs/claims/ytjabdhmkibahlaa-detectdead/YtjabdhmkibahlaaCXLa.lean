import Derived.Test.YtjabdhmkibahlaaCHHb
import Derived.Test.YtjabdhmkibahlaaCER
import Derived.Test.YtjabdhmkibahlaaCGP
namespace Go.Proofs.Ytjabdhmkibahlaa
open Go.RowKit
set_option linter.unusedVariables false
set_option linter.unusedSimpArgs false

/-! ### a state that is lent for DetectDead: a row of agents, a mark behind each list -/
structure Two7 (W : World) (B : Nat) (a : Ag) (g : Gh) : Prop where
  arms : W.ownsRow B 58 2 (.slice (some ⟨g.1.1, 0, none⟩) (a.arms.length + 1) g.1.2) (a.arms.length + 1) (hdsC a.arms ++ [.int .i64 (-7), .bool false])
  held : W.ownsRow B 3 1 (.slice (some ⟨g.2.1, 0, none⟩) (a.held.length + 1) g.2.2) (a.held.length + 1) (rowC a.held ++ [.int .i64 (-7)])
theorem Two7.on {W W' : World} {B : Nat} {a : Ag} {g : Gh} (h : Two7 W B a g) (hb : ∀ y, B ≤ y → y < W.heap.size → W'.heap[y]? = W.heap[y]?) : Two7 W' B a g := ⟨owns_same h.arms hb, owns_same h.held hb⟩
theorem Two7.low {W : World} {B B' : Nat} {a : Ag} {g : Gh} (h : Two7 W B a g) (hb : B' ≤ B) : Two7 W B' a g := ⟨own_low h.arms hb, own_low h.held hb⟩
theorem Two7.grown {W W' : World} {B : Nat} {a : Ag} {g : Gh} {vv : Value} {t' : TypeId} (h : Two7 W B a g) (hg : W.grownBy W' vv.ownBlock) (h1 : t' ≠ 58) (h2 : t' ≠ 3) (hne : ∀ g, vv.ownBlock = some g → ∃ c fz, W.heap[g]? = some (.cells c t' fz)) : Two7 W' B a g := ⟨owns_grown h.arms hg h1 hne, owns_grown h.held hg h2 hne⟩
/-- lent under way -/
structure Ls7 (w W : World) (H : Nat) (s : List Ag) (va : Value) (gs : List Gh) : Prop where
  bel : Below H w W
  len : gs.length = s.length
  all : W.ownsRow H 53 4 va s.length (alC s gs)
  two : ∀ i (h1 : i < s.length) (h2 : i < gs.length), Two7 W H s[i] gs[i]
theorem Ls7.nil (w : World) (H : Nat) : Ls7 w w H [] (.slice none 0 0) [] := ⟨Below.refl _ _, rfl, ⟨rfl, .inl ⟨rfl, rfl⟩⟩, fun i h => by simp at h⟩
/-- the worlds of a round -/
structure Rn7 (w W0 W2 W3 W4 W5 W6 W7 : World) (H E n m : Nat) (s : List Ag) (a : Ag) (v2 v4 va va' : Value) (pa : Option Addr) (ca : Nat) (ph : Option Addr) (ch : Nat) (g : Gh) (gs : List Gh) : Prop where
  c1 : (W0.alloc (agB a (.slice pa n ca) (.slice ph m ch))).cell? ⟨E, 2, none⟩ = some (.slice pa n ca)
  r2 : ∀ ty, (Builtin.append_ #[51, 51] ty #[.slice none 0 0, .slice pa n ca]).run Try.prog (W0.alloc (agB a (.slice pa n ca) (.slice ph m ch))) = .ok v2 W2
  r3 : ∀ ty, (Builtin.append_ #[51, 51] ty #[v2, .slice (some ⟨W2.heap.size, 0, none⟩) 1 1]).run Try.prog (W2.alloc (.cells #[.int .i64 (-7), .bool false] 58)) = .ok (.slice (some ⟨g.1.1, 0, none⟩) (n + 1) g.1.2) W3
  cp : n + 1 ≤ g.1.2
  c3 : W3.cell? ⟨E, 3, none⟩ = some (.slice ph m ch)
  r4 : ∀ ty, (Builtin.append_ #[45, 45] ty #[.slice none 0 0, .slice ph m ch]).run Try.prog W3 = .ok v4 W4
  r5 : ∀ ty, (Builtin.append_ #[45, 45] ty #[v4, .slice (some ⟨W4.heap.size, 0, none⟩) 1 1]).run Try.prog (W4.alloc (.cells #[.int .i64 (-7)] 3)) = .ok (.slice (some ⟨g.2.1, 0, none⟩) (m + 1) g.2.2) W5
  cq : m + 1 ≤ g.2.2
  c5 : W5.cell? ⟨E, 2, none⟩ = some (.slice pa n ca)
  d5 : W5.cell? ⟨E, 3, none⟩ = some (.slice ph m ch)
  f5 : W5.frozen? ⟨E, 2, none⟩ = false
  g5 : W5.frozen? ⟨E, 3, none⟩ = false
  w6 : (W5.setCell ⟨E, 2, none⟩ (.slice (some ⟨g.1.1, 0, none⟩) n g.1.2)).setCell ⟨E, 3, none⟩ (.slice (some ⟨g.2.1, 0, none⟩) m g.2.2) = W6
  b6 : W6.heap[E]? = some (agB a (.slice (some ⟨g.1.1, 0, none⟩) n g.1.2) (.slice (some ⟨g.2.1, 0, none⟩) m g.2.2))
  r7 : ∀ ty, (Builtin.append_ #[22, 22] ty #[va, .slice (some ⟨W6.heap.size, 0, none⟩) 1 1]).run Try.prog (W6.alloc (agB a (.slice (some ⟨g.1.1, 0, none⟩) n g.1.2) (.slice (some ⟨g.2.1, 0, none⟩) m g.2.2))) = .ok va' W7
  st : Ls7 w W7 H (s ++ [a]) va' (gs ++ [g])
set_option maxHeartbeats 2000000 in
theorem rn7 {w W0 : World} {H : Nat} {s : List Ag} {va : Value} {gs : List Gh} (h : Ls7 w W0 H s va gs) (hw : w.heap.size = H) (E : Nat) (hE : W0.heap.size = E) (a : Ag) (n m : Nat) (hn : n = a.arms.length) (hm : m = a.held.length) (pa : Option Addr) (ca : Nat) (ph : Option Addr) (ch : Nat) (hA : AgR W0 a pa ca ph ch) (hln : n ≤ 2147483647) (hlm : m ≤ 2147483647) (hs : s.length ≤ 2147483647) :
    ∃ W2 W3 W4 W5 W6 W7 v2 v4 va' g, Rn7 w W0 W2 W3 W4 W5 W6 W7 H E n m s a v2 v4 va va' pa ca ph ch g gs := by
  subst hn
  subst hm
  have hz : H ≤ E := by rw [← hE, ← hw]; exact h.bel.size
  obtain ⟨i0, hi0, iz0, iz1, iz2⟩ := info_parts infoI
  obtain ⟨j0, hj0, jz0, jz1, jz2⟩ := info_parts infoH
  obtain ⟨k0, hk0, kz0, kz1, kz2⟩ := info_parts infoG
  obtain ⟨W1, hW1⟩ : ∃ W1, W0.alloc (agB a (.slice pa a.arms.length ca) (.slice ph a.held.length ch)) = W1 := ⟨_, rfl⟩
  have hs1 : W1.heap.size = E + 1 := by rw [← hW1, ← hE]; simp
  have b1 : Below E W0 W1 := by rw [← hW1, ← hE]; exact below1 _ _
  have he1 : W1.heap[E]? = some (agB a (.slice pa a.arms.length ca) (.slice ph a.held.length ch)) := by rw [← hW1, ← hE]; exact heap_newH _ _ _ rfl
  have hA1 : AgR W1 a pa ca ph ch := hA.later (by rw [hE]; exact b1)
  have n1 : W1.ownsRow (E + 1) 58 2 (.slice none 0 0) 0 [] := ⟨rfl, .inl ⟨rfl, rfl⟩⟩
  obtain ⟨v2, W2, r2, n2, q2⟩ := appL Try.underlying51 hj0 jz0 jz1 jz2 rfl (by decide) W1 (E + 1) _ 0 [] n1 pa a.arms.length ca (hdsC a.arms) (hdsC_len _) hA1.arms.news (hdsC_one _) (by unfold maxLen; omega) (by omega) (by omega)
  rw [List.nil_append, Nat.zero_add] at n2
  have b2 : Below (E + 1) W1 W2 := (Below.refl _ _).grown q2 (by omega) fun k hk => (owns_block n1 hk).1
  have hs2 := b2.size
  obtain ⟨ga, cga, W3, r3, n3, q3, hcp, _⟩ := app1 Try.underlying51 hj0 jz0 jz1 jz2 rfl (by decide) W2 (E + 1) v2 a.arms.length _ n2 #[.int .i64 (-7), .bool false] rfl (by simp [Value.oneCell']) (by unfold maxLen; omega) (by omega) (by omega)
  have b3 : Below (E + 1) W2 W3 := (Below.refl _ _).grown q3 (by omega) fun k hk => (owns_block n2 hk).1
  have hs3 := b3.size
  have b13 : Below (E + 1) W1 W3 := b2.trans b3
  obtain ⟨F, hF⟩ : ∃ F, F = W3.heap.size := ⟨_, rfl⟩
  have hA3 : AgR W3 a pa ca ph ch := hA1.later (by rw [hs1]; exact b13)
  have m3 : W3.ownsRow F 3 1 (.slice none 0 0) 0 [] := ⟨rfl, .inl ⟨rfl, rfl⟩⟩
  obtain ⟨v4, W4, r4, n4, q4⟩ := appL Try.underlying45 hi0 iz0 iz1 iz2 rfl (by decide) W3 F _ 0 [] m3 ph a.held.length ch (rowC a.held) (by rw [rowC_ln, Nat.mul_one]) hA3.held.news (rowC_on _) (by unfold maxLen; omega) (by omega) (by omega)
  rw [List.nil_append, Nat.zero_add] at n4
  have b4 : Below F W3 W4 := (Below.refl _ _).grown q4 (by omega) fun k hk => (owns_block m3 hk).1
  have hs4 := b4.size
  obtain ⟨gh, cgh, W5, r5, n5, q5, hcq, _⟩ := app1 Try.underlying45 hi0 iz0 iz1 iz2 rfl (by decide) W4 F v4 a.held.length _ n4 #[.int .i64 (-7)] rfl (by simp [Value.oneCell']) (by unfold maxLen; omega) (by omega) (by omega)
  have b5 : Below F W4 W5 := (Below.refl _ _).grown q5 (by omega) fun k hk => (owns_block n4 hk).1
  have hs5 := b5.size
  have b35 : Below F W3 W5 := b4.trans b5
  have b15 : Below (E + 1) W1 W5 := b13.trans (b35.mono (by omega))
  have a5 := owns_same n3 fun y hy hy2 => b35.block y (by omega)
  have he3 : W3.heap[E]? = _ := (b13.block E (by omega)).trans he1
  have he5 : W5.heap[E]? = _ := (b15.block E (by omega)).trans he1
  obtain ⟨W6, hW6⟩ : ∃ W6, (W5.setCell ⟨E, 2, none⟩ (.slice (some ⟨ga, 0, none⟩) a.arms.length cga)).setCell ⟨E, 3, none⟩ (.slice (some ⟨gh, 0, none⟩) a.held.length cgh) = W6 := ⟨_, rfl⟩
  have hk6 : ∀ y, y ≠ E → W6.heap[y]? = W5.heap[y]? := fun y hy => by
    rw [← hW6, Below.heap_setCell _ ⟨E, 3, none⟩ _ y hy, Below.heap_setCell _ ⟨E, 2, none⟩ _ y hy]
  have hs6 : W6.heap.size = W5.heap.size := by rw [← hW6]; simp
  have he6 : W6.heap[E]? = some (agB a (.slice (some ⟨ga, 0, none⟩) a.arms.length cga) (.slice (some ⟨gh, 0, none⟩) a.held.length cgh)) := by
    have a1 : (W5.setCell ⟨E, 2, none⟩ (.slice (some ⟨ga, 0, none⟩) a.arms.length cga)).heap[E]? = some (agB a (.slice (some ⟨ga, 0, none⟩) a.arms.length cga) (.slice ph a.held.length ch)) := by
      have := Lib.heap_setCell_same (i := 2) he5 (.slice (some ⟨ga, 0, none⟩) a.arms.length cga)
      simpa using this
    rw [← hW6]
    have := Lib.heap_setCell_same (i := 3) a1 (.slice (some ⟨gh, 0, none⟩) a.held.length cgh)
    simpa using this
  have b6 : Below E W0 W6 := b1.trans ((b15.mono (by omega)).trans (by
    rw [← hW6]
    exact ((Below.refl E W5).setCell (p := ⟨E, 2, none⟩) (Nat.le_refl _) _).setCell (p := ⟨E, 3, none⟩) (Nat.le_refl _) _))
  have t6 : Two7 W6 H a ((ga, cga), (gh, cgh)) := ⟨own_low (owns_same a5 fun y hy _ => hk6 y (by omega)) (by omega), own_low (owns_same n5 fun y hy _ => hk6 y (by omega)) (by omega)⟩
  have hall : W6.ownsRow H 53 4 va s.length (alC s gs) := owns_same h.all fun y _ hy => b6.block y (by omega)
  have htw : ∀ i (h1 : i < s.length) (h2 : i < gs.length), Two7 W6 H s[i] gs[i] := fun i h1 h2 => (h.two i h1 h2).on fun y _ hy => b6.block y (by omega)
  obtain ⟨gv, cv, W7, r7, n7, q7, _, _⟩ := app1 Try.underlying22 hk0 kz0 kz1 kz2 rfl (by decide) W6 H va s.length _ hall #[.int .i64 a.id, .bool a.awake, .slice (some ⟨ga, 0, none⟩) a.arms.length cga, .slice (some ⟨gh, 0, none⟩) a.held.length cgh] rfl (by simp [Value.oneCell']) (by unfold maxLen; omega) (by omega) (by omega)
  have kk := owns_kind hall
  have b7 : Below H W6 W7 := (Below.refl _ _).grown q7 (by omega) fun k hk => (owns_block hall hk).1
  refine ⟨W2, W3, W4, W5, W6, W7, v2, v4, _, ((ga, cga), (gh, cgh)), ⟨by rw [hW1]; exact cell_blk he1 rfl, by rw [hW1]; exact r2, r3, hcp, cell_blk he3 rfl, r4, r5, hcq, cell_blk he5 rfl, cell_blk he5 rfl, frz_blk he5, frz_blk he5, hW6, he6, r7, ⟨h.bel.trans ((b6.mono hz).trans b7), by simp [h.len], ?_, fun i h1 h2 => ?_⟩⟩⟩
  · rw [alC_snoc h.len, List.length_append]
    exact n7
  · have hgl := h.len
    by_cases hi : i < s.length
    · have hl : i < gs.length := by omega
      simp only [List.getElem_append_left hi, List.getElem_append_left hl]
      exact (htw i hi hl).grown q7 (by decide) (by decide) kk
    · have hie : i = s.length := by simp at h1; omega
      subst hie
      simp only [List.getElem_append_right (Nat.le_refl _), List.getElem_append_right (show gs.length ≤ s.length by omega), hgl, Nat.sub_self, List.getElem_cons_zero]
      exact t6.grown q7 (by decide) (by decide) kk
def ag7 : List Value := [.int .i64 (-7), .bool false, .slice none 0 0, .slice none 0 0]
/-- what is lent -/
structure Lt7 (W : World) (B : Nat) (s : List Ag) (ga c : Nat) (gs : List Gh) : Prop where
  len : gs.length = s.length
  all : W.ownsRow B 53 4 (.slice (some ⟨ga, 0, none⟩) (s.length + 1) c) (s.length + 1) (alC s gs ++ ag7)
  two : ∀ i (h1 : i < s.length) (h2 : i < gs.length), Two7 W B s[i] gs[i]
theorem Ls7.last {w W0 : World} {H : Nat} {s : List Ag} {va : Value} {gs : List Gh} (h : Ls7 w W0 H s va gs) (hw : w.heap.size = H) (hs : s.length ≤ 2147483647) : ∃ W1 ga c, (∀ ty, (Builtin.append_ #[22, 22] ty #[va, .slice (some ⟨W0.heap.size, 0, none⟩) 1 1]).run Try.prog (W0.alloc (.cells #[.int .i64 (-7), .bool false, .slice none 0 0, .slice none 0 0] 53 (0, 0))) = .ok (.slice (some ⟨ga, 0, none⟩) (s.length + 1) c) W1) ∧ s.length + 1 ≤ c ∧ Below H w W1 ∧ Lt7 W1 H s ga c gs := by
  have hz : H ≤ W0.heap.size := by rw [← hw]; exact h.bel.size
  obtain ⟨k0, hk0, kz0, kz1, kz2⟩ := info_parts infoG
  obtain ⟨gv, cv, W1, r1, n1, q1, hc, _⟩ := app1 Try.underlying22 hk0 kz0 kz1 kz2 rfl (by decide) W0 H va s.length _ h.all #[.int .i64 (-7), .bool false, .slice none 0 0, .slice none 0 0] rfl (by simp [Value.oneCell']) (by unfold maxLen; omega) (by omega) hz
  have kk := owns_kind h.all
  exact ⟨W1, gv, cv, r1, hc, h.bel.trans ((Below.refl _ _).grown q1 hz fun k hk => (owns_block h.all hk).1), ⟨h.len, n1, fun i h1 h2 => (h.two i h1 h2).grown q1 (by decide) (by decide) kk⟩⟩
/-- .. to be read in every later world -/
structure Own7 (W : World) (ga c : Nat) (s : List Ag) : Prop where
  cap : s.length + 1 ≤ c
  max : c ≤ maxLen
  lt : ga < W.heap.size
  mark : ∀ X, Below W.heap.size W X → X.cell? ⟨ga, s.length * 4, none⟩ = some (.int .i64 (-7))
  at_ : ∀ i (h : i < s.length), ∃ g1 c1 g2 c2, AgR W s[i] (some ⟨g1, 0, none⟩) c1 (some ⟨g2, 0, none⟩) c2 ∧ s[i].arms.length + 1 ≤ c1 ∧ s[i].held.length + 1 ≤ c2 ∧ c1 ≤ maxLen ∧ c2 ≤ maxLen ∧ ∀ X, Below W.heap.size W X → X.cell? ⟨ga, i * 4, none⟩ = some (.int .i64 s[i].id) ∧ X.cell? ⟨ga, i * 4 + 1, none⟩ = some (.bool s[i].awake) ∧ X.cell? ⟨ga, i * 4 + 2, none⟩ = some (.slice (some ⟨g1, 0, none⟩) s[i].arms.length c1) ∧ X.cell? ⟨ga, i * 4 + 3, none⟩ = some (.slice (some ⟨g2, 0, none⟩) s[i].held.length c2) ∧ X.cell? ⟨g1, s[i].arms.length * 2, none⟩ = some (.int .i64 (-7)) ∧ X.cell? ⟨g1, s[i].arms.length * 2 + 1, none⟩ = some (.bool false) ∧ X.cell? ⟨g2, s[i].held.length, none⟩ = some (.int .i64 (-7))
theorem Own7.later {W W' : World} {ga c : Nat} {s : List Ag} (h : Own7 W ga c s) (hb : Below W.heap.size W W') : Own7 W' ga c s :=
  ⟨h.cap, h.max, Nat.lt_of_lt_of_le h.lt hb.size, fun X hX => h.mark X (hb.trans (hX.mono hb.size)), fun i hi => by
    obtain ⟨g1, c1, g2, c2, hA, q1, q2, q3, q4, hc⟩ := h.at_ i hi
    exact ⟨g1, c1, g2, c2, hA.later hb, q1, q2, q3, q4, fun X hX => hc X (hb.trans (hX.mono hb.size))⟩⟩
theorem Own7.read {W : World} {ga c : Nat} {s : List Ag} (h : Own7 W ga c s) : AgsR W (some ⟨ga, 0, none⟩) c s :=
  ⟨by have := h.cap; omega, h.max, fun i hi => by
    obtain ⟨g1, c1, g2, c2, hA, _, _, _, _, hc⟩ := h.at_ i hi
    refine ⟨ga, 0, _, _, _, _, rfl, hA, fun X hX => ?_⟩
    obtain ⟨k0, k1, k2, k3, _⟩ := hc X hX
    rw [Nat.zero_add]
    exact ⟨k0, k1, k2, k3⟩⟩
theorem own_caps {W : World} {B s n g k c : Nat} {t : TypeId} {cs : List Value} (h : W.ownsRow B t s (.slice (some ⟨g, 0, none⟩) k c) n cs) : n ≤ c ∧ c ≤ maxLen := by
  rcases h.2 with ⟨e, _⟩ | ⟨g', cap, cur, e, hB, hg, q1, q2, q3, q4⟩
  · cases e
  · simp only [Value.slice.injEq] at e
    obtain ⟨_, _, rfl⟩ := e
    exact ⟨q1, q2⟩
theorem Lt7.own {W : World} {B : Nat} {s : List Ag} {ga c : Nat} {gs : List Gh} (h : Lt7 W B s ga c gs) (h6 : ∀ a ∈ s, Ag64 a) : Own7 W ga c s := by
  obtain ⟨hcap, hmax⟩ := own_caps h.all
  have hl : ga < W.heap.size := (owns_block h.all (g := ga) rfl).2
  have hln := alC_len s gs h.len
  refine ⟨hcap, hmax, hl, fun X hX => ?_, fun i hi => ?_⟩
  · rw [hX.cell (p := ⟨ga, s.length * 4, none⟩) hl, h.all.cellAt (s.length * 4) (by omega), List.getElem?_append_right (by omega), hln, Nat.sub_self]
    rfl
  · have hgi : i < gs.length := by have := h.len; omega
    have ht := h.two i hi hgi
    have h64 := h6 _ (List.getElem_mem hi)
    have l1 := (owns_block ht.arms (g := gs[i].1.1) rfl).2
    have l2 := (owns_block ht.held (g := gs[i].2.1) rfl).2
    obtain ⟨q1, q3⟩ := own_caps ht.arms
    obtain ⟨q2, q4⟩ := own_caps ht.held
    refine ⟨gs[i].1.1, gs[i].1.2, gs[i].2.1, gs[i].2.2, ⟨h64.id, hds_read (owns_cut ht.arms (hdsC_len _) (by omega)) h64.arms, ints_read (owns_cut ht.held (by rw [rowC_ln, Nat.mul_one]) (by omega)) h64.held⟩, q1, q2, q3, q4, fun X hX => ?_⟩
    have key : ∀ j, j < 4 → X.cell? ⟨ga, i * 4 + j, none⟩ = (alC1 s[i] gs[i])[j]? := fun j hj => by
      rw [hX.cell (p := ⟨ga, i * 4 + j, none⟩) hl, h.all.cellAt (i * 4 + j) (by omega), List.getElem?_append_left (by omega)]
      exact alC_at s gs i hi hgi j hj
    refine ⟨key 0 (by omega), key 1 (by omega), key 2 (by omega), key 3 (by omega), ?_, ?_, ?_⟩
    · rw [hX.cell (p := ⟨gs[i].1.1, s[i].arms.length * 2, none⟩) l1, ht.arms.cellAt _ (by omega), List.getElem?_append_right (by rw [hdsC_len]; omega), hdsC_len, Nat.sub_self]
      rfl
    · rw [hX.cell (p := ⟨gs[i].1.1, s[i].arms.length * 2 + 1, none⟩) l1, ht.arms.cellAt _ (by omega), List.getElem?_append_right (by rw [hdsC_len]; omega), hdsC_len, Nat.add_sub_cancel_left]
      rfl
    · rw [hX.cell (p := ⟨gs[i].2.1, s[i].held.length, none⟩) l2, ht.held.cellAt _ (by omega), List.getElem?_append_right (by rw [rowC_ln]; omega), rowC_ln, Nat.sub_self]
      rfl
end Go.Proofs.Ytjabdhmkibahlaa
namespace Go.Proofs.Ytjabdhmkibahlaa
open Go.RowKit
set_option linter.unusedVariables false
set_option linter.unusedSimpArgs false

/-! ### two lists that are the same -/
set_option maxRecDepth 100000 in
set_option maxHeartbeats 2000000 in
theorem numbers_yes (w : World) (p1 p2 : Option Addr) (c1 c2 : Nat) (l : List Int) (h1 : IntsR w p1 c1 l) (h2 : IntsR w p2 c2 l) :
    Calls Try.prog 29 #[.slice p1 l.length c1, .slice p2 l.length c2] w fun e w' => e = .returned (.bool true) ∧ ∃ k, w' = w.drewN k := by
  have a1 := h1.len
  have a2 := h1.max
  have a3 := h2.len
  have a4 := h2.max
  unfold maxLen at a2 a4
  have H1 : Bx _ := ⟨h1⟩
  have H2 : Bx _ := ⟨h2⟩
  clear h1 h2
  go_enter Try.func29, Try.ntmps29
  go_wp2
  go_loopg [13] (l.length + 1) (fun g v13 wr => ∃ i k : Nat, g = l.length + 1 - i ∧ i ≤ l.length ∧ v13 = .int .i64 i ∧ Bx (wr = w.drewN k))
  case atStart => exact ⟨0, 0, by simp, by omega, rfl, ⟨rfl⟩⟩
  case round =>
    obtain ⟨i, k, hg, hil, rfl, HR⟩ := hrel
    by_cases hlt : i < l.length
    · obtain ⟨b1, o1, rfl, _, k1⟩ := H1.out.at_ i hlt
      obtain ⟨b2, o2, rfl, _, k2⟩ := H2.out.at_ i hlt
      have hbl : Below w.heap.size w wr := by rw [HR.out]; exact below_drewN (Below.refl _ _) k
      have q1 := k1 wr hbl
      have q2 := k2 wr hbl
      clear k1 k2 hbl
      generalize l[i] = z at *
      go_wp2
      go_quiet (fail)
      go_wp2
      go_roundg (l.length + 1 - (i + 1))
      case measure => omega
      case rel => exact ⟨i + 1, k + nq, rfl, by omega, by simp, ⟨by rw [HR.out]; first | rfl | rw [World.drewN_drewN]⟩⟩
    · have hie : i = l.length := by omega
      subst hie
      go_wp2
      go_ret
      exact ⟨rfl, k, HR.out⟩
set_option maxRecDepth 100000 in
set_option maxHeartbeats 2000000 in
theorem chains_yes (w : World) (p1 p2 : Option Addr) (c1 c2 : Nat) (l : List Lk) (h1 : LksR w p1 c1 l) (h2 : LksR w p2 c2 l) :
    Calls Try.prog 30 #[.slice p1 l.length c1, .slice p2 l.length c2] w fun e w' => e = .returned (.bool true) ∧ ∃ k, w' = w.drewN k := by
  have a1 := h1.len
  have a2 := h1.max
  have a3 := h2.len
  have a4 := h2.max
  unfold maxLen at a2 a4
  have H1 : Bx _ := ⟨h1⟩
  have H2 : Bx _ := ⟨h2⟩
  clear h1 h2
  go_enter Try.func30, Try.ntmps30
  go_wp2
  go_loopg [13] (l.length + 1) (fun g v13 wr => ∃ i k : Nat, g = l.length + 1 - i ∧ i ≤ l.length ∧ v13 = .int .i64 i ∧ Bx (wr = w.drewN k))
  case atStart => exact ⟨0, 0, by simp, by omega, rfl, ⟨rfl⟩⟩
  case round =>
    obtain ⟨i, k, hg, hil, rfl, HR⟩ := hrel
    by_cases hlt : i < l.length
    · obtain ⟨b1, o1, rfl, _, k1⟩ := H1.out.at_ i hlt
      obtain ⟨b2, o2, rfl, _, k2⟩ := H2.out.at_ i hlt
      have hbl : Below w.heap.size w wr := by rw [HR.out]; exact below_drewN (Below.refl _ _) k
      obtain ⟨q1, q3, q5⟩ := k1 wr hbl
      obtain ⟨q2, q4, q6⟩ := k2 wr hbl
      clear k1 k2 hbl
      generalize l[i] = z at *
      go_wp2
      go_quiet (fail)
      go_wp2
      go_roundg (l.length + 1 - (i + 1))
      case measure => omega
      case rel => exact ⟨i + 1, k + nq, rfl, by omega, by simp, ⟨by rw [HR.out]; first | rfl | rw [World.drewN_drewN]⟩⟩
    · have hie : i = l.length := by omega
      subst hie
      go_wp2
      go_ret
      exact ⟨rfl, k, HR.out⟩
end Go.Proofs.Ytjabdhmkibahlaa
