import Derived.Test.YtjabdhmkibahlaaCHG
import Derived.Deep.MidRow
import Derived.Test.YtjabdhmkibahlaaCGN
import Derived.Laws.Rows
import Derived.Test.YtjabdhmkibahlaaCGHp
import Derived.Test.YtjabdhmkibahlaaCRfG
namespace Go.Proofs.Ytjabdhmkibahlaa
open Go.RowKit
set_option linter.unusedVariables false
set_option linter.unusedSimpArgs false

def mk20 (i : Nat) : Lk := ⟨-20 - (i : Int), 0, 0⟩
def mk30 (i : Nat) : Lk := ⟨-30 - (i : Int), 0, 0⟩
def fin9 (i n : Nat) : List Lk := List.replicate n (mk20 i) ++ List.replicate 9 (mk30 i)
theorem fin9_len (i n : Nat) : (fin9 i n).length = n + 9 := by simp [fin9]
theorem fin9_lo {i n k : Nat} (h : k < n) : (fin9 i n)[k]? = some (mk20 i) := by
  unfold fin9
  rw [List.getElem?_append_left (by simpa using h), List.getElem?_replicate, if_pos h]
theorem fin9_hi {i n k : Nat} (h : n ≤ k) (h2 : k < n + 9) : (fin9 i n)[k]? = some (mk30 i) := by
  unfold fin9
  rw [List.getElem?_append_right (by simpa using h), List.getElem?_replicate, if_pos (by simp; omega)]
theorem set_mark {y : List Lk} {k : Nat} (m : Lk) (h : k < y.length) : (List.replicate k m ++ y.drop k).set k m = List.replicate (k + 1) m ++ y.drop (k + 1) := by
  rw [List.set_append_right _ _ (by simp), List.length_replicate, Nat.sub_self, List.drop_eq_getElem_cons h, List.set_cons_zero, List.replicate_succ']
  simp
theorem lksC_get (l : List Lk) (k : Nat) (x : Lk) (h : l[k]? = some x) : (lksC l)[k * 3]? = some (.int .i64 x.waker) ∧ (lksC l)[k * 3 + 1]? = some (.int .i64 x.woken) ∧ (lksC l)[k * 3 + 2]? = some (.int .i64 x.chan) := by
  induction l generalizing k with
  | nil => simp at h
  | cons y r ih =>
    have e : ∀ j, (lksC (y :: r))[j + 3]? = (lksC r)[j]? := fun j => rfl
    cases k with
    | zero =>
      simp at h; subst h
      exact ⟨rfl, rfl, rfl⟩
    | succ k =>
      rw [show (k + 1) * 3 = k * 3 + 3 by omega, show k * 3 + 3 + 1 = k * 3 + 1 + 3 by omega, show k * 3 + 3 + 2 = k * 3 + 2 + 3 by omega, e, e, e]
      exact ih k (by simpa using h)
theorem wpList_put3 {ops : Array Oper} {rest : List Oper} {op : Oper} {a : Act} {w W8 : World} {Q : Exit → Act → World → Prop} (hgd : op.guard = none) (x y : Operand) (ho : op.op = .store 24 x y) (b o : Nat) (n : Int) (hx : a.eval x = .pointer (some ⟨b, o, none⟩)) (hy : a.eval y = .agg #[.int .i64 n, .int .i64 0, .int .i64 0]) (ht : w.there b o 3) (hW : w.setCells b o [.int .i64 n, .int .i64 0, .int .i64 0] = W8)
    (h : wpList Try.prog ops Q rest (a.put op.dst undef) W8) : wpList Try.prog ops Q (op :: rest) a w := by
  subst hW
  exact wpList_store_mid hgd 24 x y ho b o #[.int .i64 n, .int .i64 0, .int .i64 0] hx hy ht (by kernel_rfl) (by simp [Value.oneCell']) h
theorem Czb.there3 {w : World} {t : TypeId} {g n : Nat} (h : Czb w t g n) {i k : Nat} (hk : i + k ≤ n) : w.there g i k := fun j hj => by
  obtain ⟨⟨y, z⟩, f⟩ := h.at_ (i := i + j) (by omega)
  exact ⟨by rw [z]; rfl, f⟩
/-- what is kept while the lists are written over -/
structure P2 (w1 W : World) (B go co gw cw : Nat) (cs ls : List (List Lk)) (os ws : List Value) : Prop where
  bk : Bk W B go co gw cw cs ls os ws
  bel : Below w1.heap.size w1 W
  low : B ≤ W.heap.size
  eqb : w1.heap.size = B
theorem P2.later {w1 W W' : World} {B go co gw cw : Nat} {cs ls : List (List Lk)} {os ws : List Value} (h : P2 w1 W B go co gw cw cs ls os ws) (hb : Below W.heap.size W W') : P2 w1 W' B go co gw cw cs ls os ws :=
  ⟨h.bk.later hb, h.bel.trans (hb.mono h.bel.size), Nat.le_trans h.low hb.size, h.eqb⟩
theorem P2.next {w1 W W' : World} {B go co gw cw : Nat} {cs ls cs' : List (List Lk)} {os ws os' : List Value} (h : P2 w1 W B go co gw cw cs ls os ws) (hk : Bk W' B go co gw cw cs' ls os' ws) (hb : Below B W W') : P2 w1 W' B go co gw cw cs' ls os' ws :=
  ⟨hk, by have := h.bel; rw [h.eqb] at this ⊢; exact this.trans hb, Nat.le_trans h.low hb.size, h.eqb⟩
theorem P2.out {w1 W : World} {B go co gw cw : Nat} {cs ls : List (List Lk)} {os ws : List Value} (h : P2 w1 W B go co gw cw cs ls os ws) {i : Nat} {y : List Lk} (hy : cs[i]? = some y) : ∃ a c, os[i]? = some (.slice a y.length c) ∧ W.cell? ⟨go, i, none⟩ = some (.slice a y.length c) ∧ W.ownsRow B 24 3 (.slice a y.length c) y.length (lksC y) ∧ y.length ≤ c := by
  obtain ⟨hi, e⟩ := List.getElem?_eq_some_iff.1 hy
  obtain ⟨a, c, e1, e2⟩ := h.bk.get hi
  have hlo := h.bk.lo
  have hr := h.bk.row i hi (by omega)
  rw [e1, e] at hr
  rw [e] at e1 e2
  refine ⟨a, c, by rw [List.getElem?_eq_getElem (by omega), e1], e2, hr, ?_⟩
  rcases hr.2 with ⟨q, q2⟩ | ⟨g, cap, cur, q, _, _, q3, _⟩
  · omega
  · simp only [Value.slice.injEq] at q; omega
theorem P2.want {w1 W : World} {B go co gw cw : Nat} {cs ls : List (List Lk)} {os ws : List Value} (h : P2 w1 W B go co gw cw cs ls os ws) {i : Nat} {y : List Lk} (hy : ls[i]? = some y) : ∃ a c, W.cell? ⟨gw, i, none⟩ = some (.slice a y.length c) ∧ W.ownsRow B 24 3 (.slice a y.length c) y.length (lksC y) := by
  obtain ⟨hi, e⟩ := List.getElem?_eq_some_iff.1 hy
  obtain ⟨a, c, e1, e2⟩ := h.bk.wget hi
  have hlo := h.bk.lw
  have hr := h.bk.wrow i hi (by omega)
  rw [e1, e] at hr
  rw [e] at e1 e2
  exact ⟨a, c, e2, hr⟩
/-- an entry is written -/
theorem P2.mark {w1 W W' : World} {B go co gw cw : Nat} {cs ls : List (List Lk)} {os ws : List Value} (h : P2 w1 W B go co gw cw cs ls os ws) {i : Nat} {y : List Lk} (hy : cs[i]? = some y) {g c n : Nat} (ho : os[i]? = some (.slice (some ⟨g, 0, none⟩) n c)) {k : Nat} (hk : k < y.length) (x : Lk) (hW : W.setCells g (k * 3) [.int .i64 x.waker, .int .i64 x.woken, .int .i64 x.chan] = W') :
    ∃ cs', P2 w1 W' B go co gw cw cs' ls os ws ∧ cs'[i]? = some (y.set k x) ∧ ∀ j, j ≠ i → cs'[j]? = cs[j]? := by
  obtain ⟨hi, e⟩ := List.getElem?_eq_some_iff.1 hy
  obtain ⟨hio, eo⟩ := List.getElem?_eq_some_iff.1 ho
  obtain ⟨m1, m2⟩ := h.bk.mark hi eo (by rw [e]; exact hk) x hW
  exact ⟨_, h.next m1 m2, by rw [List.getElem?_set_self hi, e], fun j hj => List.getElem?_set_ne (by omega)⟩
/-- an entry more -/
theorem P2.grow {w1 W : World} {B go co gw cw : Nat} {cs ls : List (List Lk)} {os ws : List Value} (h : P2 w1 W B go co gw cw cs ls os ws) {i : Nat} {y : List Lk} (hy : cs[i]? = some y) {a : Option Addr} {n c : Nat} (ho : os[i]? = some (.slice a n c)) (hn : n = y.length) (hl : n + 1 ≤ 5000000000100) (x : Lk) :
    ∃ W1 W2 g' c' cs' os', (∀ ty, (Builtin.append_ #[36, 36] ty #[.slice a n c, .slice (some ⟨W.heap.size, 0, none⟩) 1 1]).run Try.prog (W.alloc (.cells #[.int .i64 x.waker, .int .i64 x.woken, .int .i64 x.chan] 24)) = .ok (.slice (some ⟨g', 0, none⟩) (n + 1) c') W1) ∧
      W1.cell? ⟨go, i, none⟩ = some (.slice a n c) ∧ W1.frozen? ⟨go, i, none⟩ = false ∧ W1.setCell ⟨go, i, none⟩ (.slice (some ⟨g', 0, none⟩) (n + 1) c') = W2 ∧ P2 w1 W2 B go co gw cw cs' ls os' ws ∧ cs'[i]? = some (y ++ [x]) ∧ ∀ j, j ≠ i → cs'[j]? = cs[j]? := by
  obtain ⟨hi, e⟩ := List.getElem?_eq_some_iff.1 hy
  obtain ⟨hio, eo⟩ := List.getElem?_eq_some_iff.1 ho
  obtain ⟨W1, W2, g', c', hG⟩ := h.bk.grow h.low hi eo (by rw [e]; exact hn) hl x
  exact ⟨W1, W2, g', c', _, _, hG.r1, hG.k1, hG.f1, hG.w2, h.next hG.bk hG.bel, by rw [List.getElem?_set_self hi, hy]; rfl, fun j hj => List.getElem?_set_ne (by omega)⟩
end Go.Proofs.Ytjabdhmkibahlaa
namespace Go.Proofs.Ytjabdhmkibahlaa
open Go.RowKit
set_option linter.unusedVariables false
set_option linter.unusedSimpArgs false

/-! ### agents that are lent: a row of them, rows of their lists, a mark behind each list -/
abbrev Gh := (Nat × Nat) × (Nat × Nat)
def amC (s : List Ag) (gs : List Gh) : List Value := (s.zip gs).map fun x => .slice (some ⟨x.2.1.1, 0, none⟩) (x.1.arms.length + 1) x.2.1.2
def hlC (s : List Ag) (gs : List Gh) : List Value := (s.zip gs).map fun x => .slice (some ⟨x.2.2.1, 0, none⟩) (x.1.held.length + 1) x.2.2.2
def alC1 (a : Ag) (g : Gh) : List Value := [.int .i64 a.id, .bool a.awake, .slice (some ⟨g.1.1, 0, none⟩) a.arms.length g.1.2, .slice (some ⟨g.2.1, 0, none⟩) a.held.length g.2.2]
def alC (s : List Ag) (gs : List Gh) : List Value := (s.zip gs).flatMap fun x => alC1 x.1 x.2
theorem amC_snoc {s : List Ag} {gs : List Gh} (h : gs.length = s.length) (a : Ag) (g : Gh) : amC (s ++ [a]) (gs ++ [g]) = amC s gs ++ [.slice (some ⟨g.1.1, 0, none⟩) (a.arms.length + 1) g.1.2] := by
  unfold amC
  rw [List.zip_append h.symm, List.map_append]
  rfl
theorem hlC_snoc {s : List Ag} {gs : List Gh} (h : gs.length = s.length) (a : Ag) (g : Gh) : hlC (s ++ [a]) (gs ++ [g]) = hlC s gs ++ [.slice (some ⟨g.2.1, 0, none⟩) (a.held.length + 1) g.2.2] := by
  unfold hlC
  rw [List.zip_append h.symm, List.map_append]
  rfl
theorem alC_snoc {s : List Ag} {gs : List Gh} (h : gs.length = s.length) (a : Ag) (g : Gh) : alC (s ++ [a]) (gs ++ [g]) = alC s gs ++ alC1 a g := by
  unfold alC
  rw [List.zip_append h.symm, List.flatMap_append]
  simp
def h77 : Hd := ⟨-77, false⟩
/-- the two lists of one that is lent -/
structure Lst2 (W : World) (B : Nat) (a : Ag) (g : Gh) : Prop where
  arms : W.ownsRow B 58 2 (.slice (some ⟨g.1.1, 0, none⟩) (a.arms.length + 1) g.1.2) (a.arms.length + 1) (hdsC a.arms ++ [.int .i64 (-77), .bool false])
  held : W.ownsRow B 3 1 (.slice (some ⟨g.2.1, 0, none⟩) (a.held.length + 1) g.2.2) (a.held.length + 1) (rowC a.held ++ [.int .i64 (-78)])
theorem Lst2.on {W W' : World} {B : Nat} {a : Ag} {g : Gh} (h : Lst2 W B a g) (hb : ∀ y, B ≤ y → y < W.heap.size → W'.heap[y]? = W.heap[y]?) : Lst2 W' B a g := ⟨owns_same h.arms hb, owns_same h.held hb⟩
theorem Lst2.low {W : World} {B B' : Nat} {a : Ag} {g : Gh} (h : Lst2 W B a g) (hb : B' ≤ B) : Lst2 W B' a g := ⟨own_low h.arms hb, own_low h.held hb⟩
theorem Lst2.grown {W W' : World} {B : Nat} {a : Ag} {g : Gh} {vv : Value} {t' : TypeId} (h : Lst2 W B a g) (hg : W.grownBy W' vv.ownBlock) (h1 : t' ≠ 58) (h2 : t' ≠ 3) (hne : ∀ g, vv.ownBlock = some g → ∃ c fz, W.heap[g]? = some (.cells c t' fz)) : Lst2 W' B a g := ⟨owns_grown h.arms hg h1 hne, owns_grown h.held hg h2 hne⟩
theorem Lst2.lt {W : World} {B : Nat} {a : Ag} {g : Gh} (h : Lst2 W B a g) : (B ≤ g.1.1 ∧ g.1.1 < W.heap.size) ∧ B ≤ g.2.1 ∧ g.2.1 < W.heap.size := ⟨owns_block h.arms rfl, owns_block h.held rfl⟩
structure Lnd (W : World) (B : Nat) (s : List Ag) (va vm vh : Value) (gs : List Gh) : Prop where
  len : gs.length = s.length
  all : W.ownsRow B 53 4 va s.length (alC s gs)
  arms : W.ownsRow B 51 1 vm s.length (amC s gs)
  held : W.ownsRow B 45 1 vh s.length (hlC s gs)
  two : ∀ i (h1 : i < s.length) (h2 : i < gs.length), Lst2 W B s[i] gs[i]
theorem Lnd.nil (W : World) (B : Nat) : Lnd W B [] (.slice none 0 0) (.slice none 0 0) (.slice none 0 0) [] := ⟨rfl, ⟨rfl, .inl ⟨rfl, rfl⟩⟩, ⟨rfl, .inl ⟨rfl, rfl⟩⟩, ⟨rfl, .inl ⟨rfl, rfl⟩⟩, fun i h => by simp at h⟩
theorem Lnd.on {W W' : World} {B : Nat} {s : List Ag} {va vm vh : Value} {gs : List Gh} (h : Lnd W B s va vm vh gs) (hb : ∀ g, B ≤ g → g < W.heap.size → W'.heap[g]? = W.heap[g]?) : Lnd W' B s va vm vh gs :=
  ⟨h.len, owns_same h.all hb, owns_same h.arms hb, owns_same h.held hb, fun i h1 h2 => (h.two i h1 h2).on hb⟩
theorem infoSH : (Try.prog.info? 51).map (fun i => (i.zero, i.size, i.bytes)) = some (some (.slice none 0 0), 1, 24) := by kernel_rfl
theorem infoSI : (Try.prog.info? 45).map (fun i => (i.zero, i.size, i.bytes)) = some (some (.slice none 0 0), 1, 24) := by kernel_rfl
/-- what an agent looks like in its block -/
abbrev agB (a : Ag) (x y : Value) : Obj := .cells #[.int .i64 a.id, .bool a.awake, x, y] 53 (0, 0)
abbrev lnX (a b c : Value) : Obj := .cells #[a, b, c] 31 (0, 0)
/-- lend under way -/
structure Lst (w W : World) (H : Nat) (s : List Ag) (va vm vh : Value) (gs : List Gh) : Prop where
  bel : Below H w W
  r0 : W.heap[H]? = some (lnX (.slice none 0 0) (.slice none 0 0) (.slice none 0 0))
  rx : W.heap[H + 1]? = some (lnX va vm vh)
  lnd : Lnd W (H + 2) s va vm vh gs
theorem Lst.sz {w W : World} {H : Nat} {s : List Ag} {va vm vh : Value} {gs : List Gh} (h : Lst w W H s va vm vh gs) : H + 2 ≤ W.heap.size := heap_lt h.rx
/-- the worlds of the first half of a round: the two lists -/
structure RndA (W0 W2 W3 W4 W5 W6 W7 W8 : World) (H n m : Nat) (a : Ag) (v3 v6 : Value) (pa : Option Addr) (ca : Nat) (ph : Option Addr) (ch : Nat) (g : Gh) : Prop where
  w2 : (W0.alloc (agB a (.slice pa n ca) (.slice ph m ch))).alloc (.cells #[] 58) = W2
  c2 : W2.cell? ⟨W0.heap.size, 2, none⟩ = some (.slice pa n ca)
  r3 : ∀ ty, (Builtin.append_ #[51, 51] ty #[.slice (some ⟨W0.heap.size + 1, 0, none⟩) 0 0, .slice pa n ca]).run Try.prog W2 = .ok v3 W3
  r4 : ∀ ty, (Builtin.append_ #[51, 51] ty #[v3, .slice (some ⟨W3.heap.size, 0, none⟩) 1 1]).run Try.prog (W3.alloc (.cells #[.int .i64 (-77), .bool false] 58)) = .ok (.slice (some ⟨g.1.1, 0, none⟩) (n + 1) g.1.2) W4
  cp : n + 1 ≤ g.1.2
  w5 : W4.alloc (.cells #[] 3) = W5
  c5 : W5.cell? ⟨W0.heap.size, 3, none⟩ = some (.slice ph m ch)
  r6 : ∀ ty, (Builtin.append_ #[45, 45] ty #[.slice (some ⟨W4.heap.size, 0, none⟩) 0 0, .slice ph m ch]).run Try.prog W5 = .ok v6 W6
  r7 : ∀ ty, (Builtin.append_ #[45, 45] ty #[v6, .slice (some ⟨W6.heap.size, 0, none⟩) 1 1]).run Try.prog (W6.alloc (.cells #[.int .i64 (-78)] 3)) = .ok (.slice (some ⟨g.2.1, 0, none⟩) (m + 1) g.2.2) W7
  cq : m + 1 ≤ g.2.2
  c7 : W7.cell? ⟨W0.heap.size, 2, none⟩ = some (.slice pa n ca)
  d7 : W7.cell? ⟨W0.heap.size, 3, none⟩ = some (.slice ph m ch)
  f7 : W7.frozen? ⟨W0.heap.size, 2, none⟩ = false
  g7 : W7.frozen? ⟨W0.heap.size, 3, none⟩ = false
  w8 : (W7.setCell ⟨W0.heap.size, 2, none⟩ (.slice (some ⟨g.1.1, 0, none⟩) n g.1.2)).setCell ⟨W0.heap.size, 3, none⟩ (.slice (some ⟨g.2.1, 0, none⟩) m g.2.2) = W8
  b8 : W8.heap[W0.heap.size]? = some (agB a (.slice (some ⟨g.1.1, 0, none⟩) n g.1.2) (.slice (some ⟨g.2.1, 0, none⟩) m g.2.2))
  bel : Below W0.heap.size W0 W8
  two : Lst2 W8 (W0.heap.size + 1) a g
set_option maxHeartbeats 2000000 in
theorem rnd_a {W0 : World} (H : Nat) (a : Ag) (n m : Nat) (hn : n = a.arms.length) (hm : m = a.held.length) (pa : Option Addr) (ca : Nat) (ph : Option Addr) (ch : Nat) (hA : AgR W0 a pa ca ph ch) (hln : n ≤ 2147483647) (hlm : m ≤ 2147483647) :
    ∃ W2 W3 W4 W5 W6 W7 W8 v3 v6 g, RndA W0 W2 W3 W4 W5 W6 W7 W8 H n m a v3 v6 pa ca ph ch g := by
  subst hn
  subst hm
  obtain ⟨i0, hi0, iz0, iz1, iz2⟩ := info_parts infoI
  obtain ⟨j0, hj0, jz0, jz1, jz2⟩ := info_parts infoH
  obtain ⟨E, hE⟩ : ∃ E, E = W0.heap.size := ⟨_, rfl⟩
  obtain ⟨W1, hW1⟩ : ∃ W1, W0.alloc (agB a (.slice pa a.arms.length ca) (.slice ph a.held.length ch)) = W1 := ⟨_, rfl⟩
  have hs1 : W1.heap.size = E + 1 := by rw [← hW1, hE]; simp
  have b1 : Below E W0 W1 := by rw [← hW1, hE]; exact below1 _ _
  have he1 : W1.heap[E]? = some (agB a (.slice pa a.arms.length ca) (.slice ph a.held.length ch)) := by rw [← hW1, hE]; exact heap_newH _ _ _ rfl
  obtain ⟨W2, hW2⟩ : ∃ W2, W1.alloc (.cells #[] 58) = W2 := ⟨_, rfl⟩
  have hs2 : W2.heap.size = E + 2 := by rw [← hW2]; simp [hs1]
  have b2 : Below (E + 1) W1 W2 := by rw [← hW2, ← hs1]; exact below1 _ _
  have n2 : W2.ownsRow (E + 1) 58 2 (.slice (some ⟨E + 1, 0, none⟩) 0 0) 0 [] := ⟨rfl, .inr ⟨E + 1, 0, #[], rfl, Nat.le_refl _, by rw [← hW2]; exact heap_newH _ _ _ hs1, Nat.le_refl _, by simp [maxLen], rfl, rfl⟩⟩
  have hb02 : Below E W0 W2 := b1.trans (b2.mono (by omega))
  have hA2 : AgR W2 a pa ca ph ch := hA.later (by rw [← hE]; exact hb02)
  obtain ⟨v3, W3, r3, n3, g3⟩ := appL Try.underlying51 hj0 jz0 jz1 jz2 rfl (by decide) W2 (E + 1) _ 0 [] n2 pa a.arms.length ca (hdsC a.arms) (hdsC_len _) hA2.arms.news (hdsC_one _) (by unfold maxLen; omega) (by omega) (by omega)
  rw [List.nil_append, Nat.zero_add] at n3
  have b3 : Below (E + 1) W2 W3 := (Below.refl _ _).grown g3 (by omega) fun k hk => (owns_block n2 hk).1
  have hs3 := b3.size
  obtain ⟨ga, cga, W4, r4, n4, g4, hcp, _⟩ := app1 Try.underlying51 hj0 jz0 jz1 jz2 rfl (by decide) W3 (E + 1) v3 a.arms.length _ n3 #[.int .i64 (-77), .bool false] rfl (by simp [Value.oneCell']) (by unfold maxLen; omega) (by omega) (by omega)
  have b4 : Below (E + 1) W3 W4 := (Below.refl _ _).grown g4 (by omega) fun k hk => (owns_block n3 hk).1
  have hs4 := b4.size
  obtain ⟨F, hF⟩ : ∃ F, F = W4.heap.size := ⟨_, rfl⟩
  obtain ⟨W5, hW5⟩ : ∃ W5, W4.alloc (.cells #[] 3) = W5 := ⟨_, rfl⟩
  have hs5 : W5.heap.size = F + 1 := by rw [← hW5, hF]; simp
  have b5 : Below F W4 W5 := by rw [← hW5, hF]; exact below1 _ _
  have n5 : W5.ownsRow F 3 1 (.slice (some ⟨F, 0, none⟩) 0 0) 0 [] := ⟨rfl, .inr ⟨F, 0, #[], rfl, Nat.le_refl _, by rw [← hW5]; exact heap_newH _ _ _ hF.symm, Nat.le_refl _, by simp [maxLen], rfl, rfl⟩⟩
  have b15 : Below (E + 1) W1 W5 := b2.trans (b3.trans (b4.trans (b5.mono (by omega))))
  have hA5 : AgR W5 a pa ca ph ch := hA.later (by rw [← hE]; exact b1.trans (b15.mono (by omega)))
  obtain ⟨v6, W6, r6, n6, g6⟩ := appL Try.underlying45 hi0 iz0 iz1 iz2 rfl (by decide) W5 F _ 0 [] n5 ph a.held.length ch (rowC a.held) (by rw [rowC_ln, Nat.mul_one]) hA5.held.news (rowC_on _) (by unfold maxLen; omega) (by omega) (by omega)
  rw [List.nil_append, Nat.zero_add] at n6
  have b6 : Below F W5 W6 := (Below.refl _ _).grown g6 (by omega) fun k hk => (owns_block n5 hk).1
  have hs6 := b6.size
  obtain ⟨gh, cgh, W7, r7, n7, g7, hcq, _⟩ := app1 Try.underlying45 hi0 iz0 iz1 iz2 rfl (by decide) W6 F v6 a.held.length _ n6 #[.int .i64 (-78)] rfl (by simp [Value.oneCell']) (by unfold maxLen; omega) (by omega) (by omega)
  have b7 : Below F W6 W7 := (Below.refl _ _).grown g7 (by omega) fun k hk => (owns_block n6 hk).1
  have b47 : Below F W4 W7 := b5.trans (b6.trans b7)
  have b17 : Below (E + 1) W1 W7 := b2.trans (b3.trans (b4.trans (b47.mono (by omega))))
  have he2 : W2.heap[E]? = some (agB a (.slice pa a.arms.length ca) (.slice ph a.held.length ch)) := by rw [b2.block E (by omega)]; exact he1
  have he5 : W5.heap[E]? = some (agB a (.slice pa a.arms.length ca) (.slice ph a.held.length ch)) := by rw [b15.block E (by omega)]; exact he1
  have he7 : W7.heap[E]? = some (agB a (.slice pa a.arms.length ca) (.slice ph a.held.length ch)) := by rw [b17.block E (by omega)]; exact he1
  have n74 : W7.ownsRow (E + 1) 58 2 (.slice (some ⟨ga, 0, none⟩) (a.arms.length + 1) cga) (a.arms.length + 1) (hdsC a.arms ++ [.int .i64 (-77), .bool false]) := owns_same n4 fun y _ hy => b47.block y (by omega)
  obtain ⟨W8, hW8⟩ : ∃ W8, (W7.setCell ⟨E, 2, none⟩ (.slice (some ⟨ga, 0, none⟩) a.arms.length cga)).setCell ⟨E, 3, none⟩ (.slice (some ⟨gh, 0, none⟩) a.held.length cgh) = W8 := ⟨_, rfl⟩
  have hk8 : ∀ y, y ≠ E → W8.heap[y]? = W7.heap[y]? := fun y hy => by
    rw [← hW8, Below.heap_setCell _ ⟨E, 3, none⟩ _ y hy, Below.heap_setCell _ ⟨E, 2, none⟩ _ y hy]
  have he8 : W8.heap[E]? = some (agB a (.slice (some ⟨ga, 0, none⟩) a.arms.length cga) (.slice (some ⟨gh, 0, none⟩) a.held.length cgh)) := by
    have a1 : (W7.setCell ⟨E, 2, none⟩ (.slice (some ⟨ga, 0, none⟩) a.arms.length cga)).heap[E]? = some (agB a (.slice (some ⟨ga, 0, none⟩) a.arms.length cga) (.slice ph a.held.length ch)) := by
      have := Lib.heap_setCell_same (i := 2) he7 (.slice (some ⟨ga, 0, none⟩) a.arms.length cga)
      simpa using this
    rw [← hW8]
    have := Lib.heap_setCell_same (i := 3) a1 (.slice (some ⟨gh, 0, none⟩) a.held.length cgh)
    simpa using this
  have hb8 : Below E W0 W8 := by
    rw [← hW8]
    exact (b1.trans (b17.mono (by omega))).trans (((Below.refl E W7).setCell (p := ⟨E, 2, none⟩) (Nat.le_refl _) _).trans ((Below.refl E _).setCell (p := ⟨E, 3, none⟩) (Nat.le_refl _) _))
  refine ⟨W2, W3, W4, W5, W6, W7, W8, v3, v6, ((ga, cga), (gh, cgh)), ?_⟩
  subst hE
  subst hF
  refine ⟨by rw [hW1]; exact hW2, cell_blk he2 rfl, r3, r4, hcp, hW5, cell_blk he5 rfl, r6, r7, hcq, cell_blk he7 rfl, cell_blk he7 rfl, frz_blk he7, frz_blk he7, hW8, he8, hb8, ?_, ?_⟩
  · exact owns_same n74 fun y hy _ => hk8 y (by omega)
  · exact owns_same (own_low n7 (by omega)) fun y hy _ => hk8 y (by omega)
/-- the worlds of the second half: the three rows -/
structure RndB (w W8 W9 Wa Wb Wc Wd We : World) (H n m : Nat) (s : List Ag) (a : Ag) (va vm vh va' vm' vh' : Value) (g : Gh) (gs : List Gh) : Prop where
  c8 : W8.cell? ⟨H + 1, 1, none⟩ = some vm
  r9 : ∀ ty, (Builtin.append_ #[28, 28] ty #[vm, .slice (some ⟨W8.heap.size, 0, none⟩) 1 1]).run Try.prog (W8.alloc (.cells #[.slice (some ⟨g.1.1, 0, none⟩) (n + 1) g.1.2] 51)) = .ok vm' W9
  c9 : W9.cell? ⟨H + 1, 1, none⟩ = some vm
  f9 : W9.frozen? ⟨H + 1, 1, none⟩ = false
  wa : W9.setCell ⟨H + 1, 1, none⟩ vm' = Wa
  ca : Wa.cell? ⟨H + 1, 2, none⟩ = some vh
  rb : ∀ ty, (Builtin.append_ #[29, 29] ty #[vh, .slice (some ⟨Wa.heap.size, 0, none⟩) 1 1]).run Try.prog (Wa.alloc (.cells #[.slice (some ⟨g.2.1, 0, none⟩) (m + 1) g.2.2] 45)) = .ok vh' Wb
  cb : Wb.cell? ⟨H + 1, 2, none⟩ = some vh
  fb : Wb.frozen? ⟨H + 1, 2, none⟩ = false
  wc : Wb.setCell ⟨H + 1, 2, none⟩ vh' = Wc
  cc : Wc.cell? ⟨H + 1, 0, none⟩ = some va
  rd : ∀ ty, (Builtin.append_ #[22, 22] ty #[va, .slice (some ⟨Wc.heap.size, 0, none⟩) 1 1]).run Try.prog (Wc.alloc (agB a (.slice (some ⟨g.1.1, 0, none⟩) n g.1.2) (.slice (some ⟨g.2.1, 0, none⟩) m g.2.2))) = .ok va' Wd
  cd : Wd.cell? ⟨H + 1, 0, none⟩ = some va
  fd : Wd.frozen? ⟨H + 1, 0, none⟩ = false
  we : Wd.setCell ⟨H + 1, 0, none⟩ va' = We
  st : Lst w We H (s ++ [a]) va' vm' vh' (gs ++ [g])
set_option maxHeartbeats 2000000 in
theorem rnd_b {w W0 W8 : World} {H : Nat} {s : List Ag} {va vm vh : Value} {gs : List Gh} (h : Lst w W0 H s va vm vh gs) (hw : w.heap.size = H) (a : Ag) (g : Gh) (hb8 : Below W0.heap.size W0 W8) (h2 : Lst2 W8 (W0.heap.size + 1) a g) (E : Nat) (hE : W0.heap.size = E) (n m : Nat) (hn : n = a.arms.length) (hm : m = a.held.length) (hb : W8.heap[E]? = some (agB a (.slice (some ⟨g.1.1, 0, none⟩) n g.1.2) (.slice (some ⟨g.2.1, 0, none⟩) m g.2.2))) (hs : s.length ≤ 2147483647) :
    ∃ W9 Wa Wb Wc Wd We va' vm' vh', RndB w W8 W9 Wa Wb Wc Wd We H n m s a va vm vh va' vm' vh' g gs ∧ Wc.heap[E]? = some (agB a (.slice (some ⟨g.1.1, 0, none⟩) n g.1.2) (.slice (some ⟨g.2.1, 0, none⟩) m g.2.2)) := by
  subst hn
  subst hm
  have hz := h.sz
  rw [hE] at hb8 h2 hz
  have hz8 := hb8.size
  rw [hE] at hz8
  obtain ⟨i0, hi0, iz0, iz1, iz2⟩ := info_parts infoSI
  obtain ⟨j0, hj0, jz0, jz1, jz2⟩ := info_parts infoSH
  obtain ⟨k0, hk0, kz0, kz1, kz2⟩ := info_parts infoG
  have l8 : Lnd W8 (H + 2) s va vm vh gs := h.lnd.on fun y _ hy => hb8.block y (by omega)
  have hx8 : W8.heap[H + 1]? = some (lnX va vm vh) := by rw [hb8.block _ (by omega)]; exact h.rx
  have h08 : W8.heap[H]? = some (lnX (.slice none 0 0) (.slice none 0 0) (.slice none 0 0)) := by rw [hb8.block _ (by omega)]; exact h.r0
  have h28 : Lst2 W8 (H + 2) a g := h2.low (by omega)
  have kb : ∀ {v : Value} {t : TypeId} {sz : Nat} {cs : List Value}, W0.ownsRow (H + 2) t sz v s.length cs → ∀ k, v.ownBlock = some k → H + 2 ≤ k ∧ k < E := fun ho k hk => by have := owns_block ho hk; omega
  -- arms
  obtain ⟨gm, cm, W9, r9, n9, g9, _, _⟩ := app1 Try.underlying28 hj0 jz0 jz1 jz2 rfl (by decide) W8 (H + 2) vm s.length _ l8.arms #[.slice (some ⟨g.1.1, 0, none⟩) (a.arms.length + 1) g.1.2] rfl (by simp [Value.oneCell']) (by unfold maxLen; omega) (by omega) (by omega)
  have k9 := owns_kind l8.arms
  have o9 : ∀ k, vm.ownBlock = some k → H + 2 ≤ k ∧ k < E := kb h.lnd.arms
  have hx9 := grown_at g9 hx8 fun e => by have := o9 _ e; omega
  have h09 := grown_at g9 h08 fun e => by have := o9 _ e; omega
  have hE9 := grown_at g9 hb fun e => by have := o9 _ e; omega
  have al9 := owns_grown l8.all g9 (by decide) k9
  have hl9 := owns_grown l8.held g9 (by decide) k9
  have tw9 : ∀ i (h1 : i < s.length) (h2 : i < gs.length), Lst2 W9 (H + 2) s[i] gs[i] := fun i h1 h2 => (l8.two i h1 h2).grown g9 (by decide) (by decide) k9
  have nw9 := h28.grown g9 (by decide) (by decide) k9
  have b9 : Below H W8 W9 := (Below.refl _ _).grown g9 (by omega) fun k hk => by have := o9 k hk; omega
  obtain ⟨Wa, hWa⟩ : ∃ Wa, W9.setCell ⟨H + 1, 1, none⟩ (.slice (some ⟨gm, 0, none⟩) (s.length + 1) cm) = Wa := ⟨_, rfl⟩
  have hka : ∀ y, y ≠ H + 1 → Wa.heap[y]? = W9.heap[y]? := fun y hy => by rw [← hWa]; exact Below.heap_setCell W9 ⟨H + 1, 1, none⟩ _ y hy
  have hsa : Wa.heap.size = W9.heap.size := by rw [← hWa]; simp
  have hxa : Wa.heap[H + 1]? = some (lnX va (.slice (some ⟨gm, 0, none⟩) (s.length + 1) cm) vh) := by
    rw [← hWa]
    have := Lib.heap_setCell_same (i := 1) hx9 (.slice (some ⟨gm, 0, none⟩) (s.length + 1) cm)
    simpa using this
  have ba : Below H W9 Wa := by rw [← hWa]; exact (Below.refl H W9).setCell (p := ⟨H + 1, 1, none⟩) (Nat.le_succ _) _
  have sa : ∀ y, H + 2 ≤ y → y < W9.heap.size → Wa.heap[y]? = W9.heap[y]? := fun y hy _ => hka y (by omega)
  have h0a : Wa.heap[H]? = _ := (hka H (by omega)).trans h09
  have hEa : Wa.heap[E]? = _ := (hka E (by omega)).trans hE9
  have ala := owns_same al9 sa
  have hla := owns_same hl9 sa
  have ama := owns_same n9 sa
  have twa : ∀ i (h1 : i < s.length) (h2 : i < gs.length), Lst2 Wa (H + 2) s[i] gs[i] := fun i h1 h2 => (tw9 i h1 h2).on sa
  have nwa := nw9.on sa
  have hz9 := b9.size
  -- held
  obtain ⟨gh, chh, Wb, rb, nb, gb, _, _⟩ := app1 Try.underlying29 hi0 iz0 iz1 iz2 rfl (by decide) Wa (H + 2) vh s.length _ hla #[.slice (some ⟨g.2.1, 0, none⟩) (a.held.length + 1) g.2.2] rfl (by simp [Value.oneCell']) (by unfold maxLen; omega) (by omega) (by omega)
  have kbk := owns_kind hla
  have ob : ∀ k, vh.ownBlock = some k → H + 2 ≤ k ∧ k < E := kb h.lnd.held
  have hxb := grown_at gb hxa fun e => by have := ob _ e; omega
  have h0b := grown_at gb h0a fun e => by have := ob _ e; omega
  have hEb := grown_at gb hEa fun e => by have := ob _ e; omega
  have alb := owns_grown ala gb (by decide) kbk
  have amb := owns_grown ama gb (by decide) kbk
  have twb : ∀ i (h1 : i < s.length) (h2 : i < gs.length), Lst2 Wb (H + 2) s[i] gs[i] := fun i h1 h2 => (twa i h1 h2).grown gb (by decide) (by decide) kbk
  have nwb := nwa.grown gb (by decide) (by decide) kbk
  have bb : Below H Wa Wb := (Below.refl _ _).grown gb (by omega) fun k hk => by have := ob k hk; omega
  obtain ⟨Wc, hWc⟩ : ∃ Wc, Wb.setCell ⟨H + 1, 2, none⟩ (.slice (some ⟨gh, 0, none⟩) (s.length + 1) chh) = Wc := ⟨_, rfl⟩
  have hkc : ∀ y, y ≠ H + 1 → Wc.heap[y]? = Wb.heap[y]? := fun y hy => by rw [← hWc]; exact Below.heap_setCell Wb ⟨H + 1, 2, none⟩ _ y hy
  have hsc : Wc.heap.size = Wb.heap.size := by rw [← hWc]; simp
  have hxc : Wc.heap[H + 1]? = some (lnX va (.slice (some ⟨gm, 0, none⟩) (s.length + 1) cm) (.slice (some ⟨gh, 0, none⟩) (s.length + 1) chh)) := by
    rw [← hWc]
    have := Lib.heap_setCell_same (i := 2) hxb (.slice (some ⟨gh, 0, none⟩) (s.length + 1) chh)
    simpa using this
  have bc : Below H Wb Wc := by rw [← hWc]; exact (Below.refl H Wb).setCell (p := ⟨H + 1, 2, none⟩) (Nat.le_succ _) _
  have sc : ∀ y, H + 2 ≤ y → y < Wb.heap.size → Wc.heap[y]? = Wb.heap[y]? := fun y hy _ => hkc y (by omega)
  have h0c : Wc.heap[H]? = _ := (hkc H (by omega)).trans h0b
  have hEc : Wc.heap[E]? = _ := (hkc E (by omega)).trans hEb
  have alc := owns_same alb sc
  have amc := owns_same amb sc
  have hlc := owns_same nb sc
  have twc : ∀ i (h1 : i < s.length) (h2 : i < gs.length), Lst2 Wc (H + 2) s[i] gs[i] := fun i h1 h2 => (twb i h1 h2).on sc
  have nwc := nwb.on sc
  have hzb := bb.size
  -- all
  obtain ⟨gv, cv, Wd, rd, nd, gd, _, _⟩ := app1 Try.underlying22 hk0 kz0 kz1 kz2 rfl (by decide) Wc (H + 2) va s.length _ alc #[.int .i64 a.id, .bool a.awake, .slice (some ⟨g.1.1, 0, none⟩) a.arms.length g.1.2, .slice (some ⟨g.2.1, 0, none⟩) a.held.length g.2.2] rfl (by simp [Value.oneCell']) (by unfold maxLen; omega) (by omega) (by omega)
  have kdk := owns_kind alc
  have od : ∀ k, va.ownBlock = some k → H + 2 ≤ k ∧ k < E := kb h.lnd.all
  have hxd := grown_at gd hxc fun e => by have := od _ e; omega
  have h0d := grown_at gd h0c fun e => by have := od _ e; omega
  have amd := owns_grown amc gd (by decide) kdk
  have hld := owns_grown hlc gd (by decide) kdk
  have twd : ∀ i (h1 : i < s.length) (h2 : i < gs.length), Lst2 Wd (H + 2) s[i] gs[i] := fun i h1 h2 => (twc i h1 h2).grown gd (by decide) (by decide) kdk
  have nwd := nwc.grown gd (by decide) (by decide) kdk
  have bd : Below H Wc Wd := (Below.refl _ _).grown gd (by omega) fun k hk => by have := od k hk; omega
  obtain ⟨We, hWe⟩ : ∃ We, Wd.setCell ⟨H + 1, 0, none⟩ (.slice (some ⟨gv, 0, none⟩) (s.length + 1) cv) = We := ⟨_, rfl⟩
  have hke : ∀ y, y ≠ H + 1 → We.heap[y]? = Wd.heap[y]? := fun y hy => by rw [← hWe]; exact Below.heap_setCell Wd ⟨H + 1, 0, none⟩ _ y hy
  have hxe : We.heap[H + 1]? = some (lnX (.slice (some ⟨gv, 0, none⟩) (s.length + 1) cv) (.slice (some ⟨gm, 0, none⟩) (s.length + 1) cm) (.slice (some ⟨gh, 0, none⟩) (s.length + 1) chh)) := by
    rw [← hWe]
    have := Lib.heap_setCell_same (i := 0) hxd (.slice (some ⟨gv, 0, none⟩) (s.length + 1) cv)
    simpa using this
  have be : Below H Wd We := by rw [← hWe]; exact (Below.refl H Wd).setCell (p := ⟨H + 1, 0, none⟩) (Nat.le_succ _) _
  have se : ∀ y, H + 2 ≤ y → y < Wd.heap.size → We.heap[y]? = Wd.heap[y]? := fun y hy _ => hke y (by omega)
  have h0e : We.heap[H]? = _ := (hke H (by omega)).trans h0d
  have bel : Below H w We := h.bel.trans ((hb8.mono (by omega)).trans (b9.trans (ba.trans (bb.trans (bc.trans (bd.trans be))))))
  have hgl := h.lnd.len
  refine ⟨W9, Wa, Wb, Wc, Wd, We, _, _, _, ⟨cell_blk hx8 rfl, r9, cell_blk hx9 rfl, frz_blk hx9, hWa, cell_blk hxa rfl, rb, cell_blk hxb rfl, frz_blk hxb, hWc, cell_blk hxc rfl, rd, cell_blk hxd rfl, frz_blk hxd, hWe, ⟨bel, h0e, hxe, ⟨by simp [hgl], ?_, ?_, ?_, fun i h1 h2 => ?_⟩⟩⟩, hEc⟩
  · rw [alC_snoc hgl, List.length_append]
    exact owns_same nd se
  · rw [amC_snoc hgl, List.length_append]
    exact owns_same amd se
  · rw [hlC_snoc hgl, List.length_append]
    exact owns_same hld se
  · by_cases hi : i < s.length
    · have hl : i < gs.length := by omega
      simp only [List.getElem_append_left hi, List.getElem_append_left hl]
      exact (twd i hi hl).on se
    · have hie : i = s.length := by simp at h1; omega
      subst hie
      simp only [List.getElem_append_right (Nat.le_refl _), List.getElem_append_right (show gs.length ≤ s.length by omega), hgl, Nat.sub_self, List.getElem_cons_zero]
      exact nwd.on se
end Go.Proofs.Ytjabdhmkibahlaa
namespace Go.Proofs.Ytjabdhmkibahlaa
open Go.RowKit
set_option linter.unusedVariables false
set_option linter.unusedSimpArgs false

theorem lst_start (w : World) (H : Nat) (hH : w.heap.size = H) (W : World) (h : (w.alloc (lnX (.slice none 0 0) (.slice none 0 0) (.slice none 0 0))).alloc (lnX (.slice none 0 0) (.slice none 0 0) (.slice none 0 0)) = W) : Lst w W H [] (.slice none 0 0) (.slice none 0 0) (.slice none 0 0) [] := by
  subst hH
  subst h
  refine ⟨(below1 w _).trans ((below1 _ _).mono (by simp)), ?_, heap_newH _ _ _ (by simp), Lnd.nil _ _⟩
  rw [Below.heap_alloc _ _ _ (by simp)]
  exact heap_newH _ _ _ rfl
def ag9 : List Value := [.int .i64 (-9), .bool false, .slice none 0 0, .slice none 0 0]
/-- what is lent: the agents with one more behind, their lists with a mark behind each -/
structure Lent (W : World) (B : Nat) (s : List Ag) (va vm vh : Value) (gs : List Gh) : Prop where
  len : gs.length = s.length
  all : W.ownsRow B 53 4 va (s.length + 1) (alC s gs ++ ag9)
  arms : W.ownsRow B 51 1 vm s.length (amC s gs)
  held : W.ownsRow B 45 1 vh s.length (hlC s gs)
  two : ∀ i (h1 : i < s.length) (h2 : i < gs.length), Lst2 W B s[i] gs[i]
theorem Lent.on {W W' : World} {B : Nat} {s : List Ag} {va vm vh : Value} {gs : List Gh} (h : Lent W B s va vm vh gs) (hb : ∀ g, B ≤ g → g < W.heap.size → W'.heap[g]? = W.heap[g]?) : Lent W' B s va vm vh gs :=
  ⟨h.len, owns_same h.all hb, owns_same h.arms hb, owns_same h.held hb, fun i h1 h2 => (h.two i h1 h2).on hb⟩
/-- the worlds of the end -/
structure Lfin (w W0 W1 W2 W3 : World) (H : Nat) (s : List Ag) (va vm vh va' : Value) (gs : List Gh) : Prop where
  c0 : W0.cell? ⟨H + 1, 0, none⟩ = some va
  r1 : ∀ ty, (Builtin.append_ #[22, 22] ty #[va, .slice (some ⟨W0.heap.size, 0, none⟩) 1 1]).run Try.prog (W0.alloc (.cells #[.int .i64 (-9), .bool false, .slice none 0 0, .slice none 0 0] 53 (0, 0))) = .ok va' W1
  c1 : W1.cell? ⟨H + 1, 0, none⟩ = some va
  f1 : W1.frozen? ⟨H + 1, 0, none⟩ = false
  w2 : W1.setCell ⟨H + 1, 0, none⟩ va' = W2
  c2 : W2.cell? ⟨H + 1, 0, none⟩ = some va'
  d2 : W2.cell? ⟨H + 1, 1, none⟩ = some vm
  e2 : W2.cell? ⟨H + 1, 2, none⟩ = some vh
  k0 : W2.cell? ⟨H, 0, none⟩ = some (.slice none 0 0)
  k1 : W2.cell? ⟨H, 1, none⟩ = some (.slice none 0 0)
  k2 : W2.cell? ⟨H, 2, none⟩ = some (.slice none 0 0)
  q0 : W2.frozen? ⟨H, 0, none⟩ = false
  q1 : W2.frozen? ⟨H, 1, none⟩ = false
  q2 : W2.frozen? ⟨H, 2, none⟩ = false
  w3 : ((W2.setCell ⟨H, 0, none⟩ va').setCell ⟨H, 1, none⟩ vm).setCell ⟨H, 2, none⟩ vh = W3
  c3 : W3.cell? ⟨H, 0, none⟩ = some va'
  d3 : W3.cell? ⟨H, 1, none⟩ = some vm
  e3 : W3.cell? ⟨H, 2, none⟩ = some vh
  b3 : W3.heap[H]? = some (lnX va' vm vh)
  bel : Below H w W3
  lent : Lent W3 (H + 2) s va' vm vh gs
set_option maxHeartbeats 2000000 in
theorem Lst.last {w W0 : World} {H : Nat} {s : List Ag} {va vm vh : Value} {gs : List Gh} (h : Lst w W0 H s va vm vh gs) (hs : s.length ≤ 2147483647) : ∃ W1 W2 W3 va', Lfin w W0 W1 W2 W3 H s va vm vh va' gs := by
  have hz := h.sz
  obtain ⟨k0, hk0, kz0, kz1, kz2⟩ := info_parts infoG
  obtain ⟨gv, cv, W1, r1, n1, g1, _, _⟩ := app1 Try.underlying22 hk0 kz0 kz1 kz2 rfl (by decide) W0 (H + 2) va s.length _ h.lnd.all #[.int .i64 (-9), .bool false, .slice none 0 0, .slice none 0 0] rfl (by simp [Value.oneCell']) (by unfold maxLen; omega) (by omega) (by omega)
  have kk := owns_kind h.lnd.all
  have oa : ∀ k, va.ownBlock = some k → H + 2 ≤ k := fun k hk => (owns_block h.lnd.all hk).1
  have hx1 := grown_at g1 h.rx fun e => by have := oa _ e; omega
  have h01 := grown_at g1 h.r0 fun e => by have := oa _ e; omega
  have b1 : Below H W0 W1 := (Below.refl _ _).grown g1 (by omega) fun k hk => by have := oa k hk; omega
  have am1 := owns_grown h.lnd.arms g1 (by decide) kk
  have hl1 := owns_grown h.lnd.held g1 (by decide) kk
  have tw1 : ∀ i (h1 : i < s.length) (h2 : i < gs.length), Lst2 W1 (H + 2) s[i] gs[i] := fun i h1 h2 => (h.lnd.two i h1 h2).grown g1 (by decide) (by decide) kk
  obtain ⟨va', hva⟩ : ∃ va' : Value, va' = .slice (some ⟨gv, 0, none⟩) (s.length + 1) cv := ⟨_, rfl⟩
  rw [← hva] at r1 n1
  obtain ⟨W2, hW2⟩ : ∃ W2, W1.setCell ⟨H + 1, 0, none⟩ va' = W2 := ⟨_, rfl⟩
  have hk2 : ∀ y, y ≠ H + 1 → W2.heap[y]? = W1.heap[y]? := fun y hy => by rw [← hW2]; exact Below.heap_setCell W1 ⟨H + 1, 0, none⟩ _ y hy
  have hx2 : W2.heap[H + 1]? = some (lnX va' vm vh) := by
    rw [← hW2]
    have := Lib.heap_setCell_same (i := 0) hx1 va'
    simpa using this
  have h02 : W2.heap[H]? = some (lnX (.slice none 0 0) (.slice none 0 0) (.slice none 0 0)) := by rw [hk2 H (by omega)]; exact h01
  have b2 : Below H W1 W2 := by rw [← hW2]; exact (Below.refl H W1).setCell (p := ⟨H + 1, 0, none⟩) (Nat.le_succ _) _
  obtain ⟨W3, hW3⟩ : ∃ W3, ((W2.setCell ⟨H, 0, none⟩ va').setCell ⟨H, 1, none⟩ vm).setCell ⟨H, 2, none⟩ vh = W3 := ⟨_, rfl⟩
  have hk3 : ∀ y, y ≠ H → W3.heap[y]? = W2.heap[y]? := fun y hy => by
    rw [← hW3, Below.heap_setCell _ ⟨H, 2, none⟩ _ y hy, Below.heap_setCell _ ⟨H, 1, none⟩ _ y hy, Below.heap_setCell _ ⟨H, 0, none⟩ _ y hy]
  have h03 : W3.heap[H]? = some (lnX va' vm vh) := by
    have a1 : (W2.setCell ⟨H, 0, none⟩ va').heap[H]? = some (lnX va' (.slice none 0 0) (.slice none 0 0)) := by
      have := Lib.heap_setCell_same (i := 0) h02 va'
      simpa using this
    have a2 : ((W2.setCell ⟨H, 0, none⟩ va').setCell ⟨H, 1, none⟩ vm).heap[H]? = some (lnX va' vm (.slice none 0 0)) := by
      have := Lib.heap_setCell_same (i := 1) a1 vm
      simpa using this
    rw [← hW3]
    have := Lib.heap_setCell_same (i := 2) a2 vh
    simpa using this
  have b3 : Below H W2 W3 := by
    rw [← hW3]
    exact (((Below.refl H W2).setCell (p := ⟨H, 0, none⟩) (Nat.le_refl _) _).trans ((Below.refl H _).setCell (p := ⟨H, 1, none⟩) (Nat.le_refl _) _)).trans ((Below.refl H _).setCell (p := ⟨H, 2, none⟩) (Nat.le_refl _) _)
  have hss : ∀ y, H + 2 ≤ y → y < W1.heap.size → W3.heap[y]? = W1.heap[y]? := fun y hy _ => by rw [hk3 y (by omega), hk2 y (by omega)]
  exact ⟨W1, W2, W3, va', ⟨cell_blk h.rx rfl, r1, cell_blk hx1 rfl, frz_blk hx1, hW2, cell_blk hx2 rfl, cell_blk hx2 rfl, cell_blk hx2 rfl, cell_blk h02 rfl, cell_blk h02 rfl, cell_blk h02 rfl, frz_blk h02, frz_blk h02, frz_blk h02, hW3, cell_blk h03 rfl, cell_blk h03 rfl, cell_blk h03 rfl, h03, h.bel.trans (b1.trans (b2.trans b3)), ⟨h.lnd.len, owns_same n1 hss, owns_same am1 hss, owns_same hl1 hss, fun i h1 h2 => (tw1 i h1 h2).on hss⟩⟩⟩
/-- agents that are lent, to be read -/
theorem alC_at : ∀ (s : List Ag) (gs : List Gh) (i : Nat) (h : i < s.length) (h2 : i < gs.length) (j : Nat), j < 4 → (alC s gs)[i * 4 + j]? = (alC1 s[i] gs[i])[j]?
  | a :: r, g :: q, 0, h, h2, j, hj => by
    show (alC1 a g ++ alC r q)[0 * 4 + j]? = _
    rw [Nat.zero_mul, Nat.zero_add, List.getElem?_append_left (by simpa [alC1] using hj)]
    rfl
  | a :: r, g :: q, i + 1, h, h2, j, hj => by
    show (alC1 a g ++ alC r q)[(i + 1) * 4 + j]? = _
    rw [List.getElem?_append_right (by simp [alC1]; omega), show (i + 1) * 4 + j - (alC1 a g).length = i * 4 + j by simp [alC1]; omega]
    exact alC_at r q i (by simpa using h) (by simpa using h2) j hj
theorem alC_len : ∀ (s : List Ag) (gs : List Gh), gs.length = s.length → (alC s gs).length = s.length * 4
  | [], [], _ => rfl
  | a :: r, g :: q, h => by
    show (alC1 a g ++ alC r q).length = _
    rw [List.length_append, alC_len r q (by simpa using h)]
    simp [alC1]; omega
theorem Lst2.read {W : World} {B : Nat} {a : Ag} {g : Gh} (h : Lst2 W B a g) (h1 : ∀ x ∈ a.arms, I64 x.chan) (h2 : ∀ x ∈ a.held, I64 x) : HdsR W (some ⟨g.1.1, 0, none⟩) g.1.2 a.arms ∧ IntsR W (some ⟨g.2.1, 0, none⟩) g.2.2 a.held :=
  ⟨hds_read (owns_cut h.arms (hdsC_len _) (by omega)) h1, ints_read (owns_cut h.held (by rw [rowC_ln, Nat.mul_one]) (by omega)) h2⟩
/-- an agent's numbers fit -/
structure Ag64 (a : Ag) : Prop where
  id : I64 a.id
  arms : ∀ x ∈ a.arms, I64 x.chan
  held : ∀ x ∈ a.held, I64 x
theorem AgR.a64 {w : World} {a : Ag} {ap hp : Option Addr} {ac hc : Nat} (h : AgR w a ap ac hp hc) : Ag64 a := ⟨h.id, h.arms.i64, h.held.i64⟩
theorem AgsR.a64 {w : World} {p : Option Addr} {c : Nat} {s : List Ag} (h : AgsR w p c s) : ∀ a ∈ s, Ag64 a := fun a ha => by
  obtain ⟨i, hi, rfl⟩ := List.getElem_of_mem ha
  obtain ⟨_, _, _, _, _, _, _, hA, _⟩ := h.at_ i hi
  exact hA.a64
theorem Lent.read {W : World} {B : Nat} {s : List Ag} {va vm vh : Value} {gs : List Gh} (h : Lent W B s va vm vh gs) (h6 : ∀ a ∈ s, Ag64 a) : ∃ ga c, va = .slice (some ⟨ga, 0, none⟩) (s.length + 1) c ∧ s.length + 1 ≤ c ∧ c ≤ maxLen ∧ B ≤ ga ∧ ga < W.heap.size ∧ AgsR W (some ⟨ga, 0, none⟩) c s ∧ ∀ X, Below W.heap.size W X → X.cell? ⟨ga, s.length * 4, none⟩ = some (.int .i64 (-9)) := by
  have hall := h.all
  rcases h.all.2 with ⟨_, x2⟩ | ⟨ga, cap, cur, x1, x2, x3, x4, x5, x6, x7⟩
  · omega
  · rw [x1] at hall
    have hl := heap_lt x3
    have hln := alC_len s gs h.len
    refine ⟨ga, cap, x1, x4, x5, x2, hl, ⟨by omega, x5, fun i hi => ?_⟩, fun X hX => ?_⟩
    · have hgi : i < gs.length := by have := h.len; omega
      obtain ⟨r1, r2⟩ := (h.two i hi hgi).read (h6 _ (List.getElem_mem hi)).arms (h6 _ (List.getElem_mem hi)).held
      refine ⟨ga, 0, _, _, _, _, rfl, ⟨(h6 _ (List.getElem_mem hi)).id, r1, r2⟩, fun X hX => ?_⟩
      have key : ∀ j, j < 4 → X.cell? ⟨ga, i * 4 + j, none⟩ = (alC1 s[i] gs[i])[j]? := fun j hj => by
        rw [hX.cell (p := ⟨ga, i * 4 + j, none⟩) hl, hall.cellAt (i * 4 + j) (by omega), List.getElem?_append_left (by omega)]
        exact alC_at s gs i hi hgi j hj
      rw [Nat.zero_add]
      exact ⟨key 0 (by omega), key 1 (by omega), key 2 (by omega), key 3 (by omega)⟩
    · rw [hX.cell (p := ⟨ga, s.length * 4, none⟩) hl, hall.cellAt (s.length * 4) (by omega), List.getElem?_append_right (by omega), hln, Nat.sub_self]
      rfl
theorem amC_at {s : List Ag} {gs : List Gh} {i : Nat} (h : i < s.length) (h2 : i < gs.length) : (amC s gs)[i]? = some (.slice (some ⟨gs[i].1.1, 0, none⟩) (s[i].arms.length + 1) gs[i].1.2) := by
  unfold amC
  have hz : i < (s.zip gs).length := by rw [List.length_zip]; omega
  rw [List.getElem?_map, List.getElem?_eq_getElem hz]
  simp
theorem hlC_at {s : List Ag} {gs : List Gh} {i : Nat} (h : i < s.length) (h2 : i < gs.length) : (hlC s gs)[i]? = some (.slice (some ⟨gs[i].2.1, 0, none⟩) (s[i].held.length + 1) gs[i].2.2) := by
  unfold hlC
  have hz : i < (s.zip gs).length := by rw [List.length_zip]; omega
  rw [List.getElem?_map, List.getElem?_eq_getElem hz]
  simp
/-- a row's entry -/
theorem row_at {W : World} {B n : Nat} {t : TypeId} {ad : Option Addr} {c : Nat} {cs : List Value} (h : W.ownsRow B t 1 (.slice ad n c) n cs) {i : Nat} (hi : i < n) {u : Value} (hu : cs[i]? = some u) : ∃ gl, ad = some ⟨gl, 0, none⟩ ∧ gl < W.heap.size ∧ W.cell? ⟨gl, i, none⟩ = some u := by
  have h' := h
  rcases h.2 with ⟨x, x2⟩ | ⟨g, cap, cur, x1, x2, x3, _⟩
  · simp only [Value.slice.injEq] at x; omega
  · simp only [Value.slice.injEq] at x1
    obtain ⟨rfl, _, rfl⟩ := x1
    exact ⟨g, rfl, heap_lt x3, owns_cellj h' hu⟩
/-! ### what wipe keeps -/
structure Wp (W wr : World) (B E X ga : Nat) (s : List Ag) (va vm vh : Value) (gs : List Gh) : Prop where
  bel : Below B W wr
  far : ∀ y, E ≤ y → y < W.heap.size → wr.heap[y]? = W.heap[y]?
  rx : wr.heap[X]? = some (lnX va vm vh)
  arms : wr.ownsRow B 51 1 vm s.length (amC s gs)
  held : wr.ownsRow B 45 1 vh s.length (hlC s gs)
  am : ∀ i (h1 : i < s.length) (h2 : i < gs.length), Czb wr 58 gs[i].1.1 ((s[i].arms.length + 1) * 2) ∧ B ≤ gs[i].1.1 ∧ gs[i].1.1 < E
  hl : ∀ i (h1 : i < s.length) (h2 : i < gs.length), Czb wr 3 gs[i].2.1 (s[i].held.length + 1) ∧ B ≤ gs[i].2.1 ∧ gs[i].2.1 < E
  all : Czb wr 53 ga ((s.length + 1) * 4) ∧ B ≤ ga ∧ ga < E
theorem Wp.set {W wr : World} {B E X ga : Nat} {s : List Ag} {va vm vh : Value} {gs : List Gh} (h : Wp W wr B E X ga s va vm vh gs) {t : TypeId} {b n : Nat} (hc : Czb wr t b n) (hb : B ≤ b) (hE : b < E) (h1 : t ≠ 31) (h2 : t ≠ 45) (h3 : t ≠ 51) (i : Nat) (v : Value) : Wp W (wr.setCell ⟨b, i, none⟩ v) B E X ga s va vm vh gs := by
  obtain ⟨cur, hc1, _⟩ := hc
  have hX : X ≠ b := fun e => by
    have := h.rx
    rw [e, hc1] at this
    injection this with this
    injection this with _ this
    exact h1 this
  have row : ∀ {t' : TypeId} {vv : Value} {n : Nat} {cs : List Value}, wr.ownsRow B t' 1 vv n cs → t ≠ t' → (wr.setCell ⟨b, i, none⟩ v).ownsRow B t' 1 vv n cs := fun {t' vv n cs} hr hne => by
    refine ⟨hr.1, ?_⟩
    rcases hr.2 with q | ⟨g, cap, c2, q0, q1, q2, q3⟩
    · exact .inl q
    · refine .inr ⟨g, cap, c2, q0, q1, ?_, q3⟩
      rw [Below.heap_setCell wr ⟨b, i, none⟩ v g (fun e => by
        have e : g = b := e
        rw [e, hc1] at q2
        injection q2 with q2
        injection q2 with _ q2
        exact hne q2)]
      exact q2
  exact ⟨h.bel.trans ((Below.refl B wr).setCell (p := ⟨b, i, none⟩) hb v), fun y hy hl => by rw [Below.heap_setCell wr ⟨b, i, none⟩ v y (by show y ≠ b; omega)]; exact h.far y hy hl, by rw [Below.heap_setCell wr ⟨b, i, none⟩ v X hX]; exact h.rx, row h.arms h3, row h.held h2, fun j k1 k2 => ⟨(h.am j k1 k2).1.set _ _ _, (h.am j k1 k2).2⟩, fun j k1 k2 => ⟨(h.hl j k1 k2).1.set _ _ _, (h.hl j k1 k2).2⟩, ⟨h.all.1.set _ _ _, h.all.2⟩⟩
theorem Wp.sets {W : World} {B E X ga : Nat} {s : List Ag} {va vm vh : Value} {gs : List Gh} {t : TypeId} {b n : Nat} (hb : B ≤ b) (hE : b < E) (h1 : t ≠ 31) (h2 : t ≠ 45) (h3 : t ≠ 51) : ∀ (vs : List Value) (o : Nat) (wr : World), Czb wr t b n → Wp W wr B E X ga s va vm vh gs → Wp W (wr.setCells b o vs) B E X ga s va vm vh gs
  | [], _, _, _, h => h
  | v :: r, o, wr, hc, h => Wp.sets hb hE h1 h2 h3 r (o + 1) _ (hc.set _ _ _) (h.set hc hb hE h1 h2 h3 o v)
theorem Wp.cells {W wr : World} {B E X ga : Nat} {s : List Ag} {va vm vh : Value} {gs : List Gh} (h : Wp W wr B E X ga s va vm vh gs) : wr.cell? ⟨X, 0, none⟩ = some va ∧ wr.cell? ⟨X, 1, none⟩ = some vm ∧ wr.cell? ⟨X, 2, none⟩ = some vh := ⟨cell_blk h.rx rfl, cell_blk h.rx rfl, cell_blk h.rx rfl⟩
theorem Czb.there {w : World} {t : TypeId} {g n : Nat} (h : Czb w t g n) {i k : Nat} (hk : i + k ≤ n) : w.there g i k := fun j hj => by
  obtain ⟨⟨y, z⟩, f⟩ := h.at_ (i := i + j) (by omega)
  exact ⟨by rw [z]; rfl, f⟩
end Go.Proofs.Ytjabdhmkibahlaa
namespace Go.Proofs.Ytjabdhmkibahlaa
set_option linter.unusedVariables false
set_option linter.unusedSimpArgs false

/-! ### the reference, in plain words -/
def hnI (a : Ag) (n : Int) (sd : Bool) : Bool := a.arms.any fun h => h.chan == n && h.send == sd
/-- an agent's place -/
def rAt (s : List Ag) (id : Int) : Option Nat := s.findIdx? fun a => a.id == id
def agA (s : List Ag) (i : Nat) : Ag := s[i]?.getD zA
def rfW (a : Ag) (c : Int) : Bool := c == 1 && hnI a c false || c == 2 && hnI a c true
def rfB (a b : Ag) (c : Int) : Bool := if b.awake then b.held.contains c else hnI a c false && hnI b c true || hnI a c true && hnI b c false
def rfO (s : List Ag) (l : Lk) (i : Nat) : Bool := match rAt s l.waker with
  | none => false
  | some k => if k = i then false else rfB (agA s i) (agA s k) l.chan
def rfI (s : List Ag) (l : Lk) : Bool := if l.chan < 1 then false else match rAt s l.woken with
  | none => false
  | some i => if (agA s i).awake then false else if !hnI (agA s i) l.chan false && !hnI (agA s i) l.chan true then false else if l.waker = -1 then rfW (agA s i) l.chan else rfO s l i
theorem hn_true (a : Ag) {c : Int} (h0 : c ≠ 0) : hnI a c true = (waitI a.arms c).sends := by
  rw [Bool.eq_iff_iff, waitI_s]
  unfold hnI
  rw [List.any_eq_true]
  constructor
  · rintro ⟨x, h1, h2⟩
    simp at h2
    exact ⟨x, h1, by rw [h2.1]; exact h0, h2.1, h2.2⟩
  · rintro ⟨x, h1, h2, h3, h4⟩
    exact ⟨x, h1, by simp [h3, h4]⟩
theorem hn_false (a : Ag) {c : Int} (h0 : c ≠ 0) : hnI a c false = (waitI a.arms c).recvs := by
  rw [Bool.eq_iff_iff, waitI_r]
  unfold hnI
  rw [List.any_eq_true]
  constructor
  · rintro ⟨x, h1, h2⟩
    simp at h2
    exact ⟨x, h1, by rw [h2.1]; exact h0, h2.1, h2.2⟩
  · rintro ⟨x, h1, h2, h3, h4⟩
    exact ⟨x, h1, by simp [h3, h4]⟩
theorem rAt_some {s : List Ag} {id : Int} {i : Nat} (h : rAt s id = some i) : ∃ hi : i < s.length, agA s i = s[i] ∧ s[i].id = id := by
  unfold rAt at h
  obtain ⟨hi, h1, _⟩ := List.findIdx?_eq_some_iff_getElem.1 h
  refine ⟨hi, ?_, by simpa using h1⟩
  unfold agA
  rw [List.getElem?_eq_getElem hi]
  rfl
theorem rAt_none {s : List Ag} {id : Int} (h : rAt s id = none) : ∀ a ∈ s, a.id ≠ id := by
  unfold rAt at h
  intro a ha
  have := List.findIdx?_eq_none_iff.1 h a ha
  simpa using this
theorem who_not {s : List Ag} {k : Int} (h : ∀ a ∈ s, a.id ≠ k) : whoI s k = who0 k := by
  have key : ∀ (s : List Ag) (g : Int → Ag), (∀ a ∈ s, a.id ≠ k) → s.foldl (fun f a => upd f a.id a) g k = g k := by
    intro s
    induction s with
    | nil => intro g _; rfl
    | cons a r ih =>
      intro g hg
      rw [List.foldl_cons, ih _ (fun b hb => hg b (List.mem_cons_of_mem _ hb)), upd_other]
      exact fun e => hg a List.mem_cons_self e.symm
  exact key s who0 h
/-- no arm is on a channel below 1 -/
theorem wait_low {a : Ag} (h : agOk a = true) {c : Int} (hc : c < 1) : waitI a.arms c = st0 := by
  apply wait_off
  cases ho : onI a.arms c with
  | false => rfl
  | true =>
    have h1 := ris_above _ _ (ag_ris h) c (on_held h ho)
    omega
theorem wakes_st0 (t : Stc) : t.wakes st0 = false := by
  cases t with
  | mk x y z => cases x <;> cases y <;> cases z <;> rfl
theorem st0_wakes (t : Stc) : st0.wakes t = false := by
  cases t with
  | mk x y z => cases x <;> cases y <;> cases z <;> rfl
theorem wakes_awk (t : Stc) (b : Bool) : t.wakes ⟨b, false, false⟩ = false := by
  cases t with
  | mk x y z => cases x <;> cases y <;> cases z <;> rfl
theorem stand_on {a : Ag} (h : a.awake = true) (c : Int) : standI a c = ⟨a.held.contains c, false, false⟩ := by
  unfold standI; rw [h, if_pos rfl]
theorem stand_off {a : Ag} (h : a.awake = false) (c : Int) : standI a c = waitI a.arms c := by
  unfold standI; rw [h, if_neg (by simp)]
theorem stand_z (c : Int) : standI zA c = st0 := rfl
theorem wake_w (c : Int) (t : Stc) (h0 : c ≠ 0) : (standI wA c).wakes t = (c == 1 && t.recvs || c == 2 && t.sends) := by
  unfold standI wA waitI Stc.wakes
  by_cases h1 : c = 1
  · subst h1
    simp [waitF, stAdd, st0]
  · by_cases h2 : c = 2
    · subst h2
      simp [waitF, stAdd, st0]
    · have e1 : ¬ ((1 : Int) ≠ 0 ∧ 1 = c) := fun h => h1 h.2.symm
      have e2 : ¬ ((2 : Int) ≠ 0 ∧ 2 = c) := fun h => h2 h.2.symm
      have g1 : (c == 1) = false := by simpa using h1
      have g2 : (c == 2) = false := by simpa using h2
      simp only [waitF, if_neg e1, if_neg e2, st0, g1, g2]
      rfl
theorem rf_fits {s : List Ag} (hok : stOk s = true) (l : Lk) : rfI s l = fitsF (whoI s) l := by
  obtain ⟨kr, kn, c⟩ := l
  have hw1 : ∀ a ∈ s, a.id ≠ -1 := fun a ha => by have := (st_all hok a ha).2; omega
  unfold fitsF rfI
  dsimp only
  cases hn : rAt s kn with
  | none =>
    have hz := who_not (rAt_none hn)
    dsimp only
    by_cases h1 : kn = -1
    · rw [if_pos (Or.inl h1 : kn = -1 ∨ kr = kn)]; simp
    · rw [hz, who0, if_neg h1, stand_z, wakes_st0]
      simp
  | some i =>
    obtain ⟨hi, ea, ei⟩ := rAt_some hn
    have hai := st_all hok s[i] (List.getElem_mem hi)
    have hwi : whoI s kn = s[i] := by rw [← ei]; exact who_at hok i hi
    have hne : kn ≠ -1 := by rw [← ei]; exact hw1 _ (List.getElem_mem hi)
    dsimp only
    rw [ea]
    by_cases hc : c < 1
    · rw [if_pos hc]
      split
      · rfl
      · rw [hwi]
        cases haw : s[i].awake with
        | true => rw [stand_on haw, wakes_awk]
        | false => rw [stand_off haw, wait_low hai.1 hc, wakes_st0]
    · rw [if_neg hc]
      have h0 : c ≠ 0 := by omega
      rw [hn_true _ h0, hn_false _ h0]
      cases haw : s[i].awake with
      | true =>
        rw [if_pos rfl]
        split
        · rfl
        · rw [hwi, stand_on haw, wakes_awk]
      | false =>
        rw [if_neg (by simp)]
        have hsi : standI (whoI s kn) c = waitI s[i].arms c := by rw [hwi, stand_off haw]
        rw [hsi]
        have hta := waitI_a s[i].arms c
        generalize ht : waitI s[i].arms c = t at *
        by_cases hr : kr = -1
        · subst hr
          have q : ¬ (kn = -1 ∨ -1 = kn) := fun h => by
            rcases h with h | h
            · exact hne h
            · exact hne h.symm
          rw [who_world hok, wake_w c t h0, if_neg q, if_pos rfl]
          unfold rfW
          rw [hn_true _ h0, hn_false _ h0, ht]
          obtain ⟨ta, ts, tr⟩ := t
          cases ts <;> cases tr <;> simp
        · rw [if_neg hr]
          unfold rfO
          dsimp only
          cases hk : rAt s kr with
          | none =>
            rw [who_not (rAt_none hk), who0, if_neg hr, stand_z, st0_wakes]
            simp
          | some k =>
            obtain ⟨hki, eb, ek⟩ := rAt_some hk
            dsimp only
            by_cases hki2 : k = i
            · subst hki2
              have : kr = kn := ek.symm.trans ei
              rw [if_pos (Or.inr this : kn = -1 ∨ kr = kn), if_pos rfl]
              simp
            · have hrn : kr ≠ kn := fun e => hki2 (st_ids hok hki hi (by rw [ek, ei, e]))
              have q : ¬ (kn = -1 ∨ kr = kn) := fun h => by
                rcases h with h | h
                · exact hne h
                · exact hrn h
              rw [if_neg hki2, if_neg q, eb, ea]
              have hwk : whoI s kr = s[k] := by rw [← ek]; exact who_at hok k hki
              rw [hwk]
              unfold rfB standI
              rw [hn_true _ h0, hn_false _ h0, hn_true _ h0, hn_false _ h0, ht]
              have hua := waitI_a s[k].arms c
              generalize waitI s[k].arms c = u at *
              obtain ⟨ta, ts, tr⟩ := t
              obtain ⟨ua, us, ur⟩ := u
              dsimp only at hta hua
              subst hta hua
              cases s[k].awake <;> cases ts <;> cases tr <;> cases us <;> cases ur <;> cases s[k].held.contains c <;> rfl
/-- all links of the reference -/
def rlA (s : List Ag) (a : Ag) (c : Int) : List Lk := if a.awake || (!hnI a c false && !hnI a c true) then [] else ((keyL s).map fun k => (⟨k, a.id, c⟩ : Lk)).filter (rfI s)
def rlI (s : List Ag) : List Lk := if stOk s then s.flatMap fun a => a.held.flatMap (rlA s a) else []
theorem on_hn (a : Ag) {c : Int} (h0 : c ≠ 0) : onI a.arms c = (hnI a c false || hnI a c true) := by
  rw [Bool.eq_iff_iff, on_some, Bool.or_eq_true]
  unfold hnI
  rw [List.any_eq_true, List.any_eq_true]
  constructor
  · rintro ⟨x, h1, h2, h3⟩
    cases hs : x.send with
    | false => exact .inl ⟨x, h1, by simp [h3, hs]⟩
    | true => exact .inr ⟨x, h1, by simp [h3, hs]⟩
  · rintro (⟨x, h1, h2⟩ | ⟨x, h1, h2⟩)
    · simp at h2
      exact ⟨x, h1, by rw [h2.1]; exact h0, h2.1⟩
    · simp at h2
      exact ⟨x, h1, by rw [h2.1]; exact h0, h2.1⟩
theorem flatMap_filter' {α β : Type} (p : α → Bool) (g : α → List β) : ∀ l : List α, (l.filter p).flatMap g = l.flatMap fun x => if p x then g x else []
  | [] => rfl
  | x :: r => by
    rw [List.filter_cons, List.flatMap_cons]
    cases hp : p x with
    | true => rw [if_pos rfl, if_pos rfl, List.flatMap_cons, flatMap_filter' p g r]
    | false => rw [if_neg (by simp), if_neg (by simp), flatMap_filter' p g r]; rfl
theorem flatMap_same {α β : Type} {f g : α → List β} : ∀ l : List α, (∀ x ∈ l, f x = g x) → l.flatMap f = l.flatMap g
  | [], _ => rfl
  | x :: r, h => by rw [List.flatMap_cons, List.flatMap_cons, h x List.mem_cons_self, flatMap_same r (fun y hy => h y (List.mem_cons_of_mem _ hy))]
theorem rl_links (s : List Ag) : rlI s = linksI s := by
  unfold rlI linksI
  cases hok : stOk s with
  | false => rfl
  | true =>
    rw [if_pos rfl, if_pos rfl]
    refine flatMap_same s (fun a ha => ?_)
    have hao := st_all hok a ha
    unfold lkA chI
    rw [flatMap_filter']
    refine flatMap_same _ (fun c hc => ?_)
    have h1 : 0 < c := ris_above _ _ (ag_ris hao.1) c hc
    have h0 : c ≠ 0 := by omega
    unfold rlA
    rw [on_hn a h0]
    cases haw : a.awake with
    | true =>
      have ho := awake_none hao.1 haw c
      rw [on_hn a h0] at ho
      rw [ho]
      rfl
    | false =>
      cases hh : (hnI a c false || hnI a c true) with
      | false =>
        rw [Bool.or_eq_false_iff] at hh
        rw [hh.1, hh.2]
        rfl
      | true =>
        have e : (false || (!hnI a c false && !hnI a c true)) = false := by
          rw [Bool.false_or, ← Bool.not_or, hh]; rfl
        rw [e, if_neg (by simp), if_pos rfl, List.filter_map]
        unfold wkI
        congr 1
        apply List.filter_congr
        intro k hk
        obtain ⟨i, hi, rfl⟩ := List.getElem_of_mem ha
        show rfI s ⟨k, s[i].id, c⟩ = _
        rw [rf_fits hok]
        unfold fitsF
        dsimp only
        have hsi : standI (whoI s s[i].id) c = waitI s[i].arms c := by rw [who_at hok i hi, stand_off haw]
        rw [hsi]
        by_cases ek : k = s[i].id
        · rw [if_pos (Or.inr ek : s[i].id = -1 ∨ k = s[i].id)]
          subst ek
          simp
        · have g : (k != s[i].id) = true := by simpa using ek
          have := hao.2
          have q : ¬ (s[i].id = -1 ∨ k = s[i].id) := fun h => by
            rcases h with h | h
            · omega
            · exact ek h
          rw [if_neg q, g, Bool.true_and]
end Go.Proofs.Ytjabdhmkibahlaa
namespace Go.Proofs.Ytjabdhmkibahlaa
open Go.RowKit
set_option linter.unusedVariables false
set_option linter.unusedSimpArgs false

/-! ### the reference's Levels, in plain words -/
def lv0 (s : List Ag) : List Int := s.map fun a => if a.awake then 0 else -1
def lk00 : Lk := ⟨0, 0, 0⟩
/-- the link of the agent i, if it is of the level k + 1 -/
def lnAt (s : List Ag) (lv : List Int) (k : Int) (i : Nat) : Option Lk := if 0 ≤ lv[i]?.getD 0 then none else lnI s i (agA s i).id lv k (agA s i).arms
def inF (s : List Ag) (lv : List Int) (k : Int) (x : List Int × List Lk) (i : Nat) : List Int × List Lk := match lnAt s lv k i with
  | none => x
  | some l => (x.1 ++ [(i : Int)], x.2.set i l)
def inL (s : List Ag) (lv : List Int) (k : Int) (ks : List Lk) (m : Nat) : List Int × List Lk := (List.range m).foldl (inF s lv k) ([], ks)
theorem inL_zero (s : List Ag) (lv : List Int) (k : Int) (ks : List Lk) : inL s lv k ks 0 = ([], ks) := rfl
theorem inL_succ (s : List Ag) (lv : List Int) (k : Int) (ks : List Lk) (m : Nat) : inL s lv k ks (m + 1) = inF s lv k (inL s lv k ks m) m := by
  unfold inL
  rw [List.range_succ, List.foldl_append]
  rfl
theorem inL_len (s : List Ag) (lv : List Int) (k : Int) (ks : List Lk) : ∀ m, (inL s lv k ks m).2.length = ks.length ∧ (inL s lv k ks m).1.length ≤ m ∧ ∀ x ∈ (inL s lv k ks m).1, ∃ i : Nat, i < m ∧ x = i
  | 0 => ⟨rfl, by simp [inL_zero], fun x hx => by cases hx⟩
  | m + 1 => by
    obtain ⟨h1, h2, h3⟩ := inL_len s lv k ks m
    rw [inL_succ]
    unfold inF
    split
    · exact ⟨h1, by omega, fun x hx => by obtain ⟨i, hi, e⟩ := h3 x hx; exact ⟨i, by omega, e⟩⟩
    · refine ⟨by rw [List.length_set]; exact h1, by rw [List.length_append]; simp; omega, fun x hx => ?_⟩
      rcases List.mem_append.1 hx with hx | hx
      · obtain ⟨i, hi, e⟩ := h3 x hx; exact ⟨i, by omega, e⟩
      · simp at hx; exact ⟨m, by omega, hx⟩
def putL (lv : List Int) (nx : List Int) (k : Int) : List Int := nx.foldl (fun l i => l.set i.toNat k) lv
theorem putL_len (k : Int) : ∀ (nx lv : List Int), (putL lv nx k).length = lv.length
  | [], lv => rfl
  | x :: r, lv => by
    show (putL (lv.set x.toNat k) r k).length = _
    rw [putL_len k r, List.length_set]
theorem putL_snoc (lv nx : List Int) (x k : Int) : putL lv (nx ++ [x]) k = (putL lv nx k).set x.toNat k := by
  unfold putL
  rw [List.foldl_append]
  rfl
/-- Levels from k on, f rounds at the most -/
def lvsF (s : List Ag) : Nat → Nat → List Int → List Lk → List Int × List Lk
  | 0, _, lv, ks => (lv, ks)
  | f + 1, k, lv, ks => if (inL s lv k ks s.length).1 = [] ∧ 0 < k then (lv, (inL s lv k ks s.length).2) else lvsF s f (k + 1) (putL lv (inL s lv k ks s.length).1 (k + 1)) (inL s lv k ks s.length).2
def lvsI (s : List Ag) : List Int × List Lk := lvsF s s.length 0 (lv0 s) (List.replicate s.length lk00)
/-! ### in memory -/
/-- levels and links under way -/
structure LvM (w W : World) (H : Nat) (n : Nat) (v4 v5 : Value) (lv : List Int) (ks : List Lk) : Prop where
  lev : W.ownsRow H 3 1 v4 lv.length (rowC lv)
  lnk : W.ownsRow H 24 3 v5 ks.length (lksC ks)
  bel : Below H w W
  n4 : lv.length = n
  n5 : ks.length = n
  i64 : ∀ x ∈ lv, I64 x
  k64 : ∀ l ∈ ks, Lk64 l
theorem LvM.later {w W W' : World} {H n : Nat} {v4 v5 : Value} {lv : List Int} {ks : List Lk} (h : LvM w W H n v4 v5 lv ks) (hH : w.heap.size = H) (hb : Below W.heap.size W W') : LvM w W' H n v4 v5 lv ks := ⟨own_new h.lev hb, own_new h.lnk hb, h.bel.trans (hb.mono (by rw [← hH]; exact h.bel.size)), h.n4, h.n5, h.i64, h.k64⟩
theorem LvM.sz {w W : World} {H n : Nat} {v4 v5 : Value} {lv : List Int} {ks : List Lk} (h : LvM w W H n v4 v5 lv ks) (hH : w.heap.size = H) : H ≤ W.heap.size := by rw [← hH]; exact h.bel.size
theorem lk00_64 : Lk64 lk00 := ⟨⟨by decide, by decide⟩, ⟨by decide, by decide⟩, ⟨by decide, by decide⟩⟩
set_option maxHeartbeats 1000000 in
/-- an agent more, at the start -/
theorem LvM.add {w W : World} {H n : Nat} {v4 v5 : Value} {lv : List Int} {ks : List Lk} (h : LvM w W H n v4 v5 lv ks) (hH : w.heap.size = H) (hn : n ≤ 4096) (x : Int) (hx : I64 x) :
    ∃ g1 c1 W1 g2 c2 W2, (∀ ty, (Builtin.append_ #[45, 45] ty #[v4, .slice (some ⟨W.heap.size, 0, none⟩) 1 1]).run Try.prog (W.alloc (.cells #[.int .i64 x] 3)) = .ok (.slice (some ⟨g1, 0, none⟩) (n + 1) c1) W1) ∧
      (∀ ty, (Builtin.append_ #[36, 36] ty #[v5, .slice (some ⟨W1.heap.size, 0, none⟩) 1 1]).run Try.prog (W1.alloc (.cells #[.int .i64 0, .int .i64 0, .int .i64 0] 24)) = .ok (.slice (some ⟨g2, 0, none⟩) (n + 1) c2) W2) ∧
      LvM w W2 H (n + 1) (.slice (some ⟨g1, 0, none⟩) (n + 1) c1) (.slice (some ⟨g2, 0, none⟩) (n + 1) c2) (lv ++ [x]) (ks ++ [lk00]) := by
  have hz := h.sz hH
  obtain ⟨i0, hi0, iz0, iz1, iz2⟩ := info_parts infoI
  obtain ⟨j0, hj0, jz0, jz1, jz2⟩ := info_parts infoL
  have h4 := h.lev
  have h5 := h.lnk
  rw [h.n4] at h4
  rw [h.n5] at h5
  obtain ⟨g1, c1, W1, r1, o1, gr1, _, _⟩ := app1 Try.underlying45 hi0 iz0 iz1 iz2 rfl (by decide) W H v4 n _ h4 #[.int .i64 x] rfl (by simp [Value.oneCell']) (by unfold maxLen; omega) (by omega) hz
  have h51 := owns_grown h5 gr1 (by decide) (owns_kind h4)
  have hz1 := gr1.size
  obtain ⟨g2, c2, W2, r2, o2, gr2, _, _⟩ := app1 Try.underlying36 hj0 jz0 jz1 jz2 rfl (by decide) W1 H v5 n _ h51 #[.int .i64 0, .int .i64 0, .int .i64 0] rfl (by simp [Value.oneCell']) (by unfold maxLen; omega) (by omega) (by omega)
  have o12 := owns_grown o1 gr2 (by decide) (owns_kind h51)
  refine ⟨g1, c1, W1, g2, c2, W2, r1, r2, ⟨?_, ?_, h.bel.trans (((Below.refl H W).grown gr1 hz fun k hk => (owns_block h4 hk).1).trans ((Below.refl H W1).grown gr2 (by omega) fun k hk => (owns_block h51 hk).1)), by simp [h.n4], by simp [h.n5], fun y hy => ?_, fun y hy => ?_⟩⟩
  · rw [List.length_append, h.n4]
    have : rowC (lv ++ [x]) = rowC lv ++ [.int .i64 x] := by simp [rowC]
    rw [this]; exact o12
  · rw [List.length_append, h.n5, lksC_snoc1]; exact o2
  · rcases List.mem_append.1 hy with hy | hy
    · exact h.i64 y hy
    · simp at hy; rw [hy]; exact hx
  · rcases List.mem_append.1 hy with hy | hy
    · exact h.k64 y hy
    · simp at hy; rw [hy]; exact lk00_64
/-- a round under way: what is next, in a row from M on -/
structure NxM (w W : World) (H M n : Nat) (v4 v5 v10 : Value) (lv : List Int) (ks : List Lk) (nx : List Int) : Prop where
  lvm : LvM w W H n v4 v5 lv ks
  nxt : W.ownsRow M 3 1 v10 nx.length (rowC nx)
  low : ∀ g, v4.ownBlock = some g → g < M
  hM : H ≤ M
  mz : M ≤ W.heap.size
theorem NxM.later {w W W' : World} {H M n : Nat} {v4 v5 v10 : Value} {lv : List Int} {ks : List Lk} {nx : List Int} (h : NxM w W H M n v4 v5 v10 lv ks nx) (hH : w.heap.size = H) (hb : Below W.heap.size W W') : NxM w W' H M n v4 v5 v10 lv ks nx := ⟨h.lvm.later hH hb, own_new h.nxt hb, h.low, h.hM, Nat.le_trans h.mz hb.size⟩
theorem NxM.start {w W : World} {H n : Nat} {v4 v5 : Value} {lv : List Int} {ks : List Lk} (h : LvM w W H n v4 v5 lv ks) (hH : w.heap.size = H) : NxM w W H W.heap.size n v4 v5 (.slice none 0 0) lv ks [] := ⟨h, ⟨rfl, .inl ⟨rfl, rfl⟩⟩, fun g hg => (owns_block h.lev hg).2, h.sz hH, Nat.le_refl _⟩
set_option maxHeartbeats 1000000 in
/-- an agent more that is next -/
theorem NxM.add {w W : World} {H M n : Nat} {v4 v5 v10 : Value} {lv : List Int} {ks : List Lk} {nx : List Int} (h : NxM w W H M n v4 v5 v10 lv ks nx) (hH : w.heap.size = H) (hn : nx.length ≤ 4096) {i : Nat} (hi : i < n) (l : Lk) (hl : Lk64 l) {m : Nat} (hm : m = nx.length) :
    ∃ g1 c1 W1 g5 c5, (∀ ty, (Builtin.append_ #[45, 45] ty #[v10, .slice (some ⟨W.heap.size, 0, none⟩) 1 1]).run Try.prog (W.alloc (.cells #[.int .i64 i] 3)) = .ok (.slice (some ⟨g1, 0, none⟩) (m + 1) c1) W1) ∧ v5 = .slice (some ⟨g5, 0, none⟩) n c5 ∧ n ≤ c5 ∧ W1.there g5 (i * 3) 3 ∧ (∀ (b : Nat) (us : Array Value) (fz : Nat × Nat), W.heap[b]? = some (Obj.cells us 24 fz) → W1.heap[b]? = some (Obj.cells us 24 fz)) ∧
      NxM w (W1.setCells g5 (i * 3) [.int .i64 l.waker, .int .i64 l.woken, .int .i64 l.chan]) H M n v4 v5 (.slice (some ⟨g1, 0, none⟩) (m + 1) c1) lv (ks.set i l) (nx ++ [(i : Int)]) := by
  subst hm
  have hz := h.mz
  obtain ⟨i0, hi0, iz0, iz1, iz2⟩ := info_parts infoI
  obtain ⟨g1, c1, W1, r1, o1, gr1, _, d1⟩ := app1 Try.underlying45 hi0 iz0 iz1 iz2 rfl (by decide) W M v10 nx.length _ h.nxt #[.int .i64 i] rfl (by simp [Value.oneCell']) (by unfold maxLen; omega) (by omega) hz
  have kk := owns_kind h.nxt
  have h51 := owns_grown h.lvm.lnk gr1 (by decide) kk
  have h41 : W1.ownsRow H 3 1 v4 lv.length (rowC lv) := owns_gr h.lvm.lev gr1 fun b hb e => by
    have := h.low b hb
    have := (owns_block h.nxt e).1
    omega
  obtain ⟨a5, c5, e5⟩ := owns_slice h51
  have hks : i < ks.length := by rw [h.lvm.n5]; exact hi
  have hg5 : ∃ g5, a5 = some ⟨g5, 0, none⟩ := by
    rcases h51.2 with ⟨_, q⟩ | ⟨g, cap, cur, q, _⟩
    · omega
    · rw [e5] at q; simp only [Value.slice.injEq] at q; exact ⟨g, q.1⟩
  obtain ⟨g5, rfl⟩ := hg5
  rw [h.lvm.n5] at e5
  subst e5
  have h51' := h51
  rw [h.lvm.n5] at h51'
  have hc5 : n ≤ c5 := by
    rcases h51'.2 with ⟨q, _⟩ | ⟨g, cap, cur, q, _, _, q3, _⟩
    · cases q
    · simp only [Value.slice.injEq] at q; omega
  obtain ⟨cu, fz, hgk⟩ := owns_kind h51' g5 rfl
  have hgB := owns_block h51' (g := g5) rfl
  have hoth : ∀ y, y ≠ g5 → (W1.setCells g5 (i * 3) [.int .i64 l.waker, .int .i64 l.woken, .int .i64 l.chan]).heap[y]? = W1.heap[y]? := fun y hy => by
    show (((W1.setCell ⟨g5, i * 3, none⟩ _).setCell ⟨g5, i * 3 + 1, none⟩ _).setCell ⟨g5, i * 3 + 1 + 1, none⟩ _).heap[y]? = _
    rw [Below.heap_setCell _ ⟨g5, _, none⟩ _ y hy, Below.heap_setCell _ ⟨g5, _, none⟩ _ y hy, Below.heap_setCell _ ⟨g5, _, none⟩ _ y hy]
  have hne : ∀ {t : TypeId} {s n B : Nat} {v : Value} {xs : List Value}, W1.ownsRow B t s v n xs → t ≠ 24 → (W1.setCells g5 (i * 3) [.int .i64 l.waker, .int .i64 l.woken, .int .i64 l.chan]).ownsRow B t s v n xs := fun {t s n B v xs} hv ht => own_same hv fun y o hy ho => by
    rw [hoth y (fun e => ?_)]
    · exact ho
    · subst e
      obtain ⟨c2, f2, q⟩ := owns_kind hv y hy
      rw [hgk] at q
      injection q with q
      injection q with _ q
      exact ht q.symm
  have hz1 := gr1.size
  refine ⟨g1, c1, W1, g5, c5, r1, rfl, hc5, (Czb.of h51').1.there3 (by omega), (fun b us fz hb => grown_at gr1 hb fun e => by
    obtain ⟨c2, f2, q⟩ := kk b e
    rw [hb] at q
    injection q with q
    injection q with _ q
    exact absurd q (by decide)), ⟨⟨hne h41 (by decide), ?_, h.lvm.bel.trans (((Below.refl H W).grown gr1 (by have := h.hM; omega) fun k hk => by have := (owns_block h.nxt hk).1; have := h.hM; omega).trans ((((Below.refl H W1).setCell (p := ⟨g5, i * 3, none⟩) hgB.1 _).setCell (p := ⟨g5, i * 3 + 1, none⟩) hgB.1 _).setCell (p := ⟨g5, i * 3 + 1 + 1, none⟩) hgB.1 _)), h.lvm.n4, by rw [List.length_set]; exact h.lvm.n5, h.lvm.i64, fun y hy => ?_⟩, ?_, h.low, h.hM, by
    show M ≤ (((W1.setCell ⟨g5, i * 3, none⟩ _).setCell ⟨g5, i * 3 + 1, none⟩ _).setCell ⟨g5, i * 3 + 1 + 1, none⟩ _).heap.size
    simpa using Nat.le_trans hz hz1⟩⟩
  · rw [List.length_set, lksC_set _ i hks, h.lvm.n5]
    exact own_put (own_put (own_put h51' (i * 3) _) (i * 3 + 1) _) (i * 3 + 1 + 1) _
  · rcases List.mem_or_eq_of_mem_set hy with hy | hy
    · exact h.lvm.k64 y hy
    · rw [hy]; exact hl
  · have : rowC (nx ++ [(i : Int)]) = rowC nx ++ [.int .i64 i] := by simp [rowC]
    rw [List.length_append, this]
    exact hne o1 (by decide)
theorem hlF_id {me : Nat} {lv : List Int} {k ch j : Int} : ∀ {i : Nat} {s : List Ag}, hlF me lv k ch i s = some j → ∃ a ∈ s, j = a.id
  | _, [], h => by simp [hlF] at h
  | i, a :: r, h => by
    rw [hlF] at h
    split at h
    · cases h; exact ⟨a, List.mem_cons_self, rfl⟩
    · obtain ⟨b, hb, e⟩ := hlF_id h
      exact ⟨b, List.mem_cons_of_mem _ hb, e⟩
theorem ptF_id {me : Nat} {x : Hd} {j : Int} : ∀ {i : Nat} {s : List Ag}, ptF me x i s = some j → ∃ a ∈ s, j = a.id
  | _, [], h => by simp [ptF] at h
  | i, a :: r, h => by
    rw [ptF] at h
    split at h
    · cases h; exact ⟨a, List.mem_cons_self, rfl⟩
    · obtain ⟨b, hb, e⟩ := ptF_id h
      exact ⟨b, List.mem_cons_of_mem _ hb, e⟩
/-- a link that is told fits -/
theorem ln_64 {w : World} {p : Option Addr} {c : Nat} {s : List Ag} (h : AgsR w p c s) {i : Nat} (hi : i < s.length) {lv : List Int} {k : Int} {l : Lk} (hl : lnI s i (agA s i).id lv k (agA s i).arms = some l) : Lk64 l := by
  have ea : agA s i = s[i] := by unfold agA; rw [List.getElem?_eq_getElem hi]; rfl
  rw [ea] at hl
  have h6 := h.a64
  have hid := (h6 s[i] (List.getElem_mem hi)).id
  unfold lnI at hl
  obtain ⟨x, hx, hl⟩ := List.exists_of_findSome?_eq_some hl
  have hxc := (h6 s[i] (List.getElem_mem hi)).arms x hx
  have fin : ∀ j, (j = -1 ∨ ∃ a ∈ s, j = a.id) → Lk64 ⟨j, s[i].id, x.chan⟩ := fun j hj => by
    refine ⟨?_, hid, hxc⟩
    rcases hj with rfl | ⟨a, ha, rfl⟩
    · show I64 (-1)
      exact ⟨by decide, by decide⟩
    · exact (h6 a ha).id
  unfold lk1I at hl
  split at hl
  · unfold fsI at hl
    split at hl
    · cases hl; exact fin _ (.inl rfl)
    · split at hl
      · rename_i j hj
        cases hl
        exact fin _ (.inr (hlF_id hj))
      · obtain ⟨j, hj, e⟩ := Option.map_eq_some_iff.1 hl
        cases e
        exact fin _ (.inr (ptF_id hj))
  · obtain ⟨j, hj, e⟩ := Option.map_eq_some_iff.1 hl
    cases e
    exact fin _ (.inr (hlF_id hj))
theorem wpList_put3v {ops : Array Oper} {rest : List Oper} {op : Oper} {a : Act} {w W8 : World} {Q : Exit → Act → World → Prop} (hgd : op.guard = none) (x y : Operand) (ho : op.op = .store 24 x y) (b o : Nat) (n1 n2 n3 : Int) (hx : a.eval x = .pointer (some ⟨b, o, none⟩)) (hy : a.eval y = .agg #[.int .i64 n1, .int .i64 n2, .int .i64 n3]) (ht : w.there b o 3) (hW : w.setCells b o [.int .i64 n1, .int .i64 n2, .int .i64 n3] = W8)
    (h : wpList Try.prog ops Q rest (a.put op.dst undef) W8) : wpList Try.prog ops Q (op :: rest) a w := by
  subst hW
  exact wpList_store_mid hgd 24 x y ho b o #[.int .i64 n1, .int .i64 n2, .int .i64 n3] hx hy ht (by kernel_rfl) (by simp [Value.oneCell']) h
end Go.Proofs.Ytjabdhmkibahlaa
