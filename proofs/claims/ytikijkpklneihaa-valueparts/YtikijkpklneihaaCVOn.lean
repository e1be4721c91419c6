import Derived.Test.YtikijkpklneihaaCVOw
import Derived.Test.YtikijkpklneihaaCVGt
import Derived.Laws.MakeOwn
namespace Go.Proofs.Ytikijkpklneihaa
open Go.RowKit
set_option linter.unusedVariables false
set_option linter.unusedSimpArgs false

def zeroV : Value := .agg #[.int .i64 0, .int .i64 0, .slice none 0 0]
def zerosV (N : Nat) : Array Value := madeCells zeroV.cells (N * 3)
theorem make_vals (w : World) (N : Nat) (hN : N ≤ 2147483648) : (Instr.makeSlice 22 (.int .i64 N) (.int .i64 N)).run Try.prog w = .ok (.slice (some ⟨w.heap.size, 0, none⟩) N N) (w.alloc (.cells (zerosV N) 24)) := by
  obtain ⟨i0, hi, hz0, hz1, hz2⟩ := info_parts infoVl
  have := run_make (P := Try.prog) w 22 24 i0 zeroV Try.underlying22 hi hz0 .i64 .i64 (N : Int) (N : Int) (by omega) (by omega) (by rw [hz2]; omega) (by omega)
  rw [hz1] at this
  simpa [zerosV] using this
theorem zerosV_size (N : Nat) : (zerosV N).size = N * 3 := by simp [zerosV, madeCells]

/-- a row of cells that may be written -/
structure MRow (W : World) (m N : Nat) : Prop where
  ex : ∃ C : Array Value, W.heap[m]? = some (.cells C 24 (0, 0)) ∧ C.size = N
theorem MRow.cell {W : World} {m N : Nat} (h : MRow W m N) (j : Nat) (hj : j < N) : ∃ u, W.cell? ⟨m, j, none⟩ = some u := by
  obtain ⟨C, h1, h2⟩ := h.ex
  exact ⟨C[j]'(by omega), by simp [World.cell?, h1, h2, hj]⟩
theorem MRow.frozen {W : World} {m N : Nat} (h : MRow W m N) (j : Nat) : W.frozen? ⟨m, j, none⟩ = false := by
  obtain ⟨C, h1, h2⟩ := h.ex
  simp [World.frozen?, h1]
theorem MRow.lt {W : World} {m N : Nat} (h : MRow W m N) : m < W.heap.size := by
  obtain ⟨C, h1, h2⟩ := h.ex
  exact (Array.getElem?_eq_some_iff.1 h1).1
theorem MRow.set {W : World} {m N : Nat} (h : MRow W m N) (j : Nat) (u : Value) : MRow (W.setCell ⟨m, j, none⟩ u) m N := by
  obtain ⟨C, h1, h2⟩ := h.ex
  refine ⟨C.setIfInBounds j u, ?_, by simp [h2]⟩
  simp [World.setCell, Array.getElem?_modify, h1]
theorem MRow.next {W W' : World} {m N : Nat} (h : MRow W m N) (hb : Below W.heap.size W W') : MRow W' m N := by
  obtain ⟨C, h1, h2⟩ := h.ex
  exact ⟨C, keep_h hb h1, h2⟩

/-- own in the midst -/
structure OwI (w wr : World) (B : Nat) (x : V) (p : Option Addr) (c i : Nat) : Prop where
  one : OneB w wr B x p c
  z : wr.heap[w.heap.size + 1]? = some z3
  row : MRow wr (w.heap.size + 2) ((x.l.length + 1) * 3)
  els : ∀ j (h : j < x.l.length), j < i → SpIn wr (w.heap.size + 3) wr.heap.size (w.heap.size + 2) (j * 3) x.l[j]
theorem SpIn.next {W W' : World} {lo b off : Nat} {v : V} (h : SpIn W lo W.heap.size b off v) (hb : Below W.heap.size W W') (hbl : b < W.heap.size) : SpIn W' lo W'.heap.size b off v := by
  have hc : ∀ o, W'.cell? ⟨b, o, none⟩ = W.cell? ⟨b, o, none⟩ := fun o => hb.cell (p := ⟨b, o, none⟩) hbl
  obtain ⟨p, c, h1, h2⟩ := h.c2
  exact ⟨by rw [hc]; exact h.c0, by rw [hc]; exact h.c1, h.k64, h.n64, p, c, by rw [hc]; exact h1, SpV.up (Nat.le_refl _) hb.size v (SpV.mid ⟨fun b o _ hb' => hb.cell (p := ⟨b, o, none⟩) hb'⟩ v h2)⟩
theorem OwI.next {w wr W : World} {B : Nat} {x : V} {p : Option Addr} {c i : Nat} (h : OwI w wr B x p c i) (hB : B ≤ w.heap.size) (hb : Below wr.heap.size wr W) : OwI w W B x p c i :=
  ⟨h.one.next hB hb, keep_h hb h.z, h.row.next hb, fun j hj hi => (h.els j hj hi).next hb h.row.lt⟩
theorem cell_set3 {W : World} {m j : Nat} {a b c : Value} {b' o' : Nat} (h : b' ≠ m ∨ (o' ≠ j ∧ o' ≠ j + 1 ∧ o' ≠ j + 2)) :
    (((W.setCell ⟨m, j, none⟩ a).setCell ⟨m, j + 1, none⟩ b).setCell ⟨m, j + 2, none⟩ c).cell? ⟨b', o', none⟩ = W.cell? ⟨b', o', none⟩ := by
  rw [World.cell?_setCell_other, World.cell?_setCell_other, World.cell?_setCell_other]
  all_goals (intro e; cases e; rcases h with h | h <;> omega)
theorem cell_in3 {W : World} {m j : Nat} {a b c : Value} {u0 u1 u2 : Value} (h0 : W.cell? ⟨m, j, none⟩ = some u0) (h1 : W.cell? ⟨m, j + 1, none⟩ = some u1) (h2 : W.cell? ⟨m, j + 2, none⟩ = some u2) :
    (((W.setCell ⟨m, j, none⟩ a).setCell ⟨m, j + 1, none⟩ b).setCell ⟨m, j + 2, none⟩ c).cell? ⟨m, j, none⟩ = some a ∧ (((W.setCell ⟨m, j, none⟩ a).setCell ⟨m, j + 1, none⟩ b).setCell ⟨m, j + 2, none⟩ c).cell? ⟨m, j + 1, none⟩ = some b ∧ (((W.setCell ⟨m, j, none⟩ a).setCell ⟨m, j + 1, none⟩ b).setCell ⟨m, j + 2, none⟩ c).cell? ⟨m, j + 2, none⟩ = some c := by
  have n01 : (⟨m, j, none⟩ : Addr) ≠ ⟨m, j + 1, none⟩ := by intro e; simp at e
  have n02 : (⟨m, j, none⟩ : Addr) ≠ ⟨m, j + 2, none⟩ := by intro e; simp at e
  have n12 : (⟨m, j + 1, none⟩ : Addr) ≠ ⟨m, j + 2, none⟩ := by intro e; simp at e
  refine ⟨?_, ?_, ?_⟩
  · rw [World.cell?_setCell_other (h := n02.symm), World.cell?_setCell_other (h := n01.symm)]; exact World.cell?_setCell_same _ _ _ h0
  · rw [World.cell?_setCell_other (h := n12.symm)]; exact World.cell?_setCell_same _ _ _ (by rw [World.cell?_setCell_other (h := n01)]; exact h1)
  · exact World.cell?_setCell_same _ _ _ (by rw [World.cell?_setCell_other (h := n12), World.cell?_setCell_other (h := n02)]; exact h2)
def OwPost (w : World) (x : V) (e : Ending) (w' : World) : Prop := ∃ p c, e = .returned (.agg #[.int .i64 x.k, .int .i64 x.n, .slice p x.l.length c]) ∧ SpV w' w.heap.size w'.heap.size x p c ∧ Below w.heap.size w w'
/-- one more is stored -/
theorem OwI.step {w w4 : World} {B : Nat} {x : V} {p : Option Addr} {c i : Nat} (h : OwI w w4 B x p c i) (hB : B ≤ w.heap.size) (hi : i < x.l.length) {q : Option Addr} {d : Nat} (hk : I64 x.l[i].k) (hn : I64 x.l[i].n) (hs : SpV w4 (w.heap.size + 3) w4.heap.size x.l[i] q d) :
    OwI w (((w4.setCell ⟨w.heap.size + 2, i * 3, none⟩ (.int .i64 x.l[i].k)).setCell ⟨w.heap.size + 2, i * 3 + 1, none⟩ (.int .i64 x.l[i].n)).setCell ⟨w.heap.size + 2, i * 3 + 2, none⟩ (.slice q x.l[i].l.length d)) B x p c (i + 1) := by
  obtain ⟨W5, hW5⟩ : ∃ W5, ((w4.setCell ⟨w.heap.size + 2, i * 3, none⟩ (.int .i64 x.l[i].k)).setCell ⟨w.heap.size + 2, i * 3 + 1, none⟩ (.int .i64 x.l[i].n)).setCell ⟨w.heap.size + 2, i * 3 + 2, none⟩ (.slice q x.l[i].l.length d) = W5 := ⟨_, rfl⟩
  have hoth : ∀ b, b ≠ w.heap.size + 2 → W5.heap[b]? = w4.heap[b]? := fun b hb => by
    rw [← hW5, Below.heap_setCell _ _ _ _ hb, Below.heap_setCell _ _ _ _ hb, Below.heap_setCell _ _ _ _ hb]
  have hsz : W5.heap.size = w4.heap.size := by rw [← hW5]; simp [World.size_setCell]
  have hbel : Below w.heap.size w W5 := by
    rw [← hW5]
    exact ((h.one.bel.setCell (p := ⟨w.heap.size + 2, i * 3, none⟩) (by show _ ≤ w.heap.size + 2; omega) _).setCell (p := ⟨w.heap.size + 2, i * 3 + 1, none⟩) (by show _ ≤ w.heap.size + 2; omega) _).setCell (p := ⟨w.heap.size + 2, i * 3 + 2, none⟩) (by show _ ≤ w.heap.size + 2; omega) _
  have hmid : Mid (w.heap.size + 3) w4.heap.size w4 W5 := ⟨fun b o h1 h2 => by simp only [World.cell?]; rw [hoth b (by omega)]⟩
  obtain ⟨u0, e0⟩ := h.row.cell (i * 3) (by omega)
  obtain ⟨u1, e1⟩ := h.row.cell (i * 3 + 1) (by omega)
  obtain ⟨u2, e2⟩ := h.row.cell (i * 3 + 2) (by omega)
  obtain ⟨n0, n1, n2⟩ := cell_in3 (a := .int .i64 x.l[i].k) (b := .int .i64 x.l[i].n) (c := .slice q x.l[i].l.length d) e0 e1 e2
  rw [hW5] at n0 n1 n2
  rw [hW5]
  refine ⟨⟨(hoth _ (by omega)).trans h.one.a, h.one.va.lo (Lo.blocks fun b hb => hoth b (by omega)), hbel⟩, (hoth _ (by omega)).trans h.z, by rw [← hW5]; exact ((h.row.set _ _).set _ _).set _ _, fun j hj hji => ?_⟩
  rw [hsz]
  rcases Nat.lt_or_ge j i with h3 | h3
  · have q := h.els j hj h3
    obtain ⟨p', c', q1, q2⟩ := q.c2
    have hc : ∀ o, o < i * 3 → W5.cell? ⟨w.heap.size + 2, o, none⟩ = w4.cell? ⟨w.heap.size + 2, o, none⟩ := fun o ho => by rw [← hW5]; exact cell_set3 (.inr ⟨by omega, by omega, by omega⟩)
    exact ⟨by rw [hc _ (by omega)]; exact q.c0, by rw [hc _ (by omega)]; exact q.c1, q.k64, q.n64, p', c', by rw [hc _ (by omega)]; exact q1, SpV.mid hmid _ q2⟩
  · have : j = i := by omega
    subst this
    exact ⟨n0, n1, hk, hn, q, d, n2, SpV.mid hmid _ hs⟩

/-- the mark is set, and it is done -/
theorem OwI.fin {w wr : World} {B : Nat} {x : V} {p : Option Addr} {c : Nat} (h : OwI w wr B x p c x.l.length) (a b d e : Value) :
    SpV (((((wr.setCell ⟨w.heap.size + 2, x.l.length * 3, none⟩ (.int .i64 (-99))).setCell ⟨w.heap.size, 2, none⟩ a).setCell ⟨w.heap.size + 1, 0, none⟩ b).setCell ⟨w.heap.size + 1, 1, none⟩ d).setCell ⟨w.heap.size + 1, 2, none⟩ e) w.heap.size (((((wr.setCell ⟨w.heap.size + 2, x.l.length * 3, none⟩ (.int .i64 (-99))).setCell ⟨w.heap.size, 2, none⟩ a).setCell ⟨w.heap.size + 1, 0, none⟩ b).setCell ⟨w.heap.size + 1, 1, none⟩ d).setCell ⟨w.heap.size + 1, 2, none⟩ e).heap.size x (some ⟨w.heap.size + 2, 0, none⟩) (x.l.length + 1)
    ∧ Below w.heap.size w (((((wr.setCell ⟨w.heap.size + 2, x.l.length * 3, none⟩ (.int .i64 (-99))).setCell ⟨w.heap.size, 2, none⟩ a).setCell ⟨w.heap.size + 1, 0, none⟩ b).setCell ⟨w.heap.size + 1, 1, none⟩ d).setCell ⟨w.heap.size + 1, 2, none⟩ e) := by
  obtain ⟨W1, hW1⟩ : ∃ W1, wr.setCell ⟨w.heap.size + 2, x.l.length * 3, none⟩ (.int .i64 (-99)) = W1 := ⟨_, rfl⟩
  obtain ⟨W5, hW5⟩ : ∃ W5, (((W1.setCell ⟨w.heap.size, 2, none⟩ a).setCell ⟨w.heap.size + 1, 0, none⟩ b).setCell ⟨w.heap.size + 1, 1, none⟩ d).setCell ⟨w.heap.size + 1, 2, none⟩ e = W5 := ⟨_, rfl⟩
  rw [hW1, hW5]
  have hb1 : Below w.heap.size w W1 := by rw [← hW1]; exact h.one.bel.setCell (p := ⟨w.heap.size + 2, x.l.length * 3, none⟩) (by show _ ≤ w.heap.size + 2; omega) _
  have hb5 : Below w.heap.size w W5 := by
    rw [← hW5]; exact below3 (hb1.setCell (p := ⟨w.heap.size, 2, none⟩) (Nat.le_refl _) _) (by omega) _ _ _
  have hup : ∀ b o, w.heap.size + 2 ≤ b → W5.cell? ⟨b, o, none⟩ = W1.cell? ⟨b, o, none⟩ := fun b o hb => by
    simp only [World.cell?]
    rw [← hW5, set3_other _ _ _ (by omega), Below.heap_setCell _ _ _ _ (by show b ≠ w.heap.size; omega)]
  have hs1 : W1.heap.size = wr.heap.size := by rw [← hW1]; simp [World.size_setCell]
  have hs5 : W5.heap.size = wr.heap.size := by rw [← hW5, ← hs1]; simp [World.size_setCell]
  obtain ⟨u, hu⟩ := h.row.cell (x.l.length * 3) (by omega)
  have hml := h.row.lt
  have hoth : ∀ b o, b ≠ w.heap.size + 2 ∨ o ≠ x.l.length * 3 → W1.cell? ⟨b, o, none⟩ = wr.cell? ⟨b, o, none⟩ := fun b o hb => by
    rw [← hW1, World.cell?_setCell_other]
    intro e; cases e; rcases hb with hb | hb <;> exact hb rfl
  have hmid : Mid (w.heap.size + 3) wr.heap.size wr W5 := ⟨fun b o h1 h2 => by rw [hup b o (by omega), hoth b o (.inl (by omega))]⟩
  refine ⟨SpV.iff.2 ⟨w.heap.size + 2, rfl, rfl, by omega, by omega, ?_, SpAll.of_get (fun i hi => ?_)⟩, hb5⟩
  · rw [hup _ _ (by omega), ← hW1]; exact World.cell?_setCell_same _ _ _ hu
  · have q := h.els i hi hi
    obtain ⟨p', c', q1, q2⟩ := q.c2
    have hc : ∀ o, o ≠ x.l.length * 3 → W5.cell? ⟨w.heap.size + 2, o, none⟩ = wr.cell? ⟨w.heap.size + 2, o, none⟩ := fun o ho => by rw [hup _ _ (by omega), hoth _ _ (.inr ho)]
    have e0 : 0 + i * 3 = i * 3 := by omega
    rw [e0]
    exact ⟨by rw [hc _ (by omega)]; exact q.c0, by rw [hc _ (by omega)]; exact q.c1, q.k64, q.n64, p', c', by rw [hc _ (by omega)]; exact q1, SpV.up (by omega) (by omega) _ (SpV.mid hmid _ q2)⟩

set_option maxRecDepth 100000 in
set_option maxHeartbeats 4000000 in
theorem lown_rec (N : Nat) (ih : ∀ (x : V), x.sz < N → ∀ (w : World) (B : Nat) (v : Value), IsV w B v x → B ≤ w.heap.size → x.sz ≤ 65536 → Calls Try.prog 6 #[v] w (OwPost w x))
    (w : World) (B : Nat) (v : Value) (x : V) (hv : IsV w B v x) (hB : B ≤ w.heap.size) (hN : x.sz ≤ N) (h65 : x.sz ≤ 65536) : Calls Try.prog 6 #[v] w (OwPost w x) := by
  obtain ⟨⟨p, c, rfl, h1⟩, h2, h3⟩ := hv
  have hlen := szs_len x.l
  have hsz := V.sz_eq x
  have hlc : x.l.length ≤ c := h1.1
  have hcm : c ≤ maxLen := h1.2.1
  unfold maxLen at hcm
  obtain ⟨W0, hW0⟩ : ∃ W0, (w.alloc (Obj.cells #[.int .i64 x.k, .int .i64 x.n, .slice p x.l.length c] 24)).alloc z3 = W0 := ⟨_, rfl⟩
  have hz0 : W0.heap.size = w.heap.size + 2 := by rw [← hW0]; simp
  have ha0 : W0.heap[w.heap.size]? = some (Obj.cells #[.int .i64 x.k, .int .i64 x.n, .slice p x.l.length c] 24) := by rw [← hW0]; exact (Below.heap_alloc _ _ _ (by simp)).trans (World.alloc_heap_new _ _)
  have ha1 : W0.heap[w.heap.size + 1]? = some z3 := by rw [← hW0]; exact alloc_at _ _ _
  have hb0 : Below w.heap.size w W0 := by rw [← hW0]; exact two_new _ _ _
  have hmk := make_vals W0 (x.l.length + 1) (by omega)
  simp only [Int.natCast_add, Int.cast_ofNat_Int] at hmk
  rw [hz0] at hmk
  obtain ⟨c0, c1, c2, f0, f1, f2, cl⟩ := c3 ha0
  obtain ⟨W1, hW1⟩ : ∃ W1, W0.alloc (.cells (zerosV (x.l.length + 1)) 24) = W1 := ⟨_, rfl⟩
  rw [hW1] at hmk
  have hb1 : Below W0.heap.size W0 W1 := by rw [← hW1]; exact below1 _ _
  have HS0 : Bx (OwI w W1 B x p c 0) := ⟨⟨⟨keep_h hb1 ha0, h1.lo (Lo.of ((hb0.trans (hb1.mono hb0.size)).mono hB)), hb0.trans (hb1.mono hb0.size)⟩, keep_h hb1 ha1, ⟨_, by rw [← hz0, ← hW1]; exact World.alloc_heap_new _ _, zerosV_size _⟩, fun j hj hi => by omega⟩⟩
  have HIH : Bx _ := ⟨ih⟩
  have HK : Bx (I64 x.k ∧ I64 x.n) := ⟨h2, h3⟩
  clear h1 h2 h3 ih hb0 hb1 ha0 ha1 hz0
  go_enter Try.func6, Try.ntmps6
  go_wp2
  clear c0 c1 c2 f0 f1 f2 cl hW0 hW1 hmk
  go_loopg [4] x.l.length (fun q v wr => ∃ i : Nat, q = x.l.length - i ∧ i ≤ x.l.length ∧ v = .int .i64 i ∧ Bx (OwI w wr B x p c i))
  case atStart => exact ⟨0, by simp, by omega, rfl, HS0⟩
  case round =>
    obtain ⟨i, hq, hil, rfl, HS⟩ := hrel
    clear HS0
    obtain ⟨r0, r1, r2, g0, g1, g2, rl⟩ := c3 HS.out.one.a
    by_cases hlt : i < x.l.length
    · obtain ⟨b, o, q1, qc, rfl, hbB, d0, d1, d2, hq1, dk, dn⟩ := HS.out.one.va.at3 i hlt
      have HC : Bx _ := ⟨HIH.out x.l[i] (by have h9 := szs_mem (List.getElem_mem hlt); omega) wr B _ ⟨⟨q1, qc, rfl, hq1⟩, dk, dn⟩ (Nat.le_trans hB HS.out.one.bel.size) (by have h9 := szs_mem (List.getElem_mem hlt); omega)⟩
      have HD : Bx (I64 x.l[i].k ∧ I64 x.l[i].n) := ⟨dk, dn⟩
      have hml := HS.out.row.lt
      clear hq1 dk dn
      go_wp2_with (first | (go_at_call 6; refine Calls.mono HC.out ?_; rintro e w4 ⟨q, d, rfl, hsp, hb4⟩; have HN : Bx _ := ⟨HS.out.next hB hb4⟩; obtain ⟨u0, t0⟩ := HN.out.row.cell (i * 3) (by omega); obtain ⟨u1, t1⟩ := HN.out.row.cell (i * 3 + 1) (by omega); obtain ⟨u2, t2⟩ := HN.out.row.cell (i * 3 + 2) (by omega); have v0 := HN.out.row.frozen (i * 3); have v1 := HN.out.row.frozen (i * 3 + 1); have v2 := HN.out.row.frozen (i * 3 + 2); have HF : Bx _ := ⟨HN.out.step hB hlt HD.out.1 HD.out.2 (SpV.up (by omega) (Nat.le_refl _) _ hsp)⟩; clear hsp))
      go_roundg (x.l.length - (i + 1))
      case measure => omega
      case rel => exact ⟨i + 1, rfl, by omega, by simp, HF⟩
    · have hie : i = x.l.length := by omega
      subst hie
      obtain ⟨z0, z1, z2, y0, y1, y2, zl⟩ := c3 HS.out.z
      obtain ⟨u0, t0⟩ := HS.out.row.cell (x.l.length * 3) (by omega)
      have v0 := HS.out.row.frozen (x.l.length * 3)
      have hml := HS.out.row.lt
      have HF : Bx _ := ⟨HS.out.fin (.slice (some ⟨w.heap.size + 2, 0, none⟩) x.l.length (x.l.length + 1)) (.int .i64 x.k) (.int .i64 x.n) (.slice (some ⟨w.heap.size + 2, 0, none⟩) x.l.length (x.l.length + 1))⟩
      go_wp2
      refine bodyPost_ret (v := .agg #[.int .i64 x.k, .int .i64 x.n, .slice (some ⟨w.heap.size + 2, 0, none⟩) x.l.length (x.l.length + 1)]) (by simp [results, Try.results6, go_sem, z0, z1, z2, zl]) rfl ⟨_, _, rfl, HF.out.1, HF.out.2⟩
/-- own: the same value in blocks of its own, with a mark behind each list -/
theorem lown_any (w : World) (B : Nat) (v : Value) (x : V) (hv : IsV w B v x) (hB : B ≤ w.heap.size) (h65 : x.sz ≤ 65536) : Calls Try.prog 6 #[v] w (OwPost w x) := by
  have key : ∀ N : Nat, ∀ (x : V), x.sz ≤ N → ∀ (w : World) (B : Nat) (v : Value), IsV w B v x → B ≤ w.heap.size → x.sz ≤ 65536 → Calls Try.prog 6 #[v] w (OwPost w x) := by
    intro N
    induction N with
    | zero => intro x h; have := x.sz_pos; omega
    | succ N ih => intro x h w B v hv hB h65; exact lown_rec (N + 1) (fun x' h' => ih x' (by omega)) w B v x hv hB h h65
  exact key x.sz x (Nat.le_refl _) w B v hv hB h65
end Go.Proofs.Ytikijkpklneihaa
