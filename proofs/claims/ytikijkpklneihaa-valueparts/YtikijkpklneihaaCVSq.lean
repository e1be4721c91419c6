import Derived.Test.YtikijkpklneihaaCVGq
import Derived.Test.YtikijkpklneihaaCVMk
import Derived.Test.YtikijkpklneihaaCVHd
namespace Go.Proofs.Ytikijkpklneihaa
open Go.RowKit
set_option linter.unusedVariables false
set_option linter.unusedSimpArgs false

theorem mkV_kn (n : Int) (x : V) : (mkV n x).k = x.k ∧ (mkV n x).n = x.n := by cases x; exact ⟨by simp [mkV, V.k], by simp [mkV, V.n]⟩
theorem mkV_sz (x : V) : ∀ n, (mkV n x).sz = x.sz := by
  induction x using V.ind with
  | h k m l ih =>
    intro n
    have key : ∀ (l : List V) (i : Nat), (∀ x ∈ l, ∀ n, (mkV n x).sz = x.sz) → szs (mkL n i l) = szs l := by
      intro l
      induction l with
      | nil => intro i _; simp [mkL]
      | cons x xs ihl =>
        intro i h
        have h1 := h x (by simp) (n + i + 1)
        rw [V.sz_eq] at h1
        rw [V.sz_eq x] at h1
        have h3 : (V.mk 50 (-n - ↑i) (mkV (n + ↑i + 1) x).l).l = (mkV (n + ↑i + 1) x).l := rfl
        have h4 := ihl (i + 1) (fun y hy => h y (List.mem_cons_of_mem _ hy))
        have h5 := V.sz_eq (V.mk 50 (-n - ↑i) (mkV (n + ↑i + 1) x).l)
        rw [h3] at h5
        have h6 := V.sz_eq x
        simp only [mkL, szs]
        omega
    simp only [mkV, V.sz]
    rw [key l 0 ih]
/-- what is marked so far -/
def mkX (X : Nat → V) (i : Nat) : Nat → V := fun j => if j < i then mkV (1000 * j + 1) (X j) else X j
theorem mkX_sz (X : Nat → V) (i j : Nat) : (mkX X i j).sz = (X j).sz := by
  unfold mkX
  split
  · exact mkV_sz _ _
  · rfl
theorem Ents.marked {W W' : World} {ρ : Gh} {e n i : Nat} {X : Nat → V} {cs : List Value} (he : e < 2) (h : Ents W ρ e n (mkX X i) cs) (hb : ∀ b, b < W.heap.size → ¬ (Und ρ (2 * i) [] b ∨ Und ρ (2 * i + 1) [] b) → W'.heap[b]? = W.heap[b]?) {p : Option Addr} {c : Nat} (hc : cs[i * 3 + 2]? = some (.slice p (X i).l.length c)) (ht : TrV W' ρ (2 * i + e) [] (mkV (1000 * i + 1) (X i)) p c) : Ents W' ρ e n (mkX X (i + 1)) cs := fun j hj => by
  obtain ⟨p', c', h1, h2, h3, h4, h5, h6⟩ := h j hj
  by_cases hji : j = i
  · subst hji
    have e1 : mkX X (j + 1) j = mkV (1000 * j + 1) (X j) := by simp [mkX]
    have e2 : mkX X j j = X j := by simp [mkX]
    rw [e2] at h1 h2 h3 h4 h5 h6
    rw [hc] at h3
    simp only [Option.some.injEq, Value.slice.injEq, true_and] at h3
    obtain ⟨rfl, rfl⟩ := h3
    rw [e1, (mkV_kn _ _).1, (mkV_kn _ _).2, mkV_len]
    exact ⟨p, c, h1, h2, hc, h4, h5, ht⟩
  · have e1 : mkX X (i + 1) j = mkX X i j := by
      unfold mkX
      by_cases h1 : j < i
      · rw [if_pos h1, if_pos (by omega)]
      · rw [if_neg h1, if_neg (by omega)]
    rw [e1]
    refine ⟨p', c', h1, h2, h3, h4, h5, TrV.keep _ h6 fun b hb2 hu => hb b hb2 fun hu2 => ?_⟩
    rcases hu2 with hu2 | hu2
    · have := hu.id hu2; omega
    · have := hu.id hu2; omega
theorem Bk.marked {W W' : World} {lo h : Nat} {ρ : Gh} {ov wv : Value} {n i : Nat} {X : Nat → V} (hB : Bk W lo h ρ ov wv n (mkX X i)) (hi : i < n) {g g' oc wc : Nat} {p p' : Option Addr} {c c' : Nat} (e1 : ov = .slice (some ⟨g, 0, none⟩) n oc) (e2 : wv = .slice (some ⟨g', 0, none⟩) n wc) (h1 : W.cell? ⟨g, i * 3 + 2, none⟩ = some (.slice p (X i).l.length c)) (h2 : W.cell? ⟨g', i * 3 + 2, none⟩ = some (.slice p' (X i).l.length c'))
    (hf : FrM W W' fun b => Und ρ (2 * i) [] b ∨ Und ρ (2 * i + 1) [] b) (t1 : TrV W' ρ (2 * i) [] (mkV (1000 * i + 1) (X i)) p c) (t2 : TrV W' ρ (2 * i + 1) [] (mkV (1000 * i + 1) (X i)) p' c') : Bk W' lo h ρ ov wv n (mkX X (i + 1)) := by
  obtain ⟨cs, o1, o2⟩ := hB.orow
  obtain ⟨ds, w1, w2⟩ := hB.wrow
  have hne : ∀ b, ρ b = none → ¬ (Und ρ (2 * i) [] b ∨ Und ρ (2 * i + 1) [] b) := fun b hb e => by
    rcases e with ⟨s, hs⟩ | ⟨s, hs⟩ <;> rw [hb] at hs <;> cases hs
  have hsup : ∀ b, (b = h ∨ ov.ownBlock = some b ∨ wv.ownBlock = some b) → ρ b = none := fun b hb => by
    cases hr : ρ b with
    | none => rfl
    | some r =>
      obtain ⟨_, q1, q2, q3⟩ := hB.sup b (by rw [hr]; simp)
      rcases hb with hb | hb | hb
      · exact absurd hb q1
      · exact absurd hb q2
      · exact absurd hb q3
  have cc : ∀ {v : Value} {g oc : Nat} {cs : List Value} {q : Option Addr} {d : Nat}, v = .slice (some ⟨g, 0, none⟩) n oc → W.ownsRow lo 24 3 v n cs → W.cell? ⟨g, i * 3 + 2, none⟩ = some (.slice q (X i).l.length d) → cs[i * 3 + 2]? = some (.slice q (X i).l.length d) := fun {v g oc cs q d} ev ho hc => by
    subst ev
    rw [← ho.cellAt (i * 3 + 2) (by omega)]
    exact hc
  have hs := hf.size
  have hlow := hB.low
  have hsiz := hB.siz
  refine ⟨(hf.block h (by omega) (hne h (hsup h (.inl rfl)))).trans hB.hd, hlow, by omega, ⟨cs, own_same o1 fun g o hg ho => (hf.block g (heap_lt ho) (hne g (hsup g (.inr (.inl hg))))).trans ho, o2.marked (by omega) hf.block (cc e1 o1 h1) t1⟩, ⟨ds, own_same w1 fun g o hg ho => (hf.block g (heap_lt ho) (hne g (hsup g (.inr (.inr hg))))).trans ho, w2.marked (by omega) hf.block (cc e2 w1 h2) t2⟩, fun b hb => by have := hB.sup b hb; exact ⟨by omega, this.2⟩, hB.ids, hB.ne⟩
/-- what spoil turns -/
structure SpF (w w' : World) (ρ : Gh) : Prop where
  os : w'.os = w.os
  tape : w'.tape = w.tape
  output : w'.output = w.output
  size : w.heap.size ≤ w'.heap.size
  block : ∀ b, b < w.heap.size → ρ b = none → w'.heap[b]? = w.heap[b]?
theorem SpF.below {w w' w2 : World} {ρ : Gh} (h : SpF w w' ρ) (g : Below w'.heap.size w' w2) : SpF w w2 ρ := ⟨g.os.trans h.os, g.tape.trans h.tape, g.output.trans h.output, Nat.le_trans h.size g.size, fun b h1 h2 => (g.block b (Nat.lt_of_lt_of_le h1 h.size)).trans (h.block b h1 h2)⟩
theorem SpF.frm {w w' w2 : World} {ρ : Gh} {i : Nat} (h : SpF w w' ρ) (g : FrM w' w2 fun b => Und ρ (2 * i) [] b ∨ Und ρ (2 * i + 1) [] b) : SpF w w2 ρ := ⟨g.os.trans h.os, g.tape.trans h.tape, g.output.trans h.output, Nat.le_trans h.size g.size, fun b h1 h2 => (g.block b (Nat.lt_of_lt_of_le h1 h.size) (fun e => by
  rcases e with ⟨s, hs⟩ | ⟨s, hs⟩ <;> rw [h2] at hs <;> cases hs)).trans (h.block b h1 h2)⟩
/-- the first rows of what grows -/
theorem Gr.start (w : World) : Gr ((w.alloc (.cells #[] 22)).alloc (.cells #[] 22)) w.heap.size (.slice (some ⟨w.heap.size, 0, none⟩) 0 0) (.slice (some ⟨w.heap.size + 1, 0, none⟩) 0 0) 0 fun _ => [] := by
  have h0 : ((w.alloc (.cells #[] 22)).alloc (.cells #[] 22)).heap[w.heap.size]? = some (.cells #[] 22 (0, 0)) := (Below.heap_alloc _ _ _ (by simp)).trans (World.alloc_heap_new _ _)
  have h1 := alloc_at w (.cells #[] 22) (.cells #[] 22)
  refine ⟨⟨[], ⟨rfl, .inr ⟨w.heap.size, 0, #[], rfl, Nat.le_refl _, h0, Nat.le_refl _, by simp [maxLen], rfl, rfl⟩⟩, fun j hj => by omega⟩, ⟨[], ⟨rfl, .inr ⟨w.heap.size + 1, 0, #[], rfl, by omega, h1, Nat.le_refl _, by simp [maxLen], rfl, rfl⟩⟩, fun j hj => by omega⟩, fun b h2 h3 => ?_⟩
  have e2 : w.heap.size = b := by simpa [Value.ownBlock] using h2
  have e3 : w.heap.size + 1 = b := by simpa [Value.ownBlock] using h3
  omega
/-- growing, in the midst -/
structure SG (w0 w2 wr : World) (lo h : Nat) (ρ : Gh) (ov wv : Value) (n : Nat) (X : Nat → V) (i : Nat) (oi wi : Value) : Prop where
  bk : Bk wr lo h ρ ov wv n X
  bel : Below w2.heap.size w2 wr
  gr : ∃ m L, Gr wr w2.heap.size oi wi m L ∧ m ≤ 200000 * i
theorem SG.step {w0 w2 wr X' : World} {lo h : Nat} {ρ : Gh} {ov wv : Value} {n : Nat} {X : Nat → V} {i m s : Nat} {oi wi o2 w2' : Value} {L : Nat → List V} (hS : SG w0 w2 wr lo h ρ ov wv n X i oi wi) (hG : Gr wr w2.heap.size oi wi m L) (hm : m ≤ 200000 * i) (hs : s ≤ 200000) (hk : Bk w2 lo h ρ ov wv n X) (hP : GrowP wr w2.heap.size oi wi m s o2 w2' X') : SG w0 w2 X' lo h ρ ov wv n X (i + 1) o2 w2' := by
  obtain ⟨m', L', a1, a2, a3⟩ := hP
  have hz := hS.bel.size
  have hz3 := a3.size
  have hbel : Below w2.heap.size w2 X' := ⟨a3.os.trans hS.bel.os, a3.tape.trans hS.bel.tape, a3.output.trans hS.bel.output, by omega, fun b hb => (a3.blk b (by omega) (fun e => by have := (hG.o.own.1 b e).1; omega) fun e => by have := (hG.w.own.1 b e).1; omega).trans (hS.bel.block b hb)⟩
  exact ⟨hk.next hbel, hbel, m', L', a1, by omega⟩
end Go.Proofs.Ytikijkpklneihaa
