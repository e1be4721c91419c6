import Derived.Test.YtikijkpklneihaaCVOn
import Derived.Laws.CopyRow
namespace Go.Proofs.Ytikijkpklneihaa
open Go.RowKit
set_option linter.unusedVariables false
set_option linter.unusedSimpArgs false

/-- copy, where an element has s cells -/
theorem run_copy_s {P : Program} (w : World) (dT sT ty elem : TypeId) (s : Nat) (g o dLen dCap : Nat) (a : Addr) (sLen sCap : Nat) (cur : Array Value) (t : TypeId) (cs : List Value)
    (hu : P.underlying dT = some (.slice elem)) (hs : (P.info? elem).map (·.size) = some s)
    (hg : w.heap[g]? = some (.cells cur t (0, 0))) (hn : cs.length = Nat.min sLen dLen * s)
    (hsrc : ∀ j v, cs[j]? = some v → w.cell? (a.add j) = some v) (hfit : o + cs.length ≤ cur.size) (h1 : ∀ v ∈ cs, v.oneCell' = true) :
    (Builtin.copy_ #[dT, sT] ty #[.slice (some ⟨g, o, none⟩) dLen dCap, .slice (some a) sLen sCap]).run P w =
      .ok (goInt (Nat.min sLen dLen)) (w.setRow g (cur.toList.take o ++ cs ++ cur.toList.drop (o + cs.length)).toArray) := by
  have hl := run_loadCells_list (P := P) w a cs hsrc
  have hst := run_storeCells_at P g o t cs 0 cur w hg (by simpa using hfit) h1
  cases hq : P.info? elem with
  | none => simp [hq] at hs
  | some i =>
    have hi : i.size = s := by simpa [hq] using hs
    simp [Builtin.copy_, run_underlying hu, Builtin.lenOf, Builtin.firstCells, sizeOf, typeInfo, hq, hi, ← hn, hl, hst]
/-- the cells of values that stand in a row -/
theorem AtVs.cells {W : World} {B b : Nat} {l : List V} : ∀ {off : Nat}, AtVs W B b off l → ∃ xs, RowV W B l xs ∧ ∀ j u, xs[j]? = some u → W.cell? ⟨b, off + j, none⟩ = some u := by
  induction l with
  | nil => intro off _; exact ⟨[], rfl, fun j u h => by simp at h⟩
  | cons v vs ih =>
    intro off h
    simp only [AtVs] at h
    have hv := atV_iff.1 h.1
    obtain ⟨xs, h1, h2⟩ := ih h.2
    obtain ⟨p, c, h3, h4⟩ := hv.c2
    refine ⟨_ :: _ :: _ :: xs, ⟨p, c, xs, rfl, h4, hv.k64, hv.n64, h1⟩, fun j u hj => ?_⟩
    match j with
    | 0 => simp at hj; subst hj; exact hv.c0
    | 1 => simp at hj; subst hj; exact hv.c1
    | 2 => simp at hj; subst hj; exact h3
    | j + 3 =>
      have := h2 j u (by simpa using hj)
      rw [show off + (j + 3) = off + 3 + j by omega]
      exact this
theorem RowV.one {W : World} {B : Nat} {l : List V} : ∀ {xs : List Value}, RowV W B l xs → ∀ u ∈ xs, u.oneCell' = true := by
  induction l with
  | nil => intro xs h u hu; simp [RowV] at h; subst h; simp at hu
  | cons v vs ih =>
    intro xs h u hu
    obtain ⟨p, c, ys, rfl, h1, h2, h3, h4⟩ := h
    simp only [List.mem_cons] at hu
    rcases hu with rfl | rfl | rfl | hu
    · rfl
    · rfl
    · rfl
    · exact ih h4 u hu
/-- what copied answers of a list that is not empty -/
def CyPost (w : World) (B : Nat) (l : List V) (e : Ending) (w' : World) : Prop := e = .returned (.slice (some ⟨w.heap.size, 0, none⟩) l.length l.length) ∧ (∃ xs, RowV w B l xs ∧ w'.heap[w.heap.size]? = some (.cells xs.toArray 24 (0, 0))) ∧ Below w.heap.size w w' ∧ w'.heap.size = w.heap.size + 1

set_option maxRecDepth 100000 in
set_option maxHeartbeats 2000000 in
theorem copied_some (w : World) (B : Nat) (p : Option Addr) (c : Nat) (l : List V) (h : SlV w B p c l) (hB : B ≤ w.heap.size) (h0 : 0 < l.length) (hl : l.length ≤ 1000000) : Calls Try.prog 36 #[.slice p l.length c] w (CyPost w B l) := by
  obtain ⟨hlc, hcm, hh⟩ := h
  obtain ⟨b, o, rfl, hb, hat⟩ : ∃ b o, p = some ⟨b, o, none⟩ ∧ b < B ∧ AtVs w B b o l := by
    rcases hh with rfl | hh
    · simp at h0
    · exact hh
  obtain ⟨i0, hi, iz0, iz1, iz2⟩ := info_parts infoVl
  obtain ⟨xs, hx1, hx2⟩ := hat.cells
  have hlen := hx1.len
  obtain ⟨W1, hW1⟩ : ∃ W1, w.alloc (.cells (zerosV l.length) 24) = W1 := ⟨_, rfl⟩
  have hb1 : Below w.heap.size w W1 := by rw [← hW1]; exact below1 _ _
  have hmk := make_vals w l.length (by omega)
  rw [hW1] at hmk
  have hg : W1.heap[w.heap.size]? = some (.cells (zerosV l.length) 24 (0, 0)) := by rw [← hW1]; exact World.alloc_heap_new _ _
  have hcp : ∀ ty, (Builtin.copy_ #[22, 22] ty #[.slice (some ⟨w.heap.size, 0, none⟩) l.length l.length, .slice (some ⟨b, o, none⟩) l.length c]).run Try.prog W1 = .ok (goInt l.length) (W1.setRow w.heap.size xs.toArray) := fun ty => by
    have := run_copy_s (P := Try.prog) W1 22 22 ty 24 3 w.heap.size 0 l.length l.length ⟨b, o, none⟩ l.length c (zerosV l.length) 24 xs Try.underlying22 (by rw [hi]; simp [iz1]) hg (by rw [hlen]; simp [Nat.min_def]) (fun j v hj => by
      have ha : (⟨b, o, none⟩ : Addr).add j = ⟨b, o + j, none⟩ := by unfold Addr.add; split <;> simp_all
      rw [ha, hb1.cell (p := ⟨b, o + j, none⟩) (by show b < _; omega)]
      exact hx2 j v hj) (by rw [zerosV_size]; omega) hx1.one
    rw [this]
    have e1 : Nat.min l.length l.length = l.length := Nat.min_self _
    have e2 : (zerosV l.length).toList.drop (0 + xs.length) = [] := List.drop_eq_nil_of_le (by rw [Array.length_toList, zerosV_size]; omega)
    rw [e1, e2]
    simp
  have HP : Bx (CyPost w B l (.returned (.slice (some ⟨w.heap.size, 0, none⟩) l.length l.length)) (W1.setRow w.heap.size xs.toArray)) := ⟨rfl, ⟨xs, hx1, setRow_heap W1 _ _ _ _ _ hg⟩, hb1.trans ⟨rfl, rfl, rfl, by simp [World.setRow], fun k hk => setRow_other W1 _ k _ (by omega)⟩, by rw [← hW1]; simp [World.setRow]⟩
  have hcp3 := hcp 3
  unfold maxLen at hcm
  have hz0 : ((l.length : Int) == 0) = false := by simp; intro e; subst e; simp at h0
  have hz1 : ¬ l = [] := by intro e; subst e; simp at h0
  clear hx1 hx2 hat hh hcp hg hb1 hW1 hlen hi
  go_enter Try.func36, Try.ntmps36
  go_wp2
  go_ret
  exact HP.out
end Go.Proofs.Ytikijkpklneihaa
