import Derived.Test.YteinpijbdgcehaaCOWc
import Derived.Laws.CopyRow
import Derived.Laws.MakeOwn
namespace Go.Proofs.Yteinpijbdgcehaa
open Go.RowKit Go.Shelf
set_option linter.unusedVariables false
set_option linter.unusedSimpArgs false

theorem infoA : (Try.prog.info? 43).map (fun i => (i.zero, i.size, i.bytes)) = some (some (.agg #[.int .i64 0, .bool false, .int .i64 0, .int .i64 0, .slice none 0 0]), 5, 56) := by kernel_rfl
theorem infoW : (Try.prog.info? 38).map (fun i => (i.zero, i.size, i.bytes)) = some (some (.agg #[.int .i64 0, .slice none 0 0]), 2, 32) := by kernel_rfl
theorem infoAs : (Try.prog.info? 36).map (fun i => (i.zero, i.size, i.bytes)) = some (some (.slice none 0 0), 1, 24) := by kernel_rfl
def zA : Array Value := #[.int .i64 0, .bool false, .int .i64 0, .int .i64 0, .slice none 0 0]
def zW : Array Value := #[.int .i64 0, .slice none 0 0]
theorem make_arms (w : World) (N : Nat) (hN : N ≤ 10000) : (Instr.makeSlice 36 (.int .i64 N) (.int .i64 N)).run Try.prog w = .ok (.slice (some ⟨w.heap.size, 0, none⟩) N N) (w.alloc (.cells (madeCells zA (N * 5)) 43)) := by
  obtain ⟨i0, hi, hz0, hz1, hz2⟩ := info_parts infoA
  have := run_make (P := Try.prog) w 36 43 i0 (.agg zA) Try.underlying36 hi hz0 .i64 .i64 (N : Int) (N : Int) (by omega) (by omega) (by rw [hz2]; omega) (by omega)
  rw [hz1] at this
  simpa [Value.cells] using this
theorem make_ws (w : World) (N : Nat) (hN : N ≤ 10000) : (Instr.makeSlice 22 (.int .i64 N) (.int .i64 N)).run Try.prog w = .ok (.slice (some ⟨w.heap.size, 0, none⟩) N N) (w.alloc (.cells (madeCells zW (N * 2)) 38)) := by
  obtain ⟨i0, hi, hz0, hz1, hz2⟩ := info_parts infoW
  have := run_make (P := Try.prog) w 22 38 i0 (.agg zW) Try.underlying22 hi hz0 .i64 .i64 (N : Int) (N : Int) (by omega) (by omega) (by rw [hz2]; omega) (by omega)
  rw [hz1] at this
  simpa [Value.cells] using this
/-- copy, where an element has s cells -/
theorem run_copy_s {P : Program} (w : World) (dT sT ty elem : TypeId) (s : Nat) (g o dLen dCap : Nat) (a : Addr) (sLen sCap : Nat) (cur : Array Value) (t : TypeId) (cs : List Value)
    (hu : P.underlying dT = some (.slice elem)) (hs : (P.info? elem).map (·.size) = some s)
    (hg : w.heap[g]? = some (.cells cur t (0, 0))) (hn : cs.length = Nat.min sLen dLen * s)
    (hsrc : ∀ j v, cs[j]? = some v → w.cell? (a.add j) = some v) (hfit : o + cs.length ≤ cur.size) (h1 : ∀ v ∈ cs, v.oneCell' = true) :
    (Builtin.copy_ #[dT, sT] ty #[.slice (some ⟨g, o, none⟩) dLen dCap, .slice (some a) sLen sCap]).run P w =
      .ok (goInt (Nat.min sLen dLen)) (w.setRow g (cur.toList.take o ++ cs ++ cur.toList.drop (o + cs.length)).toArray) := by
  have hl := run_loadCells_list (P := P) w a cs hsrc
  have hst := run_storeCells_at P g o t cs 0 cur w hg (by simpa using hfit) h1
  cases hq : P.info? elem with
  | none => simp [hq] at hs
  | some i =>
    have hi : i.size = s := by simpa [hq] using hs
    simp [Builtin.copy_, run_underlying hu, Builtin.lenOf, Builtin.firstCells, sizeOf, typeInfo, hq, hi, ← hn, hl, hst]
theorem run_copy_0 {P : Program} (w : World) (dT sT ty elem : TypeId) (g o dLen dCap : Nat) (p : Option Addr) (sCap : Nat) (i : TypeInfo) (hu : P.underlying dT = some (.slice elem)) (hi : P.info? elem = some i) :
    (Builtin.copy_ #[dT, sT] ty #[.slice (some ⟨g, o, none⟩) dLen dCap, .slice p 0 sCap]).run P w = .ok (goInt 0) w := by
  cases p with
  | none => simp [Builtin.copy_, run_underlying hu, Builtin.lenOf, Builtin.firstCells, sizeOf, typeInfo, hi, storeCells]
  | some a =>
    have hl := run_loadCells_list (P := P) w a [] (by simp)
    simp at hl
    simp [Builtin.copy_, run_underlying hu, Builtin.lenOf, Builtin.firstCells, sizeOf, typeInfo, hi, storeCells, hl]
/-! ### arms in a block of their own, with a mark behind them -/
def armC (a : OArm) : List Value := [.int .i64 a.chan, .bool a.send, .int .i64 a.x, .int .i64 a.y, .slice a.zp a.zn a.zc]
def armsC (l : List OArm) : List Value := l.flatMap armC
def mkA : List Value := [.int .i64 (-99), .bool false, .int .i64 0, .int .i64 0, .slice none 0 0]
theorem armsC_len (l : List OArm) : (armsC l).length = l.length * 5 := by
  induction l with
  | nil => rfl
  | cons x xs ih => simp only [armsC, List.flatMap_cons, List.length_append] at ih ⊢; rw [ih]; simp [armC]; omega
theorem armsC_at (l : List OArm) (i : Nat) (h : i < l.length) (k : Nat) (hk : k < 5) : (armsC l)[i * 5 + k]? = (armC l[i])[k]? := by
  have e : l = l.take i ++ l[i] :: l.drop (i + 1) := by rw [← List.drop_eq_getElem_cons h, List.take_append_drop]
  have e2 : armsC l = armsC (l.take i) ++ (armC l[i] ++ armsC (l.drop (i + 1))) := (congrArg armsC e).trans (by simp only [armsC, List.flatMap_append, List.flatMap_cons])
  have hl : (armsC (l.take i)).length = i * 5 := by rw [armsC_len]; simp; omega
  rw [e2, List.getElem?_append_right (by omega), hl, show i * 5 + k - i * 5 = k by omega, List.getElem?_append_left (by simp [armC]; omega)]
theorem armsC_one (l : List OArm) : ∀ v ∈ armsC l, v.oneCell' = true := fun v hv => by
  obtain ⟨a, _, h⟩ := List.mem_flatMap.1 hv
  simp [armC] at h
  rcases h with rfl | rfl | rfl | rfl | rfl <;> rfl
theorem zA_drop (n : Nat) : (madeCells zA ((n + 1) * 5)).toList.drop (n * 5) = zA.toList := by
  apply List.ext_getElem?
  intro j
  rw [List.getElem?_drop, Array.getElem?_toList]
  unfold madeCells
  by_cases h : j < 5
  · rw [Array.getElem?_map, Array.getElem?_range]
    rw [if_pos (by omega)]
    simp only [Option.map_some]
    have e : (n * 5 + j) % zA.size = j := by simp [zA]; omega
    rw [e]
    match j, h with
    | 0, _ => rfl
    | 1, _ => rfl
    | 2, _ => rfl
    | 3, _ => rfl
    | 4, _ => rfl
  · rw [Array.getElem?_eq_none (by simp; omega), List.getElem?_eq_none (by simp [zA]; omega)]
/-- copy of arms -/
theorem copy_arms (W : World) (Pr : Nat → Prop) (g : Nat) (p : Option Addr) (c : Nat) (l : List OArm) (hl : ArmsIn W Pr p c l) (hg : W.heap[g]? = some (.cells (madeCells zA ((l.length + 1) * 5)) 43 (0, 0))) :
    ∃ W2, (∀ ty, (Builtin.copy_ #[36, 36] ty #[.slice (some ⟨g, 0, none⟩) (l.length + 1) (l.length + 1), .slice p l.length c]).run Try.prog W = .ok (goInt l.length) W2) ∧ W2.heap[g]? = some (.cells (armsC l ++ zA.toList).toArray 43 (0, 0)) ∧ W.grownBy W2 (some g) ∧ W2.heap.size = W.heap.size := by
  obtain ⟨i0, hi, hz0, hz1, hz2⟩ := info_parts infoA
  by_cases h0 : l.length = 0
  · refine ⟨W, fun ty => ?_, ?_, ⟨rfl, rfl, rfl, Nat.le_refl _, fun _ _ _ => rfl⟩, rfl⟩
    · rw [h0]; exact run_copy_0 W _ _ ty 43 g 0 _ _ p c i0 Try.underlying36 hi
    · obtain rfl : l = [] := List.eq_nil_of_length_eq_zero h0
      rw [hg, show armsC [] ++ zA.toList = (madeCells zA ((0 + 1) * 5)).toList.drop (0 * 5) from (zA_drop 0).symm]
      simp
  · obtain ⟨b, o, rfl, hb, _⟩ := hl.at_ 0 (by omega)
    have hm : Nat.min l.length (l.length + 1) = l.length := Nat.min_eq_left (by omega)
    have hsrc : ∀ j v, (armsC l)[j]? = some v → W.cell? ((⟨b, o, none⟩ : Addr).add j) = some v := fun j v hj => by
      have hjl : j < l.length * 5 := by rw [← armsC_len]; exact (List.getElem?_eq_some_iff.1 hj).1
      have e1 : j = j / 5 * 5 + j % 5 := by omega
      obtain ⟨b', o', e, _, ha⟩ := hl.at_ (j / 5) (by omega)
      cases e
      have e2 : (⟨b, o, none⟩ : Addr).add j = ⟨b, o + j, none⟩ := by
        cases j with
        | zero => simp [Addr.add]
        | succ j => simp [Addr.add]
      rw [e2]
      rw [e1, armsC_at l (j / 5) (by omega) (j % 5) (by omega)] at hj
      rw [show o + j = o + j / 5 * 5 + j % 5 by omega]
      have h5 : j % 5 < 5 := by omega
      generalize j % 5 = k at *
      match k, h5 with
      | 0, _ => simp [armC] at hj; rw [← hj]; exact ha.c0
      | 1, _ => simp [armC] at hj; rw [← hj]; exact ha.c1
      | 2, _ => simp [armC] at hj; rw [← hj]; exact ha.c2
      | 3, _ => simp [armC] at hj; rw [← hj]; exact ha.c3
      | 4, _ => simp [armC] at hj; rw [← hj]; exact ha.c4
    have hrun := fun ty => run_copy_s (P := Try.prog) W 36 36 ty 43 5 g 0 (l.length + 1) (l.length + 1) ⟨b, o, none⟩ l.length c (madeCells zA ((l.length + 1) * 5)) 43 (armsC l) Try.underlying36 (by rw [hi]; simp [hz1]) hg (by rw [hm, armsC_len]) hsrc (by rw [size_madeCells, armsC_len]; omega) (armsC_one l)
    simp only [hm] at hrun
    have hgl := (Array.getElem?_eq_some_iff.1 hg).1
    refine ⟨_, hrun, ?_, ?_, ?_⟩
    · rw [armsC_len, Nat.zero_add, zA_drop]
      simp only [List.take_zero, List.nil_append]
      simp [World.setRow, Array.getElem?_modify, hg]
    · exact ⟨rfl, rfl, rfl, by simp [World.setRow], fun k hk hne => by
        have : g ≠ k := fun e => hne (by rw [e])
        simp [World.setRow, Array.getElem?_modify, this]⟩
    · simp [World.setRow]
/-- a list lent: what all, arms hold; f: the arms as they are now -/
structure Ln (W : World) (ab : Nat) (B : Nat → Nat) (l : List OWt) (f : Nat → List OArm) (i : Nat) : Prop where
  us : ∃ us, W.heap[ab]? = some (.cells us 38 (0, 0)) ∧ us.size = (l.length + 1) * 2 ∧ ∀ j (h : j < l.length), j < i → us[j * 2]? = some (.int .i64 l[j].id) ∧ us[j * 2 + 1]? = some (.slice (some ⟨B j, 0, none⟩) (f j).length ((f j).length + 1))
  vs : ∀ j, j < i → W.heap[B j]? = some (.cells (armsC (f j) ++ mkA).toArray 43 (0, 0))
  lo : ∀ j, j < i → ab < B j
  ne : ∀ j j', j < i → j' < i → j ≠ j' → B j ≠ B j'
  ln : ∀ j (h : j < l.length), (f j).length = l[j].arms.length
def rowC (B : Nat → Nat) (f : Nat → List OArm) (i : Nat) : List Value := (List.range i).map fun j => .slice (some ⟨B j, 0, none⟩) ((f j).length + 1) ((f j).length + 1)
theorem Ln.keep {W W' : World} {ab : Nat} {B : Nat → Nat} {l : List OWt} {f : Nat → List OArm} {i : Nat} (h : Ln W ab B l f i) (hk : ∀ b o, (b = ab ∨ ∃ j, j < i ∧ b = B j) → W.heap[b]? = some o → W'.heap[b]? = some o) : Ln W' ab B l f i := by
  obtain ⟨us, h1, h2, h3⟩ := h.us
  exact ⟨⟨us, hk _ _ (.inl rfl) h1, h2, h3⟩, fun j hj => hk _ _ (.inr ⟨j, hj, rfl⟩) (h.vs j hj), h.lo, h.ne, h.ln⟩
theorem Ln.low {W : World} {ab : Nat} {B : Nat → Nat} {l : List OWt} {f : Nat → List OArm} {i : Nat} (h : Ln W ab B l f i) {b : Nat} (hb : b = ab ∨ ∃ j, j < i ∧ b = B j) : ab ≤ b := by
  rcases hb with rfl | ⟨j, hj, rfl⟩
  · exact Nat.le_refl _
  · exact Nat.le_of_lt (h.lo j hj)
/-- a waiter more is in its place -/
theorem Ln.step {W0 X : World} {ab Bi : Nat} {B : Nat → Nat} {l : List OWt} {f : Nat → List OArm} {i : Nat} (hi : i < l.length) (h : Ln X ab B l f i) (hf : f i = l[i].arms) (hBi : X.heap[Bi]? = some (.cells (armsC l[i].arms ++ mkA).toArray 43 (0, 0))) (hlo : ab < Bi) (hnew : ∀ j, j < i → B j ≠ Bi) :
    Ln ((X.setCell ⟨ab, i * 2, none⟩ (.int .i64 l[i].id)).setCell ⟨ab, i * 2 + 1, none⟩ (.slice (some ⟨Bi, 0, none⟩) l[i].arms.length (l[i].arms.length + 1))) ab (fun j => if j = i then Bi else B j) l f (i + 1) := by
  obtain ⟨us, h1, h2, h3⟩ := h.us
  have hoth : ∀ b, b ≠ ab → ((X.setCell ⟨ab, i * 2, none⟩ (.int .i64 l[i].id)).setCell ⟨ab, i * 2 + 1, none⟩ (.slice (some ⟨Bi, 0, none⟩) l[i].arms.length (l[i].arms.length + 1))).heap[b]? = X.heap[b]? := fun b hb => by
    rw [Below.heap_setCell _ _ _ _ hb, Below.heap_setCell _ _ _ _ hb]
  refine ⟨⟨_, blk_set (blk_set h1 _ _) _ _, by simpa using h2, fun j hj hji => ?_⟩, fun j hj => ?_, fun j hj => ?_, fun j j' hj hj' hne => ?_, h.ln⟩
  · by_cases e : j = i
    · subst e
      rw [if_pos rfl, hf]
      constructor
      · rw [Array.getElem?_setIfInBounds, if_neg (by omega), Array.getElem?_setIfInBounds, if_pos rfl, if_pos (by omega)]
      · rw [Array.getElem?_setIfInBounds, if_pos rfl, if_pos (by simp; omega)]
    · rw [if_neg e]
      have := h3 j hj (by omega)
      constructor
      · rw [Array.getElem?_setIfInBounds, if_neg (by omega), Array.getElem?_setIfInBounds, if_neg (by omega)]; exact this.1
      · rw [Array.getElem?_setIfInBounds, if_neg (by omega), Array.getElem?_setIfInBounds, if_neg (by omega)]; exact this.2
  · by_cases e : j = i
    · subst e
      rw [if_pos rfl, hf, hoth _ (by omega)]
      exact hBi
    · rw [if_neg e, hoth _ (by have := h.lo j (by omega); omega)]
      exact h.vs j (by omega)
  · by_cases e : j = i
    · rw [if_pos e]; exact hlo
    · rw [if_neg e]; exact h.lo j (by omega)
  · by_cases e : j = i
    · rw [if_pos e, if_neg (by omega)]; exact fun e2 => hnew j' (by omega) e2.symm
    · rw [if_neg e]
      by_cases e' : j' = i
      · rw [if_pos e']; exact hnew j (by omega)
      · rw [if_neg e']; exact h.ne j j' (by omega) (by omega) hne
theorem rowC_congr {B B' : Nat → Nat} {f : Nat → List OArm} {i : Nat} (h : ∀ j, j < i → B j = B' j) : rowC B f i = rowC B' f i := by
  unfold rowC
  exact List.map_congr_left (fun j hj => by rw [h j (List.mem_range.1 hj)])
theorem rowC_succ (B : Nat → Nat) (f : Nat → List OArm) (i : Nat) : rowC B f (i + 1) = rowC B f i ++ [.slice (some ⟨B i, 0, none⟩) ((f i).length + 1) ((f i).length + 1)] := by
  unfold rowC
  rw [List.range_succ, List.map_append]
  rfl
end Go.Proofs.Yteinpijbdgcehaa
