import Derived.Test.YtecpknpcjoiliabDoorCUPd
import Derived.Laws.CopyRow
import Derived.Laws.MakeOwn
import Derived.Laws.Tables
namespace Go.Proofs.YtecpknpcjoiliabDoor
open Go.RowKit Go.Shelf
set_option linter.unusedVariables false
set_option linter.unusedSimpArgs false

def pkF (p : Pk) (r : Nat) : Value := if r = 0 then .int .i64 p.kind else if r = 1 then .int .i64 p.n else .int .i64 p.v
theorem pkC_get : ∀ (L : List Pk) (j : Nat), (pkC L)[j]? = (L[j / 3]?).map fun p => pkF p (j % 3)
  | [], j => by simp [pkC]
  | p :: L, j => by
    have e : pkC (p :: L) = .int .i64 p.kind :: .int .i64 p.n :: .int .i64 p.v :: pkC L := by simp [pkC]
    rw [e]
    match j with
    | 0 => rfl
    | 1 => rfl
    | 2 => rfl
    | j + 3 =>
      have e1 : (j + 3) / 3 = j / 3 + 1 := by omega
      have e2 : (j + 3) % 3 = j % 3 := by omega
      rw [e1, e2]
      simp only [List.getElem?_cons_succ]
      exact pkC_get L j
theorem pkC_put (L : List Pk) (i : Nat) (a b c : Int) (h : i < L.length) : (((pkC L).set (i * 3) (.int .i64 a)).set (i * 3 + 1) (.int .i64 b)).set (i * 3 + 2) (.int .i64 c) = pkC (L.set i ⟨a, b, c⟩) := by
  have hl := pkC_len L
  apply List.ext_getElem?
  intro j
  rw [pkC_get (L.set i ⟨a, b, c⟩) j]
  simp only [List.getElem?_set, List.length_set, hl]
  by_cases hq : j / 3 = i
  · have hj : j = i * 3 ∨ j = i * 3 + 1 ∨ j = i * 3 + 2 := by omega
    have e0 : (if i = j / 3 then if i < L.length then some (⟨a, b, c⟩ : Pk) else none else L[j / 3]?) = some ⟨a, b, c⟩ := by rw [if_pos hq.symm, if_pos h]
    rw [e0]
    rcases hj with rfl | rfl | rfl
    · have e1 : i * 3 % 3 = 0 := by omega
      rw [if_neg (by omega), if_neg (by omega), if_pos rfl, if_pos (by omega), e1]
      rfl
    · have e1 : (i * 3 + 1) % 3 = 1 := by omega
      rw [if_neg (by omega), if_pos rfl, if_pos (by omega), e1]
      rfl
    · have e1 : (i * 3 + 2) % 3 = 2 := by omega
      rw [if_pos rfl, if_pos (by omega), e1]
      rfl
  · rw [if_neg (by omega), if_neg (by omega), if_neg (by omega), if_neg (fun e => hq e.symm)]
    exact pkC_get L j
theorem pkC_kind (L : List Pk) (i : Nat) (k : Int) (h : i < L.length) : (pkC L).set (i * 3) (.int .i64 k) = pkC (L.set i ⟨k, L[i].n, L[i].v⟩) := by
  rw [← pkC_put L i k L[i].n L[i].v h]
  have hl := pkC_len L
  apply List.ext_getElem?
  intro j
  simp only [List.getElem?_set, List.length_set, hl]
  by_cases h2 : i * 3 + 2 = j
  · subst h2
    have e1 : (i * 3 + 2) % 3 = 2 := by omega
    have e2 : (i * 3 + 2) / 3 = i := by omega
    rw [if_neg (by omega), if_pos rfl, if_pos (by omega), pkC_get, e1, e2, List.getElem?_eq_getElem h]
    rfl
  · by_cases h1 : i * 3 + 1 = j
    · subst h1
      have e1 : (i * 3 + 1) % 3 = 1 := by omega
      have e2 : (i * 3 + 1) / 3 = i := by omega
      rw [if_neg (by omega), if_neg (by omega), if_pos rfl, if_pos (by omega), pkC_get, e1, e2, List.getElem?_eq_getElem h]
      rfl
    · rw [if_neg h2, if_neg h1]
/-- picks in a block of one's own -/
def OW (w : World) (ob : Nat) (L : List Pk) : Prop := w.heap[ob]? = some (.cells (pkC L).toArray 39 (0, 0))
theorem OW.cell {w : World} {ob : Nat} {L : List Pk} (h : OW w ob L) {i : Nat} (hi : i < L.length) : w.cell? ⟨ob, i * 3, none⟩ = some (.int .i64 L[i].kind) ∧ w.cell? ⟨ob, i * 3 + 1, none⟩ = some (.int .i64 L[i].n) ∧ w.cell? ⟨ob, i * 3 + 2, none⟩ = some (.int .i64 L[i].v) := by
  obtain ⟨a, b, c⟩ := pkC_at L i hi
  exact ⟨cell_blk h (by simpa using a), cell_blk h (by simpa using b), cell_blk h (by simpa using c)⟩
theorem OW.frz {w : World} {ob : Nat} {L : List Pk} (h : OW w ob L) (i : Nat) : w.frozen? ⟨ob, i, none⟩ = false := frz_blk h
theorem OW.kind {w : World} {ob : Nat} {L : List Pk} (h : OW w ob L) {i : Nat} (hi : i < L.length) (k : Int) : OW (w.setCell ⟨ob, i * 3, none⟩ (.int .i64 k)) ob (L.set i ⟨k, L[i].n, L[i].v⟩) := by
  have := Lib.heap_setCell_same (i := i * 3) h (.int .i64 k)
  rw [List.setIfInBounds_toArray, pkC_kind L i k hi] at this
  exact this
theorem OW.put {w : World} {ob : Nat} {L : List Pk} (h : OW w ob L) {i : Nat} (hi : i < L.length) (a b c : Int) : OW (((w.setCell ⟨ob, i * 3, none⟩ (.int .i64 a)).setCell ⟨ob, i * 3 + 1, none⟩ (.int .i64 b)).setCell ⟨ob, i * 3 + 2, none⟩ (.int .i64 c)) ob (L.set i ⟨a, b, c⟩) := by
  have e1 := Lib.heap_setCell_same (i := i * 3) h (.int .i64 a)
  have e2 := Lib.heap_setCell_same (i := i * 3 + 1) e1 (.int .i64 b)
  have e3 := Lib.heap_setCell_same (i := i * 3 + 2) e2 (.int .i64 c)
  rw [List.setIfInBounds_toArray, List.setIfInBounds_toArray, List.setIfInBounds_toArray, pkC_put L i a b c hi] at e3
  exact e3
theorem OW.view {w : World} {ob : Nat} {L : List Pk} (h : OW w ob L) (n : Nat) (hm : L.length ≤ maxLen) : PkV w w.heap.size (some ⟨ob, 0, none⟩) (L.take n) := by
  refine ⟨by rw [List.length_take]; omega, fun h0 => ⟨ob, 0, rfl, heap_lt h, fun i hi => ?_⟩⟩
  have hi2 : i < L.length := by rw [List.length_take] at hi; omega
  obtain ⟨a, b, c⟩ := h.cell hi2
  have e : (L.take n)[i] = L[i] := by simp
  rw [e, Nat.zero_add]
  exact ⟨a, b, c⟩
theorem OW.kx {P : Nat → Prop} {w w' : World} {ob : Nat} {L : List Pk} (h : OW w ob L) (hk : Kx P w w') (hp : ¬ P ob) : OW w' ob L := hk.at_ h hp
theorem OW.below {w w' : World} {ob : Nat} {L : List Pk} (h : OW w ob L) (hb : Below w.heap.size w w') : OW w' ob L := below_heap hb h
def zP : Array Value := #[.int .i64 0, .int .i64 0, .int .i64 0]
theorem make_picks (w : World) (N : Nat) (hN : N ≤ 5864062014700) : (Instr.makeSlice 29 (.int .i64 N) (.int .i64 N)).run Tryd.prog w = .ok (.slice (some ⟨w.heap.size, 0, none⟩) N N) (w.alloc (.cells (madeCells zP (N * 3)) 39)) := by
  obtain ⟨i0, hi, hz0, hz1, hz2⟩ := info_parts infoPk
  have := run_make (P := Tryd.prog) w 29 39 i0 (.agg zP) Tryd.underlying29 hi hz0 .i64 .i64 (N : Int) (N : Int) (by omega) (by omega) (by rw [hz2]; omega) (by omega)
  rw [hz1] at this
  simpa [Value.cells] using this
/-- copy, where an element has s cells -/
theorem run_copy_s {P : Program} (w : World) (dT sT ty elem : TypeId) (s : Nat) (g o dLen dCap : Nat) (a : Addr) (sLen sCap : Nat) (cur : Array Value) (t : TypeId) (cs : List Value)
    (hu : P.underlying dT = some (.slice elem)) (hs : (P.info? elem).map (·.size) = some s)
    (hg : w.heap[g]? = some (.cells cur t (0, 0))) (hn : cs.length = Nat.min sLen dLen * s)
    (hsrc : ∀ j v, cs[j]? = some v → w.cell? (a.add j) = some v) (hfit : o + cs.length ≤ cur.size) (h1 : ∀ v ∈ cs, v.oneCell' = true) :
    (Builtin.copy_ #[dT, sT] ty #[.slice (some ⟨g, o, none⟩) dLen dCap, .slice (some a) sLen sCap]).run P w =
      .ok (goInt (Nat.min sLen dLen)) (w.setRow g (cur.toList.take o ++ cs ++ cur.toList.drop (o + cs.length)).toArray) := by
  have hl := run_loadCells_list (P := P) w a cs hsrc
  have hst := run_storeCells_at P g o t cs 0 cur w hg (by simpa using hfit) h1
  cases hq : P.info? elem with
  | none => simp [hq] at hs
  | some i =>
    have hi : i.size = s := by simpa [hq] using hs
    simp [Builtin.copy_, run_underlying hu, Builtin.lenOf, Builtin.firstCells, sizeOf, typeInfo, hq, hi, ← hn, hl, hst]
theorem run_copy_0 {P : Program} (w : World) (dT sT ty elem : TypeId) (g o dLen dCap : Nat) (p : Option Addr) (sCap : Nat) (i : TypeInfo) (hu : P.underlying dT = some (.slice elem)) (hi : P.info? elem = some i) :
    (Builtin.copy_ #[dT, sT] ty #[.slice (some ⟨g, o, none⟩) dLen dCap, .slice p 0 sCap]).run P w = .ok (goInt 0) w := by
  cases p with
  | none => simp [Builtin.copy_, run_underlying hu, Builtin.lenOf, Builtin.firstCells, sizeOf, typeInfo, hi, storeCells]
  | some a =>
    have hl := run_loadCells_list (P := P) w a [] (by simp)
    simp at hl
    simp [Builtin.copy_, run_underlying hu, Builtin.lenOf, Builtin.firstCells, sizeOf, typeInfo, hi, storeCells, hl]
theorem made_pk (n : Nat) : (madeCells zP (n * 3)).toList = pkC (List.replicate n ⟨0, 0, 0⟩) := by
  apply List.ext_getElem?
  intro j
  rw [pkC_get, List.getElem?_replicate, Array.getElem?_toList]
  unfold madeCells
  by_cases h : j < n * 3
  · have h2 : j / 3 < n := by omega
    have e : ((Array.range (n * 3)).map (zP[· % zP.size]!))[j]? = some (zP[j % 3]!) := by
      rw [Array.getElem?_map, Array.getElem?_eq_getElem (by simpa using h)]
      simp [zP]
    rw [e, if_pos h2]
    have h3 : j % 3 = 0 ∨ j % 3 = 1 ∨ j % 3 = 2 := by omega
    rcases h3 with h3 | h3 | h3 <;> rw [h3] <;> rfl
  · have h2 : ¬ j / 3 < n := by omega
    rw [if_neg h2, Array.getElem?_eq_none (by simpa using h)]
    rfl
theorem PkV.src {w : World} {B b o : Nat} {ps : List Pk} (h : ∀ i (h : i < ps.length), w.cell? ⟨b, o + i * 3, none⟩ = some (.int .i64 ps[i].kind) ∧ w.cell? ⟨b, o + i * 3 + 1, none⟩ = some (.int .i64 ps[i].n) ∧ w.cell? ⟨b, o + i * 3 + 2, none⟩ = some (.int .i64 ps[i].v)) : ∀ (j : Nat) (u : Value), (pkC ps)[j]? = some u → w.cell? ((⟨b, o, none⟩ : Addr).add j) = some u := fun j u hj => by
  have ha : (⟨b, o, none⟩ : Addr).add j = ⟨b, o + j, none⟩ := by unfold Addr.add; split <;> simp_all
  rw [ha]
  rw [pkC_get] at hj
  have hl : j / 3 < ps.length := by
    rcases Nat.lt_or_ge (j / 3) ps.length with h' | h'
    · exact h'
    · rw [List.getElem?_eq_none h'] at hj; cases hj
  rw [List.getElem?_eq_getElem hl] at hj
  obtain ⟨a, b', c⟩ := h (j / 3) hl
  have h3 : j % 3 = 0 ∨ j % 3 = 1 ∨ j % 3 = 2 := by omega
  have hd : j = j / 3 * 3 + j % 3 := by omega
  simp only [Option.map_some, Option.some.injEq] at hj
  rcases h3 with h3 | h3 | h3
  · rw [h3] at hj hd
    rw [hd, ← hj]
    exact a
  · rw [h3] at hj hd
    rw [hd, ← hj, ← Nat.add_assoc]
    exact b'
  · rw [h3] at hj hd
    rw [hd, ← hj, ← Nat.add_assoc]
    exact c
theorem pkC_one (ps : List Pk) : ∀ u ∈ pkC ps, u.oneCell' = true := fun u hu => by
  unfold pkC at hu
  rw [List.mem_flatMap] at hu
  obtain ⟨p, _, hu⟩ := hu
  simp only [List.mem_cons, List.not_mem_nil, or_false] at hu
  rcases hu with rfl | rfl | rfl <;> rfl
theorem pkC_app (a b : List Pk) : pkC (a ++ b) = pkC a ++ pkC b := by simp [pkC]
/-- copy of picks into a new row that has two places more -/
theorem copy_picks (W : World) (g : Nat) (p : Option Addr) (c : Nat) (ps : List Pk) (hp : PkV W W.heap.size p ps) (hg : W.heap[g]? = some (.cells (madeCells zP ((ps.length + 2) * 3)) 39 (0, 0))) :
    ∃ W', (∀ ty, (Builtin.copy_ #[29, 29] ty #[.slice (some ⟨g, 0, none⟩) (ps.length + 2) (ps.length + 2), .slice p ps.length c]).run Tryd.prog W = .ok (goInt ps.length) W') ∧ OW W' g (ps ++ [⟨0, 0, 0⟩, ⟨0, 0, 0⟩]) ∧ Kx (fun x => x = g) W W' ∧ W'.heap.size = W.heap.size := by
  obtain ⟨i0, hi, hz0, hz1, hz2⟩ := info_parts infoPk
  by_cases h0 : 0 < ps.length
  · obtain ⟨b, o, rfl, _, hc⟩ := hp.at_ h0
    have hmin : Nat.min ps.length (ps.length + 2) = ps.length := by simp [Nat.min_def]
    have hfull : (madeCells zP ((ps.length + 2) * 3)).toList = pkC (List.replicate ps.length ⟨0, 0, 0⟩) ++ pkC [⟨0, 0, 0⟩, ⟨0, 0, 0⟩] := by
      have e : List.replicate (ps.length + 2) (⟨0, 0, 0⟩ : Pk) = List.replicate ps.length ⟨0, 0, 0⟩ ++ [⟨0, 0, 0⟩, ⟨0, 0, 0⟩] := (List.replicate_append_replicate (n := ps.length) (m := 2) (a := (⟨0, 0, 0⟩ : Pk))).symm
      rw [made_pk, e, pkC_app]
    have hdrop : (madeCells zP ((ps.length + 2) * 3)).toList.drop (0 + (pkC ps).length) = pkC [⟨0, 0, 0⟩, ⟨0, 0, 0⟩] := by
      rw [hfull, Nat.zero_add]
      have e : (pkC ps).length = (pkC (List.replicate ps.length ⟨0, 0, 0⟩)).length := by rw [pkC_len, pkC_len]; simp
      rw [e, List.drop_left]
    have hrun := fun ty => run_copy_s (P := Tryd.prog) W 29 29 ty 39 3 g 0 (ps.length + 2) (ps.length + 2) ⟨b, o, none⟩ ps.length c (madeCells zP ((ps.length + 2) * 3)) 39 (pkC ps) Tryd.underlying29 (by rw [hi]; simp [hz1]) hg (by rw [hmin, pkC_len]) (PkV.src (B := 0) hc) (by rw [size_madeCells, pkC_len]; omega) (pkC_one ps)
    rw [hmin, hdrop] at hrun
    simp only [List.take_zero, List.nil_append] at hrun
    refine ⟨_, hrun, ?_, ?_, by simp [World.setRow]⟩
    · unfold OW
      rw [pkC_app]
      exact setRow_heap W g _ _ _ _ hg
    · exact ⟨⟨rfl, rfl, rfl, by simp [World.setRow], fun k hk => absurd hk (by omega)⟩, fun x hx hne => setRow_other W g x _ hne⟩
  · have e : ps = [] := List.eq_nil_of_length_eq_zero (by omega)
    subst e
    refine ⟨W, fun ty => run_copy_0 W 29 29 ty 39 g 0 2 2 p c i0 Tryd.underlying29 hi, ?_, Kx.refl _ _, rfl⟩
    have e : madeCells zP (2 * 3) = (pkC [⟨0, 0, 0⟩, ⟨0, 0, 0⟩]).toArray := by
      rw [← Array.toList_inj, made_pk]
      rfl
    have hg2 : W.heap[g]? = some (.cells (madeCells zP (2 * 3)) 39 (0, 0)) := hg
    rw [e] at hg2
    exact hg2
end Go.Proofs.YtecpknpcjoiliabDoor
