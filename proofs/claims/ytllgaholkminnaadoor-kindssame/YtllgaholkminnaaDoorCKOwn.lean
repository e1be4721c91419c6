import Derived.Test.YtllgaholkminnaaDoorCKRow
import Derived.Laws.CopyRow
import Derived.Laws.IdiomCopy
import Derived.Test.YtllgaholkminnaaDoorCKBey
import Derived.Test.YtllgaholkminnaaDoorCKSame
namespace Go.Proofs.YtllgaholkminnaaDoor
open Go.RowKit
set_option linter.unusedVariables false
set_option linter.unusedSimpArgs false

/-- a row of numbers with something behind it -/
def copC (ks : List Int) : Array Value := ((ks.map fun x => Value.int .i64 x) ++ [Value.int .i64 (-99)]).toArray
theorem addr_add (b off i : Nat) : (⟨b, off, none⟩ : Addr).add i = ⟨b, off + i, none⟩ := by
  unfold Addr.add; split <;> simp_all
theorem ints_one (ks : List Int) : ∀ u ∈ ks.map fun x => Value.int .i64 x, u.oneCell' = true := by
  intro u hu
  rw [List.mem_map] at hu
  obtain ⟨x, _, rfl⟩ := hu
  rfl
/-- the copy of a row of numbers into one that was made -/
theorem copy_ints_run (W : World) (H B : Nat) (a : Option Addr) (cap : Nat) (ks : List Int) (ty : TypeId) (hi : IntsV W B (.slice a ks.length cap) ks) (hg : W.heap[H]? = some (.cells (zeros (ks.length + 1)) 3 (0, 0))) :
    ∃ W', (Builtin.copy_ #[24, 24] ty #[.slice (some ⟨H, 0, none⟩) (ks.length + 1) (ks.length + 1), .slice a ks.length cap]).run Tryd.prog W = .ok (.int .i64 (ks.length : Nat)) W' ∧ W'.heap[H]? = some (.cells ((ks.map fun x => Value.int .i64 x) ++ [Value.int .i64 0]).toArray 3 (0, 0)) ∧ Only H W W' := by
  obtain ⟨a', cap', he, h1, h2, h3⟩ := hi.ex
  simp only [Value.slice.injEq, true_and] at he
  obtain ⟨rfl, rfl⟩ := he
  have hzl : (zeros (ks.length + 1)).size = ks.length + 1 := by simp [zeros, madeCells]
  have hzd : (zeros (ks.length + 1)).toList.drop ks.length = [.int .i64 0] := by
    apply List.ext_getElem?
    intro i
    rw [List.getElem?_drop, Array.getElem?_toList]
    match i with
    | 0 => simp [zeros, madeCells, Nat.mod_one]
    | i + 1 => simp [zeros, madeCells]
  by_cases h0 : 0 < ks.length
  · obtain ⟨b, o, rfl, hb, hc⟩ := h3 h0
    have hr := run_copy_row (P := Tryd.prog) W 24 24 ty 3 H 0 (ks.length + 1) (ks.length + 1) ⟨b, o, none⟩ ks.length cap _ 3 (ks.map fun x => Value.int .i64 x) Tryd.underlying24 (by kernel_rfl) hg (by rw [List.length_map]; exact (Nat.min_eq_left (by omega)).symm) (by
      intro j u hu
      have hj : j < ks.length := by
        rcases Nat.lt_or_ge j ks.length with e | e
        · exact e
        · rw [List.getElem?_eq_none (by rw [List.length_map]; exact e)] at hu; cases hu
      rw [addr_add, hc j hj]
      simpa [hj] using hu) (by rw [List.length_map, hzl]; omega) (ints_one ks)
    rw [List.length_map] at hr
    refine ⟨_, hr, ?_, ⟨by simp [World.setRow], fun x hx => setRow_other W H x _ hx, fun B w0 hB hb => ?_⟩⟩
    · rw [setRow_heap W H _ _ 3 _ hg, Nat.zero_add, hzd]
      simp
    · exact hb.trans ⟨rfl, rfl, rfl, by simp [World.setRow], fun k hk => setRow_other W H k _ (by omega)⟩
  · have hx : ks = [] := List.eq_nil_of_length_eq_zero (by omega)
    subst hx
    have hr := run_copy_none (P := Tryd.prog) W 24 24 ty 3 (some ⟨H, 0, none⟩) a (0 + 1) (0 + 1) 0 cap Tryd.underlying24 (by kernel_rfl) rfl
    refine ⟨W, hr, ?_, Only.refl _ _⟩
    have e : zeros (([] : List Int).length + 1) = #[Value.int .i64 0] := Array.toList_inj.1 (by simpa using hzd)
    rw [hg, e]
    rfl
set_option maxRecDepth 100000 in
set_option maxHeartbeats 2000000 in
/-- **copied** -/
theorem copied_any (w : World) (B : Nat) (a : Option Addr) (cap : Nat) (ks : List Int) (hi : IntsV w B (.slice a ks.length cap) ks) (hB : B ≤ w.heap.size) (hl : ks.length ≤ 2147483646) :
    Calls Tryd.prog 19 #[.slice a ks.length cap] w fun e w' => e = .returned (.slice (some ⟨w.heap.size, 0, none⟩) ks.length (ks.length + 1)) ∧ w'.heap[w.heap.size]? = some (.cells (copC ks) 3 (0, 0)) ∧ Below w.heap.size w w' := by
  have hmk := make_ints w (ks.length + 1) (by omega)
  simp only [Int.natCast_add, Int.cast_ofNat_Int] at hmk
  obtain ⟨W', hr, hh, ho⟩ := copy_ints_run (w.alloc (.cells (zeros (ks.length + 1)) 3)) w.heap.size B a cap ks 3 (hi.below ((below1 w _).mono hB)) (heap_alloc_new w _)
  have hrr : ∀ ty, (Builtin.copy_ #[24, 24] ty #[.slice (some ⟨w.heap.size, 0, none⟩) (ks.length + 1) (ks.length + 1), .slice a ks.length cap]).run Tryd.prog (w.alloc (.cells (zeros (ks.length + 1)) 3)) = .ok (.int .i64 (ks.length : Nat)) W' := fun ty => hr
  have hc : W'.cell? ⟨w.heap.size, ks.length, none⟩ = some (.int .i64 0) := by
    rw [cell_of_row W' w.heap.size ks.length _ _ (0, 0) hh]
    simp
  have hf : W'.frozen? ⟨w.heap.size, ks.length, none⟩ = false := by simp [World.frozen?, hh]
  have hlt : w.heap.size < W'.heap.size := (Array.getElem?_eq_some_iff.1 hh).1
  have hE1 : (W'.setCell ⟨w.heap.size, ks.length, none⟩ (.int .i64 (-99))).heap[w.heap.size]? = some (.cells (copC ks) 3 (0, 0)) := by
    rw [heap_setCell_same W' w.heap.size ks.length _ _ _ hh]
    have e : (((ks.map fun x => Value.int .i64 x) ++ [Value.int .i64 0]).toArray).setIfInBounds ks.length (.int .i64 (-99)) = copC ks := by
      unfold copC
      rw [List.setIfInBounds_toArray]
      congr 1
      rw [List.set_append_right _ _ (by simp)]
      simp
    rw [e]
  have HE : Bx ((W'.setCell ⟨w.heap.size, ks.length, none⟩ (.int .i64 (-99))).heap[w.heap.size]? = some (.cells (copC ks) 3 (0, 0)) ∧ Below w.heap.size w (W'.setCell ⟨w.heap.size, ks.length, none⟩ (.int .i64 (-99)))) := ⟨hE1, Below.setCell (p := ⟨w.heap.size, ks.length, none⟩) (ho.bel _ _ (Nat.le_refl _) (below1 w _)) (Nat.le_refl _) _⟩
  clear hE1
  clear hi hh ho hr
  go_enter Tryd.func19, Tryd.ntmps19
  go_wp2
  go_ret
  exact ⟨rfl, HE.out.1, HE.out.2⟩

def zerosT (N : Nat) : Array Value := madeCells zeroTy.cells (N * 3)
theorem make_types (w : World) (N : Nat) (hN : N ≤ 2147483648) : (Instr.makeSlice 22 (.int .i64 N) (.int .i64 N)).run Tryd.prog w = .ok (.slice (some ⟨w.heap.size, 0, none⟩) N N) (w.alloc (.cells (zerosT N) 32)) := by
  obtain ⟨i0, hi, hz0, hz1, hz2⟩ := info_parts infoTy
  have := run_make (P := Tryd.prog) w 22 32 i0 zeroTy Tryd.underlying22 hi hz0 .i64 .i64 (N : Int) (N : Int) (by omega) (by omega) (by rw [hz2]; omega) (by omega)
  rw [hz1] at this
  simpa [zerosT] using this
theorem zerosT_size (N : Nat) : (zerosT N).size = N * 3 := by simp [zerosT, madeCells]
/-- copy, of elements of three cells -/
theorem copy3_run {P : Program} (w : World) (dT sT ty elem : TypeId) (g dLen dCap : Nat) (a : Addr) (sLen sCap : Nat) (cur : Array Value) (t : TypeId) (cs : List Value)
    (hu : P.underlying dT = some (.slice elem)) (hs : (P.info? elem).map (·.size) = some 3)
    (hg : w.heap[g]? = some (.cells cur t (0, 0))) (hm : sLen ≤ dLen) (hn : cs.length = sLen * 3)
    (hsrc : ∀ j v, cs[j]? = some v → w.cell? (a.add j) = some v) (hfit : cs.length ≤ cur.size) (h1 : ∀ v ∈ cs, v.oneCell' = true) :
    (Builtin.copy_ #[dT, sT] ty #[.slice (some ⟨g, 0, none⟩) dLen dCap, .slice (some a) sLen sCap]).run P w =
      .ok (goInt sLen) (w.setRow g (cs ++ cur.toList.drop cs.length).toArray) := by
  have hl := run_loadCells_list (P := P) w a cs hsrc
  have hst := run_storeCells_at P g 0 t cs 0 cur w hg (by simpa using hfit) h1
  have hmin : Nat.min sLen dLen = sLen := Nat.min_eq_left hm
  cases hq : P.info? elem with
  | none => simp [hq] at hs
  | some i =>
    have hi : i.size = 3 := by simpa [hq] using hs
    rw [hn] at hl
    simp [Builtin.copy_, run_underlying hu, Builtin.lenOf, Builtin.firstCells, sizeOf, typeInfo, hq, hi, hmin, hl, hst]
def rowF (w : World) (nb no i : Nat) : Value := (w.cell? ⟨nb, no + i, none⟩).getD undef
theorem row_cells {w : World} {B nb no nc : Nat} {t : List Ty} (hn : Types w B nb no nc t) (i : Nat) (hi : i < t.length * 3) : w.cell? ⟨nb, no + i, none⟩ = some (rowF w nb no i) ∧ (rowF w nb no i).oneCell' = true := by
  obtain ⟨ka, kc, hX⟩ := hn.at_ (i / 3) (by omega)
  have hm : i % 3 < 3 := Nat.mod_lt _ (by omega)
  have key : ∀ v : Value, v.oneCell' = true → w.cell? ⟨nb, no + i, none⟩ = some v → w.cell? ⟨nb, no + i, none⟩ = some (rowF w nb no i) ∧ (rowF w nb no i).oneCell' = true := fun v h1 h2 => by
    unfold rowF
    rw [h2]
    exact ⟨rfl, h1⟩
  rcases (by omega : i % 3 = 0 ∨ i % 3 = 1 ∨ i % 3 = 2) with e | e | e
  · exact key _ rfl (by rw [show no + i = no + i / 3 * 3 by omega]; exact hX.c0)
  · exact key _ rfl (by rw [show no + i = no + i / 3 * 3 + 1 by omega]; exact hX.c1)
  · exact key _ rfl (by rw [show no + i = no + i / 3 * 3 + 2 by omega]; exact hX.c2)
/-- in the midst of ownRows -/
structure OwS (w wr : World) (k : Nat) (t : List Ty) : Prop where
  bel : Below w.heap.size w wr
  ex : ∃ C : Array Value, wr.heap[w.heap.size]? = some (.cells C 32 (0, 0)) ∧ C.size = (t.length + 1) * 3 ∧ (∀ j, j < t.length → C[j * 3]? = some (.int .i64 (tyN t j).kind) ∧ C[j * 3 + 2]? = some (.bool (tyN t j).res)) ∧ ∀ j, j < k → ∃ g, C[j * 3 + 1]? = some (.slice (some ⟨g, 0, none⟩) (tyN t j).kids.length ((tyN t j).kids.length + 1)) ∧ wr.heap[g]? = some (.cells (copC (tyN t j).kids) 3 (0, 0)) ∧ w.heap.size < g
theorem ows_start {w : World} {B nb no nc : Nat} {t : List Ty} (hn : Types w B nb no nc t) (ty : TypeId) :
    ∃ W', (Builtin.copy_ #[22, 22] ty #[.slice (some ⟨w.heap.size, 0, none⟩) (t.length + 1) (t.length + 1), .slice (some ⟨nb, no, none⟩) t.length nc]).run Tryd.prog (w.alloc (.cells (zerosT (t.length + 1)) 32)) = .ok (.int .i64 (t.length : Nat)) W' ∧ OwS w W' 0 t := by
  have hnl : nb < w.heap.size := Nat.lt_of_lt_of_le hn.lo hn.hi
  have hcl : ∀ i, i < t.length * 3 → (w.alloc (.cells (zerosT (t.length + 1)) 32)).cell? ⟨nb, no + i, none⟩ = some (rowF w nb no i) := fun i hi => by
    rw [(below1 w _).cell (p := ⟨nb, no + i, none⟩) hnl]
    exact (row_cells hn i hi).1
  have hcs : ((List.range (t.length * 3)).map (rowF w nb no)).length = t.length * 3 := by simp
  have hr := copy3_run (P := Tryd.prog) (w.alloc (.cells (zerosT (t.length + 1)) 32)) 22 22 ty 32 w.heap.size (t.length + 1) (t.length + 1) ⟨nb, no, none⟩ t.length nc _ 32 ((List.range (t.length * 3)).map (rowF w nb no)) Tryd.underlying22 (by kernel_rfl) (heap_alloc_new w _) (by omega) hcs (by
    intro j v hj
    have hjl : j < t.length * 3 := by
      rcases Nat.lt_or_ge j (t.length * 3) with e | e
      · exact e
      · rw [List.getElem?_eq_none (by rw [hcs]; exact e)] at hj; cases hj
    rw [addr_add, hcl j hjl]
    simpa [hjl] using hj) (by rw [hcs, zerosT_size]; omega) (by
    intro v hv
    rw [List.mem_map] at hv
    obtain ⟨i, hi, rfl⟩ := hv
    rw [List.mem_range] at hi
    exact (row_cells hn i hi).2)
  refine ⟨_, hr, ⟨(below1 w _).trans ⟨rfl, rfl, rfl, by simp [World.setRow], fun k hk => setRow_other _ _ k _ (by omega)⟩, ⟨_, setRow_heap _ w.heap.size _ _ 32 _ (heap_alloc_new w _), ?_, fun j hj => ?_, fun j hj => absurd hj (by omega)⟩⟩⟩
  · simp [zerosT_size]; omega
  · obtain ⟨ka, kc, hX⟩ := hn.at_ j hj
    have at_ : ∀ i, i < t.length * 3 → ((List.range (t.length * 3)).map (rowF w nb no) ++ (zerosT (t.length + 1)).toList.drop ((List.range (t.length * 3)).map (rowF w nb no)).length).toArray[i]? = w.cell? ⟨nb, no + i, none⟩ := fun i hi => by
      rw [(row_cells hn i hi).1]
      simp [List.getElem?_append, hi]
    exact ⟨by rw [at_ _ (by omega), ← hX.c0], by rw [at_ _ (by omega), ← hX.c2]; rfl⟩
theorem OwS.put {w wr w5 : World} {k : Nat} {t : List Ty} (h : OwS w wr k t) (hk : k < t.length) (hb : Below wr.heap.size wr w5) (hc : w5.heap[wr.heap.size]? = some (.cells (copC (tyN t k).kids) 3 (0, 0))) : OwS w (w5.setCell ⟨w.heap.size, k * 3 + 1, none⟩ (.slice (some ⟨wr.heap.size, 0, none⟩) (tyN t k).kids.length ((tyN t k).kids.length + 1))) (k + 1) t := by
  obtain ⟨C, c1, c2, c3, c4⟩ := h.ex
  have hlt : w.heap.size < wr.heap.size := (Array.getElem?_eq_some_iff.1 c1).1
  have hs := h.bel.size
  have c1' : w5.heap[w.heap.size]? = some (.cells C 32 (0, 0)) := by rw [hb.block _ hlt]; exact c1
  refine ⟨Below.setCell (p := ⟨w.heap.size, k * 3 + 1, none⟩) (h.bel.trans (hb.mono hs)) (Nat.le_refl _) _, ⟨_, heap_setCell_same w5 w.heap.size (k * 3 + 1) _ _ _ c1', by simpa using c2, fun j hj => ?_, fun j hj => ?_⟩⟩
  · rw [Array.getElem?_setIfInBounds, Array.getElem?_setIfInBounds, if_neg (by omega), if_neg (by omega)]
    exact c3 j hj
  · by_cases e : j < k
    · obtain ⟨g, g1, g2, g3⟩ := c4 j e
      refine ⟨g, by rw [Array.getElem?_setIfInBounds, if_neg (by omega)]; exact g1, ?_, g3⟩
      rw [heap_setCell_other _ _ g _ (by show g ≠ w.heap.size; omega), hb.block g (Array.getElem?_eq_some_iff.1 g2).1]
      exact g2
    · have : j = k := by omega
      subst this
      refine ⟨wr.heap.size, by rw [Array.getElem?_setIfInBounds, if_pos rfl, if_pos (by omega)], ?_, hlt⟩
      rw [heap_setCell_other _ _ wr.heap.size _ (by show wr.heap.size ≠ w.heap.size; omega)]
      exact hc
theorem OwS.types {w wr : World} {B nb no nc : Nat} {t : List Ty} (h : OwS w wr t.length t) (hn : Types w B nb no nc t) (v : Value) : Types (wr.setCell ⟨w.heap.size, t.length * 3, none⟩ v) wr.heap.size w.heap.size 0 (t.length + 1) t ∧ Below w.heap.size w (wr.setCell ⟨w.heap.size, t.length * 3, none⟩ v) := by
  obtain ⟨C, c1, c2, c3, c4⟩ := h.ex
  have hlt : w.heap.size < wr.heap.size := (Array.getElem?_eq_some_iff.1 c1).1
  have ho := Only.set w.heap.size wr (t.length * 3) v
  have hcell : ∀ i, i < t.length * 3 → (wr.setCell ⟨w.heap.size, t.length * 3, none⟩ v).cell? ⟨w.heap.size, i, none⟩ = C[i]? := fun i hi => by
    rw [cell_of_row _ w.heap.size i _ _ (0, 0) (heap_setCell_same wr w.heap.size (t.length * 3) _ _ _ c1), Array.getElem?_setIfInBounds, if_neg (by omega)]
  refine ⟨⟨fun j hj => ?_, hn.wf, hlt, by rw [ho.size]; exact Nat.le_refl _, hn.max, by omega⟩, Below.setCell (p := ⟨w.heap.size, t.length * 3, none⟩) h.bel (Nat.le_refl _) _⟩
  obtain ⟨g, g1, g2, g3⟩ := c4 j hj
  obtain ⟨d1, d2⟩ := c3 j hj
  have hm : (tyN t j).kids.length ≤ maxLen := by
    obtain ⟨_, _, hX⟩ := hn.at_ j hj
    obtain ⟨_, _, _, _, h2, _⟩ := hX.kids.ex
    exact h2
  refine ⟨some ⟨g, 0, none⟩, (tyN t j).kids.length + 1, ?_, ?_, ?_, ⟨_, _, rfl, by omega, hm, fun _ => ⟨g, 0, rfl, (Array.getElem?_eq_some_iff.1 g2).1, fun i hi => ?_⟩⟩⟩
  · rw [Nat.zero_add, hcell _ (by omega)]; exact d1
  · rw [Nat.zero_add, hcell _ (by omega)]; exact g1
  · rw [Nat.zero_add, hcell _ (by omega)]; exact d2
  · rw [Nat.zero_add, cell_of_row _ g i _ _ (0, 0) (by rw [ho.block g (by omega)]; exact g2)]
    simp [copC, List.getElem?_append, hi]
end Go.Proofs.YtllgaholkminnaaDoor
namespace Go.Proofs.YtllgaholkminnaaDoor
open Go.RowKit
set_option linter.unusedVariables false
set_option linter.unusedSimpArgs false

theorem IntsV.mono {w : World} {B B' : Nat} {v : Value} {ks : List Int} (h : IntsV w B v ks) (hB : B ≤ B') : IntsV w B' v ks := by
  obtain ⟨a, cap, e, h1, h2, h3⟩ := h.ex
  refine ⟨a, cap, e, h1, h2, fun h0 => ?_⟩
  obtain ⟨b, o, e2, hb, hc⟩ := h3 h0
  exact ⟨b, o, e2, by omega, hc⟩
theorem Types.mono {w : World} {B B' nb no nc : Nat} {t : List Ty} (h : Types w B nb no nc t) (hB : B ≤ B') (hw : B' ≤ w.heap.size) : Types w B' nb no nc t := by
  have hl := h.lo
  refine ⟨fun j hj => ?_, h.wf, by omega, hw, h.max, h.cap⟩
  obtain ⟨ka, kc, hX⟩ := h.at_ j hj
  exact ⟨ka, kc, ⟨hX.c0, hX.c1, hX.c2, hX.kids.mono hB⟩⟩
/-- the kids of each row are few enough -/
theorem kids_few {t : List Ty} (h : load t id ≤ 2147483647) {j : Nat} (hj : j < t.length) : (tyN t j).kids.length ≤ 2147483646 := by
  have e : load t id = sumTo (fun i => 1 + (tyN t i).kids.length) t.length := sumTo_congr _ fun i _ => by simp [loadF]
  have le : ∀ n, j < n → 1 + (tyN t j).kids.length ≤ sumTo (fun i => 1 + (tyN t i).kids.length) n := fun n => by
    induction n with
    | zero => intro h; omega
    | succ n ih =>
      intro h
      rw [sumTo]
      by_cases q : j < n
      · have := ih q; omega
      · have : j = n := by omega
        subst this
        omega
  have := le t.length hj
  omega
set_option maxRecDepth 100000 in
set_option maxHeartbeats 4000000 in
/-- **ownRows** -/
theorem ownRows_some (w : World) (B nb no nc : Nat) (t : List Ty) (hn : Types w B nb no nc t) (hld : load t id ≤ 2147483647) :
    Calls Tryd.prog 11 #[.slice (some ⟨nb, no, none⟩) t.length nc] w fun e w' => e = .returned (.slice (some ⟨w.heap.size, 0, none⟩) t.length (t.length + 1)) ∧ Types w' w'.heap.size w.heap.size 0 (t.length + 1) t ∧ Below w.heap.size w w' := by
  have hlen := load_len t
  have hmk := make_types w (t.length + 1) (by omega)
  simp only [Int.natCast_add, Int.cast_ofNat_Int] at hmk
  obtain ⟨W', hr, hs⟩ := ows_start hn 3
  have hrr : ∀ ty, (Builtin.copy_ #[22, 22] ty #[.slice (some ⟨w.heap.size, 0, none⟩) (t.length + 1) (t.length + 1), .slice (some ⟨nb, no, none⟩) t.length nc]).run Tryd.prog (w.alloc (.cells (zerosT (t.length + 1)) 32)) = .ok (.int .i64 (t.length : Nat)) W' := fun ty => hr
  have HS0 : Bx _ := ⟨hs⟩
  have HN : Bx _ := ⟨hn⟩
  have hB := hn.hi
  have hnb := hn.lo
  have HLD : Bx _ := ⟨hld⟩
  have hl31 : t.length ≤ 2147483647 := by omega
  clear hn hr hs hld hlen
  go_enter Tryd.func11, Tryd.ntmps11
  go_wp2
  go_loopw [4] (fun x wr => ∃ k : Nat, k ≤ t.length ∧ x = .int .i64 k ∧ Bx (OwS w wr k t)) (fun x _ => t.length - (intOf x).toNat)
  case atStart => exact ⟨0, Nat.zero_le _, rfl, HS0⟩
  case round =>
    obtain ⟨k, hk, rfl, HS⟩ := hrel
    clear HS0 hrr hmk
    obtain ⟨C, c1, c2, c3, c4⟩ := HS.out.ex
    have hlt0 : w.heap.size < wr.heap.size := (Array.getElem?_eq_some_iff.1 c1).1
    by_cases hlt : k < t.length
    · have hsz := HS.out.bel.size
      obtain ⟨ka, kc, hX⟩ := (HN.out.below (HS.out.bel.mono hB)).at_ k hlt
      have x1 := hX.c1
      have HC : Bx _ := ⟨copied_any wr B ka kc (tyN t k).kids hX.kids (by omega) (kids_few HLD.out hlt)⟩
      have hkf := kids_few HLD.out hlt
      obtain ⟨v0, hv0⟩ : ∃ v, C[k * 3 + 1]? = some v := ⟨C[k * 3 + 1]'(by omega), Array.getElem?_eq_getElem (by omega)⟩
      have HX : Bx (∀ w5, Below wr.heap.size wr w5 → w5.heap[wr.heap.size]? = some (.cells (copC (tyN t k).kids) 3 (0, 0)) → OwS w (w5.setCell ⟨w.heap.size, k * 3 + 1, none⟩ (.slice (some ⟨wr.heap.size, 0, none⟩) (tyN t k).kids.length ((tyN t k).kids.length + 1))) (k + 1) t ∧ w5.cell? ⟨w.heap.size, k * 3 + 1, none⟩ = some v0 ∧ w5.frozen? ⟨w.heap.size, k * 3 + 1, none⟩ = false ∧ w.heap.size < w5.heap.size) := ⟨fun w5 hb hc => by
        have c1' : w5.heap[w.heap.size]? = some (.cells C 32 (0, 0)) := by rw [hb.block _ hlt0]; exact c1
        exact ⟨HS.out.put hlt hb hc, (cell_of_row w5 _ _ _ _ (0, 0) c1').trans hv0, by simp [World.frozen?, c1'], (Array.getElem?_eq_some_iff.1 c1').1⟩⟩
      clear c1 c2 c3 c4 hX HS hv0
      generalize (tyN t k).kids.length = lk at *
      go_wp2_with (first | (go_at_call 19; refine Calls.mono HC.out ?_; rintro e w5 ⟨rfl, hc5, hb5⟩; obtain ⟨q1, q2, q3, q4⟩ := HX.out _ hb5 hc5; have Q1 : Bx _ := ⟨q1⟩; clear q1 hb5 hc5))
      go_roundw
      case rel => exact ⟨k + 1, by omega, by go_num, Q1⟩
      case measure => simp [intOf]; omega
    · have hke : k = t.length := by omega
      subst hke
      have hT := HS.out.types HN.out (.int .i64 (-99))
      have HT : Bx _ := ⟨hT⟩
      obtain ⟨v0, hv0⟩ : ∃ v, C[t.length * 3]? = some v := ⟨C[t.length * 3]'(by omega), Array.getElem?_eq_getElem (by omega)⟩
      have q2 : wr.cell? ⟨w.heap.size, t.length * 3, none⟩ = some v0 := (cell_of_row wr _ _ _ _ (0, 0) c1).trans hv0
      have q3 : wr.frozen? ⟨w.heap.size, t.length * 3, none⟩ = false := by simp [World.frozen?, c1]
      clear c1 c2 c3 c4 hT HS hv0
      go_wp2
      go_ret
      exact ⟨rfl, by have := HT.out.1; simpa using this, HT.out.2⟩
end Go.Proofs.YtllgaholkminnaaDoor
