import Derived.Test.YtfocggaocadkmaaDoorTLv
import Derived.Lib.Builder
import Derived.Lib.AppendStr
import Derived.Lib.UnsafeStr
import Derived.Laws.Externs
namespace Go.Proofs.YtfocggaocadkmaaDoor
open Go.RowKit
set_option linter.unusedVariables false
set_option linter.unusedSimpArgs false

/-! ### the Builder inside the printer -/
def prO (lv p v : Value) : Obj := .cells #[lv, p, v] 55 (0, 0)
theorem infoBuilder : (Tryd.prog.info? 53).map (·.size) = some 2 := by kernel_rfl
theorem liesBuilder : liesAt Tryd.prog Tryd.prog.depth 55 (3 / Tryd.prog.cellsOf 55) 1 53 1 = true := by kernel_rfl
theorem info5 : (Tryd.prog.info? 5).map (fun i => (i.zero, i.size, i.bytes)) = some (some (.int .u8 0), 1, 1) := by kernel_rfl

theorem pr_cells {w : World} {b : Nat} {lv p v : Value} (h : w.heap[b]? = some (prO lv p v)) : w.cell? ⟨b, 0, none⟩ = some lv ∧ w.cell? ⟨b, 1, none⟩ = some p ∧ w.cell? ⟨b, 2, none⟩ = some v ∧ (∀ i, w.frozen? ⟨b, i, none⟩ = false) ∧ w.shape? b = some (55, 3) ∧ b < w.heap.size := by
  have h0 : w.cell? ⟨b, 0, none⟩ = some lv := by simp [World.cell?, h, prO]
  exact ⟨h0, by simp [World.cell?, h, prO], by simp [World.cell?, h, prO], fun i => by simp [World.frozen?, h, prO], by simp [World.shape?, h, prO], World.block_lt_of_cell? w _ h0⟩

set_option maxRecDepth 100000 in
set_option maxHeartbeats 1000000 in
theorem copyCheck_used (b : Nat) (w : World) (h0 : w.cell? ⟨b, 1, none⟩ = some (.pointer (some ⟨b, 1, none⟩))) :
    Calls Tryd.prog 80 #[.pointer (some ⟨b, 1, none⟩)] w fun e w' => e = .returned (.tuple #[]) ∧ w = w' := by
  obtain ⟨j, hj, _⟩ := Option.map_eq_some_iff.1 infoBuilder
  go_enter Tryd.func80, Tryd.ntmps80
  go_wp2
  rw [Lib.run_neq_ptr_same w _ Tryd.underlying51 hj]
  go_wp2
  go_end0
  exact ⟨rfl, rfl⟩

set_option maxRecDepth 100000 in
set_option maxHeartbeats 1000000 in
theorem copyCheck_fresh (b : Nat) (w : World) (h0 : w.cell? ⟨b, 1, none⟩ = some (.pointer none)) (hsh : w.shape? b = some (55, 3)) (hfz : w.frozen? ⟨b, 1, none⟩ = false) :
    Calls Tryd.prog 80 #[.pointer (some ⟨b, 1, none⟩)] w fun e w' => e = .returned (.tuple #[]) ∧ w.setCell ⟨b, 1, none⟩ (.pointer (some ⟨b, 1, none⟩)) = w' := by
  obtain ⟨j, hj, hjs⟩ := Option.map_eq_some_iff.1 infoBuilder
  go_enter Tryd.func80, Tryd.ntmps80
  go_wp2
  rw [Lib.run_to_unsafe w ⟨b, 1, none⟩ Tryd.underlying51 Tryd.underlying104 hj (by rw [hjs]; decide) hsh (by simp)]
  simp only [Result.andThen]
  rw [Oper.upon_value]
  go_wp2
  rw [run_callFunc_extern Tryd.func87 (by kernel_rfl) (by kernel_rfl) (by kernel_rfl) (e := Extern.AbiNoEscape.same) (by kernel_rfl)]
  rw [Lib.run_noEscape]
  simp only [Result.andThen]
  rw [Oper.upon_value]
  go_wp2
  rw [Lib.run_from_unsafe w ⟨b, 1, none⟩ Tryd.underlying104 Tryd.underlying51 hj hsh liesBuilder]
  simp only [Result.andThen]
  rw [Oper.upon_value]
  go_wp2
  go_end0
  exact ⟨rfl, rfl⟩

/-- what is no row of bytes, and not the printer, stays -/
def Keep (w w' : World) (b : Nat) : Prop := ∀ k C T fz, w.heap[k]? = some (.cells C T fz) → T ≠ 5 → k ≠ b → w'.heap[k]? = some (.cells C T fz)
theorem Keep.refl (w : World) (b : Nat) : Keep w w b := fun _ _ _ _ h _ _ => h
theorem Keep.trans {w w' w'' : World} {b : Nat} (h : Keep w w' b) (h' : Keep w' w'' b) : Keep w w'' b := fun k C T fz h1 h2 h3 => h' k C T fz (h k C T fz h1 h2 h3) h2 h3
theorem own_ne {w : World} {B n k : Nat} {v : Value} {cs : List Value} {C : Array Value} {T : TypeId} {fz : Nat × Nat} (h : w.ownsRow B 5 1 v n cs) (hk : w.heap[k]? = some (.cells C T fz)) (hT : T ≠ 5) : v.ownBlock ≠ some k := by
  intro e
  rcases h.2 with ⟨hv, _⟩ | ⟨g, cap, cur, hv, hg, hh, _⟩
  · rw [hv] at e; simp [Value.ownBlock] at e
  · rw [hv] at e
    simp [Value.ownBlock] at e
    subst e
    rw [hh] at hk
    simp at hk
    exact hT hk.2.1.symm
theorem Keep.set (w : World) (b i : Nat) (x : Value) : Keep w (w.setCell ⟨b, i, none⟩ x) b := fun k C T fz h1 h2 h3 => by
  rw [heap_setCell_other w ⟨b, i, none⟩ k x h3]; exact h1
theorem heap_lt {w : World} {k : Nat} {o : Obj} (h : w.heap[k]? = some o) : k < w.heap.size := by
  rcases Nat.lt_or_ge k w.heap.size with h' | h'
  · exact h'
  · simp [Array.getElem?_eq_none h'] at h
theorem Keep.grown {w w' : World} {B n b : Nat} {v : Value} {cs : List Value} (h : w.ownsRow B 5 1 v n cs) (hg : w.grownBy w' v.ownBlock) : Keep w w' b := fun k C T fz h1 h2 h3 => by
  rw [hg.block k (heap_lt h1) (fun e => own_ne h h1 h2 e.symm)]; exact h1
theorem Keep.alloc (w : World) (o : Obj) (b : Nat) : Keep w (w.alloc o) b := fun k C T fz h1 h2 h3 => by
  rw [(below1 w o).block k (heap_lt h1)]; exact h1

/-- the builder holds bytes -/
structure PB (w : World) (B b : Nat) (lv : Value) (bs : List UInt8) : Prop where
  ex : ∃ p v, (p = .pointer none ∨ p = .pointer (some ⟨b, 1, none⟩)) ∧ w.heap[b]? = some (prO lv p v) ∧ w.ownsRow B 5 1 v bs.length (Lib.byteCells bs) ∧ (bs = [] → v = .slice none 0 0)
  lo : B ≤ b
  hi : B ≤ w.heap.size

theorem Len_any (B b : Nat) (lv : Value) (bs : List UInt8) (w : World) (h : PB w B b lv bs) :
    Calls Tryd.prog 70 #[.pointer (some ⟨b, 1, none⟩)] w fun e w' => e = .returned (.int .i64 bs.length) ∧ w = w' := by
  obtain ⟨p, v, hp, hbk, hown, hnil⟩ := h.ex
  obtain ⟨ao, cap, rfl⟩ : ∃ ao cap, v = .slice ao bs.length cap := by
    rcases hown.2 with ⟨hv, h0⟩ | ⟨g, cap, cur, hv, _⟩
    · exact ⟨none, 0, by rw [hv, h0]⟩
    · exact ⟨_, _, hv⟩
  obtain ⟨_, _, c2, _⟩ := pr_cells hbk
  clear hnil hbk hown
  go_enter Tryd.func70, Tryd.ntmps70
  go_wp2
  go_ret
  exact ⟨rfl, rfl⟩

theorem own_setCell {w : World} {B b i n : Nat} {x v : Value} {cs : List Value} (h : w.ownsRow B 5 1 v n cs) (hne : v.ownBlock ≠ some b) : (w.setCell ⟨b, i, none⟩ x).ownsRow B 5 1 v n cs := by
  obtain ⟨h1, h2⟩ := h
  refine ⟨h1, ?_⟩
  rcases h2 with h2 | ⟨g, cap, cur, hv, hg, hh, r⟩
  · exact .inl h2
  · refine .inr ⟨g, cap, cur, hv, hg, ?_, r⟩
    rw [heap_setCell_other w ⟨b, i, none⟩ g x ?_]
    · exact hh
    · intro e
      apply hne
      rw [hv]
      simp [Value.ownBlock, e]

/-- behind copyCheck -/
structure PU (w : World) (B b : Nat) (lv v : Value) (bs : List UInt8) : Prop where
  blk : w.heap[b]? = some (prO lv (.pointer (some ⟨b, 1, none⟩)) v)
  own : w.ownsRow B 5 1 v bs.length (Lib.byteCells bs)
  lo : B ≤ b
theorem tne : (55 : TypeId) ≠ 5 := by decide

theorem copyCheck_pb (B b : Nat) (lv : Value) (bs : List UInt8) (w : World) (h : PB w B b lv bs) :
    Calls Tryd.prog 80 #[.pointer (some ⟨b, 1, none⟩)] w fun e w' => e = .returned (.tuple #[]) ∧ ∃ v, PU w' B b lv v bs ∧ Keep w w' b ∧ Below B w w' := by
  obtain ⟨p, v, hp, hbk, hown, hnil⟩ := h.ex
  have hlo := h.lo
  obtain ⟨c0, c1, c2, f, sh, hlt⟩ := pr_cells hbk
  rcases hp with rfl | rfl
  · refine (copyCheck_fresh b w c1 sh (f 1)).mono ?_
    rintro e w' ⟨rfl, rfl⟩
    refine ⟨rfl, v, ⟨?_, own_setCell hown (own_ne hown hbk tne), hlo⟩, Keep.set w b 1 _, Below.setCell (p := ⟨b, 1, none⟩) (Below.refl B w) hlo _⟩
    exact heap_setCell_same w b 1 #[lv, .pointer none, v] 55 _ hbk
  · refine (copyCheck_used b w c1).mono ?_
    rintro e w' ⟨rfl, rfl⟩
    exact ⟨rfl, v, ⟨hbk, hown, hlo⟩, Keep.refl _ _, Below.refl _ _⟩

/-- behind an append and the store -/
theorem pb_put {w2 : World} {B b : Nat} {lv v v' : Value} {bs' : List UInt8} (hlo : B ≤ b) (hhi : B ≤ w2.heap.size) (hown : w2.ownsRow B 5 1 v' bs'.length (Lib.byteCells bs')) (hne : bs' ≠ [])
    (hblk : w2.heap[b]? = some (prO lv (.pointer (some ⟨b, 1, none⟩)) v)) : PB (w2.setCell ⟨b, 2, none⟩ v') B b lv bs' := by
  refine ⟨⟨.pointer (some ⟨b, 1, none⟩), v', .inr rfl, ?_, own_setCell hown (own_ne hown hblk tne), fun e => absurd e hne⟩, hlo, by simpa using hhi⟩
  exact heap_setCell_same w2 b 2 #[lv, .pointer (some ⟨b, 1, none⟩), v] 55 v' hblk

set_option maxRecDepth 100000 in
set_option maxHeartbeats 2000000 in
theorem WriteByte_any (B b : Nat) (lv : Value) (bs : List UInt8) (c : UInt8) (w : World) (h : PB w B b lv bs) (hlen : bs.length + 1 ≤ 140737488355328) :
    Calls Tryd.prog 71 #[.pointer (some ⟨b, 1, none⟩), .int .u8 (c.toNat : Int)] w fun e w' => e = .returned .nilIface ∧ PB w' B b lv (bs ++ [c]) ∧ Keep w w' b ∧ Below B w w' := by
  obtain ⟨i0, hi, hz0, hz1, hz2⟩ := info_parts info5
  have HC : Bx _ := ⟨copyCheck_pb B b lv bs w h⟩
  have hBw := h.hi
  clear h
  go_enter Tryd.func71, Tryd.ntmps71
  go_wp2_with (first | (go_at_call 80; refine Calls.mono HC.out ?_))
  rintro e w1 ⟨rfl, v, hu, hk1, hb1⟩
  obtain ⟨_, c1, c2, f, _, hlt⟩ := pr_cells hu.blk
  have f2 := f 2
  have hown := hu.own
  go_wp2_with (at_builtin; refine wpList_append_own _ rfl _ _ 42 rfl B 5 i0 (.int .u8 0) 1 1 Tryd.underlying42 hi hz0 hz1 hz2 rfl (by decide) _ _ _ rfl (hown.alloc _) ⟨w1.heap.size, 0, none⟩ 1 1 [.int .u8 (c.toNat : Int)] rfl rfl ?c1 ?c2 ?c3 ?c4 ?c5 ?_)
  case c1 =>
    intro j u hj
    match j, hj with
    | 0, hj => simp at hj; subst hj; simp [Addr.add]
  case c2 => intro u hu; simp at hu; subst hu; rfl
  case c3 => unfold maxLen; omega
  case c4 => omega
  case c5 => have := hb1.size; simp; omega
  intro v' w2 hown' hgrow _
  have hbl2 : w2.heap[b]? = some (prO lv (.pointer (some ⟨b, 1, none⟩)) v) := by
    rw [hgrow.block b (by simp; omega) (fun e => own_ne hown hu.blk tne e.symm), (below1 w1 _).block b hlt]; exact hu.blk
  obtain ⟨_, _, d2, fd, _, hlt2⟩ := pr_cells hbl2
  have fd2 := fd 2
  obtain ⟨g, cap, rfl⟩ : ∃ g cap, v' = .slice (some ⟨g, 0, none⟩) (bs.length + 1) cap := by
    rcases hown'.2 with ⟨_, h0⟩ | ⟨g, cap, cur, hv, _⟩
    · omega
    · exact ⟨g, cap, hv⟩
  have hlo := hu.lo
  have HO : Bx (w2.ownsRow B 5 1 (.slice (some ⟨g, 0, none⟩) (bs.length + 1) cap) (bs ++ [c]).length (Lib.byteCells (bs ++ [c]))) := ⟨by simpa [Lib.byteCells] using hown'⟩
  have HK : Bx (Keep w w2 b ∧ Below B w w2) := ⟨hk1.trans ((Keep.alloc w1 _ b).trans (Keep.grown (hown.alloc _) hgrow)), (hb1.alloc (by have := hb1.size; omega) _).grown hgrow (by have := hb1.size; simp; omega) (fun k hk => (hown.lt k hk).1)⟩
  have HB : Bx _ := ⟨hbl2⟩
  have hz2 := HK.out.2.size
  clear hown' hgrow hown hu hk1 hb1 hbl2 fd f HC
  go_wp2
  go_ret
  exact ⟨rfl, pb_put hlo (by omega) HO.out (by simp) HB.out, HK.out.1.trans (Keep.set _ _ _ _), Below.setCell (p := ⟨b, 2, none⟩) HK.out.2 hlo _⟩

set_option maxRecDepth 100000 in
set_option maxHeartbeats 2000000 in
theorem WriteString_any (B b : Nat) (lv : Value) (bs s : List UInt8) (w : World) (h : PB w B b lv bs) (hlen : bs.length + s.length ≤ 140737488355328) (hs : s ≠ []) :
    Calls Tryd.prog 72 #[.pointer (some ⟨b, 1, none⟩), .string ⟨s.toArray⟩] w fun e w' => ∃ r, e = .returned r ∧ PB w' B b lv (bs ++ s) ∧ Keep w w' b ∧ Below B w w' := by
  obtain ⟨i0, hi, hz0, hz1, hz2⟩ := info_parts info5
  have HC : Bx _ := ⟨copyCheck_pb B b lv bs w h⟩
  have hBw := h.hi
  have hsz : (⟨s.toArray⟩ : ByteArray).size = s.length := by simp [ByteArray.size]
  have hs0 : 0 < s.length := List.length_pos_iff.2 hs
  clear h
  go_enter Tryd.func72, Tryd.ntmps72
  go_wp2_with (first | (go_at_call 80; refine Calls.mono HC.out ?_))
  rintro e w1 ⟨rfl, v, hu, hk1, hb1⟩
  obtain ⟨_, c1, c2, f, _, hlt⟩ := pr_cells hu.blk
  have f2 := f 2
  have hown := hu.own
  go_wp2_with (at_builtin; refine Lib.wpList_append_own_string _ rfl _ _ 42 9 rfl B 5 i0 Tryd.underlying42 Tryd.underlying9 hi hz0 hz1 hz2 _ _ _ rfl hown ⟨s.toArray⟩ rfl ?c3 ?c4 ?c5 ?_)
  case c3 => unfold maxLen; omega
  case c4 => omega
  case c5 => have := hb1.size; omega
  intro v' w2 hown' hgrow _
  have hbl2 : w2.heap[b]? = some (prO lv (.pointer (some ⟨b, 1, none⟩)) v) := by
    rw [hgrow.block b hlt (fun e => own_ne hown hu.blk tne e.symm)]; exact hu.blk
  obtain ⟨_, _, d2, fd, _, hlt2⟩ := pr_cells hbl2
  have fd2 := fd 2
  obtain ⟨g, cap, rfl⟩ : ∃ g cap, v' = .slice (some ⟨g, 0, none⟩) (bs.length + s.length) cap := by
    rcases hown'.2 with ⟨_, h0⟩ | ⟨g, cap, cur, hv, _⟩
    · omega
    · exact ⟨g, cap, hv⟩
  have hlo := hu.lo
  have HO : Bx (w2.ownsRow B 5 1 (.slice (some ⟨g, 0, none⟩) (bs.length + s.length) cap) (bs ++ s).length (Lib.byteCells (bs ++ s))) := ⟨by simpa [Lib.byteCells, Lib.strCells] using hown'⟩
  have HK : Bx (Keep w w2 b ∧ Below B w w2) := ⟨hk1.trans (Keep.grown hown hgrow), hb1.grown hgrow (by have := hb1.size; omega) (fun k hk => (hown.lt k hk).1)⟩
  have HB : Bx _ := ⟨hbl2⟩
  have hz2 := HK.out.2.size
  clear hown' hgrow hown hu hk1 hb1 hbl2 fd f HC
  go_wp2
  go_ret2
  exact ⟨_, rfl, pb_put hlo (by omega) HO.out (by simp [hs]) HB.out, HK.out.1.trans (Keep.set _ _ _ _), Below.setCell (p := ⟨b, 2, none⟩) HK.out.2 hlo _⟩

set_option maxRecDepth 100000 in
set_option maxHeartbeats 2000000 in
theorem String_some (B b : Nat) (lv : Value) (l : List UInt8) (w : World) (h : PB w B b lv l) (h0 : l ≠ []) :
    Calls Tryd.prog 23 #[.pointer (some ⟨b, 1, none⟩)] w fun e w' => e = .returned (.string ⟨l.toArray⟩) ∧ Below B w w' := by
  obtain ⟨p, v, hp, hbk, hown, hnil⟩ := h.ex
  have hl0 : l.length ≠ 0 := by simpa using h0
  obtain ⟨g, cap, cur, rfl, hbg, hg, hnc, hcm, hcs, htake⟩ : ∃ g cap cur, v = .slice (some ⟨g, 0, none⟩) l.length cap ∧ B ≤ g ∧ w.heap[g]? = some (.cells cur 5 (0, 0)) ∧ l.length ≤ cap ∧ cap ≤ maxLen ∧ cur.size = cap * 1 ∧ cur.toList.take (l.length * 1) = Lib.byteCells l := by
    rcases hown.2 with ⟨_, hz⟩ | ⟨g, cap, cur, hv, r⟩
    · exact absurd hz hl0
    · exact ⟨g, cap, cur, hv, r⟩
  have c1 : w.drew.cell? ⟨b, 2, none⟩ = some (.slice (some ⟨g, 0, none⟩) l.length cap) := (pr_cells hbk).2.2.1
  have hSD : (Builtin.unsafeSliceData_ #[42] 65 #[.slice (some ⟨g, 0, none⟩) l.length cap]).run Tryd.prog w.drew = .ok (.pointer (some ⟨g, 0, none⟩)) w.drew :=
    Lib.run_unsafeSliceData_row _ _ _ _ _ _ (by omega)
  have hUS : (Builtin.unsafeString_ #[65, 3] 9 #[.pointer (some ⟨g, 0, none⟩), .int .i64 l.length]).run Tryd.prog w.drew = .ok (.string ⟨l.toArray⟩) (w.drew.freeze ⟨g, 0, none⟩ l.length) := by
    refine Lib.run_unsafeString_row w.drew 65 3 9 5 Tryd.underlying65 (by kernel_rfl) g cur.size (by have hg' : w.drew.heap[g]? = some (.cells cur 5 (0, 0)) := hg; simp [World.shape?, hg']) l h0 (by omega) (by unfold maxLen at hcm; omega) ?_
    intro j x hx
    have := hown.cells (g := g) rfl j (.int .u8 x.toNat) (by simp [Lib.byteCells, hx])
    exact this
  clear hown hnil htake hg hbk h hp
  go_enter Tryd.func23, Tryd.ntmps23
  go_wp2
  go_region
  all_goals (go_wp2; go_ret; exact ⟨rfl, Lib.below_freeze (Below.drew (Below.refl B w)) (p := ⟨g, 0, none⟩) hbg _⟩)

set_option maxRecDepth 100000 in
set_option maxHeartbeats 2000000 in
theorem String_none (B b : Nat) (lv : Value) (w : World) (h : PB w B b lv []) :
    Calls Tryd.prog 23 #[.pointer (some ⟨b, 1, none⟩)] w fun e w' => e = .returned (.string ⟨#[]⟩) ∧ Below B w w' := by
  obtain ⟨p, v, hp, hbk, hown, hnil⟩ := h.ex
  obtain rfl := hnil rfl
  have hUS : ∀ W q, (Builtin.unsafeString_ #[65, 3] 9 #[.pointer q, .int .i64 0]).run Tryd.prog W = .ok (.string .empty) W := fun W q => Lib.run_unsafeString_none W _ _ _ q
  have c1 : w.drew.cell? ⟨b, 2, none⟩ = some (.slice none 0 0) := (pr_cells hbk).2.2.1
  have hSD : (Builtin.unsafeSliceData_ #[42] 65 #[.slice none 0 0]).run Tryd.prog w.drew = .ok (.pointer none) w.drew := rfl
  clear hown hnil hbk h hp
  go_enter Tryd.func23, Tryd.ntmps23
  go_wp2
  go_region
  all_goals (go_wp2; go_ret; exact ⟨rfl, Below.drew (Below.refl B w)⟩)
end Go.Proofs.YtfocggaocadkmaaDoor
