import Derived.Test.YtfocggaocadkmaaDoorCTLv
import Derived.Lib.Builder
import Derived.Lib.AppendStr
import Derived.Lib.UnsafeStr
import Derived.Laws.Externs
import Derived.Test.YtfocggaocadkmaaDoorCTCur
import Derived.Test.YtfocggaocadkmaaDoorCTMem
namespace Go.Proofs.YtfocggaocadkmaaDoor
open Go.RowKit
set_option linter.unusedVariables false
set_option linter.unusedSimpArgs false

/-! ### the Builder inside the printer -/
def prO (lv p v : Value) : Obj := .cells #[lv, p, v] 55 (0, 0)
theorem infoBuilder : (Tryd.prog.info? 53).map (·.size) = some 2 := by kernel_rfl
theorem liesBuilder : liesAt Tryd.prog Tryd.prog.depth 55 (3 / Tryd.prog.cellsOf 55) 1 53 1 = true := by kernel_rfl
theorem info5 : (Tryd.prog.info? 5).map (fun i => (i.zero, i.size, i.bytes)) = some (some (.int .u8 0), 1, 1) := by kernel_rfl

theorem pr_cells {w : World} {b : Nat} {lv p v : Value} (h : w.heap[b]? = some (prO lv p v)) : w.cell? ⟨b, 0, none⟩ = some lv ∧ w.cell? ⟨b, 1, none⟩ = some p ∧ w.cell? ⟨b, 2, none⟩ = some v ∧ (∀ i, w.frozen? ⟨b, i, none⟩ = false) ∧ w.shape? b = some (55, 3) ∧ b < w.heap.size := by
  have h0 : w.cell? ⟨b, 0, none⟩ = some lv := by simp [World.cell?, h, prO]
  exact ⟨h0, by simp [World.cell?, h, prO], by simp [World.cell?, h, prO], fun i => by simp [World.frozen?, h, prO], by simp [World.shape?, h, prO], World.block_lt_of_cell? w _ h0⟩

set_option maxRecDepth 100000 in
set_option maxHeartbeats 1000000 in
theorem copyCheck_used (b : Nat) (w : World) (h0 : w.cell? ⟨b, 1, none⟩ = some (.pointer (some ⟨b, 1, none⟩))) :
    Calls Tryd.prog 80 #[.pointer (some ⟨b, 1, none⟩)] w fun e w' => e = .returned (.tuple #[]) ∧ w = w' := by
  obtain ⟨j, hj, _⟩ := Option.map_eq_some_iff.1 infoBuilder
  go_enter Tryd.func80, Tryd.ntmps80
  go_wp2
  rw [Lib.run_neq_ptr_same w _ Tryd.underlying51 hj]
  go_wp2
  go_end0
  exact ⟨rfl, rfl⟩

set_option maxRecDepth 100000 in
set_option maxHeartbeats 1000000 in
theorem copyCheck_fresh (b : Nat) (w : World) (h0 : w.cell? ⟨b, 1, none⟩ = some (.pointer none)) (hsh : w.shape? b = some (55, 3)) (hfz : w.frozen? ⟨b, 1, none⟩ = false) :
    Calls Tryd.prog 80 #[.pointer (some ⟨b, 1, none⟩)] w fun e w' => e = .returned (.tuple #[]) ∧ w.setCell ⟨b, 1, none⟩ (.pointer (some ⟨b, 1, none⟩)) = w' := by
  obtain ⟨j, hj, hjs⟩ := Option.map_eq_some_iff.1 infoBuilder
  go_enter Tryd.func80, Tryd.ntmps80
  go_wp2
  rw [Lib.run_to_unsafe w ⟨b, 1, none⟩ Tryd.underlying51 Tryd.underlying104 hj (by rw [hjs]; decide) hsh (by simp)]
  simp only [Result.andThen]
  rw [Oper.upon_value]
  go_wp2
  rw [run_callFunc_extern Tryd.func87 (by kernel_rfl) (by kernel_rfl) (by kernel_rfl) (e := Extern.AbiNoEscape.same) (by kernel_rfl)]
  rw [Lib.run_noEscape]
  simp only [Result.andThen]
  rw [Oper.upon_value]
  go_wp2
  rw [Lib.run_from_unsafe w ⟨b, 1, none⟩ Tryd.underlying104 Tryd.underlying51 hj hsh liesBuilder]
  simp only [Result.andThen]
  rw [Oper.upon_value]
  go_wp2
  go_end0
  exact ⟨rfl, rfl⟩

/-- what is no row of bytes, and not the printer, stays -/
def Keep (w w' : World) (b : Nat) : Prop := ∀ k C T fz, w.heap[k]? = some (.cells C T fz) → T ≠ 5 → k ≠ b → w'.heap[k]? = some (.cells C T fz)
theorem Keep.refl (w : World) (b : Nat) : Keep w w b := fun _ _ _ _ h _ _ => h
theorem Keep.trans {w w' w'' : World} {b : Nat} (h : Keep w w' b) (h' : Keep w' w'' b) : Keep w w'' b := fun k C T fz h1 h2 h3 => h' k C T fz (h k C T fz h1 h2 h3) h2 h3
theorem own_ne {w : World} {B n k : Nat} {v : Value} {cs : List Value} {C : Array Value} {T : TypeId} {fz : Nat × Nat} (h : w.ownsRow B 5 1 v n cs) (hk : w.heap[k]? = some (.cells C T fz)) (hT : T ≠ 5) : v.ownBlock ≠ some k := by
  intro e
  rcases h.2 with ⟨hv, _⟩ | ⟨g, cap, cur, hv, hg, hh, _⟩
  · rw [hv] at e; simp [Value.ownBlock] at e
  · rw [hv] at e
    simp [Value.ownBlock] at e
    subst e
    rw [hh] at hk
    simp at hk
    exact hT hk.2.1.symm
theorem Keep.set (w : World) (b i : Nat) (x : Value) : Keep w (w.setCell ⟨b, i, none⟩ x) b := fun k C T fz h1 h2 h3 => by
  rw [heap_setCell_other w ⟨b, i, none⟩ k x h3]; exact h1
theorem heap_lt {w : World} {k : Nat} {o : Obj} (h : w.heap[k]? = some o) : k < w.heap.size := by
  rcases Nat.lt_or_ge k w.heap.size with h' | h'
  · exact h'
  · simp [Array.getElem?_eq_none h'] at h
theorem Keep.grown {w w' : World} {B n b : Nat} {v : Value} {cs : List Value} (h : w.ownsRow B 5 1 v n cs) (hg : w.grownBy w' v.ownBlock) : Keep w w' b := fun k C T fz h1 h2 h3 => by
  rw [hg.block k (heap_lt h1) (fun e => own_ne h h1 h2 e.symm)]; exact h1
theorem Keep.alloc (w : World) (o : Obj) (b : Nat) : Keep w (w.alloc o) b := fun k C T fz h1 h2 h3 => by
  rw [(below1 w o).block k (heap_lt h1)]; exact h1

/-- the builder holds bytes -/
structure PB (w : World) (B b : Nat) (lv : Value) (bs : List UInt8) : Prop where
  ex : ∃ p v, (p = .pointer none ∨ p = .pointer (some ⟨b, 1, none⟩)) ∧ w.heap[b]? = some (prO lv p v) ∧ w.ownsRow B 5 1 v bs.length (Lib.byteCells bs) ∧ (bs = [] → v = .slice none 0 0)
  lo : B ≤ b
  hi : B ≤ w.heap.size

theorem Len_any (B b : Nat) (lv : Value) (bs : List UInt8) (w : World) (h : PB w B b lv bs) :
    Calls Tryd.prog 70 #[.pointer (some ⟨b, 1, none⟩)] w fun e w' => e = .returned (.int .i64 bs.length) ∧ w = w' := by
  obtain ⟨p, v, hp, hbk, hown, hnil⟩ := h.ex
  obtain ⟨ao, cap, rfl⟩ : ∃ ao cap, v = .slice ao bs.length cap := by
    rcases hown.2 with ⟨hv, h0⟩ | ⟨g, cap, cur, hv, _⟩
    · exact ⟨none, 0, by rw [hv, h0]⟩
    · exact ⟨_, _, hv⟩
  obtain ⟨_, _, c2, _⟩ := pr_cells hbk
  clear hnil hbk hown
  go_enter Tryd.func70, Tryd.ntmps70
  go_wp2
  go_ret
  exact ⟨rfl, rfl⟩

theorem own_setCell {w : World} {B b i n : Nat} {x v : Value} {cs : List Value} (h : w.ownsRow B 5 1 v n cs) (hne : v.ownBlock ≠ some b) : (w.setCell ⟨b, i, none⟩ x).ownsRow B 5 1 v n cs := by
  obtain ⟨h1, h2⟩ := h
  refine ⟨h1, ?_⟩
  rcases h2 with h2 | ⟨g, cap, cur, hv, hg, hh, r⟩
  · exact .inl h2
  · refine .inr ⟨g, cap, cur, hv, hg, ?_, r⟩
    rw [heap_setCell_other w ⟨b, i, none⟩ g x ?_]
    · exact hh
    · intro e
      apply hne
      rw [hv]
      simp [Value.ownBlock, e]

/-- behind copyCheck -/
structure PU (w : World) (B b : Nat) (lv v : Value) (bs : List UInt8) : Prop where
  blk : w.heap[b]? = some (prO lv (.pointer (some ⟨b, 1, none⟩)) v)
  own : w.ownsRow B 5 1 v bs.length (Lib.byteCells bs)
  lo : B ≤ b
theorem tne : (55 : TypeId) ≠ 5 := by decide

theorem copyCheck_pb (B b : Nat) (lv : Value) (bs : List UInt8) (w : World) (h : PB w B b lv bs) :
    Calls Tryd.prog 80 #[.pointer (some ⟨b, 1, none⟩)] w fun e w' => e = .returned (.tuple #[]) ∧ ∃ v, PU w' B b lv v bs ∧ Keep w w' b ∧ Below B w w' := by
  obtain ⟨p, v, hp, hbk, hown, hnil⟩ := h.ex
  have hlo := h.lo
  obtain ⟨c0, c1, c2, f, sh, hlt⟩ := pr_cells hbk
  rcases hp with rfl | rfl
  · refine (copyCheck_fresh b w c1 sh (f 1)).mono ?_
    rintro e w' ⟨rfl, rfl⟩
    refine ⟨rfl, v, ⟨?_, own_setCell hown (own_ne hown hbk tne), hlo⟩, Keep.set w b 1 _, Below.setCell (p := ⟨b, 1, none⟩) (Below.refl B w) hlo _⟩
    exact heap_setCell_same w b 1 #[lv, .pointer none, v] 55 _ hbk
  · refine (copyCheck_used b w c1).mono ?_
    rintro e w' ⟨rfl, rfl⟩
    exact ⟨rfl, v, ⟨hbk, hown, hlo⟩, Keep.refl _ _, Below.refl _ _⟩

/-- behind an append and the store -/
theorem pb_put {w2 : World} {B b : Nat} {lv v v' : Value} {bs' : List UInt8} (hlo : B ≤ b) (hhi : B ≤ w2.heap.size) (hown : w2.ownsRow B 5 1 v' bs'.length (Lib.byteCells bs')) (hne : bs' ≠ [])
    (hblk : w2.heap[b]? = some (prO lv (.pointer (some ⟨b, 1, none⟩)) v)) : PB (w2.setCell ⟨b, 2, none⟩ v') B b lv bs' := by
  refine ⟨⟨.pointer (some ⟨b, 1, none⟩), v', .inr rfl, ?_, own_setCell hown (own_ne hown hblk tne), fun e => absurd e hne⟩, hlo, by simpa using hhi⟩
  exact heap_setCell_same w2 b 2 #[lv, .pointer (some ⟨b, 1, none⟩), v] 55 v' hblk

set_option maxRecDepth 100000 in
set_option maxHeartbeats 2000000 in
theorem WriteByte_any (B b : Nat) (lv : Value) (bs : List UInt8) (c : UInt8) (w : World) (h : PB w B b lv bs) (hlen : bs.length + 1 ≤ 140737488355328) :
    Calls Tryd.prog 71 #[.pointer (some ⟨b, 1, none⟩), .int .u8 (c.toNat : Int)] w fun e w' => e = .returned .nilIface ∧ PB w' B b lv (bs ++ [c]) ∧ Keep w w' b ∧ Below B w w' := by
  obtain ⟨i0, hi, hz0, hz1, hz2⟩ := info_parts info5
  have HC : Bx _ := ⟨copyCheck_pb B b lv bs w h⟩
  have hBw := h.hi
  clear h
  go_enter Tryd.func71, Tryd.ntmps71
  go_wp2_with (first | (go_at_call 80; refine Calls.mono HC.out ?_))
  rintro e w1 ⟨rfl, v, hu, hk1, hb1⟩
  obtain ⟨_, c1, c2, f, _, hlt⟩ := pr_cells hu.blk
  have f2 := f 2
  have hown := hu.own
  go_wp2_with (at_builtin; refine wpList_append_own _ rfl _ _ 42 rfl B 5 i0 (.int .u8 0) 1 1 Tryd.underlying42 hi hz0 hz1 hz2 rfl (by decide) _ _ _ rfl (hown.alloc _) ⟨w1.heap.size, 0, none⟩ 1 1 [.int .u8 (c.toNat : Int)] rfl rfl ?c1 ?c2 ?c3 ?c4 ?c5 ?_)
  case c1 =>
    intro j u hj
    match j, hj with
    | 0, hj => simp at hj; subst hj; simp [Addr.add]
  case c2 => intro u hu; simp at hu; subst hu; rfl
  case c3 => unfold maxLen; omega
  case c4 => omega
  case c5 => have := hb1.size; simp; omega
  intro v' w2 hown' hgrow _
  have hbl2 : w2.heap[b]? = some (prO lv (.pointer (some ⟨b, 1, none⟩)) v) := by
    rw [hgrow.block b (by simp; omega) (fun e => own_ne hown hu.blk tne e.symm), (below1 w1 _).block b hlt]; exact hu.blk
  obtain ⟨_, _, d2, fd, _, hlt2⟩ := pr_cells hbl2
  have fd2 := fd 2
  obtain ⟨g, cap, rfl⟩ : ∃ g cap, v' = .slice (some ⟨g, 0, none⟩) (bs.length + 1) cap := by
    rcases hown'.2 with ⟨_, h0⟩ | ⟨g, cap, cur, hv, _⟩
    · omega
    · exact ⟨g, cap, hv⟩
  have hlo := hu.lo
  have HO : Bx (w2.ownsRow B 5 1 (.slice (some ⟨g, 0, none⟩) (bs.length + 1) cap) (bs ++ [c]).length (Lib.byteCells (bs ++ [c]))) := ⟨by simpa [Lib.byteCells] using hown'⟩
  have HK : Bx (Keep w w2 b ∧ Below B w w2) := ⟨hk1.trans ((Keep.alloc w1 _ b).trans (Keep.grown (hown.alloc _) hgrow)), (hb1.alloc (by have := hb1.size; omega) _).grown hgrow (by have := hb1.size; simp; omega) (fun k hk => (hown.lt k hk).1)⟩
  have HB : Bx _ := ⟨hbl2⟩
  have hz2 := HK.out.2.size
  clear hown' hgrow hown hu hk1 hb1 hbl2 fd f HC
  go_wp2
  go_ret
  exact ⟨rfl, pb_put hlo (by omega) HO.out (by simp) HB.out, HK.out.1.trans (Keep.set _ _ _ _), Below.setCell (p := ⟨b, 2, none⟩) HK.out.2 hlo _⟩

set_option maxRecDepth 100000 in
set_option maxHeartbeats 2000000 in
theorem WriteString_any (B b : Nat) (lv : Value) (bs s : List UInt8) (w : World) (h : PB w B b lv bs) (hlen : bs.length + s.length ≤ 140737488355328) (hs : s ≠ []) :
    Calls Tryd.prog 72 #[.pointer (some ⟨b, 1, none⟩), .string ⟨s.toArray⟩] w fun e w' => ∃ r, e = .returned r ∧ PB w' B b lv (bs ++ s) ∧ Keep w w' b ∧ Below B w w' := by
  obtain ⟨i0, hi, hz0, hz1, hz2⟩ := info_parts info5
  have HC : Bx _ := ⟨copyCheck_pb B b lv bs w h⟩
  have hBw := h.hi
  have hsz : (⟨s.toArray⟩ : ByteArray).size = s.length := by simp [ByteArray.size]
  have hs0 : 0 < s.length := List.length_pos_iff.2 hs
  clear h
  go_enter Tryd.func72, Tryd.ntmps72
  go_wp2_with (first | (go_at_call 80; refine Calls.mono HC.out ?_))
  rintro e w1 ⟨rfl, v, hu, hk1, hb1⟩
  obtain ⟨_, c1, c2, f, _, hlt⟩ := pr_cells hu.blk
  have f2 := f 2
  have hown := hu.own
  go_wp2_with (at_builtin; refine Lib.wpList_append_own_string _ rfl _ _ 42 9 rfl B 5 i0 Tryd.underlying42 Tryd.underlying9 hi hz0 hz1 hz2 _ _ _ rfl hown ⟨s.toArray⟩ rfl ?c3 ?c4 ?c5 ?_)
  case c3 => unfold maxLen; omega
  case c4 => omega
  case c5 => have := hb1.size; omega
  intro v' w2 hown' hgrow _
  have hbl2 : w2.heap[b]? = some (prO lv (.pointer (some ⟨b, 1, none⟩)) v) := by
    rw [hgrow.block b hlt (fun e => own_ne hown hu.blk tne e.symm)]; exact hu.blk
  obtain ⟨_, _, d2, fd, _, hlt2⟩ := pr_cells hbl2
  have fd2 := fd 2
  obtain ⟨g, cap, rfl⟩ : ∃ g cap, v' = .slice (some ⟨g, 0, none⟩) (bs.length + s.length) cap := by
    rcases hown'.2 with ⟨_, h0⟩ | ⟨g, cap, cur, hv, _⟩
    · omega
    · exact ⟨g, cap, hv⟩
  have hlo := hu.lo
  have HO : Bx (w2.ownsRow B 5 1 (.slice (some ⟨g, 0, none⟩) (bs.length + s.length) cap) (bs ++ s).length (Lib.byteCells (bs ++ s))) := ⟨by simpa [Lib.byteCells, Lib.strCells] using hown'⟩
  have HK : Bx (Keep w w2 b ∧ Below B w w2) := ⟨hk1.trans (Keep.grown hown hgrow), hb1.grown hgrow (by have := hb1.size; omega) (fun k hk => (hown.lt k hk).1)⟩
  have HB : Bx _ := ⟨hbl2⟩
  have hz2 := HK.out.2.size
  clear hown' hgrow hown hu hk1 hb1 hbl2 fd f HC
  go_wp2
  go_ret2
  exact ⟨_, rfl, pb_put hlo (by omega) HO.out (by simp [hs]) HB.out, HK.out.1.trans (Keep.set _ _ _ _), Below.setCell (p := ⟨b, 2, none⟩) HK.out.2 hlo _⟩

set_option maxRecDepth 100000 in
set_option maxHeartbeats 2000000 in
theorem String_some (B b : Nat) (lv : Value) (l : List UInt8) (w : World) (h : PB w B b lv l) (h0 : l ≠ []) :
    Calls Tryd.prog 23 #[.pointer (some ⟨b, 1, none⟩)] w fun e w' => e = .returned (.string ⟨l.toArray⟩) ∧ Below B w w' := by
  obtain ⟨p, v, hp, hbk, hown, hnil⟩ := h.ex
  have hl0 : l.length ≠ 0 := by simpa using h0
  obtain ⟨g, cap, cur, rfl, hbg, hg, hnc, hcm, hcs, htake⟩ : ∃ g cap cur, v = .slice (some ⟨g, 0, none⟩) l.length cap ∧ B ≤ g ∧ w.heap[g]? = some (.cells cur 5 (0, 0)) ∧ l.length ≤ cap ∧ cap ≤ maxLen ∧ cur.size = cap * 1 ∧ cur.toList.take (l.length * 1) = Lib.byteCells l := by
    rcases hown.2 with ⟨_, hz⟩ | ⟨g, cap, cur, hv, r⟩
    · exact absurd hz hl0
    · exact ⟨g, cap, cur, hv, r⟩
  have c1 : w.drew.cell? ⟨b, 2, none⟩ = some (.slice (some ⟨g, 0, none⟩) l.length cap) := (pr_cells hbk).2.2.1
  have hSD : (Builtin.unsafeSliceData_ #[42] 65 #[.slice (some ⟨g, 0, none⟩) l.length cap]).run Tryd.prog w.drew = .ok (.pointer (some ⟨g, 0, none⟩)) w.drew :=
    Lib.run_unsafeSliceData_row _ _ _ _ _ _ (by omega)
  have hUS : (Builtin.unsafeString_ #[65, 3] 9 #[.pointer (some ⟨g, 0, none⟩), .int .i64 l.length]).run Tryd.prog w.drew = .ok (.string ⟨l.toArray⟩) (w.drew.freeze ⟨g, 0, none⟩ l.length) := by
    refine Lib.run_unsafeString_row w.drew 65 3 9 5 Tryd.underlying65 (by kernel_rfl) g cur.size (by have hg' : w.drew.heap[g]? = some (.cells cur 5 (0, 0)) := hg; simp [World.shape?, hg']) l h0 (by omega) (by unfold maxLen at hcm; omega) ?_
    intro j x hx
    have := hown.cells (g := g) rfl j (.int .u8 x.toNat) (by simp [Lib.byteCells, hx])
    exact this
  clear hown hnil htake hg hbk h hp
  go_enter Tryd.func23, Tryd.ntmps23
  go_wp2
  go_region
  all_goals (go_wp2; go_ret; exact ⟨rfl, Lib.below_freeze (Below.drew (Below.refl B w)) (p := ⟨g, 0, none⟩) hbg _⟩)

set_option maxRecDepth 100000 in
set_option maxHeartbeats 2000000 in
theorem String_none (B b : Nat) (lv : Value) (w : World) (h : PB w B b lv []) :
    Calls Tryd.prog 23 #[.pointer (some ⟨b, 1, none⟩)] w fun e w' => e = .returned (.string ⟨#[]⟩) ∧ Below B w w' := by
  obtain ⟨p, v, hp, hbk, hown, hnil⟩ := h.ex
  obtain rfl := hnil rfl
  have hUS : ∀ W q, (Builtin.unsafeString_ #[65, 3] 9 #[.pointer q, .int .i64 0]).run Tryd.prog W = .ok (.string .empty) W := fun W q => Lib.run_unsafeString_none W _ _ _ q
  have c1 : w.drew.cell? ⟨b, 2, none⟩ = some (.slice none 0 0) := (pr_cells hbk).2.2.1
  have hSD : (Builtin.unsafeSliceData_ #[42] 65 #[.slice none 0 0]).run Tryd.prog w.drew = .ok (.pointer none) w.drew := rfl
  clear hown hnil hbk h hp
  go_enter Tryd.func23, Tryd.ntmps23
  go_wp2
  go_region
  all_goals (go_wp2; go_ret; exact ⟨rfl, Below.drew (Below.refl B w)⟩)
end Go.Proofs.YtfocggaocadkmaaDoor
namespace Go.Proofs.YtfocggaocadkmaaDoor
open Go.RowKit
set_option linter.unusedVariables false
set_option linter.unusedSimpArgs false

/-- a token behind what stands there -/
def putT (bs t : List UInt8) : List UInt8 := if bs.length = 0 then t else bs ++ (32 :: t)
def layT (bs : List UInt8) (ts : List (List UInt8)) : List UInt8 := ts.foldl putT bs
theorem layT_nil (bs : List UInt8) : layT bs [] = bs := rfl
theorem layT_cons (bs t : List UInt8) (ts : List (List UInt8)) : layT bs (t :: ts) = layT (putT bs t) ts := rfl
theorem layT_append (bs : List UInt8) (a b : List (List UInt8)) : layT bs (a ++ b) = layT (layT bs a) b := by
  unfold layT; rw [List.foldl_append]
theorem putT_len (bs t : List UInt8) : bs.length ≤ (putT bs t).length ∧ t.length ≤ (putT bs t).length := by
  unfold putT
  split <;> simp <;> omega
theorem layT_len : ∀ (ts : List (List UInt8)) (bs : List UInt8), bs.length ≤ (layT bs ts).length
  | [], bs => Nat.le_refl _
  | t :: r, bs => by
    rw [layT_cons]
    exact Nat.le_trans (putT_len bs t).1 (layT_len r _)

/-- a row of texts -/
def strsO (ts : List (List UInt8)) : Obj := .cells (ts.map fun t => Value.string ⟨t.toArray⟩).toArray 9 (0, 0)

set_option maxRecDepth 100000 in
set_option maxHeartbeats 2000000 in
theorem lay_any (B b tb cap : Nat) (lv : Value) (ts : List (List UInt8)) (bs : List UInt8) (w : World) (h : PB w B b lv bs) (ht : w.heap[tb]? = some (strsO ts)) (hne : ∀ t ∈ ts, t ≠ []) (hlen : (layT bs ts).length ≤ 140737488355328) (hl : ts.length ≤ 100) (htb : tb ≠ b) :
    Calls Tryd.prog 48 #[.pointer (some ⟨b, 0, none⟩), .slice (some ⟨tb, 0, none⟩) ts.length cap] w fun e w' => e = .returned (.tuple #[]) ∧ PB w' B b lv (layT bs ts) ∧ Below B w w' ∧ Keep w w' b := by
  have HP : Bx _ := ⟨h⟩
  have HT : Bx _ := ⟨ht⟩
  clear h ht
  go_enter Tryd.func48, Tryd.ntmps48
  go_wp2
  go_loopw [8] (fun x wr => ∃ p : Nat, ∃ cs : List UInt8, p ≤ ts.length ∧ x = .int .i64 p ∧ Bx (PB wr B b lv cs ∧ wr.heap[tb]? = some (strsO ts) ∧ (Below B w wr ∧ Keep w wr b) ∧ layT bs ts = layT cs (ts.drop p))) (fun x _ => ts.length - (intOf x).toNat)
  case atStart => exact ⟨0, bs, Nat.zero_le _, rfl, ⟨HP.out, HT.out, ⟨Below.refl _ _, Keep.refl _ _⟩, rfl⟩⟩
  case round =>
    obtain ⟨p, cs, hp, rfl, HR⟩ := hrel
    by_cases hlt : p < ts.length
    · have hd : ts.drop p = ts[p] :: ts.drop (p + 1) := List.drop_eq_getElem_cons hlt
      have hc : wr.cell? ⟨tb, p, none⟩ = some (.string ⟨ts[p].toArray⟩) := by
        simp [World.cell?, HR.out.2.1, strsO, hlt]
      have htn := hne ts[p] (List.getElem_mem hlt)
      have hle := HR.out.2.2.2
      rw [hd, layT_cons] at hle
      generalize ts[p] = t at *
      have hl2 := layT_len (ts.drop (p + 1)) (putT cs t)
      rw [← hle] at hl2
      obtain ⟨hl3, hl4⟩ := putT_len cs t
      have hblt : b < wr.heap.size := by
        obtain ⟨q, v, _, hbk, _⟩ := HR.out.1.ex
        exact heap_lt hbk
      have HL : Bx _ := ⟨Len_any B b lv cs wr HR.out.1⟩
      have HE : Bx _ := ⟨hle⟩
      clear hd hle
      by_cases h0 : cs.length = 0
      · have hput : putT cs t = cs ++ t := by unfold putT; rw [if_pos h0, List.eq_nil_of_length_eq_zero h0]; rfl
        rw [hput] at HE hl2
        simp only [List.length_append] at hl2
        have hgt : ¬ (0 : Int) < (cs.length : Int) := by omega
        have HS : Bx _ := ⟨WriteString_any B b lv cs t wr HR.out.1 (by have := layT_len (ts.drop (p + 1)) (cs ++ t); rw [← HE.out] at this; simp at this; omega) htn⟩
        clear hput hl3 hl4 hl2
        go_wp2_with (first | (go_at_call 70; refine Calls.mono HL.out ?_; rintro e w' ⟨rfl, rfl⟩) | (go_at_call 72; refine Calls.mono HS.out ?_; rintro e w2 ⟨r, rfl, hp2, hk2, hb2⟩))
        go_roundw
        case rel => exact ⟨p + 1, cs ++ t, by omega, by go_num, ⟨hp2, hk2 tb _ _ _ HR.out.2.1 (by decide) htb, ⟨HR.out.2.2.1.1.trans hb2, HR.out.2.2.1.2.trans hk2⟩, HE.out⟩⟩
        case measure => simp [intOf]; omega
      · have hput : putT cs t = cs ++ [32] ++ t := by unfold putT; rw [if_neg h0]; simp
        rw [hput] at HE hl2
        simp only [List.length_append, List.length_cons, List.length_nil] at hl2
        have hgt : (0 : Int) < (cs.length : Int) := by omega
        have hb1 : cs.length + 1 + t.length ≤ 140737488355328 := by
          have := layT_len (ts.drop (p + 1)) (cs ++ [32] ++ t); rw [← HE.out] at this; simp at this; omega
        have HW : Bx _ := ⟨WriteByte_any B b lv cs 32 wr HR.out.1 (by omega)⟩
        have HS : Bx (∀ w', PB w' B b lv (cs ++ [32]) → Calls Tryd.prog 72 #[.pointer (some ⟨b, 1, none⟩), .string ⟨t.toArray⟩] w' fun e w'' => ∃ r, e = .returned r ∧ PB w'' B b lv (cs ++ [32] ++ t) ∧ Keep w' w'' b ∧ Below B w' w'') := ⟨fun w' hp' => WriteString_any B b lv (cs ++ [32]) t w' hp' (by simp; omega) htn⟩
        have HR2 : Bx _ := ⟨HR.out.2.1⟩
        clear hput hl3 hl4 hl2
        go_wp2_with (first | (go_at_call 70; refine Calls.mono HL.out ?_; rintro e w' ⟨rfl, rfl⟩) | (go_at_call 71; refine Calls.mono HW.out ?_; rintro e w1 ⟨rfl, hp1, hk1, hb1⟩; have hz1 := hb1.size) | (go_at_call 72; refine Calls.mono (HS.out _ hp1) ?_; rintro e w2 ⟨r, rfl, hp2, hk2, hb2⟩))
        go_roundw
        case rel => exact ⟨p + 1, cs ++ [32] ++ t, by omega, by go_num, ⟨hp2, hk2 tb _ _ _ (hk1 tb _ _ _ HR2.out (by decide) htb) (by decide) htb, ⟨HR.out.2.2.1.1.trans (hb1.trans hb2), HR.out.2.2.1.2.trans (hk1.trans hk2)⟩, HE.out⟩⟩
        case measure => simp [intOf]; omega
    · have HE : Bx (layT bs ts = cs) := ⟨by rw [HR.out.2.2.2, List.drop_eq_nil_of_le (by omega)]; rfl⟩
      go_wp2
      go_end0
      exact ⟨rfl, by rw [HE.out]; exact HR.out.1, HR.out.2.2.1.1, HR.out.2.2.1.2⟩
end Go.Proofs.YtfocggaocadkmaaDoor
namespace Go.Proofs.YtfocggaocadkmaaDoor
open Go.RowKit
set_option linter.unusedVariables false
set_option linter.unusedSimpArgs false

def cost (ts : List (List UInt8)) : Nat := (ts.map fun t => t.length + 1).sum
@[simp] theorem cost_nil : cost [] = 0 := rfl
@[simp] theorem cost_cons (t : List UInt8) (r : List (List UInt8)) : cost (t :: r) = t.length + 1 + cost r := by simp [cost]
@[simp] theorem cost_append (a b : List (List UInt8)) : cost (a ++ b) = cost a + cost b := by simp [cost]
theorem layT_le : ∀ (ts : List (List UInt8)) (bs : List UInt8), (layT bs ts).length ≤ bs.length + cost ts
  | [], bs => by simp [layT_nil]
  | t :: r, bs => by
    have h1 : (putT bs t).length ≤ bs.length + t.length + 1 := by unfold putT; split <;> (try simp) <;> omega
    have := layT_le r (putT bs t)
    rw [layT_cons, cost_cons]
    omega

def strT : Value → List UInt8
  | .string s => s.data.toList
  | _ => []
def toksOf (C : Array Value) : List (List UInt8) := C.toList.map strT
def StrsOk : List Value → Prop
  | [] => True
  | .string s :: r => s.data.toList ≠ [] ∧ StrsOk r
  | _ :: _ => False
theorem strs_ok : ∀ (l : List Value), StrsOk l → (l.map strT).map (fun t => Value.string ⟨t.toArray⟩) = l ∧ ∀ t ∈ l.map strT, t ≠ []
  | [], _ => ⟨rfl, fun _ h => by cases h⟩
  | v :: r, h => by
    cases v with
    | string s =>
      obtain ⟨h1, h2⟩ := h
      obtain ⟨q1, q2⟩ := strs_ok r h2
      refine ⟨?_, ?_⟩
      · rw [List.map_cons, List.map_cons, q1]; rfl
      · intro t ht
        rw [List.map_cons] at ht
        rcases List.mem_cons.1 ht with rfl | ht
        · exact h1
        · exact q2 t ht
    | _ => exact absurd h (by simp [StrsOk])
theorem strs_eq {C : Array Value} (h : StrsOk C.toList) : (.cells C 9 (0, 0) : Obj) = strsO (toksOf C) := by
  unfold strsO toksOf
  rw [(strs_ok C.toList h).1]

/-- the printer's state -/
structure PSt (w0 : World) (B b : Nat) (lv : Value) (W : World) (bs : List UInt8) : Prop where
  pb : PB W B b lv bs
  bel : Below B w0 W
theorem PB.alloc {w : World} {B b : Nat} {lv : Value} {bs : List UInt8} (h : PB w B b lv bs) (o : Obj) : PB (w.alloc o) B b lv bs := by
  obtain ⟨p, v, hp, hbk, hown, hnil⟩ := h.ex
  exact ⟨⟨p, v, hp, by rw [(below1 w o).block b (heap_lt hbk)]; exact hbk, hown.alloc o, hnil⟩, h.lo, by have := h.hi; simp; omega⟩
theorem PSt.alloc {w0 W : World} {B b : Nat} {lv : Value} {bs : List UInt8} (h : PSt w0 B b lv W bs) (o : Obj) : PSt w0 B b lv (W.alloc o) bs := ⟨h.pb.alloc o, h.bel.alloc h.pb.hi o⟩
theorem PB.lt {w : World} {B b : Nat} {lv : Value} {bs : List UInt8} (h : PB w B b lv bs) : b < w.heap.size := by
  obtain ⟨p, v, hp, hbk, _⟩ := h.ex
  exact heap_lt hbk
/-- what a printing call leaves -/
def PrPost (w0 : World) (B b : Nat) (lv : Value) (bs : List UInt8) (T : List (List UInt8)) (W : World) (e : Ending) (W' : World) : Prop :=
  e = .returned (.tuple #[]) ∧ PSt w0 B b lv W' (layT bs T) ∧ Keep W W' b ∧ b < W'.heap.size
/-- a printing call lays the tokens T down -/
def PrC (w0 : World) (B b : Nat) (lv : Value) (N F : Nat) (args : Array Value) (T : List (List UInt8)) : Prop :=
  ∀ W bs, PSt w0 B b lv W bs → bs.length + cost T ≤ N → Calls Tryd.prog F args W (PrPost w0 B b lv bs T W)

/-- so much is laid down already -/
def PrS (w0 : World) (B b : Nat) (lv : Value) (bs : List UInt8) (T : List (List UInt8)) (W : World) : Prop := PSt w0 B b lv W (layT bs T)
theorem pr_step {w0 : World} {B b : Nat} {lv : Value} {N F : Nat} {args : Array Value} {T T2 : List (List UInt8)} {bs : List UInt8} {W : World} (h : PrC w0 B b lv N F args T2) (hs : PrS w0 B b lv bs T W) (hb : bs.length + cost (T ++ T2) ≤ N) :
    Calls Tryd.prog F args W fun e W' => e = .returned (.tuple #[]) ∧ PrS w0 B b lv bs (T ++ T2) W' ∧ Keep W W' b ∧ b < W'.heap.size := by
  have := layT_le T bs
  refine (h W _ hs (by rw [cost_append] at hb; omega)).mono ?_
  rintro e W' ⟨rfl, h1, h2, h3⟩
  exact ⟨rfl, by unfold PrS; rw [layT_append]; exact h1, h2, h3⟩
theorem lay_step {w0 : World} {B b : Nat} {lv : Value} {N : Nat} (hN : N ≤ 140737488355328) {T : List (List UInt8)} {bs : List UInt8} {W : World} {C : Array Value} {n cap : Nat} (hn : C.size = n) (hs : PrS w0 B b lv bs T W) (hok : StrsOk C.toList) (h100 : n ≤ 100) (hb : bs.length + cost (T ++ toksOf C) ≤ N) :
    Calls Tryd.prog 48 #[.pointer (some ⟨b, 0, none⟩), .slice (some ⟨W.heap.size, 0, none⟩) n cap] (W.alloc (.cells C 9)) fun e W' => e = .returned (.tuple #[]) ∧ PrS w0 B b lv bs (T ++ toksOf C) W' ∧ Keep W W' b ∧ b < W'.heap.size := by
  have h1 := layT_le T bs
  have h2 := layT_le (toksOf C) (layT bs T)
  rw [cost_append] at hb
  have hlen : (toksOf C).length = n := by rw [← hn]; simp [toksOf]
  have hlt := hs.pb.lt
  have := lay_any B b W.heap.size cap lv (toksOf C) (layT bs T) (W.alloc (.cells C 9)) (hs.pb.alloc _) (by rw [← strs_eq hok]; exact heap_alloc_new W _) (strs_ok C.toList hok).2 (by omega) (by omega) (by omega)
  rw [hlen] at this
  refine this.mono ?_
  rintro e W' ⟨rfl, q1, q2, q3⟩
  refine ⟨rfl, ⟨by rw [layT_append]; exact q1, (hs.bel.alloc hs.pb.hi _).trans q2⟩, (Keep.alloc W _ b).trans q3, q1.lt⟩

/-- the tokens of a row, and of a list, of nodes -/
def rowT (G : Nat → List (List UInt8)) (ks : List Nat) : List (List UInt8) := ks.flatMap G
def innerT (G : Nat → List (List UInt8)) : List Nat → List (List UInt8)
  | [] => []
  | k :: r => G k ++ r.flatMap fun j => [44] :: G j
theorem rowT_snoc (G : Nat → List (List UInt8)) (ks : List Nat) (k : Nat) : rowT G (ks ++ [k]) = rowT G ks ++ G k := by simp [rowT]
theorem innerT_snoc (G : Nat → List (List UInt8)) (k : Nat) : ∀ ks : List Nat, ks ≠ [] → innerT G (ks ++ [k]) = innerT G ks ++ ([[44]] ++ G k)
  | [], h => absurd rfl h
  | a :: r, _ => by simp [innerT]
theorem rowT_cost (G : Nat → List (List UInt8)) (ks : List Nat) (p : Nat) : cost (rowT G (ks.take p)) ≤ cost (rowT G ks) := by
  have h : rowT G ks = rowT G (ks.take p) ++ rowT G (ks.drop p) := by
    unfold rowT
    rw [← List.flatMap_append, List.take_append_drop]
  rw [h, cost_append]
  omega
theorem innerT_cost (G : Nat → List (List UInt8)) (ks : List Nat) (p : Nat) : cost (innerT G (ks.take p)) ≤ cost (innerT G ks) := by
  match ks, p with
  | [], p => simp [innerT]
  | k :: r, 0 => simp [innerT]
  | k :: r, p + 1 =>
    have h : r.flatMap (fun j => [44] :: G j) = (r.take p).flatMap (fun j => [44] :: G j) ++ (r.drop p).flatMap (fun j => [44] :: G j) := by
      rw [← List.flatMap_append, List.take_append_drop]
    simp only [innerT, List.take_succ_cons]
    rw [h]
    simp only [cost_append]
    omega

theorem box_cells {w : World} {x : Nat} {k p num : Int} {v nm : Value} (h : w.heap[x]? = some (.cells #[.int .i64 k, .int .i64 p, v, nm, .int .i64 num] 24 (0, 0))) :
    w.cell? ⟨x, 0, none⟩ = some (.int .i64 k) ∧ w.cell? ⟨x, 2, none⟩ = some v ∧ w.cell? ⟨x, 3, none⟩ = some nm ∧ w.cell? ⟨x, 4, none⟩ = some (.int .i64 num) ∧ w.cell? ⟨x, 1, none⟩ = some (.int .i64 p) ∧ x < w.heap.size := by
  have h0 : w.cell? ⟨x, 0, none⟩ = some (.int .i64 k) := by simp [World.cell?, h]
  exact ⟨h0, by simp [World.cell?, h], by simp [World.cell?, h], by simp [World.cell?, h], by simp [World.cell?, h], World.block_lt_of_cell? w _ h0⟩
/-- a node's call -/
def NdC (w0 : World) (B b : Nat) (lv : Value) (N : Nat) (G : Nat → List (List UInt8)) (k : Nat) : Prop := PrC w0 B b lv N 22 #[.pointer (some ⟨b, 0, none⟩), .int .i64 k] (G k)

end Go.Proofs.YtfocggaocadkmaaDoor
namespace Go.Proofs.YtfocggaocadkmaaDoor
open Go.RowKit
set_option linter.unusedVariables false
set_option linter.unusedSimpArgs false

set_option maxRecDepth 100000 in
set_option maxHeartbeats 2000000 in
theorem row_any (w0 : World) (B b : Nat) (lv : Value) (N : Nat) (G : Nat → List (List UInt8)) (ks : List Nat) (a : Option Addr) (cap : Nat) (hk : IntsV w0 B (.slice a ks.length cap) (ks.map fun k : Nat => (k : Int))) (HC : ∀ k ∈ ks, NdC w0 B b lv N G k) :
    PrC w0 B b lv N 49 #[.pointer (some ⟨b, 0, none⟩), .slice a ks.length cap] (rowT G ks) := by
  intro W bs hst hb
  have HX : Bx (IntsV w0 B (.slice a ks.length cap) (ks.map fun k : Nat => (k : Int)) ∧ ∀ k ∈ ks, NdC w0 B b lv N G k) := ⟨hk, HC⟩
  have HS : Bx _ := ⟨hst⟩
  have hkl : ks.length ≤ maxLen := by
    obtain ⟨_, _, _, _, h2, _⟩ := hk.ex
    simpa using h2
  unfold maxLen at hkl
  clear hk HC hst
  go_enter Tryd.func49, Tryd.ntmps49
  go_wp2
  go_loopw [8] (fun x wr => ∃ p : Nat, p ≤ ks.length ∧ x = .int .i64 p ∧ Bx (PrS w0 B b lv bs (rowT G (ks.take p)) wr ∧ Keep W wr b ∧ b < wr.heap.size)) (fun x _ => ks.length - (intOf x).toNat)
  case atStart => exact ⟨0, Nat.zero_le _, rfl, ⟨HS.out, Keep.refl _ _, HS.out.pb.lt⟩⟩
  case round =>
    obtain ⟨p, hp, rfl, HR⟩ := hrel
    by_cases hlt : p < ks.length
    · obtain ⟨a', cap', he, h1, h2, h3⟩ := (HX.out.1.below HR.out.1.bel).ex
      simp only [Value.slice.injEq] at he
      obtain ⟨rfl, -, rfl⟩ := he
      obtain ⟨kb, ko, rfl, hbB, hcell⟩ := h3 (by simp; omega)
      have hc := hcell p (by simpa using hlt)
      simp only [List.getElem_map] at hc
      have htk : ks.take (p + 1) = ks.take p ++ [ks[p]] := List.take_succ_eq_append_getElem hlt
      have hcst := rowT_cost G ks (p + 1)
      rw [htk, rowT_snoc] at hcst
      have HN : Bx _ := ⟨pr_step (HX.out.2 ks[p] (List.getElem_mem hlt)) HR.out.1 (by omega)⟩
      have HT : Bx (rowT G (ks.take p) ++ G ks[p] = rowT G (ks.take (p + 1))) := ⟨by rw [htk, rowT_snoc]⟩
      generalize ks[p] = k at *
      have hbl := HR.out.2.2
      have hcap : ks.length ≤ cap := by simpa using h1
      clear hcell h3 htk hcst h1 h2 hb
      go_wp2_with (first | (go_at_call 22; refine Calls.mono HN.out ?_; rintro e w1 ⟨rfl, q1, q2, q3⟩))
      go_roundw
      case rel => exact ⟨p + 1, by omega, by go_num, ⟨by rw [← HT.out]; exact q1, HR.out.2.1.trans q2, q3⟩⟩
      case measure => simp [intOf]; omega
    · have HE : Bx (ks.take p = ks) := ⟨List.take_of_length_le (by omega)⟩
      go_wp2
      go_end0
      refine ⟨rfl, ?_, HR.out.2⟩
      have := HR.out.1
      rw [HE.out] at this
      exact this

set_option maxRecDepth 100000 in
set_option maxHeartbeats 2000000 in
theorem list_any (w0 : World) (B b : Nat) (lv : Value) (N : Nat) (hN : N ≤ 140737488355328) (G : Nat → List (List UInt8)) (ks : List Nat) (a : Option Addr) (cap : Nat) (op sh : ByteArray) (hop : op.data.toList ≠ []) (hsh : sh.data.toList ≠ [])
    (hk : IntsV w0 B (.slice a ks.length cap) (ks.map fun k : Nat => (k : Int))) (HC : ∀ k ∈ ks, NdC w0 B b lv N G k) :
    PrC w0 B b lv N 50 #[.pointer (some ⟨b, 0, none⟩), .string op, .slice a ks.length cap, .string sh] ([op.data.toList] ++ innerT G ks ++ [sh.data.toList]) := by
  intro W bs hst hb
  have HX : Bx (IntsV w0 B (.slice a ks.length cap) (ks.map fun k : Nat => (k : Int)) ∧ ∀ k ∈ ks, NdC w0 B b lv N G k) := ⟨hk, HC⟩
  have HS : Bx (PrS w0 B b lv bs [] W) := ⟨hst⟩
  have hkl : ks.length ≤ maxLen := by
    obtain ⟨_, _, _, _, h2, _⟩ := hk.ex
    simpa using h2
  unfold maxLen at hkl
  have hbW := hst.pb.lt
  have HB : Bx _ := ⟨hb⟩
  have HO : Bx _ := ⟨lay_step hN (C := #[.string op]) (n := 1) (cap := 1) rfl HS.out ⟨hop, trivial⟩ (by omega) (by simp [toksOf, strT] at hb ⊢; omega)⟩
  clear hk HC hst hb
  go_enter Tryd.func50, Tryd.ntmps50
  go_wp2_with (first | (go_at_call 48; refine Calls.mono HO.out ?_; rintro e w1 ⟨rfl, q1, q2, q3⟩))
  have HQ : Bx (PrS w0 B b lv bs [op.data.toList] w1 ∧ Keep W w1 b ∧ b < w1.heap.size) := ⟨q1, q2, q3⟩
  clear q1 q2 q3
  go_loopw [16] (fun x wr => ∃ p : Nat, p ≤ ks.length ∧ x = .int .i64 p ∧ Bx (PrS w0 B b lv bs ([op.data.toList] ++ innerT G (ks.take p)) wr ∧ Keep W wr b ∧ b < wr.heap.size)) (fun x _ => ks.length - (intOf x).toNat)
  case atStart => exact ⟨0, Nat.zero_le _, rfl, ⟨by simpa [innerT] using HQ.out.1, HQ.out.2⟩⟩
  case round =>
    obtain ⟨p, hp, rfl, HR⟩ := hrel
    by_cases hlt : p < ks.length
    · obtain ⟨a', cap', he, h1, h2, h3⟩ := (HX.out.1.below HR.out.1.bel).ex
      simp only [Value.slice.injEq] at he
      obtain ⟨rfl, -, rfl⟩ := he
      obtain ⟨kb, ko, rfl, hbB, hcell⟩ := h3 (by simp; omega)
      have hc := hcell p (by simpa using hlt)
      simp only [List.getElem_map] at hc
      have hcap : ks.length ≤ cap := by simpa using h1
      have htk : ks.take (p + 1) = ks.take p ++ [ks[p]] := List.take_succ_eq_append_getElem hlt
      have hcst := innerT_cost G ks (p + 1)
      have hbb := HB.out
      simp at hbb
      have hbl := HR.out.2.2
      have HG : Bx _ := ⟨HX.out.2 ks[p] (List.getElem_mem hlt)⟩
      by_cases h0 : p = 0
      · subst h0
        rw [Nat.add_zero] at hc
        have HT : Bx (innerT G (ks.take (0 + 1)) = innerT G (ks.take 0) ++ G ks[0]) := ⟨by rw [htk]; simp [innerT]⟩
        rw [HT.out] at hcst
        have HN : Bx _ := ⟨pr_step HG.out HR.out.1 (by simp at hcst ⊢; omega)⟩
        generalize ks[0] = k at *
        clear hcell h3 htk hcst h1 h2 hbb
        go_wp2_with (first | (go_at_call 22; refine Calls.mono HN.out ?_; rintro e w2 ⟨rfl, q1, q2, q3⟩))
        go_roundw
        case rel => exact ⟨0 + 1, by omega, by go_num, ⟨by rw [HT.out]; simpa using q1, HR.out.2.1.trans q2, q3⟩⟩
        case measure => simp [intOf]; omega
      · have hne : ks.take p ≠ [] := by
          intro e
          have := congrArg List.length e
          rw [List.length_take, List.length_nil] at this
          omega
        have HT : Bx (innerT G (ks.take (p + 1)) = innerT G (ks.take p) ++ ([[44]] ++ G ks[p])) := ⟨by rw [htk, innerT_snoc _ _ _ hne]⟩
        rw [HT.out] at hcst
        have HM : Bx _ := ⟨lay_step hN (C := #[.string ⟨#[44]⟩]) (n := 1) (cap := 1) rfl HR.out.1 ⟨by simp, trivial⟩ (by omega) (by simp [toksOf, strT] at hcst ⊢; omega)⟩
        have HN : Bx (∀ W2, PrS w0 B b lv bs (([op.data.toList] ++ innerT G (ks.take p)) ++ toksOf #[.string ⟨#[44]⟩]) W2 → _) := ⟨fun W2 h2 => pr_step (T2 := G ks[p]) HG.out h2 (by simp [toksOf, strT] at hcst ⊢; omega)⟩
        have hp0 : (0 : Int) < (p : Int) := by omega
        generalize ks[p] = k at *
        clear hcell h3 htk hcst h1 h2 hbb
        go_wp2_with (first | (go_at_call 48; refine Calls.mono HM.out ?_; rintro e w2 ⟨rfl, q1, q2, q3⟩) | (go_at_call 22; refine Calls.mono (HN.out _ q1) ?_; rintro e w3 ⟨rfl, r1, r2, r3⟩))
        go_roundw
        case rel => exact ⟨p + 1, by omega, by go_num, ⟨by rw [HT.out]; simpa [toksOf, strT] using r1, HR.out.2.1.trans (q2.trans r2), r3⟩⟩
        case measure => simp [intOf]; omega
    · have HE : Bx (ks.take p = ks) := ⟨List.take_of_length_le (by omega)⟩
      have HR1 := HR.out.1
      rw [HE.out] at HR1
      have HM : Bx _ := ⟨lay_step hN (C := #[.string sh]) (n := 1) (cap := 1) rfl HR1 ⟨hsh, trivial⟩ (by omega) (by have := HB.out; simp [toksOf, strT] at this ⊢; omega)⟩
      have hbl := HR.out.2.2
      clear HR1
      go_wp2_with (first | (go_at_call 48; refine Calls.mono HM.out ?_; rintro e w2 ⟨rfl, q1, q2, q3⟩))
      go_end0
      exact ⟨rfl, q1, HR.out.2.1.trans q2, q3⟩

def resT (G : Nat → List (List UInt8)) (ks : List Nat) : List (List UInt8) := if ks.length = 0 then [] else [[58]] ++ rowT G ks
set_option maxRecDepth 100000 in
set_option maxHeartbeats 2000000 in
theorem result_any (w0 : World) (B b : Nat) (lv : Value) (N : Nat) (hN : N ≤ 140737488355328) (G : Nat → List (List UInt8)) (ks : List Nat) (a : Option Addr) (cap : Nat)
    (hk : IntsV w0 B (.slice a ks.length cap) (ks.map fun k : Nat => (k : Int))) (HC : ∀ k ∈ ks, NdC w0 B b lv N G k) :
    PrC w0 B b lv N 51 #[.pointer (some ⟨b, 0, none⟩), .slice a ks.length cap] (resT G ks) := by
  intro W bs hst hb
  have HR : Bx _ := ⟨row_any w0 B b lv N G ks a cap hk HC⟩
  have hbW := hst.pb.lt
  have HS : Bx (PrS w0 B b lv bs [] W) := ⟨hst⟩
  by_cases h0 : ks.length = 0
  · have HT : Bx (resT G ks = []) := ⟨by unfold resT; rw [if_pos h0]⟩
    rw [HT.out]
    rw [h0] at HR ⊢
    clear hb hst hk HC
    go_enter Tryd.func51, Tryd.ntmps51
    go_wp2
    go_end0
    exact ⟨rfl, HS.out, Keep.refl _ _, hbW⟩
  · have HT : Bx (resT G ks = [[58]] ++ rowT G ks) := ⟨by unfold resT; rw [if_neg h0]⟩
    rw [HT.out] at hb ⊢
    have hp0 : (0 : Int) < (ks.length : Int) := by omega
    have HM : Bx _ := ⟨lay_step hN (C := #[.string ⟨#[58]⟩]) (n := 1) (cap := 1) rfl HS.out ⟨by simp, trivial⟩ (by omega) (by simp [toksOf, strT] at hb ⊢; omega)⟩
    have HN : Bx (∀ W2, PrS w0 B b lv bs ([] ++ toksOf #[.string ⟨#[58]⟩]) W2 → _) := ⟨fun W2 h2 => pr_step HR.out h2 (by simp [toksOf, strT] at hb ⊢; omega)⟩
    clear hb hst hk HC
    go_enter Tryd.func51, Tryd.ntmps51
    go_wp2_with (first | (go_at_call 48; refine Calls.mono HM.out ?_; rintro e w2 ⟨rfl, q1, q2, q3⟩) | (go_at_call 49; refine Calls.mono (HN.out _ q1) ?_; rintro e w3 ⟨rfl, r1, r2, r3⟩))
    go_end0
    exact ⟨rfl, by simpa [toksOf, strT, PrS] using r1, q2.trans r2, r3⟩
end Go.Proofs.YtfocggaocadkmaaDoor
