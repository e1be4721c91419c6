import Derived.Test.YtecodpdfckjalaaGreatDoorZScan
import Derived.Lib.Builder
import Derived.Lib.AppendStr
import Derived.Lib.UnsafeStr
import Derived.Laws.Externs
import Derived.Test.YtecodpdfckjalaaGreatDoorZTCurA
import Derived.Test.YtecodpdfckjalaaGreatDoorZTName
import Derived.Test.YtecodpdfckjalaaGreatDoorZTChkW
import Derived.Lib.ItoaNum
import Derived.Lib.Small
set_option linter.unusedVariables false
set_option linter.unusedSimpArgs false
set_option maxHeartbeats 4000000
set_option maxRecDepth 100000
namespace Go.Proofs.YtecodpdfckjalaaGreatDoor
open Go.RowKit
def prO (lv p v : Value) : Obj := .cells #[lv, p, v] 53 (0, 0)
theorem oJ : (Tryz.prog.info? 51).map (·.size) = some 2 := by kernel_rfl
theorem liesBuilder : liesAt Tryz.prog Tryz.prog.depth 53 (3 / Tryz.prog.cellsOf 53) 1 51 1 = true := by kernel_rfl
theorem info5 : (Tryz.prog.info? 5).map (fun i => (i.zero, i.size, i.bytes)) = some (some (.int .u8 0), 1, 1) := by kernel_rfl
theorem fF {w : World} {b : Nat} {lv p v : Value} (h : w.heap[b]? = some (prO lv p v)) : w.cell? ⟨b, 0, none⟩ = some lv /\ w.cell? ⟨b, 1, none⟩ = some p /\ w.cell? ⟨b, 2, none⟩ = some v /\ (∀ i, w.frozen? ⟨b, i, none⟩ = false) /\ w.shape? b = some (53, 3) /\ b < w.heap.size := by
 have h0 : w.cell? ⟨b, 0, none⟩ = some lv := by simp [World.cell?, h, prO]
 exact ⟨h0, by simp [World.cell?, h, prO], by simp [World.cell?, h, prO], fun i => by simp [World.frozen?, h, prO], by simp [World.shape?, h, prO], World.block_lt_of_cell? w _ h0⟩
theorem qN (b : Nat) (w : World) (h0 : w.cell? ⟨b, 1, none⟩ = some (.pointer (some ⟨b, 1, none⟩))) :
  Calls Tryz.prog 97 #[.pointer (some ⟨b, 1, none⟩)] w fun e w' => e = .returned (.tuple #[]) /\ w = w' := by
 obtain ⟨j, hj, _⟩ := Option.map_eq_some_iff.1 oJ
 go_enter Tryz.func97, Tryz.ntmps97
 go_wp2
 rw [Lib.run_neq_ptr_same w _ Tryz.underlying49 hj]
 go_wp2
 go_end0
 exact ⟨rfl, rfl⟩
theorem o8 (b : Nat) (w : World) (h0 : w.cell? ⟨b, 1, none⟩ = some (.pointer none)) (hsh : w.shape? b = some (53, 3)) (hfz : w.frozen? ⟨b, 1, none⟩ = false) :
  Calls Tryz.prog 97 #[.pointer (some ⟨b, 1, none⟩)] w fun e w' => e = .returned (.tuple #[]) /\ w.setCell ⟨b, 1, none⟩ (.pointer (some ⟨b, 1, none⟩)) = w' := by
 obtain ⟨j, hj, hjs⟩ := Option.map_eq_some_iff.1 oJ
 go_enter Tryz.func97, Tryz.ntmps97
 go_wp2
 rw [Lib.run_to_unsafe w ⟨b, 1, none⟩ Tryz.underlying49 Tryz.underlying112 hj (by rw [hjs]; decide) hsh (by simp)]
 simp only [Result.andThen]
 rw [Oper.upon_value]
 go_wp2
 rw [run_callFunc_extern Tryz.func112 (by kernel_rfl) (by kernel_rfl) (by kernel_rfl) (e := Extern.AbiNoEscape.same) (by kernel_rfl)]
 rw [Lib.run_noEscape]
 simp only [Result.andThen]
 rw [Oper.upon_value]
 go_wp2
 rw [Lib.run_from_unsafe w ⟨b, 1, none⟩ Tryz.underlying112 Tryz.underlying49 hj hsh liesBuilder]
 simp only [Result.andThen]
 rw [Oper.upon_value]
 go_wp2
 go_end0
 exact ⟨rfl, rfl⟩
def fe (w w' : World) (b : Nat) : Prop := ∀ k C T fz, w.heap[k]? = some (.cells C T fz) -> T ≠ 5 -> k ≠ b -> w'.heap[k]? = some (.cells C T fz)
theorem fe.refl (w : World) (b : Nat) : fe w w b := fun _ _ _ _ h _ _ => h
theorem fe.trans {w w' w'' : World} {b : Nat} (h : fe w w' b) (h' : fe w' w'' b) : fe w w'' b := fun k C T fz h1 h2 h3 => h' k C T fz (h k C T fz h1 h2 h3) h2 h3
theorem own_ne {w : World} {B n k : Nat} {v : Value} {cs : List Value} {C : Array Value} {T : TypeId} {fz : Nat × Nat} (h : w.ownsRow B 5 1 v n cs) (hk : w.heap[k]? = some (.cells C T fz)) (hT : T ≠ 5) : v.ownBlock ≠ some k := by
 intro e
 rcases h.2 with ⟨hv, _⟩ | ⟨g, cap, cur, hv, hg, hh, _⟩
 ·rw [hv] at e; simp [Value.ownBlock] at e
 ·rw [hv] at e
  simp [Value.ownBlock] at e
  subst e
  rw [hh] at hk
  simp at hk
  exact hT hk.2.1.symm
theorem fe.set (w : World) (b i : Nat) (x : Value) : fe w (w.setCell ⟨b, i, none⟩ x) b := fun k C T fz h1 h2 h3 => by
 rw [heap_setCell_other w ⟨b, i, none⟩ k x h3]; exact h1
theorem iZ {w : World} {k : Nat} {o : Obj} (h : w.heap[k]? = some o) : k < w.heap.size := by
 rcases Nat.lt_or_ge k w.heap.size with h' | h'
 ·exact h'
 ·simp [Array.getElem?_eq_none h'] at h
theorem fe.grown {w w' : World} {B n b : Nat} {v : Value} {cs : List Value} (h : w.ownsRow B 5 1 v n cs) (hg : w.grownBy w' v.ownBlock) : fe w w' b := fun k C T fz h1 h2 h3 => by
 rw [hg.block k (iZ h1) (fun e => own_ne h h1 h2 e.symm)]; exact h1
theorem fe.alloc (w : World) (o : Obj) (b : Nat) : fe w (w.alloc o) b := fun k C T fz h1 h2 h3 => by
 rw [(ah w o).block k (iZ h1)]; exact h1
structure PB (w : World) (B b : Nat) (lv : Value) (bs : List UInt8) : Prop where
 ex : ∃ p v, (p = .pointer none ∨ p = .pointer (some ⟨b, 1, none⟩)) /\ w.heap[b]? = some (prO lv p v) /\ w.ownsRow B 5 1 v bs.length (Lib.byteCells bs) /\ (bs = [] -> v = .slice none 0 0)
 lo : B <= b
 hi : B <= w.heap.size
theorem Gf (B b : Nat) (lv : Value) (bs : List UInt8) (w : World) (h : PB w B b lv bs) :
  Calls Tryz.prog 74 #[.pointer (some ⟨b, 1, none⟩)] w fun e w' => e = .returned (.int .i64 bs.length) /\ w = w' := by
 obtain ⟨p, v, hp, hbk, hown, hnil⟩ := h.ex
 obtain ⟨ao, cap, rfl⟩ : ∃ ao cap, v = .slice ao bs.length cap := by
  rcases hown.2 with ⟨hv, h0⟩ | ⟨g, cap, cur, hv, _⟩
  ·exact ⟨none, 0, by rw [hv, h0]⟩
  ·exact ⟨_, _, hv⟩
 obtain ⟨_, _, c2, _⟩ := fF hbk
 clear hnil hbk hown
 go_enter Tryz.func74, Tryz.ntmps74
 go_wp2
 go_ret
 exact ⟨rfl, rfl⟩
theorem oK {w : World} {B b i n : Nat} {x v : Value} {cs : List Value} (h : w.ownsRow B 5 1 v n cs) (hne : v.ownBlock ≠ some b) : (w.setCell ⟨b, i, none⟩ x).ownsRow B 5 1 v n cs := by
 obtain ⟨h1, h2⟩ := h
 refine ⟨h1, ?_⟩
 rcases h2 with h2 | ⟨g, cap, cur, hv, hg, hh, r⟩
 ·exact .inl h2
 ·refine .inr ⟨g, cap, cur, hv, hg, ?_, r⟩
  rw [heap_setCell_other w ⟨b, i, none⟩ g x ?_]
  ·exact hh
  ·intro e
   apply hne
   rw [hv]
   simp [Value.ownBlock, e]
structure PU (w : World) (B b : Nat) (lv v : Value) (bs : List UInt8) : Prop where
 blk : w.heap[b]? = some (prO lv (.pointer (some ⟨b, 1, none⟩)) v)
 own : w.ownsRow B 5 1 v bs.length (Lib.byteCells bs)
 lo : B <= b
theorem tne : (53 : TypeId) ≠ 5 := by decide
theorem mW (B b : Nat) (lv : Value) (bs : List UInt8) (w : World) (h : PB w B b lv bs) :
  Calls Tryz.prog 97 #[.pointer (some ⟨b, 1, none⟩)] w fun e w' => e = .returned (.tuple #[]) /\ ∃ v, PU w' B b lv v bs /\ fe w w' b /\ Below B w w' := by
 obtain ⟨p, v, hp, hbk, hown, hnil⟩ := h.ex
 have hlo := h.lo
 obtain ⟨c0, c1, c2, f, sh, hlt⟩ := fF hbk
 rcases hp with rfl | rfl
 ·refine (o8 b w c1 sh (f 1)).mono ?_
  rintro e w' ⟨rfl, rfl⟩
  refine ⟨rfl, v, ⟨?_, oK hown (own_ne hown hbk tne), hlo⟩, fe.set w b 1 _, Below.setCell (p := ⟨b, 1, none⟩) (Below.refl B w) hlo _⟩
  exact heap_setCell_same w b 1 #[lv, .pointer none, v] 53 _ hbk
 ·refine (qN b w c1).mono ?_
  rintro e w' ⟨rfl, rfl⟩
  exact ⟨rfl, v, ⟨hbk, hown, hlo⟩, fe.refl _ _, Below.refl _ _⟩
theorem Ep {w2 : World} {B b : Nat} {lv v v' : Value} {bs' : List UInt8} (hlo : B <= b) (hhi : B <= w2.heap.size) (hown : w2.ownsRow B 5 1 v' bs'.length (Lib.byteCells bs')) (hne : bs' ≠ [])
  (hblk : w2.heap[b]? = some (prO lv (.pointer (some ⟨b, 1, none⟩)) v)) : PB (w2.setCell ⟨b, 2, none⟩ v') B b lv bs' := by
 refine ⟨⟨.pointer (some ⟨b, 1, none⟩), v', .inr rfl, ?_, oK hown (own_ne hown hblk tne), fun e => absurd e hne⟩, hlo, by simpa using hhi⟩
 exact heap_setCell_same w2 b 2 #[lv, .pointer (some ⟨b, 1, none⟩), v] 53 v' hblk
theorem si (B b : Nat) (lv : Value) (bs : List UInt8) (c : UInt8) (w : World) (h : PB w B b lv bs) (hlen : bs.length + 1 <= 140737488355328) :
  Calls Tryz.prog 75 #[.pointer (some ⟨b, 1, none⟩), .int .u8 (c.toNat : Int)] w fun e w' => e = .returned .nilIface /\ PB w' B b lv (bs ++ [c]) /\ fe w w' b /\ Below B w w' := by
 obtain ⟨i0, hi, hz0, hz1, hz2⟩ := info_parts info5
 have HC : Bx _ := ⟨mW B b lv bs w h⟩
 have hBw := h.hi
 clear h
 go_enter Tryz.func75, Tryz.ntmps75
 go_wp2_with (first | (go_at_call 97; refine Calls.mono HC.out ?_))
 rintro e w1 ⟨rfl, v, hu, hk1, hb1⟩
 obtain ⟨_, c1, c2, f, _, hlt⟩ := fF hu.blk
 have f2 := f 2
 have hown := hu.own
 go_wp2_with (at_builtin; refine wpList_append_own _ rfl _ _ 33 rfl B 5 i0 (.int .u8 0) 1 1 Tryz.underlying33 hi hz0 hz1 hz2 rfl (by decide) _ _ _ rfl (hown.alloc _) ⟨w1.heap.size, 0, none⟩ 1 1 [.int .u8 (c.toNat : Int)] rfl rfl ?c1 ?c2 ?c3 ?c4 ?c5 ?_)
 case c1 =>
  intro j u hj
  match j, hj with
  | 0, hj => simp at hj; subst hj; simp [Addr.add]
 case c2 => intro u hu; simp at hu; subst hu; rfl
 case c3 => unfold maxLen; omega
 case c4 => omega
 case c5 => have := hb1.size; simp; omega
 intro v' w2 hown' hgrow _
 have hbl2 : w2.heap[b]? = some (prO lv (.pointer (some ⟨b, 1, none⟩)) v) := by
  rw [hgrow.block b (by simp; omega) (fun e => own_ne hown hu.blk tne e.symm), (ah w1 _).block b hlt]; exact hu.blk
 obtain ⟨_, _, d2, fd, _, hlt2⟩ := fF hbl2
 have fd2 := fd 2
 obtain ⟨g, cap, rfl⟩ : ∃ g cap, v' = .slice (some ⟨g, 0, none⟩) (bs.length + 1) cap := by
  rcases hown'.2 with ⟨_, h0⟩ | ⟨g, cap, cur, hv, _⟩
  ·omega
  ·exact ⟨g, cap, hv⟩
 have hlo := hu.lo
 have HO : Bx (w2.ownsRow B 5 1 (.slice (some ⟨g, 0, none⟩) (bs.length + 1) cap) (bs ++ [c]).length (Lib.byteCells (bs ++ [c]))) := ⟨by simpa [Lib.byteCells] using hown'⟩
 have HK : Bx (fe w w2 b /\ Below B w w2) := ⟨hk1.trans ((fe.alloc w1 _ b).trans (fe.grown (hown.alloc _) hgrow)), (hb1.alloc (by have := hb1.size; omega) _).grown hgrow (by have := hb1.size; simp; omega) (fun k hk => (hown.lt k hk).1)⟩
 have HB : Bx _ := ⟨hbl2⟩
 have hz2 := HK.out.2.size
 clear hown' hgrow hown hu hk1 hb1 hbl2 fd f HC
 go_wp2
 go_ret
 exact ⟨rfl, Ep hlo (by omega) HO.out (by simp) HB.out, HK.out.1.trans (fe.set _ _ _ _), Below.setCell (p := ⟨b, 2, none⟩) HK.out.2 hlo _⟩
theorem ky (B b : Nat) (lv : Value) (bs s : List UInt8) (w : World) (h : PB w B b lv bs) (hlen : bs.length + s.length <= 140737488355328) (hs : s ≠ []) :
  Calls Tryz.prog 76 #[.pointer (some ⟨b, 1, none⟩), .string ⟨s.toArray⟩] w fun e w' => ∃ r, e = .returned r /\ PB w' B b lv (bs ++ s) /\ fe w w' b /\ Below B w w' := by
 obtain ⟨i0, hi, hz0, hz1, hz2⟩ := info_parts info5
 have HC : Bx _ := ⟨mW B b lv bs w h⟩
 have hBw := h.hi
 have hsz : (⟨s.toArray⟩ : ByteArray).size = s.length := by simp [ByteArray.size]
 have hs0 : 0 < s.length := List.length_pos_iff.2 hs
 clear h
 go_enter Tryz.func76, Tryz.ntmps76
 go_wp2_with (first | (go_at_call 97; refine Calls.mono HC.out ?_))
 rintro e w1 ⟨rfl, v, hu, hk1, hb1⟩
 obtain ⟨_, c1, c2, f, _, hlt⟩ := fF hu.blk
 have f2 := f 2
 have hown := hu.own
 go_wp2_with (at_builtin; refine Lib.wpList_append_own_string _ rfl _ _ 33 9 rfl B 5 i0 Tryz.underlying33 Tryz.underlying9 hi hz0 hz1 hz2 _ _ _ rfl hown ⟨s.toArray⟩ rfl ?c3 ?c4 ?c5 ?_)
 case c3 => unfold maxLen; omega
 case c4 => omega
 case c5 => have := hb1.size; omega
 intro v' w2 hown' hgrow _
 have hbl2 : w2.heap[b]? = some (prO lv (.pointer (some ⟨b, 1, none⟩)) v) := by
  rw [hgrow.block b hlt (fun e => own_ne hown hu.blk tne e.symm)]; exact hu.blk
 obtain ⟨_, _, d2, fd, _, hlt2⟩ := fF hbl2
 have fd2 := fd 2
 obtain ⟨g, cap, rfl⟩ : ∃ g cap, v' = .slice (some ⟨g, 0, none⟩) (bs.length + s.length) cap := by
  rcases hown'.2 with ⟨_, h0⟩ | ⟨g, cap, cur, hv, _⟩
  ·omega
  ·exact ⟨g, cap, hv⟩
 have hlo := hu.lo
 have HO : Bx (w2.ownsRow B 5 1 (.slice (some ⟨g, 0, none⟩) (bs.length + s.length) cap) (bs ++ s).length (Lib.byteCells (bs ++ s))) := ⟨by simpa [Lib.byteCells, Lib.strCells] using hown'⟩
 have HK : Bx (fe w w2 b /\ Below B w w2) := ⟨hk1.trans (fe.grown hown hgrow), hb1.grown hgrow (by have := hb1.size; omega) (fun k hk => (hown.lt k hk).1)⟩
 have HB : Bx _ := ⟨hbl2⟩
 have hz2 := HK.out.2.size
 clear hown' hgrow hown hu hk1 hb1 hbl2 fd f HC
 go_wp2
 go_ret2
 exact ⟨_, rfl, Ep hlo (by omega) HO.out (by simp [hs]) HB.out, HK.out.1.trans (fe.set _ _ _ _), Below.setCell (p := ⟨b, 2, none⟩) HK.out.2 hlo _⟩
theorem wy (B b : Nat) (lv : Value) (l : List UInt8) (w : World) (h : PB w B b lv l) (h0 : l ≠ []) :
  Calls Tryz.prog 18 #[.pointer (some ⟨b, 1, none⟩)] w fun e w' => e = .returned (.string ⟨l.toArray⟩) /\ Below B w w' := by
 obtain ⟨p, v, hp, hbk, hown, hnil⟩ := h.ex
 have hl0 : l.length ≠ 0 := by simpa using h0
 obtain ⟨g, cap, cur, rfl, hbg, hg, hnc, hcm, hcs, htake⟩ : ∃ g cap cur, v = .slice (some ⟨g, 0, none⟩) l.length cap /\ B <= g /\ w.heap[g]? = some (.cells cur 5 (0, 0)) /\ l.length <= cap /\ cap <= maxLen /\ cur.size = cap * 1 /\ cur.toList.take (l.length * 1) = Lib.byteCells l := by
  rcases hown.2 with ⟨_, hz⟩ | ⟨g, cap, cur, hv, r⟩
  ·exact absurd hz hl0
  ·exact ⟨g, cap, cur, hv, r⟩
 have c1 : w.drew.cell? ⟨b, 2, none⟩ = some (.slice (some ⟨g, 0, none⟩) l.length cap) := (fF hbk).2.2.1
 have hSD : (Builtin.unsafeSliceData_ #[33] 69 #[.slice (some ⟨g, 0, none⟩) l.length cap]).run Tryz.prog w.drew = .ok (.pointer (some ⟨g, 0, none⟩)) w.drew :=
  Lib.run_unsafeSliceData_row _ _ _ _ _ _ (by omega)
 have hUS : (Builtin.unsafeString_ #[69, 3] 9 #[.pointer (some ⟨g, 0, none⟩), .int .i64 l.length]).run Tryz.prog w.drew = .ok (.string ⟨l.toArray⟩) (w.drew.freeze ⟨g, 0, none⟩ l.length) := by
  refine Lib.run_unsafeString_row w.drew 69 3 9 5 Tryz.underlying69 (by kernel_rfl) g cur.size (by have hg' : w.drew.heap[g]? = some (.cells cur 5 (0, 0)) := hg; simp [World.shape?, hg']) l h0 (by omega) (by unfold maxLen at hcm; omega) ?_
  intro j x hx
  have := hown.cells (g := g) rfl j (.int .u8 x.toNat) (by simp [Lib.byteCells, hx])
  exact this
 clear hown hnil htake hg hbk h hp
 go_enter Tryz.func18, Tryz.ntmps18
 go_wp2
 go_region
 all_goals (go_wp2; go_ret; exact ⟨rfl, Lib.below_freeze (Below.drew (Below.refl B w)) (p := ⟨g, 0, none⟩) hbg _⟩)
theorem wz (B b : Nat) (lv : Value) (w : World) (h : PB w B b lv []) :
  Calls Tryz.prog 18 #[.pointer (some ⟨b, 1, none⟩)] w fun e w' => e = .returned (.string ⟨#[]⟩) /\ Below B w w' := by
 obtain ⟨p, v, hp, hbk, hown, hnil⟩ := h.ex
 obtain rfl := hnil rfl
 have hUS : ∀ W q, (Builtin.unsafeString_ #[69, 3] 9 #[.pointer q, .int .i64 0]).run Tryz.prog W = .ok (.string .empty) W := fun W q => Lib.run_unsafeString_none W _ _ _ q
 have c1 : w.drew.cell? ⟨b, 2, none⟩ = some (.slice none 0 0) := (fF hbk).2.2.1
 have hSD : (Builtin.unsafeSliceData_ #[33] 69 #[.slice none 0 0]).run Tryz.prog w.drew = .ok (.pointer none) w.drew := rfl
 clear hown hnil hbk h hp
 go_enter Tryz.func18, Tryz.ntmps18
 go_wp2
 go_region
 all_goals (go_wp2; go_ret; exact ⟨rfl, Below.drew (Below.refl B w)⟩)
def lG (bs t : List UInt8) : List UInt8 := if bs.length = 0 then t else bs ++ (32 :: t)
def fG (bs : List UInt8) (ts : List (List UInt8)) : List UInt8 := ts.foldl lG bs
theorem wB (bs : List UInt8) : fG bs [] = bs := rfl
theorem jI (bs t : List UInt8) (ts : List (List UInt8)) : fG bs (t :: ts) = fG (lG bs t) ts := rfl
theorem oL (bs : List UInt8) (a b : List (List UInt8)) : fG bs (a ++ b) = fG (fG bs a) b := by
 unfold fG; rw [List.foldl_append]
theorem wC (bs t : List UInt8) : bs.length <= (lG bs t).length /\ t.length <= (lG bs t).length := by
 unfold lG
 split <;> simp <;> omega
theorem mX : ∀ (ts : List (List UInt8)) (bs : List UInt8), bs.length <= (fG bs ts).length
 | [], bs => Nat.le_refl _
 | t :: r, bs => by
  rw [jI]
  exact Nat.le_trans (wC bs t).1 (mX r _)
def wD (ts : List (List UInt8)) : Obj := .cells (ts.map fun t => Value.string ⟨t.toArray⟩).toArray 9 (0, 0)
theorem Gg (B b tb cap : Nat) (lv : Value) (ts : List (List UInt8)) (bs : List UInt8) (w : World) (h : PB w B b lv bs) (ht : w.heap[tb]? = some (wD ts)) (hne : ∀ t ∈ ts, t ≠ []) (hlen : (fG bs ts).length <= 140737488355328) (hl : ts.length <= 100) (htb : tb ≠ b) :
  Calls Tryz.prog 49 #[.pointer (some ⟨b, 0, none⟩), .slice (some ⟨tb, 0, none⟩) ts.length cap] w fun e w' => e = .returned (.tuple #[]) /\ PB w' B b lv (fG bs ts) /\ Below B w w' /\ fe w w' b := by
 have HP : Bx _ := ⟨h⟩
 have HT : Bx _ := ⟨ht⟩
 clear h ht
 go_enter Tryz.func49, Tryz.ntmps49
 go_wp2
 go_loopw [8] (fun x wr => ∃ p : Nat, ∃ cs : List UInt8, p <= ts.length /\ x = .int .i64 p /\ Bx (PB wr B b lv cs /\ wr.heap[tb]? = some (wD ts) /\ (Below B w wr /\ fe w wr b) /\ fG bs ts = fG cs (ts.drop p))) (fun x _ => ts.length - (intOf x).toNat)
 case atStart => exact ⟨0, bs, Nat.zero_le _, rfl, ⟨HP.out, HT.out, ⟨Below.refl _ _, fe.refl _ _⟩, rfl⟩⟩
 case round =>
  obtain ⟨p, cs, hp, rfl, HR⟩ := hrel
  by_cases hlt : p < ts.length
  ·have hd : ts.drop p = ts[p] :: ts.drop (p + 1) := List.drop_eq_getElem_cons hlt
   have hc : wr.cell? ⟨tb, p, none⟩ = some (.string ⟨ts[p].toArray⟩) := by
    simp [World.cell?, HR.out.2.1, wD, hlt]
   have htn := hne ts[p] (List.getElem_mem hlt)
   have hle := HR.out.2.2.2
   rw [hd, jI] at hle
   generalize ts[p] = t at *
   have hl2 := mX (ts.drop (p + 1)) (lG cs t)
   rw [← hle] at hl2
   obtain ⟨hl3, hl4⟩ := wC cs t
   have hblt : b < wr.heap.size := by
    obtain ⟨q, v, _, hbk, _⟩ := HR.out.1.ex
    exact iZ hbk
   have HL : Bx _ := ⟨Gf B b lv cs wr HR.out.1⟩
   have HE : Bx _ := ⟨hle⟩
   clear hd hle
   by_cases h0 : cs.length = 0
   ·have hput : lG cs t = cs ++ t := by unfold lG; rw [if_pos h0, List.eq_nil_of_length_eq_zero h0]; rfl
    rw [hput] at HE hl2
    simp only [List.length_append] at hl2
    have hgt : ¬ (0 : Int) < (cs.length : Int) := by omega
    have HS : Bx _ := ⟨ky B b lv cs t wr HR.out.1 (by have := mX (ts.drop (p + 1)) (cs ++ t); rw [← HE.out] at this; simp at this; omega) htn⟩
    clear hput hl3 hl4 hl2
    go_wp2_with (first | (go_at_call 74; refine Calls.mono HL.out ?_; rintro e w' ⟨rfl, rfl⟩) | (go_at_call 76; refine Calls.mono HS.out ?_; rintro e w2 ⟨r, rfl, hp2, hk2, hb2⟩))
    go_roundw
    case rel => exact ⟨p + 1, cs ++ t, by omega, by go_num, ⟨hp2, hk2 tb _ _ _ HR.out.2.1 (by decide) htb, ⟨HR.out.2.2.1.1.trans hb2, HR.out.2.2.1.2.trans hk2⟩, HE.out⟩⟩
    case measure => simp [intOf]; omega
   ·have hput : lG cs t = cs ++ [32] ++ t := by unfold lG; rw [if_neg h0]; simp
    rw [hput] at HE hl2
    simp only [List.length_append, List.length_cons, List.length_nil] at hl2
    have hgt : (0 : Int) < (cs.length : Int) := by omega
    have hb1 : cs.length + 1 + t.length <= 140737488355328 := by
     have := mX (ts.drop (p + 1)) (cs ++ [32] ++ t); rw [← HE.out] at this; simp at this; omega
    have HW : Bx _ := ⟨si B b lv cs 32 wr HR.out.1 (by omega)⟩
    have HS : Bx (∀ w', PB w' B b lv (cs ++ [32]) -> Calls Tryz.prog 76 #[.pointer (some ⟨b, 1, none⟩), .string ⟨t.toArray⟩] w' fun e w'' => ∃ r, e = .returned r /\ PB w'' B b lv (cs ++ [32] ++ t) /\ fe w' w'' b /\ Below B w' w'') := ⟨fun w' hp' => ky B b lv (cs ++ [32]) t w' hp' (by simp; omega) htn⟩
    have HR2 : Bx _ := ⟨HR.out.2.1⟩
    clear hput hl3 hl4 hl2
    go_wp2_with (first | (go_at_call 74; refine Calls.mono HL.out ?_; rintro e w' ⟨rfl, rfl⟩) | (go_at_call 75; refine Calls.mono HW.out ?_; rintro e w1 ⟨rfl, hp1, hk1, hb1⟩; have hz1 := hb1.size) | (go_at_call 76; refine Calls.mono (HS.out _ hp1) ?_; rintro e w2 ⟨r, rfl, hp2, hk2, hb2⟩))
    go_roundw
    case rel => exact ⟨p + 1, cs ++ [32] ++ t, by omega, by go_num, ⟨hp2, hk2 tb _ _ _ (hk1 tb _ _ _ HR2.out (by decide) htb) (by decide) htb, ⟨HR.out.2.2.1.1.trans (hb1.trans hb2), HR.out.2.2.1.2.trans (hk1.trans hk2)⟩, HE.out⟩⟩
    case measure => simp [intOf]; omega
  ·have HE : Bx (fG bs ts = cs) := ⟨by rw [HR.out.2.2.2, List.drop_eq_nil_of_le (by omega)]; rfl⟩
   go_wp2
   go_end0
   exact ⟨rfl, by rw [HE.out]; exact HR.out.1, HR.out.2.2.1.1, HR.out.2.2.1.2⟩
def cost (ts : List (List UInt8)) : Nat := (ts.map fun t => t.length + 1).sum
@[simp] theorem cost_nil : cost [] = 0 := rfl
@[simp] theorem cost_cons (t : List UInt8) (r : List (List UInt8)) : cost (t :: r) = t.length + 1 + cost r := by simp [cost]
@[simp] theorem cost_append (a b : List (List UInt8)) : cost (a ++ b) = cost a + cost b := by simp [cost]
theorem mY : ∀ (ts : List (List UInt8)) (bs : List UInt8), (fG bs ts).length <= bs.length + cost ts
 | [], bs => by simp [wB]
 | t :: r, bs => by
  have h1 : (lG bs t).length <= bs.length + t.length + 1 := by unfold lG; split <;> (try simp) <;> omega
  have := mY r (lG bs t)
  rw [jI, cost_cons]
  omega
def aK : Value -> List UInt8
 | .string s => s.data.toList
 | _ => []
def ay (C : Array Value) : List (List UInt8) := C.toList.map aK
def bu : List Value -> Prop
 | [] => True
 | .string s :: r => s.data.toList ≠ [] /\ bu r
 | _ :: _ => False
theorem uG : ∀ (l : List Value), bu l -> (l.map aK).map (fun t => Value.string ⟨t.toArray⟩) = l /\ ∀ t ∈ l.map aK, t ≠ []
 | [], _ => ⟨rfl, fun _ h => by cases h⟩
 | v :: r, h => by
  cases v with
  | string s =>
   obtain ⟨h1, h2⟩ := h
   obtain ⟨q1, q2⟩ := uG r h2
   refine ⟨?_, ?_⟩
   ·rw [List.map_cons, List.map_cons, q1]; rfl
   ·intro t ht
    rw [List.map_cons] at ht
    rcases List.mem_cons.1 ht with rfl | ht
    ·exact h1
    ·exact q2 t ht
  | _ => exact absurd h (by simp [bu])
theorem Gh {C : Array Value} (h : bu C.toList) : (.cells C 9 (0, 0) : Obj) = wD (ay C) := by
 unfold wD ay
 rw [(uG C.toList h).1]
structure PSt (w0 : World) (B b : Nat) (lv : Value) (W : World) (bs : List UInt8) : Prop where
 pb : PB W B b lv bs
 bel : Below B w0 W
theorem PB.alloc {w : World} {B b : Nat} {lv : Value} {bs : List UInt8} (h : PB w B b lv bs) (o : Obj) : PB (w.alloc o) B b lv bs := by
 obtain ⟨p, v, hp, hbk, hown, hnil⟩ := h.ex
 exact ⟨⟨p, v, hp, by rw [(ah w o).block b (iZ hbk)]; exact hbk, hown.alloc o, hnil⟩, h.lo, by have := h.hi; simp; omega⟩
theorem PSt.alloc {w0 W : World} {B b : Nat} {lv : Value} {bs : List UInt8} (h : PSt w0 B b lv W bs) (o : Obj) : PSt w0 B b lv (W.alloc o) bs := ⟨h.pb.alloc o, h.bel.alloc h.pb.hi o⟩
theorem PB.lt {w : World} {B b : Nat} {lv : Value} {bs : List UInt8} (h : PB w B b lv bs) : b < w.heap.size := by
 obtain ⟨p, v, hp, hbk, _⟩ := h.ex
 exact iZ hbk
def Er (w0 : World) (B b : Nat) (lv : Value) (bs : List UInt8) (T : List (List UInt8)) (W : World) (e : Ending) (W' : World) : Prop :=
 e = .returned (.tuple #[]) /\ PSt w0 B b lv W' (fG bs T) /\ fe W W' b /\ b < W'.heap.size
def PrC (w0 : World) (B b : Nat) (lv : Value) (N F : Nat) (args : Array Value) (T : List (List UInt8)) : Prop :=
 ∀ W bs, PSt w0 B b lv W bs -> bs.length + cost T <= N -> Calls Tryz.prog F args W (Er w0 B b lv bs T W)
def PrS (w0 : World) (B b : Nat) (lv : Value) (bs : List UInt8) (T : List (List UInt8)) (W : World) : Prop := PSt w0 B b lv W (fG bs T)
theorem mZ {w0 : World} {B b : Nat} {lv : Value} {N F : Nat} {args : Array Value} {T T2 : List (List UInt8)} {bs : List UInt8} {W : World} (h : PrC w0 B b lv N F args T2) (hs : PrS w0 B b lv bs T W) (hb : bs.length + cost (T ++ T2) <= N) :
  Calls Tryz.prog F args W fun e W' => e = .returned (.tuple #[]) /\ PrS w0 B b lv bs (T ++ T2) W' /\ fe W W' b /\ b < W'.heap.size := by
 have := mY T bs
 refine (h W _ hs (by rw [cost_append] at hb; omega)).mono ?_
 rintro e W' ⟨rfl, h1, h2, h3⟩
 exact ⟨rfl, by unfold PrS; rw [oL]; exact h1, h2, h3⟩
theorem kS {w0 : World} {B b : Nat} {lv : Value} {N : Nat} (hN : N <= 140737488355328) {T : List (List UInt8)} {bs : List UInt8} {W : World} {C : Array Value} {n cap : Nat} (hn : C.size = n) (hs : PrS w0 B b lv bs T W) (hok : bu C.toList) (h100 : n <= 100) (hb : bs.length + cost (T ++ ay C) <= N) :
  Calls Tryz.prog 49 #[.pointer (some ⟨b, 0, none⟩), .slice (some ⟨W.heap.size, 0, none⟩) n cap] (W.alloc (.cells C 9)) fun e W' => e = .returned (.tuple #[]) /\ PrS w0 B b lv bs (T ++ ay C) W' /\ fe W W' b /\ b < W'.heap.size := by
 have h1 := mY T bs
 have h2 := mY (ay C) (fG bs T)
 rw [cost_append] at hb
 have hlen : (ay C).length = n := by rw [← hn]; simp [ay]
 have hlt := hs.pb.lt
 have := Gg B b W.heap.size cap lv (ay C) (fG bs T) (W.alloc (.cells C 9)) (hs.pb.alloc _) (by rw [← Gh hok]; exact heap_alloc_new W _) (uG C.toList hok).2 (by omega) (by omega) (by omega)
 rw [hlen] at this
 refine this.mono ?_
 rintro e W' ⟨rfl, q1, q2, q3⟩
 refine ⟨rfl, ⟨by rw [oL]; exact q1, (hs.bel.alloc hs.pb.hi _).trans q2⟩, (fe.alloc W _ b).trans q3, q1.lt⟩
def aS (G : Nat -> List (List UInt8)) (ks : List Nat) : List (List UInt8) := ks.flatMap G
def aT (G : Nat -> List (List UInt8)) : List Nat -> List (List UInt8)
 | [] => []
 | k :: r => G k ++ r.flatMap fun j => [44] :: G j
theorem sQ (G : Nat -> List (List UInt8)) (ks : List Nat) (k : Nat) : aS G (ks ++ [k]) = aS G ks ++ G k := by simp [aS]
theorem wE (G : Nat -> List (List UInt8)) (k : Nat) : ∀ ks : List Nat, ks ≠ [] -> aT G (ks ++ [k]) = aT G ks ++ ([[44]] ++ G k)
 | [], h => absurd rfl h
 | a :: r, _ => by simp [aT]
theorem Cy (G : Nat -> List (List UInt8)) (ks : List Nat) (p : Nat) : cost (aS G (ks.take p)) <= cost (aS G ks) := by
 have h : aS G ks = aS G (ks.take p) ++ aS G (ks.drop p) := by
  unfold aS
  rw [← List.flatMap_append, List.take_append_drop]
 rw [h, cost_append]
 omega
theorem wF (G : Nat -> List (List UInt8)) (ks : List Nat) (p : Nat) : cost (aT G (ks.take p)) <= cost (aT G ks) := by
 match ks, p with
 | [], p => simp [aT]
 | k :: r, 0 => simp [aT]
 | k :: r, p + 1 =>
  have h : r.flatMap (fun j => [44] :: G j) = (r.take p).flatMap (fun j => [44] :: G j) ++ (r.drop p).flatMap (fun j => [44] :: G j) := by
   rw [← List.flatMap_append, List.take_append_drop]
  simp only [aT, List.take_succ_cons]
  rw [h]
  simp only [cost_append]
  omega
theorem dP {w : World} {x : Nat} {k p num : Int} {v nm : Value} (h : w.heap[x]? = some (.cells #[.int .i64 k, .int .i64 p, v, nm, .int .i64 num] 44 (0, 0))) :
  w.cell? ⟨x, 0, none⟩ = some (.int .i64 k) /\ w.cell? ⟨x, 2, none⟩ = some v /\ w.cell? ⟨x, 3, none⟩ = some nm /\ w.cell? ⟨x, 4, none⟩ = some (.int .i64 num) /\ w.cell? ⟨x, 1, none⟩ = some (.int .i64 p) /\ x < w.heap.size := by
 have h0 : w.cell? ⟨x, 0, none⟩ = some (.int .i64 k) := by simp [World.cell?, h]
 exact ⟨h0, by simp [World.cell?, h], by simp [World.cell?, h], by simp [World.cell?, h], by simp [World.cell?, h], World.block_lt_of_cell? w _ h0⟩
def NdC (w0 : World) (B b : Nat) (lv : Value) (N : Nat) (G : Nat -> List (List UInt8)) (k : Nat) : Prop := PrC w0 B b lv N 17 #[.pointer (some ⟨b, 0, none⟩), .int .i64 k] (G k)
theorem dX (w0 : World) (B b : Nat) (lv : Value) (N : Nat) (G : Nat -> List (List UInt8)) (ks : List Nat) (a : Option Addr) (cap : Nat) (hk : aQ w0 B (.slice a ks.length cap) (ks.map fun k : Nat => (k : Int))) (HC : ∀ k ∈ ks, NdC w0 B b lv N G k) :
  PrC w0 B b lv N 50 #[.pointer (some ⟨b, 0, none⟩), .slice a ks.length cap] (aS G ks) := by
 intro W bs hst hb
 have HX : Bx (aQ w0 B (.slice a ks.length cap) (ks.map fun k : Nat => (k : Int)) /\ ∀ k ∈ ks, NdC w0 B b lv N G k) := ⟨hk, HC⟩
 have HS : Bx _ := ⟨hst⟩
 have hkl : ks.length <= maxLen := by
  obtain ⟨_, _, _, _, h2, _⟩ := hk.ex
  simpa using h2
 unfold maxLen at hkl
 clear hk HC hst
 go_enter Tryz.func50, Tryz.ntmps50
 go_wp2
 go_loopw [8] (fun x wr => ∃ p : Nat, p <= ks.length /\ x = .int .i64 p /\ Bx (PrS w0 B b lv bs (aS G (ks.take p)) wr /\ fe W wr b /\ b < wr.heap.size)) (fun x _ => ks.length - (intOf x).toNat)
 case atStart => exact ⟨0, Nat.zero_le _, rfl, ⟨HS.out, fe.refl _ _, HS.out.pb.lt⟩⟩
 case round =>
  obtain ⟨p, hp, rfl, HR⟩ := hrel
  by_cases hlt : p < ks.length
  ·obtain ⟨a', cap', he, h1, h2, h3⟩ := (HX.out.1.below HR.out.1.bel).ex
   simp only [Value.slice.injEq] at he
   obtain ⟨rfl, -, rfl⟩ := he
   obtain ⟨kb, ko, rfl, hbB, hcell⟩ := h3 (by simp; omega)
   have hc := hcell p (by simpa using hlt)
   simp only [List.getElem_map] at hc
   have htk : ks.take (p + 1) = ks.take p ++ [ks[p]] := List.take_succ_eq_append_getElem hlt
   have hcst := Cy G ks (p + 1)
   rw [htk, sQ] at hcst
   have HN : Bx _ := ⟨mZ (HX.out.2 ks[p] (List.getElem_mem hlt)) HR.out.1 (by omega)⟩
   have HT : Bx (aS G (ks.take p) ++ G ks[p] = aS G (ks.take (p + 1))) := ⟨by rw [htk, sQ]⟩
   generalize ks[p] = k at *
   have hbl := HR.out.2.2
   have hcap : ks.length <= cap := by simpa using h1
   clear hcell h3 htk hcst h1 h2 hb
   go_wp2_with (first | (go_at_call 17; refine Calls.mono HN.out ?_; rintro e w1 ⟨rfl, q1, q2, q3⟩))
   go_roundw
   case rel => exact ⟨p + 1, by omega, by go_num, ⟨by rw [← HT.out]; exact q1, HR.out.2.1.trans q2, q3⟩⟩
   case measure => simp [intOf]; omega
  ·have HE : Bx (ks.take p = ks) := ⟨List.take_of_length_le (by omega)⟩
   go_wp2
   go_end0
   refine ⟨rfl, ?_, HR.out.2⟩
   have := HR.out.1
   rw [HE.out] at this
   exact this
theorem eY (w0 : World) (B b : Nat) (lv : Value) (N : Nat) (hN : N <= 140737488355328) (G : Nat -> List (List UInt8)) (ks : List Nat) (a : Option Addr) (cap : Nat) (op sh : ByteArray) (hop : op.data.toList ≠ []) (hsh : sh.data.toList ≠ [])
  (hk : aQ w0 B (.slice a ks.length cap) (ks.map fun k : Nat => (k : Int))) (HC : ∀ k ∈ ks, NdC w0 B b lv N G k) :
  PrC w0 B b lv N 51 #[.pointer (some ⟨b, 0, none⟩), .string op, .slice a ks.length cap, .string sh] ([op.data.toList] ++ aT G ks ++ [sh.data.toList]) := by
 intro W bs hst hb
 have HX : Bx (aQ w0 B (.slice a ks.length cap) (ks.map fun k : Nat => (k : Int)) /\ ∀ k ∈ ks, NdC w0 B b lv N G k) := ⟨hk, HC⟩
 have HS : Bx (PrS w0 B b lv bs [] W) := ⟨hst⟩
 have hkl : ks.length <= maxLen := by
  obtain ⟨_, _, _, _, h2, _⟩ := hk.ex
  simpa using h2
 unfold maxLen at hkl
 have hbW := hst.pb.lt
 have HB : Bx _ := ⟨hb⟩
 have HO : Bx _ := ⟨kS hN (C := #[.string op]) (n := 1) (cap := 1) rfl HS.out ⟨hop, trivial⟩ (by omega) (by simp [ay, aK] at hb ⊢; omega)⟩
 clear hk HC hst hb
 go_enter Tryz.func51, Tryz.ntmps51
 go_wp2_with (first | (go_at_call 49; refine Calls.mono HO.out ?_; rintro e w1 ⟨rfl, q1, q2, q3⟩))
 have HQ : Bx (PrS w0 B b lv bs [op.data.toList] w1 /\ fe W w1 b /\ b < w1.heap.size) := ⟨q1, q2, q3⟩
 clear q1 q2 q3
 go_loopw [16] (fun x wr => ∃ p : Nat, p <= ks.length /\ x = .int .i64 p /\ Bx (PrS w0 B b lv bs ([op.data.toList] ++ aT G (ks.take p)) wr /\ fe W wr b /\ b < wr.heap.size)) (fun x _ => ks.length - (intOf x).toNat)
 case atStart => exact ⟨0, Nat.zero_le _, rfl, ⟨by simpa [aT] using HQ.out.1, HQ.out.2⟩⟩
 case round =>
  obtain ⟨p, hp, rfl, HR⟩ := hrel
  by_cases hlt : p < ks.length
  ·obtain ⟨a', cap', he, h1, h2, h3⟩ := (HX.out.1.below HR.out.1.bel).ex
   simp only [Value.slice.injEq] at he
   obtain ⟨rfl, -, rfl⟩ := he
   obtain ⟨kb, ko, rfl, hbB, hcell⟩ := h3 (by simp; omega)
   have hc := hcell p (by simpa using hlt)
   simp only [List.getElem_map] at hc
   have hcap : ks.length <= cap := by simpa using h1
   have htk : ks.take (p + 1) = ks.take p ++ [ks[p]] := List.take_succ_eq_append_getElem hlt
   have hcst := wF G ks (p + 1)
   have hbb := HB.out
   simp at hbb
   have hbl := HR.out.2.2
   have HG : Bx _ := ⟨HX.out.2 ks[p] (List.getElem_mem hlt)⟩
   by_cases h0 : p = 0
   ·subst h0
    rw [Nat.add_zero] at hc
    have HT : Bx (aT G (ks.take (0 + 1)) = aT G (ks.take 0) ++ G ks[0]) := ⟨by rw [htk]; simp [aT]⟩
    rw [HT.out] at hcst
    have HN : Bx _ := ⟨mZ HG.out HR.out.1 (by simp at hcst ⊢; omega)⟩
    generalize ks[0] = k at *
    clear hcell h3 htk hcst h1 h2 hbb
    go_wp2_with (first | (go_at_call 17; refine Calls.mono HN.out ?_; rintro e w2 ⟨rfl, q1, q2, q3⟩))
    go_roundw
    case rel => exact ⟨0 + 1, by omega, by go_num, ⟨by rw [HT.out]; simpa using q1, HR.out.2.1.trans q2, q3⟩⟩
    case measure => simp [intOf]; omega
   ·have hne : ks.take p ≠ [] := by
     intro e
     have := congrArg List.length e
     rw [List.length_take, List.length_nil] at this
     omega
    have HT : Bx (aT G (ks.take (p + 1)) = aT G (ks.take p) ++ ([[44]] ++ G ks[p])) := ⟨by rw [htk, wE _ _ _ hne]⟩
    rw [HT.out] at hcst
    have HM : Bx _ := ⟨kS hN (C := #[.string ⟨#[44]⟩]) (n := 1) (cap := 1) rfl HR.out.1 ⟨by simp, trivial⟩ (by omega) (by simp [ay, aK] at hcst ⊢; omega)⟩
    have HN : Bx (∀ W2, PrS w0 B b lv bs (([op.data.toList] ++ aT G (ks.take p)) ++ ay #[.string ⟨#[44]⟩]) W2 -> _) := ⟨fun W2 h2 => mZ (T2 := G ks[p]) HG.out h2 (by simp [ay, aK] at hcst ⊢; omega)⟩
    have hp0 : (0 : Int) < (p : Int) := by omega
    generalize ks[p] = k at *
    clear hcell h3 htk hcst h1 h2 hbb
    go_wp2_with (first | (go_at_call 49; refine Calls.mono HM.out ?_; rintro e w2 ⟨rfl, q1, q2, q3⟩) | (go_at_call 17; refine Calls.mono (HN.out _ q1) ?_; rintro e w3 ⟨rfl, r1, r2, r3⟩))
    go_roundw
    case rel => exact ⟨p + 1, by omega, by go_num, ⟨by rw [HT.out]; simpa [ay, aK] using r1, HR.out.2.1.trans (q2.trans r2), r3⟩⟩
    case measure => simp [intOf]; omega
  ·have HE : Bx (ks.take p = ks) := ⟨List.take_of_length_le (by omega)⟩
   have HR1 := HR.out.1
   rw [HE.out] at HR1
   have HM : Bx _ := ⟨kS hN (C := #[.string sh]) (n := 1) (cap := 1) rfl HR1 ⟨hsh, trivial⟩ (by omega) (by have := HB.out; simp [ay, aK] at this ⊢; omega)⟩
   have hbl := HR.out.2.2
   clear HR1
   go_wp2_with (first | (go_at_call 49; refine Calls.mono HM.out ?_; rintro e w2 ⟨rfl, q1, q2, q3⟩))
   go_end0
   exact ⟨rfl, q1, HR.out.2.1.trans q2, q3⟩
def gX (G : Nat -> List (List UInt8)) (ks : List Nat) : List (List UInt8) := if ks.length = 0 then [] else [[58]] ++ aS G ks
theorem gU (w0 : World) (B b : Nat) (lv : Value) (N : Nat) (hN : N <= 140737488355328) (G : Nat -> List (List UInt8)) (ks : List Nat) (a : Option Addr) (cap : Nat)
  (hk : aQ w0 B (.slice a ks.length cap) (ks.map fun k : Nat => (k : Int))) (HC : ∀ k ∈ ks, NdC w0 B b lv N G k) :
  PrC w0 B b lv N 52 #[.pointer (some ⟨b, 0, none⟩), .slice a ks.length cap] (gX G ks) := by
 intro W bs hst hb
 have HR : Bx _ := ⟨dX w0 B b lv N G ks a cap hk HC⟩
 have hbW := hst.pb.lt
 have HS : Bx (PrS w0 B b lv bs [] W) := ⟨hst⟩
 by_cases h0 : ks.length = 0
 ·have HT : Bx (gX G ks = []) := ⟨by unfold gX; rw [if_pos h0]⟩
  rw [HT.out]
  rw [h0] at HR ⊢
  clear hb hst hk HC
  go_enter Tryz.func52, Tryz.ntmps52
  go_wp2
  go_end0
  exact ⟨rfl, HS.out, fe.refl _ _, hbW⟩
 ·have HT : Bx (gX G ks = [[58]] ++ aS G ks) := ⟨by unfold gX; rw [if_neg h0]⟩
  rw [HT.out] at hb ⊢
  have hp0 : (0 : Int) < (ks.length : Int) := by omega
  have HM : Bx _ := ⟨kS hN (C := #[.string ⟨#[58]⟩]) (n := 1) (cap := 1) rfl HS.out ⟨by simp, trivial⟩ (by omega) (by simp [ay, aK] at hb ⊢; omega)⟩
  have HN : Bx (∀ W2, PrS w0 B b lv bs ([] ++ ay #[.string ⟨#[58]⟩]) W2 -> _) := ⟨fun W2 h2 => mZ HR.out h2 (by simp [ay, aK] at hb ⊢; omega)⟩
  clear hb hst hk HC
  go_enter Tryz.func52, Tryz.ntmps52
  go_wp2_with (first | (go_at_call 49; refine Calls.mono HM.out ?_; rintro e w2 ⟨rfl, q1, q2, q3⟩) | (go_at_call 50; refine Calls.mono (HN.out _ q1) ?_; rintro e w3 ⟨rfl, r1, r2, r3⟩))
  go_end0
  exact ⟨rfl, by simpa [ay, aK, PrS] using r1, q2.trans r2, r3⟩
def bq (G : Nat -> List (List UInt8)) (kd num : Int) (nm : List UInt8) (ks : List Nat) : List (List UInt8) :=
 if kd = 1 then [[105, 110, 116]]
 else if kd = 2 then [[98, 111, 111, 108]]
 else if kd = 3 then [nm]
 else if kd = 4 then [[97, 114, 114, 97, 121], [111, 102]] ++ aS G ks
 else if kd = 5 then ([[40]] ++ aT G ks ++ [[41]])
 else if kd = 6 then [[99, 104, 97, 110], [111, 102]] ++ aS G ks
 else if kd = 7 then [[112, 114, 111, 103]] ++ ([[40]] ++ aT G (ks.take (ks.length - num.toNat)) ++ [[41]]) ++ gX G (ks.drop (ks.length - num.toNat))
 else if kd = 11 then [Lib.itoa num]
 else if kd = 12 then [Lib.formatBool (num == 1)]
 else if kd = 13 then [nm]
 else if kd = 14 then ([[40]] ++ aT G ks ++ [[41]])
 else if kd = 15 then ([[40]] ++ aT G ks ++ [[41]])
 else if kd = 16 then ([[91]] ++ aT G ks ++ [[93]])
 else if kd = 17 then [[102, 105, 108, 108]] ++ ([[40]] ++ aT G ks ++ [[41]])
 else if kd = 18 then [[108, 101, 110]] ++ ([[40]] ++ aT G ks ++ [[41]])
 else if kd = 19 then [[109, 97, 107, 101]] ++ aS G ks
 else if kd = 20 then [[112, 114, 111, 103]] ++ (if nm = [] then [] else [nm]) ++ ([[40]] ++ aT G (ks.take (ks.length - 1 - num.toNat)) ++ [[41]]) ++ gX G ((ks.take (ks.length - 1)).drop (ks.length - 1 - num.toNat)) ++ aS G (ks.drop (ks.length - 1))
 else if kd = 21 then [opT num] ++ aS G ks
 else if kd = 22 then aS G (ks.take 1) ++ [opT num] ++ aS G (ks.drop 1)
 else if kd = 23 then aS G (ks.take 1) ++ ([[40]] ++ aT G (ks.drop 1) ++ [[41]])
 else if kd = 24 then aS G (ks.take 1) ++ ([[91]] ++ aT G (ks.drop 1) ++ [[93]])
 else if kd = 25 then aS G (ks.take 1) ++ [[46], Lib.itoa num]
 else if kd = 31 then [[118, 97, 108], nm, [61]] ++ aS G ks ++ [[59]]
 else if kd = 32 then [[118, 97, 114], nm, [58]] ++ aS G (ks.take 1) ++ (if ks.length <= 1 then [] else [[61]] ++ aS G (ks.drop 1)) ++ [[59]]
 else if kd = 33 then aS G (ks.take 1) ++ [[61]] ++ aS G (ks.drop 1) ++ [[59]]
 else if kd = 34 then aS G (ks.take 1) ++ [[60, 45, 61]] ++ aS G (ks.drop 1) ++ [[59]]
 else if kd = 35 then aS G ks ++ [[59]]
 else if kd = 36 then [[105, 102]] ++ aS G (ks.take 2) ++ (if ks.length <= 2 then [] else [[101, 108, 115, 101]] ++ aS G (ks.drop 2))
 else if kd = 37 then [[119, 104, 105, 108, 101]] ++ aS G ks
 else if kd = 38 then [[114, 101, 116, 117, 114, 110]] ++ aS G ks ++ [[59]]
 else if kd = 39 then [[98, 101, 103, 105, 110]] ++ aS G ks ++ [[59]]
 else if kd = 40 then [[115, 101, 108, 101, 99, 116], [123]] ++ aS G ks ++ [[125]]
 else if kd = 41 then [[123]] ++ aS G ks ++ [[125]]
 else if kd = 42 then [nm, [58]] ++ aS G ks
 else if kd = 43 then [[99, 97, 115, 101]] ++ (if nm = [] then [] else [nm, [61]]) ++ [[60, 45]] ++ aS G ks
 else if kd = 44 then [[99, 97, 115, 101]] ++ aS G (ks.take 1) ++ [[60, 45, 61]] ++ aS G (ks.drop 1)
 else if kd = 45 then [[116, 121, 112, 101], nm, [61]] ++ aS G ks ++ [[59]]
 else if kd = 46 then aS G ks
 else []
theorem Bb (G : Nat -> List (List UInt8)) (num : Int) (nm : List UInt8) (ks : List Nat) : bq G 1 num nm ks = [[105, 110, 116]] := rfl
theorem Bc (G : Nat -> List (List UInt8)) (num : Int) (nm : List UInt8) (ks : List Nat) : bq G 2 num nm ks = [[98, 111, 111, 108]] := rfl
theorem Bd (G : Nat -> List (List UInt8)) (num : Int) (nm : List UInt8) (ks : List Nat) : bq G 3 num nm ks = [nm] := rfl
theorem Be (G : Nat -> List (List UInt8)) (num : Int) (nm : List UInt8) (ks : List Nat) : bq G 4 num nm ks = [[97, 114, 114, 97, 121], [111, 102]] ++ aS G ks := rfl
theorem Bf (G : Nat -> List (List UInt8)) (num : Int) (nm : List UInt8) (ks : List Nat) : bq G 5 num nm ks = ([[40]] ++ aT G ks ++ [[41]]) := rfl
theorem Bg (G : Nat -> List (List UInt8)) (num : Int) (nm : List UInt8) (ks : List Nat) : bq G 6 num nm ks = [[99, 104, 97, 110], [111, 102]] ++ aS G ks := rfl
theorem uH (G : Nat -> List (List UInt8)) (num : Int) (nm : List UInt8) (ks : List Nat) : bq G 7 num nm ks = [[112, 114, 111, 103]] ++ ([[40]] ++ aT G (ks.take (ks.length - num.toNat)) ++ [[41]]) ++ gX G (ks.drop (ks.length - num.toNat)) := rfl
theorem wG (G : Nat -> List (List UInt8)) (num : Int) (nm : List UInt8) (ks : List Nat) : bq G 11 num nm ks = [Lib.itoa num] := rfl
theorem wH (G : Nat -> List (List UInt8)) (num : Int) (nm : List UInt8) (ks : List Nat) : bq G 12 num nm ks = [Lib.formatBool (num == 1)] := rfl
theorem wI (G : Nat -> List (List UInt8)) (num : Int) (nm : List UInt8) (ks : List Nat) : bq G 13 num nm ks = [nm] := rfl
theorem wJ (G : Nat -> List (List UInt8)) (num : Int) (nm : List UInt8) (ks : List Nat) : bq G 14 num nm ks = ([[40]] ++ aT G ks ++ [[41]]) := rfl
theorem wK (G : Nat -> List (List UInt8)) (num : Int) (nm : List UInt8) (ks : List Nat) : bq G 15 num nm ks = ([[40]] ++ aT G ks ++ [[41]]) := rfl
theorem wL (G : Nat -> List (List UInt8)) (num : Int) (nm : List UInt8) (ks : List Nat) : bq G 16 num nm ks = ([[91]] ++ aT G ks ++ [[93]]) := rfl
theorem wM (G : Nat -> List (List UInt8)) (num : Int) (nm : List UInt8) (ks : List Nat) : bq G 17 num nm ks = [[102, 105, 108, 108]] ++ ([[40]] ++ aT G ks ++ [[41]]) := rfl
theorem wN (G : Nat -> List (List UInt8)) (num : Int) (nm : List UInt8) (ks : List Nat) : bq G 18 num nm ks = [[108, 101, 110]] ++ ([[40]] ++ aT G ks ++ [[41]]) := rfl
theorem wO (G : Nat -> List (List UInt8)) (num : Int) (nm : List UInt8) (ks : List Nat) : bq G 19 num nm ks = [[109, 97, 107, 101]] ++ aS G ks := rfl
theorem kT (G : Nat -> List (List UInt8)) (num : Int) (nm : List UInt8) (ks : List Nat) : bq G 20 num nm ks = [[112, 114, 111, 103]] ++ (if nm = [] then [] else [nm]) ++ ([[40]] ++ aT G (ks.take (ks.length - 1 - num.toNat)) ++ [[41]]) ++ gX G ((ks.take (ks.length - 1)).drop (ks.length - 1 - num.toNat)) ++ aS G (ks.drop (ks.length - 1)) := rfl
theorem wP (G : Nat -> List (List UInt8)) (num : Int) (nm : List UInt8) (ks : List Nat) : bq G 21 num nm ks = [opT num] ++ aS G ks := rfl
theorem wQ (G : Nat -> List (List UInt8)) (num : Int) (nm : List UInt8) (ks : List Nat) : bq G 22 num nm ks = aS G (ks.take 1) ++ [opT num] ++ aS G (ks.drop 1) := rfl
theorem wR (G : Nat -> List (List UInt8)) (num : Int) (nm : List UInt8) (ks : List Nat) : bq G 23 num nm ks = aS G (ks.take 1) ++ ([[40]] ++ aT G (ks.drop 1) ++ [[41]]) := rfl
theorem wS (G : Nat -> List (List UInt8)) (num : Int) (nm : List UInt8) (ks : List Nat) : bq G 24 num nm ks = aS G (ks.take 1) ++ ([[91]] ++ aT G (ks.drop 1) ++ [[93]]) := rfl
theorem wT (G : Nat -> List (List UInt8)) (num : Int) (nm : List UInt8) (ks : List Nat) : bq G 25 num nm ks = aS G (ks.take 1) ++ [[46], Lib.itoa num] := rfl
theorem wU (G : Nat -> List (List UInt8)) (num : Int) (nm : List UInt8) (ks : List Nat) : bq G 31 num nm ks = [[118, 97, 108], nm, [61]] ++ aS G ks ++ [[59]] := rfl
theorem qO (G : Nat -> List (List UInt8)) (num : Int) (nm : List UInt8) (ks : List Nat) : bq G 32 num nm ks = [[118, 97, 114], nm, [58]] ++ aS G (ks.take 1) ++ (if ks.length <= 1 then [] else [[61]] ++ aS G (ks.drop 1)) ++ [[59]] := rfl
theorem wV (G : Nat -> List (List UInt8)) (num : Int) (nm : List UInt8) (ks : List Nat) : bq G 33 num nm ks = aS G (ks.take 1) ++ [[61]] ++ aS G (ks.drop 1) ++ [[59]] := rfl
theorem wW (G : Nat -> List (List UInt8)) (num : Int) (nm : List UInt8) (ks : List Nat) : bq G 34 num nm ks = aS G (ks.take 1) ++ [[60, 45, 61]] ++ aS G (ks.drop 1) ++ [[59]] := rfl
theorem wX (G : Nat -> List (List UInt8)) (num : Int) (nm : List UInt8) (ks : List Nat) : bq G 35 num nm ks = aS G ks ++ [[59]] := rfl
theorem qP (G : Nat -> List (List UInt8)) (num : Int) (nm : List UInt8) (ks : List Nat) : bq G 36 num nm ks = [[105, 102]] ++ aS G (ks.take 2) ++ (if ks.length <= 2 then [] else [[101, 108, 115, 101]] ++ aS G (ks.drop 2)) := rfl
theorem wY (G : Nat -> List (List UInt8)) (num : Int) (nm : List UInt8) (ks : List Nat) : bq G 37 num nm ks = [[119, 104, 105, 108, 101]] ++ aS G ks := rfl
theorem wZ (G : Nat -> List (List UInt8)) (num : Int) (nm : List UInt8) (ks : List Nat) : bq G 38 num nm ks = [[114, 101, 116, 117, 114, 110]] ++ aS G ks ++ [[59]] := rfl
theorem w9 (G : Nat -> List (List UInt8)) (num : Int) (nm : List UInt8) (ks : List Nat) : bq G 39 num nm ks = [[98, 101, 103, 105, 110]] ++ aS G ks ++ [[59]] := rfl
theorem xc (G : Nat -> List (List UInt8)) (num : Int) (nm : List UInt8) (ks : List Nat) : bq G 40 num nm ks = [[115, 101, 108, 101, 99, 116], [123]] ++ aS G ks ++ [[125]] := rfl
theorem xe (G : Nat -> List (List UInt8)) (num : Int) (nm : List UInt8) (ks : List Nat) : bq G 41 num nm ks = [[123]] ++ aS G ks ++ [[125]] := rfl
theorem xf (G : Nat -> List (List UInt8)) (num : Int) (nm : List UInt8) (ks : List Nat) : bq G 42 num nm ks = [nm, [58]] ++ aS G ks := rfl
theorem qQ (G : Nat -> List (List UInt8)) (num : Int) (nm : List UInt8) (ks : List Nat) : bq G 43 num nm ks = [[99, 97, 115, 101]] ++ (if nm = [] then [] else [nm, [61]]) ++ [[60, 45]] ++ aS G ks := rfl
theorem xg (G : Nat -> List (List UInt8)) (num : Int) (nm : List UInt8) (ks : List Nat) : bq G 44 num nm ks = [[99, 97, 115, 101]] ++ aS G (ks.take 1) ++ [[60, 45, 61]] ++ aS G (ks.drop 1) := rfl
theorem xh (G : Nat -> List (List UInt8)) (num : Int) (nm : List UInt8) (ks : List Nat) : bq G 45 num nm ks = [[116, 121, 112, 101], nm, [61]] ++ aS G ks ++ [[59]] := rfl
theorem xk (G : Nat -> List (List UInt8)) (num : Int) (nm : List UInt8) (ks : List Nat) : bq G 46 num nm ks = aS G ks := rfl
theorem jk {G G' : Nat -> List (List UInt8)} : ∀ {ks : List Nat}, (∀ k ∈ ks, G k = G' k) -> aS G ks = aS G' ks
 | [], _ => rfl
 | k :: r, h => by
  unfold aS
  rw [List.flatMap_cons, List.flatMap_cons, h k List.mem_cons_self]
  have := jk (ks := r) (fun j hj => h j (List.mem_cons_of_mem _ hj))
  unfold aS at this
  rw [this]
theorem qR {G G' : Nat -> List (List UInt8)} : ∀ {ks : List Nat}, (∀ k ∈ ks, G k = G' k) -> (ks.flatMap fun j => [44] :: G j) = ks.flatMap fun j => [44] :: G' j
 | [], _ => rfl
 | k :: r, h => by
  rw [List.flatMap_cons, List.flatMap_cons, h k List.mem_cons_self, qR (ks := r) (fun j hj => h j (List.mem_cons_of_mem _ hj))]
theorem jZ {G G' : Nat -> List (List UInt8)} {ks : List Nat} (h : ∀ k ∈ ks, G k = G' k) : aT G ks = aT G' ks := by
 match ks, h with
 | [], _ => rfl
 | k :: r, h =>
  show G k ++ _ = G' k ++ _
  rw [h k List.mem_cons_self, qR (ks := r) (fun j hj => h j (List.mem_cons_of_mem _ hj))]
theorem qU {G G' : Nat -> List (List UInt8)} {ks : List Nat} (h : ∀ k ∈ ks, G k = G' k) : gX G ks = gX G' ks := by
 unfold gX
 rw [jk h]
theorem oM {G G' : Nat -> List (List UInt8)} {kd num : Int} {nm : List UInt8} {ks : List Nat} (h : ∀ k ∈ ks, G k = G' k) : bq G kd num nm ks = bq G' kd num nm ks := by
 have t : ∀ n, ∀ k ∈ ks.take n, G k = G' k := fun n k hk => h k (List.mem_of_mem_take hk)
 have d : ∀ n, ∀ k ∈ ks.drop n, G k = G' k := fun n k hk => h k (List.mem_of_mem_drop hk)
 have td : ∀ n m, ∀ k ∈ (ks.take n).drop m, G k = G' k := fun n m k hk => h k (List.mem_of_mem_take (List.mem_of_mem_drop hk))
 have r0 := jk h
 have r1 := fun n => jk (t n)
 have r2 := fun n => jk (d n)
 have i0 := jZ h
 have i1 := fun n => jZ (t n)
 have i2 := fun n => jZ (d n)
 have q2 := fun n => qU (d n)
 have q3 := fun n m => qU (td n m)
 unfold bq
 simp only [r0, r1, r2, i0, i1, i2, q2, q3]
def iV (l : List Nd) (j : Nat) : List Nat := (ndN l j).kids.map Int.toNat
def lQ (l : List Nd) : Nat -> Nat -> List (List UInt8)
 | 0, _ => []
 | f + 1, j => bq (lQ l f) (ndN l j).kind (ndN l j).num (ndN l j).name.data.toList (iV l j)
def gG (l : List Nd) (j : Nat) : List (List UInt8) := lQ l (j + 1) j
theorem qV {l : List Nd} {n : Nat} (hk : ∀ j, j < n -> ∀ k ∈ iV l j, k < j) : ∀ (f f' j : Nat), j < n -> j < f -> j < f' -> lQ l f j = lQ l f' j
 | 0, _, j, _, h, _ => by omega
 | f + 1, 0, j, _, _, h => by omega
 | f + 1, f' + 1, j, hn, h1, h2 => by
  rw [lQ, lQ]
  apply oM
  intro k hm
  have := hk j hn k hm
  exact qV hk f f' k (by omega) (by omega) (by omega)
theorem qW {l : List Nd} {n : Nat} (hk : ∀ j, j < n -> ∀ k ∈ iV l j, k < j) {j : Nat} (hj : j < n) :
  gG l j = bq (gG l) (ndN l j).kind (ndN l j).num (ndN l j).name.data.toList (iV l j) := by
 unfold gG
 rw [lQ]
 apply oM
 intro k hm
 have := hk j hj k hm
 exact qV hk j (k + 1) k (by omega) (by omega) (by omega)
def gH (G : Nat -> List (List UInt8)) (ks : List Nat) : Nat := (ks.map fun k => cost (G k) + 2).sum
theorem ng (G : Nat -> List (List UInt8)) (a b : List Nat) : gH G (a ++ b) = gH G a + gH G b := by simp [gH]
theorem lS (G : Nat -> List (List UInt8)) : ∀ a : List Nat, gH G a.reverse = gH G a
 | [] => rfl
 | k :: r => by
  rw [List.reverse_cons, ng, lS G r]
  simp [gH]
  omega
theorem oN (G : Nat -> List (List UInt8)) (a : List Nat) (n : Nat) : gH G (a.take n) + gH G (a.drop n) = gH G a := by
 rw [← ng, List.take_append_drop]
theorem zX (G : Nat -> List (List UInt8)) : ∀ ks : List Nat, cost (aS G ks) <= gH G ks
 | [] => by simp [aS]
 | k :: r => by
  have := zX G r
  unfold aS at this ⊢
  rw [List.flatMap_cons, cost_append]
  simp only [gH, List.map_cons, List.sum_cons] at this ⊢
  omega
theorem Bh (G : Nat -> List (List UInt8)) : ∀ ks : List Nat, cost (ks.flatMap fun j => [44] :: G j) <= gH G ks
 | [] => by simp
 | k :: r => by
  have := Bh G r
  rw [List.flatMap_cons, cost_append, cost_cons]
  simp only [gH, List.map_cons, List.sum_cons, List.length_cons, List.length_nil] at this ⊢
  omega
theorem Es (G : Nat -> List (List UInt8)) : ∀ ks : List Nat, cost (aT G ks) <= gH G ks
 | [] => by simp [aT]
 | k :: r => by
  have := Bh G r
  show cost (G k ++ _) <= _
  rw [cost_append]
  simp only [gH, List.map_cons, List.sum_cons] at this ⊢
  omega
theorem IE (G : Nat -> List (List UInt8)) (ks : List Nat) : cost (gX G ks) <= gH G ks + 2 := by
 have := zX G ks
 unfold gX
 split
 ·simp
 ·rw [cost_append, cost_cons]
  simp only [List.length_cons, List.length_nil, cost_nil]
  omega
theorem Gi {p : Prop} [Decidable p] {a b : List UInt8} {n : Nat} (h1 : a.length <= n) (h2 : b.length <= n) : (if p then a else b).length <= n := by split <;> assumption
theorem Gj (n : Int) : (opT n).length <= 2 := by
 unfold opT
 repeat (refine Gi (by simp) ?_)
 simp
theorem Et (b : Bool) : (Lib.formatBool b).length <= 5 := by cases b <;> decide +kernel
theorem Gl (nm : List UInt8) : cost (if nm = [] then [] else [nm]) <= nm.length + 1 := by
 split <;> simp
theorem Eu (nm : List UInt8) : cost (if nm = [] then [] else [nm, [61]]) <= nm.length + 3 := by
 split <;> simp
theorem IG {p : Prop} [Decidable p] {a b : List (List UInt8)} {n : Nat} (h1 : cost a <= n) (h2 : cost b <= n) : cost (if p then a else b) <= n := by split <;> assumption
theorem Cz (G : Nat -> List (List UInt8)) (kd num : Int) (nm : List UInt8) (ks : List Nat) (h1 : nm.length <= 32) (h2 : (Lib.itoa num).length <= 20) : cost (bq G kd num nm ks) <= 46 + gH G ks := by
 have r := zX G
 have i := Es G
 have s := oN G ks
 have q := IE G
 have o := Gj num
 have b := Et (num == 1)
 have n1 := Gl nm
 have n2 := Eu nm
 have r0 := r ks
 have i0 := i ks
 have r1 := r (ks.take 1)
 have r2 := r (ks.drop 1)
 have i2 := i (ks.drop 1)
 have s1 := s 1
 have r3 := r (ks.take 2)
 have r4 := r (ks.drop 2)
 have s2 := s 2
 have i5 := i (ks.take (ks.length - num.toNat))
 have q5 := q (ks.drop (ks.length - num.toNat))
 have s5 := s (ks.length - num.toNat)
 have i6 := i (ks.take (ks.length - 1 - num.toNat))
 have q6 := q ((ks.take (ks.length - 1)).drop (ks.length - 1 - num.toNat))
 have r6 := r (ks.drop (ks.length - 1))
 have s6 := oN G (ks.take (ks.length - 1)) (ks.length - 1 - num.toNat)
 rw [List.take_take, Nat.min_eq_left (by omega)] at s6
 have s7 := s (ks.length - 1)
 have z1 : cost (if ks.length <= 1 then [] else [[61]] ++ aS G (ks.drop 1)) <= 2 + cost (aS G (ks.drop 1)) := by split <;> simp
 have z2 : cost (if ks.length <= 2 then [] else [[101, 108, 115, 101]] ++ aS G (ks.drop 2)) <= 5 + cost (aS G (ks.drop 2)) := by split <;> simp
 unfold bq
 iterate 38 (refine IG ?_ ?_; (try simp only [cost_append, cost_cons, cost_nil, List.length_cons, List.length_nil]); omega)
 simp
theorem mo {u : Nat} : ∀ k : Nat, u < 10 ^ (k + 1) -> Lib.nDigits u <= k + 1
 | 0, h => by rw [Lib.nDigits_small (by simpa using h)]; omega
 | k + 1, h => by
  by_cases h10 : u < 10
  ·rw [Lib.nDigits_small h10]; omega
  ·rw [Lib.nDigits_big h10]
   have := mo (u := u / 10) k (by rw [Nat.pow_succ] at h; omega)
   omega
theorem Ev {n : Int} (h : I64 n) : (Lib.itoa n).length <= 20 := by
 obtain ⟨h1, h2⟩ := h
 unfold Lib.itoa
 split
 ·rw [List.length_cons, Lib.decDigits_length]
  have := mo (u := n.natAbs) 18 (Nat.lt_of_le_of_lt (show n.natAbs <= 9223372036854775808 by omega) (by decide +kernel))
  omega
 ·rw [Lib.decDigits_length]
  have := mo (u := n.toNat) 18 (Nat.lt_of_le_of_lt (show n.toNat <= 9223372036854775808 by omega) (by decide +kernel))
  omega
theorem sS {G : Nat -> List (List UInt8)} {fs : List Nat} (hle : ∀ j, j < fs.length -> fs.getD j 0 <= j) (hc : ∀ i, i < fs.length -> cost (G i) + 2 <= 64 * (i + 1 - fs.getD i 0)) :
  ∀ (ks : List Int) (nx : Nat), nx <= fs.length -> dx fs nx ks = true -> gH G (ks.map Int.toNat) + 64 * mV fs nx ks <= 64 * nx
 | [], nx, _, _ => by simp [gH, mV]
 | x :: r, nx, hnx, h => by
  rw [dx] at h
  split at h
  ·rename_i hx
   obtain ⟨y, rfl⟩ : ∃ y : Nat, x = (y : Int) := ⟨x.toNat, by omega⟩
   have hy : y < fs.length := by omega
   rw [Int.toNat_natCast] at h
   have h1 := hle y hy
   have h2 := hc y hy
   have ih := sS hle hc r (fs.getD y 0) (by omega) h
   simp only [gH, mV, List.map_cons, List.sum_cons, Int.toNat_natCast] at ih ⊢
   omega
  ·cases h
theorem Bi {l : List Nd} (hn : ∀ j, j < l.length -> (ndN l j).name.data.toList.length <= 32 /\ I64 (ndN l j).num) (hk : ∀ j, j < l.length -> ∀ k ∈ iV l j, k < j) : ∀ (m : Nat) (fs : List Nat), fs.length + m = l.length -> (∀ i, i < fs.length -> fs.getD i 0 <= i) ->
  (∀ i, i < fs.length -> cost (gG l i) + 2 <= 64 * (i + 1 - fs.getD i 0)) -> (fo l m fs).2 = 0 -> ∀ i, i < l.length -> cost (gG l i) <= 64 * (i + 1)
 | 0, fs, hm, hle, hc, _, i, hi => by
  have := hc i (by omega)
  omega
 | m + 1, fs, hm, hle, hc, h, i, hi => by
  rw [fo] at h
  split at h
  ·rename_i hz
   obtain ⟨_, _, _, _, ho, _, _⟩ := iA hz
   have hfl := mU hle ho
   refine Bi hn hk m _ (by simp; omega) (ww hle hz) (fun j hj => ?_) h i hi
   simp only [List.length_append, List.length_cons, List.length_nil] at hj
   by_cases hj2 : j < fs.length
   ·have := hc j hj2
    simp only [List.getD_eq_getElem?_getD] at this ⊢
    rw [List.getElem?_append_left hj2]
    exact this
   ·have : j = fs.length := by omega
    subst this
    have e : (fs ++ [dO fs (ndN l fs.length) fs.length]).getD fs.length 0 = dO fs (ndN l fs.length) fs.length := by simp [List.getD_eq_getElem?_getD]
    rw [e, kQ]
    have hs := sS (G := gG l) hle hc (ndN l fs.length).kids.reverse fs.length (Nat.le_refl _) ho
    rw [List.map_reverse, lS] at hs
    rw [kQ] at hfl
    obtain ⟨n1, n2⟩ := hn fs.length (by omega)
    rw [qW hk (by omega)]
    have := Cz (gG l) (ndN l fs.length).kind (ndN l fs.length).num (ndN l fs.length).name.data.toList (iV l fs.length) n1 (Ev n2)
    unfold iV at this ⊢
    omega
  ·rename_i hz
   exact absurd h hz
theorem Ew {l : List Nd} (hn : ∀ j, j < l.length -> (ndN l j).name.data.toList.length <= 32 /\ I64 (ndN l j).num) (h : (bO l).2 = 0) (i : Nat) (hi : i < l.length) : cost (gG l i) <= 64 * (i + 1) :=
 Bi hn (fun j hj => (mi h |>.1 j hj).low) l.length [] (by simp) (fun i hi => by cases hi) (fun i hi => by cases hi) h i hi
theorem II : Ends 32 := ⟨rfl, rfl, rfl, by decide⟩
structure bD (t : List UInt8) : Prop where
  pos : 0 < t.length
  skip : ∀ z, fI false (t ++ z) = 0
  next : bG t 0 = (⟨(bG t 0).1.kind, 0, t.length, (bG t 0).1.num⟩, 0)
  blank : 32 ∉ t
def JN : List UInt8 -> Bool
  | [] => false
  | c :: r => !gm c.toNat && !((c.toNat : Int) == 35) && (bG (c :: r) 0).2 == 0 && (bG (c :: r) 0).1.place == 0 && (bG (c :: r) 0).1.len == (c :: r).length && !(c :: r).contains 32
theorem bS {t : List UInt8} (h : JN t = true) : bD t := by
  match t, h with
  | c :: r, h =>
    simp only [JN, Bool.and_eq_true, Bool.not_eq_true', beq_iff_eq] at h
    obtain ⟨⟨⟨⟨⟨h1, h2⟩, h3⟩, h4⟩, h5⟩, h6⟩ := h
    refine ⟨by simp, fun z => ?_, ?_, ?_⟩
    · simp only [List.cons_append, fI]
      rw [if_neg (by rw [h1]; simp), if_neg (by rw [h2]; simp)]
    · generalize bG (c :: r) 0 = x at *
      obtain ⟨⟨k, p, n, m⟩, e⟩ := x
      simp only at h3 h4 h5 ⊢
      rw [h3, h4, h5]
    · intro hm
      rw [← List.contains_iff_mem] at hm
      rw [hm] at h6
      cases h6
theorem oO : ∀ (T : List (List UInt8)) (n : Nat) (t : List UInt8), bT T n t ≠ 0 -> n <= bT T n t
  | [], n, t, h => absurd rfl h
  | x :: r, n, t, h => by
    simp only [bT] at h ⊢
    split
    · omega
    · rename_i hx
      rw [if_neg hx] at h
      have := oO r (n + 1) t h
      omega
theorem Ex (t : List UInt8) (h : fA t ≠ 0) : 10 <= fA t := oO _ _ _ h
theorem Gm (l : List UInt8) (h : ¬ (gP l).2 = 0) : 40 <= (gP l).1 := by
  rcases (gB l bW 40 (0, 0)).2.2 with h3 | ⟨i, a1, a2, a3, a4⟩
  · have : gP l = (0, 0) := h3
    rw [this] at h
    simp at h
  · have e : (gP l).1 = 40 + i := a2
    omega
theorem jy {xs : List UInt8} (h : bR xs = true) : bG xs 0 = (⟨1, 0, xs.length, 0⟩, 0) /\ xs.length <= 32 /\ aC wbI xs 0 = xs.length /\ 0 < xs.length /\ wsI ((xs.getD 0 0).toNat : Int) = true /\ fA xs = 0 := by
  unfold bR at h
  have hc : (aA xs).2.2 = 0 := by
    by_cases e : (aA xs).2.2 = 0
    · exact e
    · rw [(yO xs e).1] at h
      simp [iH] at h
  have hcov := (iF xs hc).1
  match ht : (aA xs).1, h with
  | [t], h =>
    rw [ht] at hcov
    simp only [iH, Bool.and_eq_true, beq_iff_eq] at h
    obtain ⟨q1, q2, q3, _⟩ := hcov
    have hlen := jc xs t.place q2 (by rw [q3])
    rw [q3] at hlen
    simp only at hlen
    have hp : t.place = 0 := by omega
    have hl : t.len = xs.length := by omega
    have hk : t.kind = 1 := by omega
    rw [hp] at q3
    have q4 := q3
    unfold bG at q3
    split at q3
    · rename_i hw
      unfold il at q3
      split at q3
      · rename_i n1
        have e := (Prod.mk.inj q3).1
        have := Ex _ n1
        rw [← e] at hk
        simp only at hk
        omega
      · rename_i n1
        split at q3
        · simp at q3
        · rename_i n2
          have e := (Prod.mk.inj q3).1
          rw [← e] at hl
          simp only [Nat.sub_zero] at hl
          rw [Nat.sub_zero] at n2
          refine ⟨?_, by omega, hl, by omega, hw, ?_⟩
          · rw [q4, ← e]
            simp [hl]
          · have n1' := Classical.not_not.1 n1
            rw [List.drop_zero, Nat.sub_zero, hl, List.take_length] at n1'
            exact n1'
    · split at q3
      · unfold kD at q3
        repeat' split at q3
        all_goals first
          | (simp at q3; done)
          | (have e := (Prod.mk.inj q3).1
             rw [← e] at hk
             simp at hk)
      · unfold gQ at q3
        split at q3
        · simp at q3
        · rename_i n1
          have e := (Prod.mk.inj q3).1
          have := Gm _ n1
          rw [← e] at hk
          simp only at hk
          omega
  | [], h => simp [iH] at h
  | _ :: _ :: _, h => simp [iH] at h
theorem xm {p : Int -> Bool} : ∀ {l : List UInt8}, eD p l = l.length -> ∀ c ∈ l, p c.toNat = true
  | [], _, c, hc => by cases hc
  | b :: r, h, c, hc => by
    simp only [eD] at h
    split at h
    · rename_i hb
      rcases List.mem_cons.1 hc with rfl | hc
      · exact hb
      · exact xm (by simpa using h) c hc
    · simp at h
theorem fQ {xs : List UInt8} (h : bR xs = true) : bD xs := by
  obtain ⟨h1, h2, h3, h4, h5, _⟩ := jy h
  unfold aC at h3
  rw [List.drop_zero, Nat.zero_add] at h3
  refine ⟨h4, fun z => ?_, by rw [h1], fun hm => ?_⟩
  · match xs, h4, h5 with
    | c :: r, _, h5 =>
      have h5 : wsI (c.toNat : Int) = true := h5
      simp only [List.cons_append, fI]
      have hb : gm (c.toNat : Int) = false := by
        unfold wsI at h5
        unfold gm
        simp only [Bool.or_eq_true, Bool.and_eq_true, decide_eq_true_eq, beq_iff_eq] at h5
        simp only [Bool.or_eq_false_iff, beq_eq_false_iff_ne]
        omega
      have hr : ((c.toNat : Int) == 35) = false := by
        unfold wsI at h5
        simp only [Bool.or_eq_true, Bool.and_eq_true, decide_eq_true_eq, beq_iff_eq] at h5
        rw [beq_eq_false_iff_ne]
        omega
      rw [if_neg (by rw [hb]; simp), if_neg (by rw [hr]; simp)]
  · have := xm h3 32 hm
    exact absurd this (by decide)
theorem j3 (c : UInt8) : ∀ (l : List UInt8) (acc : Nat), eU acc (l ++ [c]) = eU acc l * 10 + (c.toNat - 48)
  | [], acc => rfl
  | b :: r, acc => by
    show eU (acc * 10 + (b.toNat - 48)) (r ++ [c]) = eU (acc * 10 + (b.toNat - 48)) r * 10 + (c.toNat - 48)
    exact j3 c r _
theorem j4 {u : Nat} (h : u < 10) : (UInt8.ofNat (48 + u)).toNat = 48 + u := by
  rw [UInt8.toNat_ofNat']
  omega
theorem pq {u : Nat} (h : ¬ u < 10) : Lib.decDigits u = Lib.decDigits (u / 10) ++ [UInt8.ofNat (48 + u % 10)] := by
  conv => lhs; rw [Lib.decDigits, dif_neg h]
theorem Gn (u : Nat) : cO (Lib.decDigits u) = u := by
  induction u using Nat.strongRecOn with
  | _ u ih =>
    by_cases h : u < 10
    · rw [Lib.decDigits_one h]
      show 0 * 10 + ((UInt8.ofNat (48 + u)).toNat - 48) = u
      rw [j4 h]
      omega
    · rw [pq h]
      have := ih (u / 10) (by omega)
      unfold cO at this ⊢
      rw [j3, this, j4 (by omega)]
      omega
theorem sU {u : Nat} (h : u < 10) : bF ((UInt8.ofNat (48 + u)).toNat : Int) = true := by
  rw [j4 h]
  unfold bF
  simp only [Bool.and_eq_true, decide_eq_true_eq]
  omega
theorem Bj (u : Nat) : ∀ c ∈ Lib.decDigits u, bF c.toNat = true := by
  induction u using Nat.strongRecOn with
  | _ u ih =>
    intro c hc
    by_cases h : u < 10
    · rw [Lib.decDigits_one h, List.mem_singleton] at hc
      subst hc
      exact sU h
    · rw [pq h] at hc
      rcases List.mem_append.1 hc with hc | hc
      · exact ih (u / 10) (by omega) c hc
      · rw [List.mem_singleton] at hc
        subst hc
        exact sU (by omega)
theorem Ey (u : Nat) (h0 : 0 < u) : ∃ c r, Lib.decDigits u = c :: r /\ c.toNat ≠ 48 := by
  induction u using Nat.strongRecOn with
  | _ u ih =>
    by_cases h : u < 10
    · rw [Lib.decDigits_one h]
      exact ⟨_, _, rfl, by rw [j4 h]; omega⟩
    · rw [pq h]
      obtain ⟨c, r, e, hc⟩ := ih (u / 10) (by omega) (by omega)
      exact ⟨c, r ++ [UInt8.ofNat (48 + u % 10)], by rw [e]; rfl, hc⟩
theorem sV {p : Int -> Bool} : ∀ {l : List UInt8}, (∀ c ∈ l, p c.toNat = true) -> eD p l = l.length
  | [], _ => rfl
  | b :: r, h => by
    simp only [eD, h b List.mem_cons_self, if_true, List.length_cons]
    rw [sV (fun c hc => h c (List.mem_cons_of_mem _ hc))]
theorem Ez {u : Nat} (hu : u < 9223372036854775808) : bG (Lib.decDigits u) 0 = (⟨2, 0, (Lib.decDigits u).length, u⟩, 0) := by
  have hl : 0 < (Lib.decDigits u).length := by
    rw [Lib.decDigits_length]
    exact Lib.nDigits_pos u
  have hd := Bj u
  have hv := Gn u
  have hh : ¬ (((Lib.decDigits u).getD 0 0).toNat : Int) = 48 ∨ (Lib.decDigits u).length = 1 := by
    by_cases h0 : 0 < u
    · obtain ⟨c, r, e, hc⟩ := Ey u h0
      left
      rw [e]
      simp only [List.getD_cons_zero]
      omega
    · right
      rw [Lib.decDigits_one (by omega)]
      rfl
  generalize Lib.decDigits u = t at *
  have hs : aC bF t 0 = t.length := by
    unfold aC
    rw [List.drop_zero, sV hd, Nat.zero_add]
  match t, hl with
  | c :: r, hl =>
    have hc := hd c List.mem_cons_self
    have hw : ¬ wsI (((c :: r).getD 0 0).toNat : Int) = true := by
      unfold bF at hc
      unfold wsI
      simp only [Bool.and_eq_true, decide_eq_true_eq] at hc
      simp only [List.getD_cons_zero, Bool.or_eq_true, Bool.and_eq_true, decide_eq_true_eq, beq_iff_eq]
      omega
    have hdc : bF (((c :: r).getD 0 0).toNat : Int) = true := hc
    unfold bG
    rw [if_neg hw, if_pos hdc]
    unfold kD
    rw [hs, if_neg (fun h => absurd h.1 (by omega)), if_neg (fun h => by
      rcases hh with hh | hh
      · exact hh h.1
      · omega)]
    have hcut : cut (c :: r) 0 (c :: r).length = c :: r := by
      unfold cut
      rw [List.drop_zero, Nat.sub_zero, List.take_length]
    rw [hcut, hv, if_pos hu, Nat.sub_zero]
theorem CB {n : Int} (h0 : 0 <= n) (h : I64 n) : bG (Lib.itoa n) 0 = (⟨2, 0, (Lib.itoa n).length, n.toNat⟩, 0) := by
  obtain ⟨h1, h2⟩ := h
  unfold Lib.itoa
  rw [if_neg (by omega)]
  exact Ez (by omega)
theorem xn {n : Int} (h0 : 0 <= n) (h : I64 n) : bD (Lib.itoa n) := by
  have hn := CB h0 h
  unfold Lib.itoa at *
  rw [if_neg (by omega)] at *
  have hl : 0 < (Lib.decDigits n.toNat).length := by
    rw [Lib.decDigits_length]
    exact Lib.nDigits_pos _
  have hd := Bj n.toNat
  refine ⟨hl, fun z => ?_, by rw [hn], fun hm => absurd (hd 32 hm) (by decide)⟩
  generalize Lib.decDigits n.toNat = t at *
  match t, hl with
  | c :: r, _ =>
    have hc := hd c List.mem_cons_self
    unfold bF at hc
    simp only [Bool.and_eq_true, decide_eq_true_eq] at hc
    simp only [List.cons_append, fI]
    have hb : gm (c.toNat : Int) = false := by
      unfold gm
      simp only [Bool.or_eq_false_iff, beq_eq_false_iff_ne]
      omega
    have hr : ((c.toNat : Int) == 35) = false := by
      rw [beq_eq_false_iff_ne]
      omega
    rw [if_neg (by rw [hb]; simp), if_neg (by rw [hr]; simp)]
end Go.Proofs.YtecodpdfckjalaaGreatDoor
