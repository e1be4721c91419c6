import Derived.Test.YtadmpgegolmkgaaDoorBWxH
set_option linter.unusedVariables false
set_option linter.unusedSimpArgs false
set_option maxHeartbeats 4000000
set_option maxRecDepth 100000
namespace Go.Proofs.YtadmpgegolmkgaaDoor
open Go.RowKit
structure LK (w0 w : World) (wb kb db eb dc cb n : Nat) (pv mv : Value) (K : List (Int × Int)) (x : Int) : Prop where
 wk : WK w wb kb db eb dc (wkO 0 1 2 false (.slice (some ⟨cb, 0, none⟩) n n) kb n db dc 0 pv mv) K x
 bel : Below w0.heap.size w0 w
 g1 : w0.heap.size <= wb
 g2 : w0.heap.size <= kb
 g3 : w0.heap.size <= db
 g4 : w0.heap.size <= eb
 kl : K.length = n
theorem LK.below {w0 w w' : World} {wb kb db eb dc cb n : Nat} {pv mv : Value} {K : List (Int × Int)} {x : Int} (h : LK w0 w wb kb db eb dc cb n pv mv K x) (hb : Below w.heap.size w w') : LK w0 w' wb kb db eb dc cb n pv mv K x :=
 ⟨h.wk.fx (Fx.no hb) id id id id, h.bel.trans (hb.mono h.bel.size), h.g1, h.g2, h.g3, h.g4, h.kl⟩
theorem LK.drewN {w0 w : World} {wb kb db eb dc cb n : Nat} {pv mv : Value} {K : List (Int × Int)} {x : Int} (h : LK w0 w wb kb db eb dc cb n pv mv K x) (k : Nat) : LK w0 (w.drewN k) wb kb db eb dc cb n pv mv K x :=
 h.below ⟨rfl, rfl, rfl, Nat.le_refl _, fun _ _ => rfl⟩
theorem LK.cells {w0 w : World} {wb kb db eb dc cb n : Nat} {pv mv : Value} {K : List (Int × Int)} {x : Int} (h : LK w0 w wb kb db eb dc cb n pv mv K x) : w.cell? ⟨wb, 3, none⟩ = some (.bool false) /\ w.cell? ⟨wb, 4, none⟩ = some (.slice (some ⟨cb, 0, none⟩) n n) /\ w.cell? ⟨wb, 5, none⟩ = some (.slice (some ⟨kb, 0, none⟩) n n) /\ w.cell? ⟨wb, 6, none⟩ = some (.slice (some ⟨db, 0, none⟩) 1 dc) /\ w.cell? ⟨wb, 7, none⟩ = some (.int .i64 0) /\ wb < w.heap.size := by
 have q := h.wk.wk
 unfold wkO at q
 exact ⟨(cell_of_row w _ 3 _ _ _ q).trans rfl, (cell_of_row w _ 4 _ _ _ q).trans rfl, (cell_of_row w _ 5 _ _ _ q).trans rfl, (cell_of_row w _ 6 _ _ _ q).trans rfl, (cell_of_row w _ 7 _ _ _ q).trans rfl, h.wk.lts.1⟩
theorem LK.known {w0 w : World} {wb kb db eb dc cb n : Nat} {pv mv : Value} {K : List (Int × Int)} {x : Int} (h : LK w0 w wb kb db eb dc cb n pv mv K x) (i : Nat) (hi : i < K.length) : w.cell? ⟨kb, i * 2, none⟩ = some (.int .i64 K[i].1) /\ w.cell? ⟨kb, i * 2 + 1, none⟩ = some (.int .u64 K[i].2) := by
 obtain ⟨g1, g2⟩ := nR K i hi
 exact ⟨(cell_of_row w _ _ _ _ _ h.wk.kn).trans g1, (cell_of_row w _ _ _ _ _ h.wk.kn).trans g2⟩
theorem Ah {w0 w : World} {wb kb db eb dc cb n : Nat} {pv mv : Value} {K : List (Int × Int)} (h : LK w0 w wb kb db eb dc cb n pv mv K 0) (i : Nat) (hi : i < n) (hn3 : n <= 3) (hz : ∀ h : i < K.length, K[i].1 = 0) (ab s : Int) :
  Calls Tryd.prog 41 #[.pointer (some ⟨wb, 0, none⟩), .int .i64 i, .agg #[.int .i64 ab, .int .u64 s]] w fun e w' => e = .returned (.bool true) /\ Bx (LK w0 w' wb kb db eb dc cb n pv mv (K.set i (ab, s)) ((2 ^ i : Nat) : Int)) :=
 (sH w wb kb db eb dc 0 1 2 false _ n 0 pv mv K h.wk h.kl i hi (by omega) hn3 hz ab s).mono fun e w' hh => by
  obtain ⟨h1, h2⟩ := hh.2.out
  have hs := h.bel.size
  have hg2 := h.g2
  have hg4 := h.g4
  exact ⟨hh.1, ⟨h1, h.bel.trans (h2.bel hs (fun k hk e => by rcases e with e | e <;> omega)), h.g1, h.g2, h.g3, h.g4, by simpa using h.kl⟩⟩
theorem gX (w : World) (wb : Nat) (h : w.cell? ⟨wb, 3, none⟩ = some (.bool false)) : Calls Tryd.prog 65 #[.pointer (some ⟨wb, 0, none⟩)] w fun e w' => e = .returned (.int .i64 0) /\ w = w' := by
 go_enter Tryd.func65, Tryd.ntmps65
 go_wp2
 go_ret
 exact ⟨rfl, rfl⟩
theorem gB (op : Int) (h : op = 1 ∨ op = 5 ∨ op = 25) (w : World) : Calls Tryd.prog 66 #[.int .i64 op] w fun e w' => e = .returned (.bool false) /\ w = w' := by
 rcases h with rfl | rfl | rfl
 all_goals
  go_enter Tryd.func66, Tryd.ntmps66
  go_wp2
  go_ret
  exact ⟨rfl, rfl⟩
theorem gD (op : Int) (h : op = 1 ∨ op = 5 ∨ op = 25) (w : World) : Calls Tryd.prog 68 #[.int .i64 op] w fun e w' => e = .returned (.bool (op != 25)) /\ w = w' := by
 rcases h with rfl | rfl | rfl
 all_goals
  go_enter Tryd.func68, Tryd.ntmps68
  go_wp2
  go_ret
  exact ⟨rfl, rfl⟩
theorem gY (op a s s' : Int) (h : (op = 1 /\ s' = s) ∨ (op = 5 /\ a = 0 /\ s = 0 /\ s' = 1) ∨ (op = 25 /\ s' = s)) (w : World) (wb : Nat) (h7 : w.cell? ⟨wb, 7, none⟩ = some (.int .i64 0)) : Calls Tryd.prog 69 #[.pointer (some ⟨wb, 0, none⟩), exV op a, .int .u64 s] w fun e w' => e = .returned (.int .u64 s') /\ Below w.heap.size w w' := by
 have hwl : wb < w.heap.size := World.block_lt_of_cell? w _ h7
 have hb : Bx (∀ o, Below w.heap.size w (w.alloc o)) := ⟨fun o => ak w o⟩
 have hb2 : Bx (∀ o k1 k2, Below w.heap.size w (((w.alloc o).drewN k1).drewN k2)) := ⟨fun o k1 k2 => ⟨rfl, rfl, rfl, by simp, fun k hk => (ak w o).block k hk⟩⟩
 have HW : Bx (∀ o k, Calls Tryd.prog 82 #[.pointer (some ⟨wb, 7, none⟩), .int .u64 0, .int .i64 0] ((w.alloc o).drewN k) fun e w' => e = .returned (.int .u64 1) /\ Bx (Below w.heap.size w w')) := ⟨fun o k => (Ag ((w.alloc o).drewN k) wb (((ak w o).cell (p := ⟨wb, 7, none⟩) hwl).trans h7)).mono fun e w' hh => ⟨hh.1, by obtain ⟨k2, rfl⟩ := hh.2; exact ⟨hb2.out _ _ _⟩⟩⟩
 rcases h with ⟨rfl, rfl⟩ | ⟨rfl, rfl, rfl, rfl⟩ | ⟨rfl, rfl⟩
 ·go_enter Tryd.func69, Tryd.ntmps69
  go_wp2
  go_ret
  exact ⟨rfl, hb.out _⟩
 ·go_enter Tryd.func69, Tryd.ntmps69
  go_wp2
  go_region_with (first
   | (go_at_call 82; refine (HW.out _ 1).mono ?_; rintro e w1 ⟨rfl, HX⟩))
  all_goals
   go_wp2
   go_ret
   exact ⟨rfl, HX.out⟩
 ·go_enter Tryd.func69, Tryd.ntmps69
  go_wp2
  go_ret
  exact ⟨rfl, hb.out _⟩
theorem yH {w0 w : World} {wb kb db eb dc cb pb n : Nat} {pv mv : Value} {K l : List (Int × Int)} {x : Int} (h : LK w0 w wb kb db eb dc cb n pv mv K x) (hU : UE w0 pb cb l) (hl : l.length = n) (i : Nat) (hi : i < l.length) (ho : l[i].1 = 25) (ab s : Int) :
  Calls Tryd.prog 70 #[.pointer (some ⟨wb, 0, none⟩), .int .i64 i, .agg #[.int .i64 ab, .int .u64 s]] w fun e w' => e = .returned (.bool true) /\ Bx (LK w0 w' wb kb db eb dc cb n pv mv K x) := by
 obtain ⟨c3, c4, c5, c6, c7, hwl⟩ := h.cells
 obtain ⟨u0, u1, u2, u3⟩ := (hU.below h.bel).cell i hi
 have hcl := (hU.below h.bel).lt.2
 rw [ho] at u0
 generalize l[i].2 = a at *
 rw [hl] at hi
 have HE : Bx (∀ o1 o2, LK w0 ((w.alloc o1).alloc o2) wb kb db eb dc cb n pv mv K x) := ⟨fun o1 o2 => h.below ((ak w o1).alloc (by simp) o2)⟩
 have hn3 : n <= 3 := hl ▸ hU.len
 clear h hU
 go_enter Tryd.func70, Tryd.ntmps70
 go_wp2
 go_ret
 exact ⟨rfl, ⟨HE.out _ _⟩⟩
theorem sI {w0 w : World} {wb kb db eb dc cb pb n : Nat} {pv mv : Value} {K l : List (Int × Int)} (h : LK w0 w wb kb db eb dc cb n pv mv K 0) (hU : UE w0 pb cb l) (hl : l.length = n) (i : Nat) (hi : i < l.length) (ho : l[i].1 = 1 ∨ l[i].1 = 5) (hi2 : i + 1 < n) (hz : ∀ h : i + 1 < K.length, K[i + 1].1 = 0) (ab s : Int) :
  Calls Tryd.prog 70 #[.pointer (some ⟨wb, 0, none⟩), .int .i64 i, .agg #[.int .i64 ab, .int .u64 s]] w fun e w' => e = .returned (.bool true) /\ Bx (LK w0 w' wb kb db eb dc cb n pv mv (K.set (i + 1) (ab, s)) ((2 ^ (i + 1) : Nat) : Int)) := by
 obtain ⟨c3, c4, c5, c6, c7, hwl⟩ := h.cells
 obtain ⟨u0, u1, u2, u3⟩ := (hU.below h.bel).cell i hi
 have hcl := (hU.below h.bel).lt.2
 have hn3 : n <= 3 := hl ▸ hU.len
 generalize l[i].2 = a at *
 generalize l[i].1 = op at *
 rw [hl] at hi
 have HC : Bx (∀ o1 o2, Calls Tryd.prog 41 #[.pointer (some ⟨wb, 0, none⟩), .int .i64 ((i : Int) + 1), .agg #[.int .i64 ab, .int .u64 s]] ((w.alloc o1).alloc o2) fun e w' => e = .returned (.bool true) /\ Bx (LK w0 w' wb kb db eb dc cb n pv mv (K.set (i + 1) (ab, s)) ((2 ^ (i + 1) : Nat) : Int))) := ⟨fun o1 o2 => Ah (h.below ((ak w o1).alloc (by simp) o2)) (i + 1) hi2 hn3 hz ab s⟩
 clear h hU hz
 rcases ho with rfl | rfl
 all_goals
  go_enter Tryd.func70, Tryd.ntmps70
  go_wp2_with (first
   | (go_at_call 41; refine (HC.out _ _).mono ?_; rintro e w1 ⟨rfl, HX⟩))
  go_ret
  exact ⟨rfl, HX⟩
structure LC (w X : World) (ib yb : Nat) (op a ab s : Int) : Prop where
 bel : Below w.heap.size w X
 ih : X.heap[ib]? = some (.cells #[.int .i64 op, .int .i64 a, .int .i64 0, .slice none 0 0] 43 (0, 0))
 yh : X.heap[yb]? = some (.cells #[.int .i64 ab, .int .u64 s] 66 (0, 0))
 ne : ib ≠ yb
 l1 : w.heap.size <= ib
 l2 : w.heap.size <= yb
theorem LC.below {w X X' : World} {ib yb : Nat} {op a ab s : Int} (h : LC w X ib yb op a ab s) (hb : Below X.heap.size X X') : LC w X' ib yb op a ab s :=
 ⟨h.bel.trans (hb.mono h.bel.size), (hb.block _ (Array.getElem?_eq_some_iff.1 h.ih).1).trans h.ih, (hb.block _ (Array.getElem?_eq_some_iff.1 h.yh).1).trans h.yh, h.ne, h.l1, h.l2⟩
theorem LC.cells {w X : World} {ib yb : Nat} {op a ab s : Int} (h : LC w X ib yb op a ab s) : X.cell? ⟨ib, 0, none⟩ = some (.int .i64 op) /\ X.cell? ⟨ib, 1, none⟩ = some (.int .i64 a) /\ X.cell? ⟨ib, 2, none⟩ = some (.int .i64 0) /\ X.cell? ⟨ib, 3, none⟩ = some (.slice none 0 0) /\ X.cell? ⟨yb, 0, none⟩ = some (.int .i64 ab) /\ X.cell? ⟨yb, 1, none⟩ = some (.int .u64 s) /\ X.frozen? ⟨yb, 0, none⟩ = false /\ X.frozen? ⟨yb, 1, none⟩ = false :=
 ⟨(cell_of_row X _ 0 _ _ _ h.ih).trans rfl, (cell_of_row X _ 1 _ _ _ h.ih).trans rfl, (cell_of_row X _ 2 _ _ _ h.ih).trans rfl, (cell_of_row X _ 3 _ _ _ h.ih).trans rfl, (cell_of_row X _ 0 _ _ _ h.yh).trans rfl, (cell_of_row X _ 1 _ _ _ h.yh).trans rfl, by simp [World.frozen?, h.yh], by simp [World.frozen?, h.yh]⟩
theorem LC.set0 {w X : World} {ib yb : Nat} {op a ab s : Int} (h : LC w X ib yb op a ab s) (v : Int) : LC w (X.setCell ⟨yb, 0, none⟩ (.int .i64 v)) ib yb op a v s :=
 ⟨h.bel.setCell (p := ⟨yb, 0, none⟩) h.l2 _, (Below.heap_setCell X ⟨yb, 0, none⟩ _ ib h.ne).trans h.ih, heap_setCell_same X yb 0 _ _ _ h.yh, h.ne, h.l1, h.l2⟩
theorem LC.set1 {w X : World} {ib yb : Nat} {op a ab s : Int} (h : LC w X ib yb op a ab s) (v : Int) : LC w (X.setCell ⟨yb, 1, none⟩ (.int .u64 v)) ib yb op a ab v :=
 ⟨h.bel.setCell (p := ⟨yb, 1, none⟩) h.l2 _, (Below.heap_setCell X ⟨yb, 1, none⟩ _ ib h.ne).trans h.ih, heap_setCell_same X yb 1 _ _ _ h.yh, h.ne, h.l1, h.l2⟩
theorem LC.drewN {w X : World} {ib yb : Nat} {op a ab s : Int} (h : LC w X ib yb op a ab s) (k : Nat) : LC w (X.drewN k) ib yb op a ab s := h.below ⟨rfl, rfl, rfl, Nat.le_refl _, fun _ _ => rfl⟩
theorem LC.one (w : World) (op a ab s : Int) : LC w (((w.alloc (.cells #[.int .i64 op, .int .i64 a, .int .i64 0, .slice none 0 0] 43)).alloc (.cells #[.int .i64 ab, .int .u64 s] 66)).drew) w.heap.size (w.heap.size + 1) op a ab s := by
 obtain ⟨X, hX⟩ : ∃ X, w.alloc (.cells #[.int .i64 op, .int .i64 a, .int .i64 0, .slice none 0 0] 43) = X := ⟨_, rfl⟩
 have sX : X.heap.size = w.heap.size + 1 := by rw [← hX]; simp
 have qX : X.heap[w.heap.size]? = some (.cells #[.int .i64 op, .int .i64 a, .int .i64 0, .slice none 0 0] 43 (0, 0)) := by rw [← hX]; exact heap_alloc_new w _
 have bX : Below w.heap.size w X := by rw [← hX]; exact ak w _
 rw [hX]
 exact ⟨(bX.alloc (by omega) _).drew, ((ak X (.cells #[.int .i64 ab, .int .u64 s] 66)).block _ (by omega)).trans qX, by rw [← sX]; exact heap_alloc_new X _, by omega, Nat.le_refl _, by omega⟩
theorem LC.two (w : World) (op a ab s : Int) : LC w (((w.alloc (.cells #[.int .i64 ab, .int .u64 s] 66)).alloc (.cells #[.int .i64 op, .int .i64 a, .int .i64 0, .slice none 0 0] 43)).drew) (w.heap.size + 1) w.heap.size op a ab s := by
 obtain ⟨X, hX⟩ : ∃ X, w.alloc (.cells #[.int .i64 ab, .int .u64 s] 66) = X := ⟨_, rfl⟩
 have sX : X.heap.size = w.heap.size + 1 := by rw [← hX]; simp
 have qX : X.heap[w.heap.size]? = some (.cells #[.int .i64 ab, .int .u64 s] 66 (0, 0)) := by rw [← hX]; exact heap_alloc_new w _
 have bX : Below w.heap.size w X := by rw [← hX]; exact ak w _
 rw [hX]
 exact ⟨(bX.alloc (by omega) _).drew, by rw [← sX]; exact heap_alloc_new X _, ((ak X (.cells #[.int .i64 op, .int .i64 a, .int .i64 0, .slice none 0 0] 43)).block _ (by omega)).trans qX, by omega, by omega, Nat.le_refl _⟩
theorem sJ : ax ⟨25, 0, 0, []⟩ = 0 /\ ax ⟨1, 1, 0, []⟩ = 0 /\ ax ⟨5, 0, 0, []⟩ = 1 /\ au ⟨25, 0, 0, []⟩ = 0 /\ au ⟨1, 1, 0, []⟩ = 1 /\ au ⟨5, 0, 0, []⟩ = 0 := by decide
theorem nS {w0 w X : World} {ib yb : Nat} {op a ab s po pu ab' s' : Int} (hV : VW w0) (hb : Below w0.heap.size w0 w) (h : LC w X ib yb op a ab s) (hs : (op = 25 /\ a = 0 /\ po = 0) ∨ (op = 1 /\ a = 1 /\ po = 0) ∨ (op = 5 /\ a = 0 /\ po = 1)) : Calls Tryd.prog 16 #[exV op a] X fun e w' => e = .returned (.int .i64 po) /\ LC w w' ib yb op a ab s := by
 have hS : Shp X := (hV.below (hb.trans (h.bel.mono hb.size))).shp
 have e := sJ
 have := nY X X.heap.size ⟨op, a, 0, []⟩ none 0 hS (by rcases hs with ⟨rfl, rfl, _⟩ | ⟨rfl, rfl, _⟩ | ⟨rfl, rfl, _⟩ <;> exact ⟨by unfold I64; decide, by unfold I64; decide, by unfold I64; decide, fun k hk => by simp at hk⟩) (iF _ _ _ _) (by simp) (Nat.le_refl _)
 refine Calls.mono this ?_
 rintro e' w' ⟨rfl, hb'⟩
 refine ⟨?_, h.below hb'⟩
 rcases hs with ⟨rfl, rfl, rfl⟩ | ⟨rfl, rfl, rfl⟩ | ⟨rfl, rfl, rfl⟩
 ·exact dK e.1
 ·exact dK e.2.1
 ·exact dK e.2.2.1
theorem lG {w0 w X : World} {ib yb : Nat} {op a ab s pu : Int} (hV : VW w0) (hb : Below w0.heap.size w0 w) (h : LC w X ib yb op a ab s) (hs : (op = 25 /\ a = 0 /\ pu = 0) ∨ (op = 1 /\ a = 1 /\ pu = 1) ∨ (op = 5 /\ a = 0 /\ pu = 0)) : Calls Tryd.prog 30 #[exV op a] X fun e w' => e = .returned (.int .i64 pu) /\ LC w w' ib yb op a ab s := by
 have hS : Shp X := (hV.below (hb.trans (h.bel.mono hb.size))).shp
 have e := sJ
 have := kE X ⟨op, a, 0, []⟩ none 0 hS (by rcases hs with ⟨rfl, rfl, _⟩ | ⟨rfl, rfl, _⟩ | ⟨rfl, rfl, _⟩ <;> exact ⟨by unfold I64; decide, by unfold I64; decide, by unfold I64; decide, fun k hk => by simp at hk⟩)
 refine Calls.mono this ?_
 rintro e' w' ⟨rfl, hb'⟩
 refine ⟨?_, h.below hb'⟩
 rcases hs with ⟨rfl, rfl, rfl⟩ | ⟨rfl, rfl, rfl⟩ | ⟨rfl, rfl, rfl⟩
 ·exact dK e.2.2.2.1
 ·exact dK e.2.2.2.2.1
 ·exact dK e.2.2.2.2.2
theorem yI {w0 w : World} {wb kb db eb dc cb pb n : Nat} {pv mv : Value} {K l : List (Int × Int)} (h : LK w0 w wb kb db eb dc cb n pv mv K 0) (hU : UE w0 pb cb l) (hV : VW w0) (hl : l.length = n) (i : Nat) (hi : i < l.length) (hk : i < K.length) (ho : l[i] = (25, 0)) (hab : K[i].1 = 2) :
  Calls Tryd.prog 44 #[.pointer (some ⟨wb, 0, none⟩), .int .i64 i] w fun e w' => e = .returned (.int .i64 94) /\ Bx (LK w0 w' wb kb db eb dc cb n pv mv K 0) := by
 obtain ⟨c3, c4, c5, c6, c7, hwl⟩ := h.cells
 obtain ⟨u0, u1, u2, u3⟩ := (hU.below h.bel).cell i hi
 obtain ⟨v0, v1⟩ := h.known i hk
 have hcl := (hU.below h.bel).lt.2
 have hkl := h.wk.lts.2.1
 have hn3 : n <= 3 := hl ▸ hU.len
 rw [ho] at u0 u1
 rw [hab] at v0
 simp only [] at u0 u1
 generalize K[i].2 = s at *
 rw [hl] at hi
 have HP : Bx (∀ X ib yb, LC w X ib yb 25 0 2 s -> Calls Tryd.prog 16 #[.agg #[.int .i64 25, .int .i64 0, .int .i64 0, .slice none 0 0]] X fun e w' => e = .returned (.int .i64 0) /\ LC w w' ib yb 25 0 2 s) := ⟨fun X ib yb hX => nS (pu := 0) (ab' := 0) (s' := 0) hV h.bel hX (.inl ⟨rfl, rfl, rfl⟩)⟩
 have HR : Bx (∀ X, Below w.heap.size w X -> Calls Tryd.prog 65 #[.pointer (some ⟨wb, 0, none⟩)] X fun e w' => e = .returned (.int .i64 0) /\ X = w') := ⟨fun X hX => gX X wb (h.below hX).cells.1⟩
 have HE : Bx (∀ X, Below w.heap.size w X -> LK w0 X wb kb db eb dc cb n pv mv K 0) := ⟨fun X hX => h.below hX⟩
 have H1 : Bx _ := ⟨LC.one w 25 0 2 s⟩
 have H2 : Bx _ := ⟨LC.two w 25 0 2 s⟩
 clear h hU hV
 go_enter Tryd.func44, Tryd.ntmps44
 go_wp2
 go_region
 ·clear c3 c4 c5 c6 c7 u0 u1 u2 u3 v0 v1
  go_wp2_with (first
   | (go_at_call 16; refine (HP.out _ _ _ H1.out).mono ?_; rintro e w2 ⟨rfl, hc2⟩; have HC2 : Bx _ := ⟨hc2⟩; clear hc2))
  have HF : Bx (∀ X, LC w X w.heap.size (w.heap.size + 1) 25 0 2 s -> X.cell? ⟨w.heap.size, 0, none⟩ = some (.int .i64 25) /\ X.cell? ⟨(w.heap.size + 1), 0, none⟩ = some (.int .i64 2)) := ⟨fun X hX => ⟨hX.cells.1, hX.cells.2.2.2.2.1⟩⟩
  have hcr := HC2.out.drewN 1
  go_region_held3 (fun w' => w'.cell? ⟨w.heap.size, 0, none⟩ = some (.int .i64 25) /\ w'.cell? ⟨(w.heap.size + 1), 0, none⟩ = some (.int .i64 2))
   (exact HF.out _ hcr)
   (first | (go_at_call 65; refine Calls.mono (HR.out _ hcr.bel) ?_; rintro e z1 ⟨rfl, rfl⟩))
  go_wp2
  go_ret
  exact ⟨rfl, ⟨HE.out _ hcr.bel⟩⟩
 ·clear c3 c4 c5 c6 c7 u0 u1 u2 u3 v0 v1
  go_wp2_with (first
   | (go_at_call 16; refine (HP.out _ _ _ H2.out).mono ?_; rintro e w2 ⟨rfl, hc2⟩; have HC2 : Bx _ := ⟨hc2⟩; clear hc2))
  have HF : Bx (∀ X, LC w X (w.heap.size + 1) w.heap.size 25 0 2 s -> X.cell? ⟨(w.heap.size + 1), 0, none⟩ = some (.int .i64 25) /\ X.cell? ⟨w.heap.size, 0, none⟩ = some (.int .i64 2)) := ⟨fun X hX => ⟨hX.cells.1, hX.cells.2.2.2.2.1⟩⟩
  have hcr := HC2.out.drewN 1
  go_region_held3 (fun w' => w'.cell? ⟨(w.heap.size + 1), 0, none⟩ = some (.int .i64 25) /\ w'.cell? ⟨w.heap.size, 0, none⟩ = some (.int .i64 2))
   (exact HF.out _ hcr)
   (first | (go_at_call 65; refine Calls.mono (HR.out _ hcr.bel) ?_; rintro e z1 ⟨rfl, rfl⟩))
  go_wp2
  go_ret
  exact ⟨rfl, ⟨HE.out _ hcr.bel⟩⟩
end Go.Proofs.YtadmpgegolmkgaaDoor
