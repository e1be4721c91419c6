import Derived.Test.YtijdcplffmdijaaDoorCDV
import Derived.Test.YtijdcplffmdijaaDoorCDR
import Derived.Deep.RegionLaw
namespace Go.Proofs.YtijdcplffmdijaaDoor
open Go.RowKit
set_option linter.unusedVariables false
set_option linter.unusedSimpArgs false

theorem isBit_any (n : Int) (w : World) : Calls Tryd.prog 74 #[.int .i64 n] w fun e w' => e = .returned (.bool (isBitI n)) ∧ w = w' := by
  unfold isBitI
  by_cases h : n = 0
  · subst h
    go_enter Tryd.func74, Tryd.ntmps74
    go_wp2
    go_ret
    exact ⟨rfl, rfl⟩
  · have h1 : (n == 0) = false := by simpa using h
    rw [h1]
    go_enter Tryd.func74, Tryd.ntmps74
    go_wp2
    go_ret
    exact ⟨by simp, rfl⟩
/-- how many numbers stand ahead, by what a shape has -/
def firstH (hs : Int) : Nat := (if hs % 2 == 1 then 1 else 0) + (if hs / 2 % 2 == 1 then 1 else 0)
set_option maxRecDepth 100000 in
set_option maxHeartbeats 2000000 in
theorem first_any (nm : List UInt8) (hs tk ly : Int) (w : World) (s1 : 0 ≤ hs) (s2 : hs ≤ 7) :
    Calls Tryd.prog 87 #[.agg #[strV nm, .int .i64 hs, .int .i64 tk, .int .i64 ly]] w fun e w' => e = .returned (.int .i64 (firstH hs)) ∧ Below w.heap.size w w' := by
  obtain ⟨A1, A2, A3⟩ := and_bits s1 s2
  have B1 := bne_of A1
  have B2 := bne_of A2
  have hb := below1 w (.cells #[strV nm, .int .i64 hs, .int .i64 tk, .int .i64 ly] 60)
  have HB : Bx _ := ⟨hb⟩
  clear hb A1 A2 A3
  unfold firstH
  cases h1 : (hs % 2 == 1) <;> cases h2 : (hs / 2 % 2 == 1) <;> rw [h1] at B1 <;> rw [h2] at B2 <;>
    (go_enter Tryd.func87, Tryd.ntmps87
     go_wp2
     go_ret
     exact ⟨rfl, HB.out⟩)
set_option maxRecDepth 100000 in
set_option maxHeartbeats 4000000 in
/-- an operation without numbers refuses one -/
theorem insOf_25 (w : World) (a : Option Addr) (cap : Nat) (hL : Shp w) :
    Calls Tryd.prog 76 #[.int .i64 25, .slice a 1 cap] w fun e w' => e = .returned (.tuple #[.agg #[.int .i64 0, .int .i64 0, .int .i64 0, .slice none 0 0], .bool false]) ∧ Below w.heap.size w w' := by
  have hb := below1 w (.cells #[.int .i64 0, .int .i64 0, .int .i64 0, .slice none 0 0] 28)
  have HS := shapeOf_any 25 (w.alloc (.cells #[.int .i64 0, .int .i64 0, .int .i64 0, .slice none 0 0] 28)) (hL.below hb) (by unfold I64; decide)
  have e25 : shapeI 25 = ([114, 101, 116], 0, 0, 0) := by decide
  rw [e25] at HS
  unfold shpV at HS
  have HB : Bx _ := ⟨hb⟩
  have HF : Bx (∀ W, Calls Tryd.prog 87 #[.agg #[strV [114, 101, 116], .int .i64 0, .int .i64 0, .int .i64 0]] W fun e w' => e = .returned (.int .i64 0) ∧ Below W.heap.size W w') := ⟨fun W => first_any [114, 101, 116] 0 0 0 W (by decide) (by decide)⟩
  have hbits : bits BinOp.and IntKind.i64 0 4 = 0 := by decide
  clear hL hb
  go_enter Tryd.func76, Tryd.ntmps76
  go_wp2_with (first
    | (go_at_call 31; refine HS.mono ?_; rintro e w1 ⟨rfl, hb1⟩
       have hq : w.heap.size < w1.heap.size := by have := hb1.size; simp at this; omega
       have I1 : w1.heap[w.heap.size]? = some (.cells #[.int .i64 0, .int .i64 0, .int .i64 0, .slice none 0 0] 28 (0, 0)) := below_heap hb1 (heap_new w _)
       have HB1 : Bx _ := ⟨HB.out.trans (hb1.mono (by simp))⟩
       have I1B : Bx _ := ⟨I1⟩
       clear hb1 I1)
    | (go_at_call 87; refine (HF.out _).mono ?_; rintro e w2 ⟨rfl, hb2⟩
       have e1 : w2.heap[w.heap.size]? = some (.cells #[.int .i64 0, .int .i64 0, .int .i64 0, .slice none 0 0] 28 (0, 0)) := below_heap hb2 (below_heap (below1 w1 _) I1B.out)
       have e2 : w2.heap[w1.heap.size]? = some (.cells #[strV [114, 101, 116], .int .i64 0, .int .i64 0, .int .i64 0] 60 (0, 0)) := below_heap hb2 (heap_new w1 _)
       have c0 : w2.cell? ⟨w.heap.size, 0, none⟩ = some (.int .i64 0) := cell_blk e1 rfl
       have c1 : w2.cell? ⟨w.heap.size, 1, none⟩ = some (.int .i64 0) := cell_blk e1 rfl
       have c2 : w2.cell? ⟨w.heap.size, 2, none⟩ = some (.int .i64 0) := cell_blk e1 rfl
       have c3 : w2.cell? ⟨w.heap.size, 3, none⟩ = some (.slice none 0 0) := cell_blk e1 rfl
       have f0 : w2.frozen? ⟨w.heap.size, 0, none⟩ = false := by simp [World.frozen?, e1]
       have f1 : w2.frozen? ⟨w.heap.size, 1, none⟩ = false := by simp [World.frozen?, e1]
       have f2 : w2.frozen? ⟨w.heap.size, 2, none⟩ = false := by simp [World.frozen?, e1]
       have f3 : w2.frozen? ⟨w.heap.size, 3, none⟩ = false := by simp [World.frozen?, e1]
       have d0 : w2.cell? ⟨w1.heap.size, 0, none⟩ = some (strV [114, 101, 116]) := cell_blk e2 rfl
       have d1 : w2.cell? ⟨w1.heap.size, 1, none⟩ = some (.int .i64 0) := cell_blk e2 rfl
       have hq2 : w.heap.size < w2.heap.size := (Array.getElem?_eq_some_iff.1 e1).1
       have hq3 : w1.heap.size < w2.heap.size := (Array.getElem?_eq_some_iff.1 e2).1
       have HB2 : Bx (Below w.heap.size w w2) := ⟨HB1.out.trans (((below1 w1 _).trans (hb2.mono (by simp))).mono (by omega))⟩
       clear hb2 e1 e2))
  refine bodyPost_ret (v := .tuple #[.agg #[.int .i64 0, .int .i64 0, .int .i64 0, .slice none 0 0], .bool false]) (by simp [results, Tryd.results76, go_sem, c0, c1, c2, c3, hq2]) rfl ⟨rfl, ?_⟩
  exact (((HB2.out.setCell (p := ⟨w.heap.size, 0, none⟩) (Nat.le_refl _) _).setCell (p := ⟨w.heap.size, 1, none⟩) (Nat.le_refl _) _).setCell (p := ⟨w.heap.size, 2, none⟩) (Nat.le_refl _) _).setCell (p := ⟨w.heap.size, 3, none⟩) (Nat.le_refl _) _
/-- an instruction that is none is not added -/
theorem addIns_no (w : World) (up : Value) (a : Option Addr) (cap : Nat) (hL : Shp w) :
    Calls Tryd.prog 66 #[up, strV [114, 101, 116], .slice a 1 cap] w fun e w' => e = .returned (.bool false) ∧ Below w.heap.size w w' := by
  have HO := Op_any ⟨#[114, 101, 116]⟩ w hL
  have e1 : opI (⟨#[114, 101, 116]⟩ : ByteArray).toList = 25 := by rw [Lib.toList_data]; decide
  rw [e1] at HO
  have HI := insOf_25 w a cap hL
  clear hL
  go_enter Tryd.func66, Tryd.ntmps66
  go_wp2_with (first
    | (go_at_call 11; refine HO.mono ?_; rintro e w1 ⟨rfl, rfl⟩)
    | (go_at_call 76; refine HI.mono ?_; rintro e w2 ⟨rfl, hb⟩))
  go_ret
  exact ⟨rfl, hb.alloc hb.size _⟩
theorem pg_news (X : World) (H : Nat) (hH : X.heap.size = H) (a b c d e : Value) : ∀ (j : Nat) (u : Value), [a, b, c, d, e][j]? = some u → (X.alloc (.cells #[a, b, c, d, e] 57)).drew.cell? ((⟨H, 0, none⟩ : Addr).add j) = some u := by
  subst hH
  exact World.news_of_block (w := (X.alloc (.cells #[a, b, c, d, e] 57)).drew) (cs := #[a, b, c, d, e]) (heap_alloc_new X (.cells #[a, b, c, d, e] 57))
theorem pg_one (a b c : Int) : ∀ u ∈ [Value.int .i64 a, .int .i64 b, .int .i64 c, .bool false, .slice none 0 0], u.oneCell' = true := by
  intro u hu
  simp only [List.mem_cons, List.not_mem_nil, or_false] at hu
  rcases hu with rfl | rfl | rfl | rfl | rfl <;> rfl
theorem far4 {w : World} {ub lb lo : Nat} {v x0 x1 x2 x3 : Value} (hne : lb ≠ ub) (h0 : w.cell? ⟨lb, lo, none⟩ = some x0) (h1 : w.cell? ⟨lb, lo + 1, none⟩ = some x1) (h2 : w.cell? ⟨lb, lo + 2, none⟩ = some x2) (h3 : w.cell? ⟨lb, lo + 3, none⟩ = some x3) :
    (w.setCell ⟨ub, 0, none⟩ v).cell? ⟨lb, lo, none⟩ = some x0 ∧ (w.setCell ⟨ub, 0, none⟩ v).cell? ⟨lb, lo + 1, none⟩ = some x1 ∧ (w.setCell ⟨ub, 0, none⟩ v).cell? ⟨lb, lo + 2, none⟩ = some x2 ∧ (w.setCell ⟨ub, 0, none⟩ v).cell? ⟨lb, lo + 3, none⟩ = some x3 := by
  have k : ∀ i, (w.setCell ⟨ub, 0, none⟩ v).cell? ⟨lb, i, none⟩ = w.cell? ⟨lb, i, none⟩ := fun i => World.cell?_setCell_far w ⟨ub, 0, none⟩ ⟨lb, i, none⟩ v (fun e => hne e.symm)
  exact ⟨by rw [k]; exact h0, by rw [k]; exact h1, by rw [k]; exact h2, by rw [k]; exact h3⟩
theorem infoPg : (Tryd.prog.info? 57).map (fun i => (i.zero, i.size, i.bytes)) = some (some (.agg #[.int .i64 0, .int .i64 0, .int .i64 0, .bool false, .slice none 0 0]), 5, 56) := by kernel_rfl
set_option maxRecDepth 100000 in
set_option maxHeartbeats 4000000 in
/-- a prog is added to a unit that has none -/
theorem addProg_0 (w : World) (ub lb lo cap : Nat) (tv : Value) (a b c : Int) (hu : w.heap[ub]? = some (.cells #[.slice none 0 0, tv] 36 (0, 0))) (h0 : w.cell? ⟨lb, lo, none⟩ = some (.int .i64 a)) (h1 : w.cell? ⟨lb, lo + 1, none⟩ = some (.int .i64 b)) (h2 : w.cell? ⟨lb, lo + 2, none⟩ = some (.int .i64 c)) (h3 : w.cell? ⟨lb, lo + 3, none⟩ = some (.int .i64 0)) (hne : lb ≠ ub) (hc : 4 ≤ cap) :
    Calls Tryd.prog 65 #[.pointer (some ⟨ub, 0, none⟩), .slice (some ⟨lb, lo, none⟩) 4 cap] w fun e w' => e = .returned (.bool true) ∧ Below ub w w' ∧ ∃ pv, w'.heap[ub]? = some (.cells #[pv, tv] 36 (0, 0)) := by
  obtain ⟨j0, ji, jz0, jz1, jz2⟩ := info_parts infoPg
  have hub : ub < w.heap.size := (Array.getElem?_eq_some_iff.1 hu).1
  have hlb : lb < w.heap.size := by
    have := World.block_lt_of_cell? w _ h0
    exact this
  have g0 : w.cell? ⟨ub, 0, none⟩ = some (.slice none 0 0) := cell_blk hu rfl
  have HU : Bx _ := ⟨hu⟩
  obtain ⟨PC, hPC⟩ : ∃ o, o = (Obj.cells #[.int .i64 a, .int .i64 b, .int .i64 c, .bool false, .slice none 0 0] 57) := ⟨_, rfl⟩
  have HK : Bx (∀ w8, ((w.alloc (.cells #[.int .i64 a, .int .i64 b, .int .i64 c, .bool false, .slice none 0 0] 57)).drew).grownBy w8 (Value.ownBlock (.slice none 0 0)) → (w8.cell? ⟨lb, lo, none⟩ = some (.int .i64 a) ∧ w8.cell? ⟨lb, lo + 1, none⟩ = some (.int .i64 b) ∧ w8.cell? ⟨lb, lo + 2, none⟩ = some (.int .i64 c) ∧ w8.cell? ⟨lb, lo + 3, none⟩ = some (.int .i64 0) ∧ w8.cell? ⟨ub, 0, none⟩ = some (.slice none 0 0)) ∧ w8.heap[ub]? = some (.cells #[.slice none 0 0, tv] 36 (0, 0)) ∧ Below w.heap.size w w8 ∧ w8.frozen? ⟨ub, 0, none⟩ = false) := ⟨fun w8 hg => by
    have hb : Below w.heap.size w w8 := (((Below.refl _ w).alloc (Nat.le_refl _) _).drew).grown hg (by simp) fun x hx => by cases hx
    have e1 := below_heap hb HU.out
    have hc : ∀ i, w8.cell? ⟨lb, i, none⟩ = w.cell? ⟨lb, i, none⟩ := fun i => hb.cell (p := ⟨lb, i, none⟩) hlb
    exact ⟨⟨by rw [hc]; exact h0, by rw [hc]; exact h1, by rw [hc]; exact h2, by rw [hc]; exact h3, cell_blk e1 rfl⟩, e1, hb, by simp [World.frozen?, e1]⟩⟩
  have HFIN : Bx (∀ (w8 : World) pv, w8.heap[ub]? = some (.cells #[.slice none 0 0, tv] 36 (0, 0)) → (w8.setCell ⟨ub, 0, none⟩ pv).heap[ub]? = some (.cells #[pv, tv] 36 (0, 0))) := ⟨fun w8 pv h => by rw [heap_setCell_same w8 ub 0 _ _ _ h]; rfl⟩
  have HBIT : Bx _ := ⟨isBit_any 0 w⟩
  have e00 : isBitI 0 = true := rfl
  rw [e00] at HBIT
  have gA : ((w.alloc (.cells #[.int .i64 a, .int .i64 b, .int .i64 c, .bool false, .slice none 0 0] 57)).drew).cell? ⟨ub, 0, none⟩ = some (.slice none 0 0) := cell_blk (below_heap (below1 w _) hu) rfl
  have HSA : Bx (((w.alloc (.cells #[.int .i64 a, .int .i64 b, .int .i64 c, .bool false, .slice none 0 0] 57)).drew).cell? ⟨lb, lo, none⟩ = some (.int .i64 a) ∧ ((w.alloc (.cells #[.int .i64 a, .int .i64 b, .int .i64 c, .bool false, .slice none 0 0] 57)).drew).cell? ⟨lb, lo + 1, none⟩ = some (.int .i64 b) ∧ ((w.alloc (.cells #[.int .i64 a, .int .i64 b, .int .i64 c, .bool false, .slice none 0 0] 57)).drew).cell? ⟨lb, lo + 2, none⟩ = some (.int .i64 c) ∧ ((w.alloc (.cells #[.int .i64 a, .int .i64 b, .int .i64 c, .bool false, .slice none 0 0] 57)).drew).cell? ⟨lb, lo + 3, none⟩ = some (.int .i64 0)) := ⟨by
    have k : ∀ i, ((w.alloc (.cells #[.int .i64 a, .int .i64 b, .int .i64 c, .bool false, .slice none 0 0] 57)).drew).cell? ⟨lb, i, none⟩ = w.cell? ⟨lb, i, none⟩ := fun i => (below1 w _).cell (p := ⟨lb, i, none⟩) hlb
    exact ⟨by rw [k]; exact h0, by rw [k]; exact h1, by rw [k]; exact h2, by rw [k]; exact h3⟩⟩
  clear hu hPC PC e00
  go_enter Tryd.func65, Tryd.ntmps65
  go_wp2_with (go_at_call 74; refine HBIT.out.mono ?_; rintro e w' ⟨rfl, rfl⟩)
  refine wp_region_held_drew (S := (fun w' : World => w'.cell? ⟨lb, lo, none⟩ = some (.int .i64 a) ∧ w'.cell? ⟨lb, lo + 1, none⟩ = some (.int .i64 b) ∧ w'.cell? ⟨lb, lo + 2, none⟩ = some (.int .i64 c) ∧ w'.cell? ⟨lb, lo + 3, none⟩ = some (.int .i64 0))) (by kernel_rfl) ⟨h0, h1, h2, h3⟩ (fun hHeld => ?_)
  try simp only [List.size_toArray, List.length_cons, List.length_nil]
  refine wpAnyH_take (i := 0) (v := ?_) rfl (by decide +kernel) (by decide +kernel) (by decide +kernel) (fun _ _ _ h => h) (Or.inl ⟨by rfl, ?_⟩) (by assumption) ?_
  case refine_2 => intro w hSw; obtain ⟨s0, s1, s2, s3⟩ := hSw; go_simp; try rfl
  try simp only [Act.put, List.setIfInBounds_toArray, List.set_cons_zero, List.set_cons_succ]
  refine wpAnyH_take (i := 1) (v := ?_) rfl (by decide +kernel) (by decide +kernel) (by decide +kernel) (fun _ _ _ h => h) (Or.inl ⟨by rfl, ?_⟩) (by assumption) ?_
  case refine_2 => intro w hSw; obtain ⟨s0, s1, s2, s3⟩ := hSw; go_simp; try rfl
  try simp only [Act.put, List.setIfInBounds_toArray, List.set_cons_zero, List.set_cons_succ]
  refine wpAnyH_take (i := 2) (v := ?_) rfl (by decide +kernel) (by decide +kernel) (by decide +kernel) (fun _ _ _ h => h) (Or.inl ⟨by rfl, ?_⟩) (by assumption) ?_
  case refine_2 => intro w hSw; obtain ⟨s0, s1, s2, s3⟩ := hSw; go_simp; try rfl
  try simp only [Act.put, List.setIfInBounds_toArray, List.set_cons_zero, List.set_cons_succ]
  refine wpAnyH_take (i := 3) (v := ?_) rfl (by decide +kernel) (by decide +kernel) (by decide +kernel) (fun _ _ _ h => h) (Or.inl ⟨by rfl, ?_⟩) (by assumption) ?_
  case refine_2 => intro w hSw; obtain ⟨s0, s1, s2, s3⟩ := hSw; go_simp; try rfl
  try simp only [Act.put, List.setIfInBounds_toArray, List.set_cons_zero, List.set_cons_succ]
  refine wpAnyH_take (i := 5) (v := ?_) rfl (by decide +kernel) (by decide +kernel) (by decide +kernel) (fun _ _ _ h => h) (Or.inl ⟨by rfl, ?_⟩) (by assumption) ?_
  case refine_2 => intro w hSw; obtain ⟨s0, s1, s2, s3⟩ := hSw; go_simp; try rfl
  try simp only [Act.put, List.setIfInBounds_toArray, List.set_cons_zero, List.set_cons_succ]
  refine wpAnyH_take (i := 6) (v := ?_) rfl (by decide +kernel) (by decide +kernel) (by decide +kernel) (fun _ _ _ h => h) (Or.inl ⟨by rfl, ?_⟩) (by assumption) ?_
  case refine_2 => intro w hSw; obtain ⟨s0, s1, s2, s3⟩ := hSw; go_simp; try rfl
  try simp only [Act.put, List.setIfInBounds_toArray, List.set_cons_zero, List.set_cons_succ]
  refine wpAnyH_take (i := 7) (v := ?_) rfl (by decide +kernel) (by decide +kernel) (by decide +kernel) (fun _ _ _ h => h) (Or.inl ⟨by rfl, ?_⟩) (by assumption) ?_
  case refine_2 => intro w hSw; obtain ⟨s0, s1, s2, s3⟩ := hSw; go_simp; try rfl
  try simp only [Act.put, List.setIfInBounds_toArray, List.set_cons_zero, List.set_cons_succ]
  refine wpAnyH_take (i := 8) (v := ?_) rfl (by decide +kernel) (by decide +kernel) (by decide +kernel) (fun _ _ _ h => h) (Or.inl ⟨by rfl, ?_⟩) (by assumption) ?_
  case refine_2 => intro w hSw; obtain ⟨s0, s1, s2, s3⟩ := hSw; go_simp; try rfl
  try simp only [Act.put, List.setIfInBounds_toArray, List.set_cons_zero, List.set_cons_succ]
  refine wpAnyH_take (i := 9) (v := ?_) rfl (by decide +kernel) (by decide +kernel) (by decide +kernel) (fun _ _ _ h => h) (Or.inl ⟨by rfl, ?_⟩) (by assumption) ?_
  case refine_2 => intro w hSw; obtain ⟨s0, s1, s2, s3⟩ := hSw; go_simp; try rfl
  try simp only [Act.put, List.setIfInBounds_toArray, List.set_cons_zero, List.set_cons_succ]
  refine wpAnyH_take (i := 10) (v := ?_) rfl (by decide +kernel) (by decide +kernel) (by decide +kernel) (fun _ _ _ h => h) (Or.inl ⟨by rfl, ?_⟩) (by assumption) ?_
  case refine_2 => intro w hSw; obtain ⟨s0, s1, s2, s3⟩ := hSw; go_simp; try rfl
  try simp only [Act.put, List.setIfInBounds_toArray, List.set_cons_zero, List.set_cons_succ]
  refine wpAnyH_take (i := 11) (v := ?_) rfl (by decide +kernel) (by decide +kernel) (by decide +kernel) (fun _ _ _ h => h) (Or.inl ⟨by rfl, ?_⟩) (by assumption) ?_
  case refine_2 => intro w hSw; obtain ⟨s0, s1, s2, s3⟩ := hSw; go_simp; try rfl
  try simp only [Act.put, List.setIfInBounds_toArray, List.set_cons_zero, List.set_cons_succ]
  refine wpAnyH_take (i := 12) (v := ?_) rfl (by decide +kernel) (by decide +kernel) (by decide +kernel) (fun _ _ _ h => h) (Or.inl ⟨by rfl, ?_⟩) (by assumption) ?_
  case refine_2 => intro w hSw; obtain ⟨s0, s1, s2, s3⟩ := hSw; go_simp; try rfl
  try simp only [Act.put, List.setIfInBounds_toArray, List.set_cons_zero, List.set_cons_succ]
  refine wpAnyH_take (i := 13) (v := ?_) rfl (by decide +kernel) (by decide +kernel) (by decide +kernel) (fun _ _ _ h => h) (Or.inl ⟨by rfl, ?_⟩) (by assumption) ?_
  case refine_2 => intro w hSw; obtain ⟨s0, s1, s2, s3⟩ := hSw; go_simp; try rfl
  try simp only [Act.put, List.setIfInBounds_toArray, List.set_cons_zero, List.set_cons_succ]
  refine wpAnyH_take (i := 14) (v := ?_) rfl (by decide +kernel) (by decide +kernel) (by decide +kernel) (fun _ _ _ h => h) (Or.inl ⟨by rfl, ?_⟩) (by assumption) ?_
  case refine_2 => intro w hSw; obtain ⟨s0, s1, s2, s3⟩ := hSw; go_simp; try rfl
  try simp only [Act.put, List.setIfInBounds_toArray, List.set_cons_zero, List.set_cons_succ]
  refine wpAnyH_take (i := 15) (v := ?_) rfl (by decide +kernel) (by decide +kernel) (by decide +kernel) (fun _ _ _ h => h) (Or.inl ⟨by rfl, ?_⟩) (by assumption) ?_
  case refine_2 => intro w hSw; obtain ⟨s0, s1, s2, s3⟩ := hSw; go_simp; try rfl
  try simp only [Act.put, List.setIfInBounds_toArray, List.set_cons_zero, List.set_cons_succ]
  refine wpAnyH_take (i := 16) (v := ?_) rfl (by decide +kernel) (by decide +kernel) (by decide +kernel) (fun _ _ _ h => h) (Or.inl ⟨by rfl, ?_⟩) (by assumption) ?_
  case refine_2 => intro w hSw; obtain ⟨s0, s1, s2, s3⟩ := hSw; go_simp; try rfl
  try simp only [Act.put, List.setIfInBounds_toArray, List.set_cons_zero, List.set_cons_succ]
  refine wpAnyH_take (i := 17) (v := ?_) rfl (by decide +kernel) (by decide +kernel) (by decide +kernel) (fun _ _ _ h => h) (Or.inl ⟨by rfl, ?_⟩) (by assumption) ?_
  case refine_2 => intro w hSw; obtain ⟨s0, s1, s2, s3⟩ := hSw; go_simp; try rfl
  try simp only [Act.put, List.setIfInBounds_toArray, List.set_cons_zero, List.set_cons_succ]
  refine wpAnyH_take (i := 18) (v := ?_) rfl (by decide +kernel) (by decide +kernel) (by decide +kernel) (fun _ _ _ h => h) (Or.inl ⟨by rfl, ?_⟩) (by assumption) ?_
  case refine_2 => intro w hSw; obtain ⟨s0, s1, s2, s3⟩ := hSw; go_simp; try rfl
  try simp only [Act.put, List.setIfInBounds_toArray, List.set_cons_zero, List.set_cons_succ]
  refine wpAnyH_ready (rs := [4, 19]) (by decide +kernel) (by simp) ?_
  refine AllReadyH.cons rfl (fun K hK => ?_) (AllReadyH.cons rfl (fun K hK => ?_) AllReadyH.nil)
  · go_simp
    refine hK.out _ _ hHeld (fun hHeld => ?_)
    clear hK K
    try simp only [Act.put, List.setIfInBounds_toArray, List.set_cons_zero, List.set_cons_succ]
    refine wpAnyH_ready (rs := [19]) (by decide +kernel) (by simp) ?_
    refine AllReadyH.cons rfl (fun K hK => ?_) AllReadyH.nil
    go_simp
    refine hK.out _ _ HSA.out (fun hHeld => ?_)
    clear hK K
    try simp only [Act.put, List.setIfInBounds_toArray, List.set_cons_zero, List.set_cons_succ]
    refine wpAnyH_ready (rs := [20]) (by decide +kernel) (by simp) ?_
    refine AllReadyH.cons rfl (fun K hK => ?_) AllReadyH.nil
    refine step_append_lies _ rfl (.tmp 14) (.tmp 29) 33 rfl w.heap.size 57 j0 (.agg #[.int .i64 0, .int .i64 0, .int .i64 0, .bool false, .slice none 0 0]) 5 56 Tryd.underlying33 ji jz0 jz1 jz2 rfl (by decide) (.slice none 0 0) 0 [] (by simp [Act.eval, Act.put]) (World.ownsRow_nil _ _ _ _) ⟨w.heap.size, 0, none⟩ 1 1 [.int .i64 a, .int .i64 b, .int .i64 c, .bool false, .slice none 0 0] (by simp [Act.eval, Act.put]) rfl (pg_news _ _ rfl _ _ _ _ _) (pg_one _ _ _) (by decide) (by unfold maxLen; omega) (by omega) (by simp) (w.heap.size + 1) (by simp) ?_
    intro gg cg w8 hown hgrow hat hlt8
    obtain ⟨⟨e0, e1, e2, e3, e4⟩, e5, e6, e7⟩ := HK.out w8 hgrow
    have hub8 : ub < w8.heap.size := (Array.getElem?_eq_some_iff.1 e5).1
    refine hK.out _ _ ⟨e0, e1, e2, e3⟩ (fun hHeld => ?_)
    clear hK K
    try simp only [Act.put, List.setIfInBounds_toArray, List.set_cons_zero, List.set_cons_succ]
    refine wpAnyH_take (i := 21) (v := ?_) rfl (by decide +kernel) (by decide +kernel) (by decide +kernel) (fun _ _ _ h => h) (Or.inl ⟨by rfl, ?_⟩) (by assumption) ?_
    case refine_2 => intro w hSw; obtain ⟨s0, s1, s2, s3⟩ := hSw; go_simp; try rfl
    try simp only [Act.put, List.setIfInBounds_toArray, List.set_cons_zero, List.set_cons_succ]
    refine wpAnyH_take (i := 22) (v := ?_) rfl (by decide +kernel) (by decide +kernel) (by decide +kernel) (fun _ _ _ h => h) (Or.inl ⟨by rfl, ?_⟩) (by assumption) ?_
    case refine_2 => intro w hSw; obtain ⟨s0, s1, s2, s3⟩ := hSw; go_simp; try rfl
    try simp only [Act.put, List.setIfInBounds_toArray, List.set_cons_zero, List.set_cons_succ]
    refine wpAnyH_ready (rs := [23]) (by decide +kernel) (by simp) ?_
    refine AllReadyH.cons rfl (fun K hK => ?_) AllReadyH.nil
    go_simp
    refine hK.out _ _ (far4 hne e0 e1 e2 e3) (fun hHeld => ?_)
    clear hK K
    refine wpAnyH_done (by decide +kernel) ?_ _
    have HB8 : Bx _ := ⟨e6⟩
    have HU8 : Bx _ := ⟨e5⟩
    clear e0 e1 e2 e3 e4 e5 e6 e7 hown hgrow hat hHeld
    go_wp2
    go_ret
    exact ⟨rfl, (HB8.out.mono (Nat.le_of_lt hub)).setCell (p := ⟨ub, 0, none⟩) (Nat.le_refl _) _, _, HFIN.out _ _ HU8.out⟩
  · go_simp
    refine hK.out _ _ HSA.out (fun hHeld => ?_)
    clear hK K
    try simp only [Act.put, List.setIfInBounds_toArray, List.set_cons_zero, List.set_cons_succ]
    refine wpAnyH_ready (rs := [4]) (by decide +kernel) (by simp) ?_
    refine AllReadyH.cons rfl (fun K hK => ?_) AllReadyH.nil
    go_simp
    refine hK.out _ _ hHeld (fun hHeld => ?_)
    clear hK K
    try simp only [Act.put, List.setIfInBounds_toArray, List.set_cons_zero, List.set_cons_succ]
    refine wpAnyH_ready (rs := [20]) (by decide +kernel) (by simp) ?_
    refine AllReadyH.cons rfl (fun K hK => ?_) AllReadyH.nil
    refine step_append_lies _ rfl (.tmp 14) (.tmp 29) 33 rfl w.heap.size 57 j0 (.agg #[.int .i64 0, .int .i64 0, .int .i64 0, .bool false, .slice none 0 0]) 5 56 Tryd.underlying33 ji jz0 jz1 jz2 rfl (by decide) (.slice none 0 0) 0 [] (by simp [Act.eval, Act.put]) (World.ownsRow_nil _ _ _ _) ⟨w.heap.size, 0, none⟩ 1 1 [.int .i64 a, .int .i64 b, .int .i64 c, .bool false, .slice none 0 0] (by simp [Act.eval, Act.put]) rfl (pg_news _ _ rfl _ _ _ _ _) (pg_one _ _ _) (by decide) (by unfold maxLen; omega) (by omega) (by simp) (w.heap.size + 1) (by simp) ?_
    intro gg cg w8 hown hgrow hat hlt8
    obtain ⟨⟨e0, e1, e2, e3, e4⟩, e5, e6, e7⟩ := HK.out w8 hgrow
    have hub8 : ub < w8.heap.size := (Array.getElem?_eq_some_iff.1 e5).1
    refine hK.out _ _ ⟨e0, e1, e2, e3⟩ (fun hHeld => ?_)
    clear hK K
    try simp only [Act.put, List.setIfInBounds_toArray, List.set_cons_zero, List.set_cons_succ]
    refine wpAnyH_take (i := 21) (v := ?_) rfl (by decide +kernel) (by decide +kernel) (by decide +kernel) (fun _ _ _ h => h) (Or.inl ⟨by rfl, ?_⟩) (by assumption) ?_
    case refine_2 => intro w hSw; obtain ⟨s0, s1, s2, s3⟩ := hSw; go_simp; try rfl
    try simp only [Act.put, List.setIfInBounds_toArray, List.set_cons_zero, List.set_cons_succ]
    refine wpAnyH_take (i := 22) (v := ?_) rfl (by decide +kernel) (by decide +kernel) (by decide +kernel) (fun _ _ _ h => h) (Or.inl ⟨by rfl, ?_⟩) (by assumption) ?_
    case refine_2 => intro w hSw; obtain ⟨s0, s1, s2, s3⟩ := hSw; go_simp; try rfl
    try simp only [Act.put, List.setIfInBounds_toArray, List.set_cons_zero, List.set_cons_succ]
    refine wpAnyH_ready (rs := [23]) (by decide +kernel) (by simp) ?_
    refine AllReadyH.cons rfl (fun K hK => ?_) AllReadyH.nil
    go_simp
    refine hK.out _ _ (far4 hne e0 e1 e2 e3) (fun hHeld => ?_)
    clear hK K
    refine wpAnyH_done (by decide +kernel) ?_ _
    have HB8 : Bx _ := ⟨e6⟩
    have HU8 : Bx _ := ⟨e5⟩
    clear e0 e1 e2 e3 e4 e5 e6 e7 hown hgrow hat hHeld
    go_wp2
    go_ret
    exact ⟨rfl, (HB8.out.mono (Nat.le_of_lt hub)).setCell (p := ⟨ub, 0, none⟩) (Nat.le_refl _) _, _, HFIN.out _ _ HU8.out⟩
end Go.Proofs.YtijdcplffmdijaaDoor
