import Derived.Test.YtllgaholkminnaaDoorCKEx
namespace Go.Proofs.YtllgaholkminnaaDoor
open Go.RowKit
set_option linter.unusedVariables false
set_option linter.unusedSimpArgs false

theorem alloc7 (w : World) (o0 o1 o2 o3 o4 o5 o6 : Obj) : ∃ W, W = (((((((w.alloc o0).alloc o1).alloc o2).alloc o3).alloc o4).alloc o5).alloc o6) ∧ W.heap[w.heap.size]? = some o0 ∧ W.heap[w.heap.size + 1]? = some o1 ∧ W.heap[w.heap.size + 2]? = some o2 ∧ W.heap[w.heap.size + 3]? = some o3 ∧ W.heap[w.heap.size + 4]? = some o4 ∧ W.heap[w.heap.size + 5]? = some o5 ∧ W.heap[w.heap.size + 6]? = some o6 ∧ Below w.heap.size w W := by
  have s1 : (w.alloc o0).heap.size = w.heap.size + 1 := by simp
  have s2 : ((w.alloc o0).alloc o1).heap.size = w.heap.size + 2 := by simp
  have s3 : (((w.alloc o0).alloc o1).alloc o2).heap.size = w.heap.size + 3 := by simp
  have s4 : ((((w.alloc o0).alloc o1).alloc o2).alloc o3).heap.size = w.heap.size + 4 := by simp
  have s5 : (((((w.alloc o0).alloc o1).alloc o2).alloc o3).alloc o4).heap.size = w.heap.size + 5 := by simp
  have s6 : ((((((w.alloc o0).alloc o1).alloc o2).alloc o3).alloc o4).alloc o5).heap.size = w.heap.size + 6 := by simp
  have t1 := heap_alloc_new (w.alloc o0) o1
  have t2 := heap_alloc_new ((w.alloc o0).alloc o1) o2
  have t3 := heap_alloc_new (((w.alloc o0).alloc o1).alloc o2) o3
  have t4 := heap_alloc_new ((((w.alloc o0).alloc o1).alloc o2).alloc o3) o4
  have t5 := heap_alloc_new (((((w.alloc o0).alloc o1).alloc o2).alloc o3).alloc o4) o5
  have t6 := heap_alloc_new ((((((w.alloc o0).alloc o1).alloc o2).alloc o3).alloc o4).alloc o5) o6
  rw [s1] at t1
  rw [s2] at t2
  rw [s3] at t3
  rw [s4] at t4
  rw [s5] at t5
  rw [s6] at t6
  refine ⟨_, rfl, ?_, ?_, ?_, ?_, ?_, ?_, t6, ?_⟩
  · rw [(below1 _ o6).block _ (by omega), (below1 _ o5).block _ (by omega), (below1 _ o4).block _ (by omega), (below1 _ o3).block _ (by omega), (below1 _ o2).block _ (by omega), (below1 _ o1).block _ (by omega)]; exact heap_alloc_new w o0
  · rw [(below1 _ o6).block _ (by omega), (below1 _ o5).block _ (by omega), (below1 _ o4).block _ (by omega), (below1 _ o3).block _ (by omega), (below1 _ o2).block _ (by omega)]; exact t1
  · rw [(below1 _ o6).block _ (by omega), (below1 _ o5).block _ (by omega), (below1 _ o4).block _ (by omega), (below1 _ o3).block _ (by omega)]; exact t2
  · rw [(below1 _ o6).block _ (by omega), (below1 _ o5).block _ (by omega), (below1 _ o4).block _ (by omega)]; exact t3
  · rw [(below1 _ o6).block _ (by omega), (below1 _ o5).block _ (by omega)]; exact t4
  · rw [(below1 _ o6).block _ (by omega)]; exact t5
  · exact ((((((below1 w o0).trans ((below1 _ o1).mono (by omega))).trans ((below1 _ o2).mono (by omega))).trans ((below1 _ o3).mono (by omega))).trans ((below1 _ o4).mono (by omega))).trans ((below1 _ o5).mono (by omega))).trans ((below1 _ o6).mono (by omega))

theorem ex_start (w : World) : ExAt (((((((w.alloc (.cells #[.int .i64 0] 3)).alloc (.cells #[.int .i64 1] 3)).alloc (.cells #[.int .i64 3] 3)).alloc (.cells #[.int .i64 4] 3)).alloc (.cells #[.int .i64 5] 3)).alloc (.cells #[.int .i64 2, .int .i64 6] 3)).alloc (.cells (exC w.heap.size nmT) 37)) w.heap.size nmT ∧ Below w.heap.size w (((((((w.alloc (.cells #[.int .i64 0] 3)).alloc (.cells #[.int .i64 1] 3)).alloc (.cells #[.int .i64 3] 3)).alloc (.cells #[.int .i64 4] 3)).alloc (.cells #[.int .i64 5] 3)).alloc (.cells #[.int .i64 2, .int .i64 6] 3)).alloc (.cells (exC w.heap.size nmT) 37)) := by
  obtain ⟨W, hW, q0, q1, q2, q3, q4, q5, q6, q7⟩ := alloc7 w (.cells #[.int .i64 0] 3) (.cells #[.int .i64 1] 3) (.cells #[.int .i64 3] 3) (.cells #[.int .i64 4] 3) (.cells #[.int .i64 5] 3) (.cells #[.int .i64 2, .int .i64 6] 3) (.cells (exC w.heap.size nmT) 37)
  rw [← hW]
  exact ⟨⟨q0, q1, q2, q3, q4, q5, q6⟩, q7⟩
/-- what is shown of firstOpen -/
def FoC : Prop := ∀ (w : World) (B nb no nc : Nat) (l : List Nd) (mb mn mc : Nat), Nodes w B nb no nc l → 0 < l.length → l.length ≤ 2147483640 → LeafD l → Calls Tryd.prog 28 #[.slice (some ⟨nb, no, none⟩) l.length nc, .slice (some ⟨mb, 0, none⟩) mn mc] w fun e w' => e = .returned (.int .i64 (-1)) ∧ Below w.heap.size w w'
theorem Table_exT (hfo : FoC) (W : World) (s : Nat) (hx : ExAt W s nmT) (hL : Laid W) :
    Calls Tryd.prog 18 #[.slice (some ⟨s + 6, 0, none⟩) 8 8] W fun e w' => ∃ g cp ob b0, e = .returned (.tuple #[.slice (some ⟨g, 0, none⟩) 3 cp, .slice (some ⟨ob, 0, none⟩) 8 8, .agg #[.int .i64 0, .int .i64 0]]) ∧ Bx (TysO w' b0 (.slice (some ⟨g, 0, none⟩) 3 cp) exT ∧ IRow w' ob [0, 0, -1, 2, 1, 2, -1, -1] ∧ W.heap.size ≤ b0 ∧ Below W.heap.size W w') := by
  have hn := hx.nodes (by decide)
  refine Calls.mono (Table_ok W (s + 7) (s + 6) 0 8 (exL nmT) exR exD hn hL (by decide) (by decide) check_exT (ex_decl _) (ex_twice _) ex_known ex_uf (ex_kidsin _) (ex_kidlen _) (fun W' hb mb mn mc => hfo W' (s + 7) (s + 6) 0 8 (exL nmT) mb mn mc (hn.below (hb.mono hn.hi)) (by decide) (by decide) (ex_leaf _))) ?_
  rintro e w' ⟨v, ob, b0, rfl, h1, h2, h3, h4⟩
  obtain ⟨t1, t2, t3⟩ := h1
  rw [ex_rows] at t1
  rw [ex_of] at t2
  obtain ⟨g, cp, rfl, _⟩ := t1.types (by decide) ex_tywf ex_tylen
  exact ⟨g, cp, ob, b0, rfl, t1, t2, h2, h4⟩
theorem Table_exV (W : World) (s : Nat) (hx : ExAt W s nmV) (hL : Laid W) :
    Calls Tryd.prog 18 #[.slice (some ⟨s + 6, 0, none⟩) 8 8] W fun e w' => e = .returned (.tuple #[.slice none 0 0, .slice none 0 0, .agg #[.int .i64 9, .int .i64 41]]) ∧ Below W.heap.size W w' :=
  Table_bad W (s + 7) (s + 6) 0 8 0 (exL nmV) (hx.nodes (by decide)) hL (by decide) (by decide) check_exV (ex_decl _) (ex_twice _) (by decide) ex_unknown (fun j hj => absurd hj (by omega))
/-- the table and the fault, in the midst of shown -/
structure ShS (w0 W : World) (gb b0 g cp : Nat) : Prop where
  tys : TysO W b0 (.slice (some ⟨g, 0, none⟩) 3 cp) exT
  flt : W.heap[gb]? = some (.cells #[.int .i64 9, .int .i64 41] 41 (0, 0))
  bel : Below w0.heap.size w0 W
theorem ShS.ext {w0 W W' : World} {gb b0 g cp : Nat} (h : ShS w0 W gb b0 g cp) (hb : Below W.heap.size W W') : ShS w0 W' gb b0 g cp :=
  ⟨h.tys.ext hb, by rw [hb.block gb (Array.getElem?_eq_some_iff.1 h.flt).1]; exact h.flt, h.bel.trans (hb.mono h.bel.size)⟩
theorem ShS.same {w0 W : World} {gb b0 g cp : Nat} (h : ShS w0 W gb b0 g cp) (a b : Nat) (ha : a < 3) (hb : b < 3) : Calls Tryd.prog 15 #[.slice (some ⟨g, 0, none⟩) 3 cp, .int .i64 a, .int .i64 b] W fun e w' => e = .returned (.bool true) ∧ Bx (ShS w0 w' gb b0 g cp) := by
  obtain ⟨g', cp', e, ht⟩ := h.tys.types (by decide) ex_tywf ex_tylen
  simp only [Value.slice.injEq, Option.some.injEq, Addr.mk.injEq, and_true] at e
  obtain ⟨rfl, _, rfl⟩ := e
  refine Calls.mono (Same_yes W _ g 0 cp exT a b ht ex_valid ha hb (by rw [ex_load]; omega)) ?_
  rintro e w' ⟨r, rfl, h1, h2⟩
  have : r = true := h1.2 (ex_bis ha hb)
  subst this
  exact ⟨rfl, ⟨h.ext h2⟩⟩
theorem ShS.valid {w0 W : World} {gb b0 g cp : Nat} (h : ShS w0 W gb b0 g cp) : Calls Tryd.prog 12 #[.slice (some ⟨g, 0, none⟩) 3 cp] W fun e w' => e = .returned (.bool true) ∧ Bx (ShS w0 w' gb b0 g cp) := by
  obtain ⟨g', cp', e, ht⟩ := h.tys.types (by decide) ex_tywf ex_tylen
  simp only [Value.slice.injEq, Option.some.injEq, Addr.mk.injEq, and_true] at e
  obtain ⟨rfl, _, rfl⟩ := e
  refine Calls.mono (Valid_some W _ g 0 cp exT ht (by decide)) ?_
  rintro e w' ⟨rfl, h2⟩
  rw [ex_valid]
  exact ⟨rfl, ⟨h.ext h2⟩⟩
def badT : List Ty := [⟨3, [], false⟩]
theorem bad_valid (W : World) : Calls Tryd.prog 12 #[.slice (some ⟨W.heap.size, 0, none⟩) 1 1] (W.alloc (.cells #[.int .i64 3, .slice none 0 0, .bool false] 32)) fun e w' => e = .returned (.bool false) ∧ Below (W.alloc (.cells #[.int .i64 3, .slice none 0 0, .bool false] 32)).heap.size (W.alloc (.cells #[.int .i64 3, .slice none 0 0, .bool false] 32)) w' := by
  have hc : ∀ i, (W.alloc (.cells #[.int .i64 3, .slice none 0 0, .bool false] 32)).cell? ⟨W.heap.size, i, none⟩ = (#[.int .i64 3, .slice none 0 0, .bool false] : Array Value)[i]? := fun i => cell_of_row _ _ i _ _ (0, 0) (heap_alloc_new W _)
  have ht : Types (W.alloc (.cells #[.int .i64 3, .slice none 0 0, .bool false] 32)) (W.heap.size + 1) W.heap.size 0 1 badT := by
    refine ⟨fun j hj => ?_, fun j hj => ?_, by omega, by simp, by simp [badT, maxLen], by simp [badT]⟩
    · match j, hj with
      | 0, _ => exact ⟨none, 0, hc 0, hc 1, hc 2, ints0 _ _⟩
    · match j, hj with
      | 0, _ => exact ⟨by unfold I64; decide, by intro k hk; simp [badT, tyN] at hk⟩
  exact Valid_some _ _ W.heap.size 0 1 badT ht (by decide)

set_option maxRecDepth 100000 in
set_option maxHeartbeats 4000000 in
theorem shown_of (hfo : FoC) (w : World) (hL : Laid w) : Calls Tryd.prog 10 #[] w fun e w' => e = .returned (.bool true) ∧ Below w.heap.size w w' := by
  have HLB : Bx (∀ W, Below w.heap.size w W → Laid W) := ⟨fun W hb => hL.below hb⟩
  have HT1 : Bx (∀ W s, ExAt W s nmT → Laid W → _) := ⟨fun W s => Table_exT hfo W s⟩
  have FIRST : Bx True := ⟨trivial⟩
  have hSz : w.heap.size = w.heap.size := rfl
  clear hL hSz
  go_enter Tryd.func10, Tryd.ntmps10
  go_wp2_with (first
    | (go_at_call 18; have := FIRST; refine Calls.mono (HT1.out _ w.heap.size (ex_start w).1 (HLB.out _ (ex_start w).2)) ?_; clear this FIRST; rintro e w1 ⟨g, cp, ob, b0, rfl, ⟨hty, hir, hb0, hb1⟩⟩; have EX1 : Bx _ := ⟨(ex_start w).1.below hb1 (ExAt.lt (ex_start w).1)⟩; have hlt1 := (ExAt.lt (ex_start w).1); have BW1 : Bx (Below w.heap.size w w1) := ⟨(ex_start w).2.trans (hb1.mono (ex_start w).2.size)⟩; have TY1 : Bx _ := ⟨hty⟩; have r0 := hir.cell 0 (by decide); have r2 := hir.cell 2 (by decide); have r3 := hir.cell 3 (by decide); have r4 := hir.lt; simp only [List.getD_cons_zero, List.getD_cons_succ] at r0 r2 r3; have x1 : w1.cell? ⟨w.heap.size + 1 + 1 + 1 + 1 + 1 + 1, 3, none⟩ = some (.string ⟨#[84]⟩) := EX1.out.cell 3; have x2 : w1.frozen? ⟨w.heap.size + 1 + 1 + 1 + 1 + 1 + 1, 3, none⟩ = false := (by simp [World.frozen?, show w1.heap[w.heap.size + 1 + 1 + 1 + 1 + 1 + 1]? = _ from EX1.out.b6]); have x3 : w.heap.size + 1 + 1 + 1 + 1 + 1 + 1 < w1.heap.size := EX1.out.lt; have hb0' : w.heap.size + 6 < b0 := Nat.lt_of_lt_of_le hlt1 hb0; clear hty hir hb1 hb0 hlt1)
    | (go_at_call 18; refine Calls.mono (Table_exV _ w.heap.size ((EX1.out.turn nmV).below (below1 _ _) (by simp; omega)) (HLB.out _ ((Below.setCell (p := ⟨w.heap.size + 6, 3, none⟩) BW1.out (by show w.heap.size ≤ w.heap.size + 6; omega) _).trans ((below1 _ _).mono (by simp; omega))))) ?_; rintro e w2 ⟨rfl, hb2⟩; have hs2 := hb2.size; simp at hs2; have SH : Bx (ShS w (w2.alloc (.cells #[.int .i64 9, .int .i64 41] 41)) w2.heap.size b0 g cp) := ⟨⟨(((TY1.out.only (Only.set (w.heap.size + 6) w1 3 (.string nmV)) hb0').ext (below1 _ _)).ext hb2).ext (below1 _ _), heap_alloc_new w2 _, (((Below.setCell (p := ⟨w.heap.size + 6, 3, none⟩) BW1.out (by show w.heap.size ≤ w.heap.size + 6; omega) (.string nmV)).trans ((below1 _ _).mono (by simp; omega))).trans (hb2.mono (by simp; omega))).trans ((below1 _ _).mono (by omega))⟩⟩; have S1 : Bx True := ⟨trivial⟩; have V1 : Bx True := ⟨trivial⟩; clear hb2 r0 r2 r3 r4 x1 x2 x3 EX1)
    | (go_at_call 15; have := S1; refine Calls.mono (SH.out.same 0 1 (by decide) (by decide)) ?_; clear this S1; rintro e w3 ⟨rfl, SH2⟩)
    | (go_at_call 15; refine Calls.mono (SH2.out.same 1 2 (by decide) (by decide)) ?_; rintro e w4 ⟨rfl, SH3⟩)
    | (go_at_call 12; have := V1; refine Calls.mono SH3.out.valid ?_; clear this V1; rintro e w5 ⟨rfl, SH4⟩)
    | (go_at_call 12; refine Calls.mono (bad_valid _) ?_; rintro e w6 ⟨rfl, hb6⟩; have SH5 : Bx _ := ⟨(SH4.out.ext (below1 _ _)).ext hb6⟩; have f0 : w6.cell? ⟨w2.heap.size, 0, none⟩ = some (.int .i64 9) := (cell_of_row _ _ 0 _ _ _ SH5.out.flt).trans rfl; have f1 : w6.cell? ⟨w2.heap.size, 1, none⟩ = some (.int .i64 41) := (cell_of_row _ _ 1 _ _ _ SH5.out.flt).trans rfl; clear hb6))
  go_ret
  exact ⟨rfl, SH5.out.bel⟩
end Go.Proofs.YtllgaholkminnaaDoor
