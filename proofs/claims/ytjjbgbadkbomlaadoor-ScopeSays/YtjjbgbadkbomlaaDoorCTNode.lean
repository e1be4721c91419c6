import Derived.Test.YtjjbgbadkbomlaaDoorCTKfg
import Derived.Test.YtjjbgbadkbomlaaDoorCTOrd
import Derived.Test.YtjjbgbadkbomlaaDoorCTChkP
namespace Go.Proofs.YtjjbgbadkbomlaaDoor
open Go.RowKit
set_option linter.unusedVariables false
set_option linter.unusedSimpArgs false

/-- in the midst of checkNode: the node's copy stands -/
structure CkS (w : World) (k p : Int) (ka : Option Addr) (n kc : Nat) (nm : ByteArray) (num : Int) (W : World) : Prop where
  bel : Below w.heap.size w W
  five : Five W w.heap.size 0 k p ka n kc nm num
  size : w.heap.size < W.heap.size
theorem CkS.step {w : World} {k p : Int} {ka : Option Addr} {n kc : Nat} {nm : ByteArray} {num : Int} {W W' : World} (h : CkS w k p ka n kc nm num W) (hb : Below W.heap.size W W') : CkS w k p ka n kc nm num W' :=
  ⟨h.bel.trans (hb.mono (Nat.le_of_lt h.size)), h.five.below hb h.size, Nat.lt_of_lt_of_le h.size hb.size⟩
theorem cks0 (w : World) (k p : Int) (ka : Option Addr) (n kc : Nat) (nm : ByteArray) (num : Int) : CkS w k p ka n kc nm num (w.alloc (.cells #[.int .i64 k, .int .i64 p, .slice ka n kc, .string nm, .int .i64 num] 36)) :=
  ⟨below1 w _, five_new w k p ka n kc nm num, by simp⟩

/-- all that checkNode leans on, at a world -/
structure CkW (W : World) (B nb no nc fb N fc : Nat) (l : List Nd) (fs : List Nat) : Prop where
  nodes : Nodes W B nb no nc l
  led : Led l fs.length
  firsts : FirstsAt W fb fs
  laid : Laid W
  fbl : fb < W.heap.size
theorem CkW.below {W W' : World} {B nb no nc fb N fc : Nat} {l : List Nd} {fs : List Nat} (h : CkW W B nb no nc fb N fc l fs) (hb : Below W.heap.size W W') : CkW W' B nb no nc fb N fc l fs :=
  ⟨h.nodes.below (hb.mono h.nodes.hi), h.led, fun j hj => by rw [hb.cell (p := ⟨fb, j, none⟩) h.fbl]; exact h.firsts j hj, h.laid.below hb, Nat.lt_of_lt_of_le h.fbl hb.size⟩

theorem kfit_at (W : World) (B nb no nc fb N fc : Nat) (l : List Nd) (fs : List Nat) (h : CkW W B nb no nc fb N fc l fs) (hi : fs.length < l.length) (hle : ∀ j, j < fs.length → fs.getD j 0 ≤ j) (ka : Option Addr) (kc : Nat) (kd p num : Int) (kids : List Int) (nm : ByteArray)
    (hk : IntsV W B (.slice ka kids.length kc) kids) (hkind : kindI kd = true) (hnum : numFitsI kd num kids.length = true) (ho : orderI fs fs.length kids = true) :
    Calls Tryd.prog 38 #[.slice (some ⟨nb, no, none⟩) l.length nc, .agg #[.int .i64 kd, .int .i64 p, .slice ka kids.length kc, .string nm, .int .i64 num]] W fun e w' => e = .returned (.bool (kidsFitI (kdN l) kd num (kids.map Int.toNat))) ∧ Below W.heap.size W w' := by
  obtain ⟨e1, e2⟩ := kids_nat hle ho
  have hlen : (kids.map Int.toNat).length = kids.length := by simp
  have hlo := h.nodes.lo
  have hhi := h.nodes.hi
  have hkl : kids.length ≤ maxLen := by
    obtain ⟨_, _, _, _, h2, _⟩ := hk.ex
    exact h2
  have hk' : IntsV W W.heap.size (.slice ka (kids.map Int.toNat).length kc) ((kids.map Int.toNat).map fun k : Nat => (k : Int)) := by
    rw [e1, hlen]
    obtain ⟨a, c, q1, q2, q3, q4⟩ := hk.ex
    refine ⟨a, c, q1, q2, q3, fun h0 => ?_⟩
    obtain ⟨b, o, r1, r2, r3⟩ := q4 h0
    exact ⟨b, o, r1, by omega, r3⟩
  have := kidsFit_any W ka kc nb no nc l kd p num (kids.map Int.toNat) nm hkind (fun hk46 => ?_) (kst0 W ka kc nb no nc l kd p num (kids.map Int.toNat) nm (by omega) h.nodes.max hk' h.nodes.kinds (fun k hk => by have := e2 k hk; omega))
  · unfold KFit at this
    rw [hlen] at this
    exact this
  · subst hk46
    unfold numFitsI at hnum
    simp at hnum
    exact ⟨num.toNat, by omega, by omega⟩

set_option maxRecDepth 100000 in
set_option maxHeartbeats 2000000 in
theorem node_kind (w : World) (B nb no nc fb N fc : Nat) (l : List Nd) (fs : List Nat) (ka : Option Addr) (kc : Nat) (kd p num : Int) (kids : List Int) (nm : ByteArray) (R : Nat) (hw : CkW w B nb no nc fb N fc l fs) (hi : fs.length < l.length) (hN : fs.length ≤ N) (hNm : N ≤ maxLen) (hle : ∀ j, j < fs.length → fs.getD j 0 ≤ j)
    (hk : IntsV w B (.slice ka kids.length kc) kids) (hnm : nm.size ≤ maxLen) (hf : Five w nb (no + fs.length * 5) kd p ka kids.length kc nm num)
    (e1 : kindI kd = false) :
    Calls Tryd.prog 23 #[.slice (some ⟨nb, no, none⟩) l.length nc, .slice (some ⟨fb, 0, none⟩) N fc, .int .i64 fs.length] w fun e w' => e = .returned (.int .i64 20) ∧ Below w.heap.size w w' := by
  have hmax := hw.nodes.max
  unfold maxLen at hmax
  have hB := hw.nodes.hi
  have HW : Bx _ := ⟨hw⟩
  have HI : Bx _ := ⟨hk⟩
  have hs0 := cks0 w kd p ka kids.length kc nm num
  obtain ⟨y0, y1, y2, y3, y4⟩ := hs0.five
  obtain ⟨x0, x1, x2, x3, x4⟩ := hf
  skip
  clear hw hk hle
  go_enter Tryd.func23, Tryd.ntmps23
  go_wp2_with (first
    | (go_at_call 34; refine (isKind_any _ _).mono ?_; rintro e w' ⟨rfl, rfl⟩)
    | (go_at_call 35; refine Calls.mono (H1.out _) ?_; rintro e w1 ⟨rfl, hb1⟩; have hs1 := hs0.step hb1; obtain ⟨z0, z1, z2, z3, z4⟩ := hs1.five; clear hs0 y0 y1 y2 y3 y4)
    | (go_at_call 36; refine Calls.mono (H2.out _ hs1.bel) ?_; rintro e w2 ⟨rfl, hb2⟩; have hs2 := hs1.step hb2; obtain ⟨u0, u1, u2, u3, u4⟩ := hs2.five; clear hs1 z0 z1 z2 z3 z4)
    | (go_at_call 37; refine Calls.mono (H3.out _ hs2.bel) ?_; rintro e w' ⟨rfl, rfl⟩)
    | (go_at_call 38; refine Calls.mono (H4.out _ hs2.bel) ?_; rintro e w3 ⟨rfl, hb3⟩; have hs3 := hs2.step hb3; obtain ⟨t0, t1, t2, t3, t4⟩ := hs3.five; clear hs2 u0 u1 u2 u3 u4)
    | (go_at_call 39; refine Calls.mono (H5.out _ hs3.bel) ?_; rintro e w4 ⟨rfl, hb4⟩; have hs4 := hs3.step hb4; clear hs3 t0 t1 t2 t3 t4))
  go_ret
  exact ⟨rfl, hs0.bel⟩

set_option maxRecDepth 100000 in
set_option maxHeartbeats 2000000 in
theorem node_pos (w : World) (B nb no nc fb N fc : Nat) (l : List Nd) (fs : List Nat) (ka : Option Addr) (kc : Nat) (kd p num : Int) (kids : List Int) (nm : ByteArray) (R : Nat) (hw : CkW w B nb no nc fb N fc l fs) (hi : fs.length < l.length) (hN : fs.length ≤ N) (hNm : N ≤ maxLen) (hle : ∀ j, j < fs.length → fs.getD j 0 ≤ j)
    (hk : IntsV w B (.slice ka kids.length kc) kids) (hnm : nm.size ≤ maxLen) (hf : Five w nb (no + fs.length * 5) kd p ka kids.length kc nm num)
    (e1 : kindI kd = true) (e2 : p < 0) :
    Calls Tryd.prog 23 #[.slice (some ⟨nb, no, none⟩) l.length nc, .slice (some ⟨fb, 0, none⟩) N fc, .int .i64 fs.length] w fun e w' => e = .returned (.int .i64 20) ∧ Below w.heap.size w w' := by
  have hmax := hw.nodes.max
  unfold maxLen at hmax
  have hB := hw.nodes.hi
  have HW : Bx _ := ⟨hw⟩
  have HI : Bx _ := ⟨hk⟩
  have hs0 := cks0 w kd p ka kids.length kc nm num
  obtain ⟨y0, y1, y2, y3, y4⟩ := hs0.five
  obtain ⟨x0, x1, x2, x3, x4⟩ := hf
  skip
  clear hw hk hle
  go_enter Tryd.func23, Tryd.ntmps23
  go_wp2_with (first
    | (go_at_call 34; refine (isKind_any _ _).mono ?_; rintro e w' ⟨rfl, rfl⟩)
    | (go_at_call 35; refine Calls.mono (H1.out _) ?_; rintro e w1 ⟨rfl, hb1⟩; have hs1 := hs0.step hb1; obtain ⟨z0, z1, z2, z3, z4⟩ := hs1.five; clear hs0 y0 y1 y2 y3 y4)
    | (go_at_call 36; refine Calls.mono (H2.out _ hs1.bel) ?_; rintro e w2 ⟨rfl, hb2⟩; have hs2 := hs1.step hb2; obtain ⟨u0, u1, u2, u3, u4⟩ := hs2.five; clear hs1 z0 z1 z2 z3 z4)
    | (go_at_call 37; refine Calls.mono (H3.out _ hs2.bel) ?_; rintro e w' ⟨rfl, rfl⟩)
    | (go_at_call 38; refine Calls.mono (H4.out _ hs2.bel) ?_; rintro e w3 ⟨rfl, hb3⟩; have hs3 := hs2.step hb3; obtain ⟨t0, t1, t2, t3, t4⟩ := hs3.five; clear hs2 u0 u1 u2 u3 u4)
    | (go_at_call 39; refine Calls.mono (H5.out _ hs3.bel) ?_; rintro e w4 ⟨rfl, hb4⟩; have hs4 := hs3.step hb4; clear hs3 t0 t1 t2 t3 t4))
  go_ret
  exact ⟨rfl, hs0.bel⟩

set_option maxRecDepth 100000 in
set_option maxHeartbeats 2000000 in
theorem node_num (w : World) (B nb no nc fb N fc : Nat) (l : List Nd) (fs : List Nat) (ka : Option Addr) (kc : Nat) (kd p num : Int) (kids : List Int) (nm : ByteArray) (R : Nat) (hw : CkW w B nb no nc fb N fc l fs) (hi : fs.length < l.length) (hN : fs.length ≤ N) (hNm : N ≤ maxLen) (hle : ∀ j, j < fs.length → fs.getD j 0 ≤ j)
    (hk : IntsV w B (.slice ka kids.length kc) kids) (hnm : nm.size ≤ maxLen) (hf : Five w nb (no + fs.length * 5) kd p ka kids.length kc nm num)
    (e1 : kindI kd = true) (e2 : ¬ p < 0) (e3 : numFitsI kd num kids.length = false) :
    Calls Tryd.prog 23 #[.slice (some ⟨nb, no, none⟩) l.length nc, .slice (some ⟨fb, 0, none⟩) N fc, .int .i64 fs.length] w fun e w' => e = .returned (.int .i64 23) ∧ Below w.heap.size w w' := by
  have hmax := hw.nodes.max
  unfold maxLen at hmax
  have hB := hw.nodes.hi
  have HW : Bx _ := ⟨hw⟩
  have HI : Bx _ := ⟨hk⟩
  have hs0 := cks0 w kd p ka kids.length kc nm num
  obtain ⟨y0, y1, y2, y3, y4⟩ := hs0.five
  obtain ⟨x0, x1, x2, x3, x4⟩ := hf
  have H1 : Bx (∀ W, Calls Tryd.prog 35 #[.agg #[.int .i64 kd, .int .i64 p, .slice ka kids.length kc, .string nm, .int .i64 num]] W fun e w' => e = .returned (.bool (numFitsI kd num kids.length)) ∧ Below W.heap.size W w') := ⟨fun W => numFits_any ka kc ⟨kd, p, kids, nm, num⟩ W⟩
  clear hw hk hle
  go_enter Tryd.func23, Tryd.ntmps23
  go_wp2_with (first
    | (go_at_call 34; refine (isKind_any _ _).mono ?_; rintro e w' ⟨rfl, rfl⟩)
    | (go_at_call 35; refine Calls.mono (H1.out _) ?_; rintro e w1 ⟨rfl, hb1⟩; have hs1 := hs0.step hb1; obtain ⟨z0, z1, z2, z3, z4⟩ := hs1.five; clear hs0 y0 y1 y2 y3 y4)
    | (go_at_call 36; refine Calls.mono (H2.out _ hs1.bel) ?_; rintro e w2 ⟨rfl, hb2⟩; have hs2 := hs1.step hb2; obtain ⟨u0, u1, u2, u3, u4⟩ := hs2.five; clear hs1 z0 z1 z2 z3 z4)
    | (go_at_call 37; refine Calls.mono (H3.out _ hs2.bel) ?_; rintro e w' ⟨rfl, rfl⟩)
    | (go_at_call 38; refine Calls.mono (H4.out _ hs2.bel) ?_; rintro e w3 ⟨rfl, hb3⟩; have hs3 := hs2.step hb3; obtain ⟨t0, t1, t2, t3, t4⟩ := hs3.five; clear hs2 u0 u1 u2 u3 u4)
    | (go_at_call 39; refine Calls.mono (H5.out _ hs3.bel) ?_; rintro e w4 ⟨rfl, hb4⟩; have hs4 := hs3.step hb4; clear hs3 t0 t1 t2 t3 t4))
  go_ret
  exact ⟨rfl, hs1.bel⟩

set_option maxRecDepth 100000 in
set_option maxHeartbeats 2000000 in
theorem node_name (w : World) (B nb no nc fb N fc : Nat) (l : List Nd) (fs : List Nat) (ka : Option Addr) (kc : Nat) (kd p num : Int) (kids : List Int) (nm : ByteArray) (R : Nat) (hw : CkW w B nb no nc fb N fc l fs) (hi : fs.length < l.length) (hN : fs.length ≤ N) (hNm : N ≤ maxLen) (hle : ∀ j, j < fs.length → fs.getD j 0 ≤ j)
    (hk : IntsV w B (.slice ka kids.length kc) kids) (hnm : nm.size ≤ maxLen) (hf : Five w nb (no + fs.length * 5) kd p ka kids.length kc nm num)
    (e1 : kindI kd = true) (e2 : ¬ p < 0) (e3 : numFitsI kd num kids.length = true) (e4 : nameFitsI kd nm = false) :
    Calls Tryd.prog 23 #[.slice (some ⟨nb, no, none⟩) l.length nc, .slice (some ⟨fb, 0, none⟩) N fc, .int .i64 fs.length] w fun e w' => e = .returned (.int .i64 22) ∧ Below w.heap.size w w' := by
  have hmax := hw.nodes.max
  unfold maxLen at hmax
  have hB := hw.nodes.hi
  have HW : Bx _ := ⟨hw⟩
  have HI : Bx _ := ⟨hk⟩
  have hs0 := cks0 w kd p ka kids.length kc nm num
  obtain ⟨y0, y1, y2, y3, y4⟩ := hs0.five
  obtain ⟨x0, x1, x2, x3, x4⟩ := hf
  have H1 : Bx (∀ W, Calls Tryd.prog 35 #[.agg #[.int .i64 kd, .int .i64 p, .slice ka kids.length kc, .string nm, .int .i64 num]] W fun e w' => e = .returned (.bool (numFitsI kd num kids.length)) ∧ Below W.heap.size W w') := ⟨fun W => numFits_any ka kc ⟨kd, p, kids, nm, num⟩ W⟩
  have H2 : Bx (∀ W, Below w.heap.size w W → Calls Tryd.prog 36 #[.agg #[.int .i64 kd, .int .i64 p, .slice ka kids.length kc, .string nm, .int .i64 num]] W fun e w' => e = .returned (.bool (nameFitsI kd nm)) ∧ Below W.heap.size W w') := ⟨fun W hb => nameFits_any ka kc ⟨kd, p, kids, nm, num⟩ W hnm (HW.out.laid.below hb)⟩
  clear hw hk hle
  go_enter Tryd.func23, Tryd.ntmps23
  go_wp2_with (first
    | (go_at_call 34; refine (isKind_any _ _).mono ?_; rintro e w' ⟨rfl, rfl⟩)
    | (go_at_call 35; refine Calls.mono (H1.out _) ?_; rintro e w1 ⟨rfl, hb1⟩; have hs1 := hs0.step hb1; obtain ⟨z0, z1, z2, z3, z4⟩ := hs1.five; clear hs0 y0 y1 y2 y3 y4)
    | (go_at_call 36; refine Calls.mono (H2.out _ hs1.bel) ?_; rintro e w2 ⟨rfl, hb2⟩; have hs2 := hs1.step hb2; obtain ⟨u0, u1, u2, u3, u4⟩ := hs2.five; clear hs1 z0 z1 z2 z3 z4)
    | (go_at_call 37; refine Calls.mono (H3.out _ hs2.bel) ?_; rintro e w' ⟨rfl, rfl⟩)
    | (go_at_call 38; refine Calls.mono (H4.out _ hs2.bel) ?_; rintro e w3 ⟨rfl, hb3⟩; have hs3 := hs2.step hb3; obtain ⟨t0, t1, t2, t3, t4⟩ := hs3.five; clear hs2 u0 u1 u2 u3 u4)
    | (go_at_call 39; refine Calls.mono (H5.out _ hs3.bel) ?_; rintro e w4 ⟨rfl, hb4⟩; have hs4 := hs3.step hb4; clear hs3 t0 t1 t2 t3 t4))
  go_ret
  exact ⟨rfl, hs2.bel⟩

set_option maxRecDepth 100000 in
set_option maxHeartbeats 2000000 in
theorem node_order (w : World) (B nb no nc fb N fc : Nat) (l : List Nd) (fs : List Nat) (ka : Option Addr) (kc : Nat) (kd p num : Int) (kids : List Int) (nm : ByteArray) (R : Nat) (hw : CkW w B nb no nc fb N fc l fs) (hi : fs.length < l.length) (hN : fs.length ≤ N) (hNm : N ≤ maxLen) (hle : ∀ j, j < fs.length → fs.getD j 0 ≤ j)
    (hk : IntsV w B (.slice ka kids.length kc) kids) (hnm : nm.size ≤ maxLen) (hf : Five w nb (no + fs.length * 5) kd p ka kids.length kc nm num)
    (e1 : kindI kd = true) (e2 : ¬ p < 0) (e3 : numFitsI kd num kids.length = true) (e4 : nameFitsI kd nm = true) (e5 : orderI fs fs.length kids = false) :
    Calls Tryd.prog 23 #[.slice (some ⟨nb, no, none⟩) l.length nc, .slice (some ⟨fb, 0, none⟩) N fc, .int .i64 fs.length] w fun e w' => e = .returned (.int .i64 21) ∧ Below w.heap.size w w' := by
  have hmax := hw.nodes.max
  unfold maxLen at hmax
  have hB := hw.nodes.hi
  have HW : Bx _ := ⟨hw⟩
  have HI : Bx _ := ⟨hk⟩
  have hs0 := cks0 w kd p ka kids.length kc nm num
  obtain ⟨y0, y1, y2, y3, y4⟩ := hs0.five
  obtain ⟨x0, x1, x2, x3, x4⟩ := hf
  have H1 : Bx (∀ W, Calls Tryd.prog 35 #[.agg #[.int .i64 kd, .int .i64 p, .slice ka kids.length kc, .string nm, .int .i64 num]] W fun e w' => e = .returned (.bool (numFitsI kd num kids.length)) ∧ Below W.heap.size W w') := ⟨fun W => numFits_any ka kc ⟨kd, p, kids, nm, num⟩ W⟩
  have H2 : Bx (∀ W, Below w.heap.size w W → Calls Tryd.prog 36 #[.agg #[.int .i64 kd, .int .i64 p, .slice ka kids.length kc, .string nm, .int .i64 num]] W fun e w' => e = .returned (.bool (nameFitsI kd nm)) ∧ Below W.heap.size W w') := ⟨fun W hb => nameFits_any ka kc ⟨kd, p, kids, nm, num⟩ W hnm (HW.out.laid.below hb)⟩
  have H3 : Bx (∀ W, Below w.heap.size w W → Calls Tryd.prog 37 #[.slice ka kids.length kc, .slice (some ⟨fb, 0, none⟩) N fc, .int .i64 fs.length] W fun e w' => e = .returned (.bool (orderI fs fs.length kids)) ∧ W = w') := ⟨fun W hb => inOrder_any kids fs ka kc fb N fc B W (hk.below (hb.mono hB)) (HW.out.below hb).firsts hle hN hNm⟩
  clear hw hk hle
  go_enter Tryd.func23, Tryd.ntmps23
  go_wp2_with (first
    | (go_at_call 34; refine (isKind_any _ _).mono ?_; rintro e w' ⟨rfl, rfl⟩)
    | (go_at_call 35; refine Calls.mono (H1.out _) ?_; rintro e w1 ⟨rfl, hb1⟩; have hs1 := hs0.step hb1; obtain ⟨z0, z1, z2, z3, z4⟩ := hs1.five; clear hs0 y0 y1 y2 y3 y4)
    | (go_at_call 36; refine Calls.mono (H2.out _ hs1.bel) ?_; rintro e w2 ⟨rfl, hb2⟩; have hs2 := hs1.step hb2; obtain ⟨u0, u1, u2, u3, u4⟩ := hs2.five; clear hs1 z0 z1 z2 z3 z4)
    | (go_at_call 37; refine Calls.mono (H3.out _ hs2.bel) ?_; rintro e w' ⟨rfl, rfl⟩)
    | (go_at_call 38; refine Calls.mono (H4.out _ hs2.bel) ?_; rintro e w3 ⟨rfl, hb3⟩; have hs3 := hs2.step hb3; obtain ⟨t0, t1, t2, t3, t4⟩ := hs3.five; clear hs2 u0 u1 u2 u3 u4)
    | (go_at_call 39; refine Calls.mono (H5.out _ hs3.bel) ?_; rintro e w4 ⟨rfl, hb4⟩; have hs4 := hs3.step hb4; clear hs3 t0 t1 t2 t3 t4))
  go_ret
  exact ⟨rfl, hs2.bel⟩

set_option maxRecDepth 100000 in
set_option maxHeartbeats 2000000 in
theorem node_kids (w : World) (B nb no nc fb N fc : Nat) (l : List Nd) (fs : List Nat) (ka : Option Addr) (kc : Nat) (kd p num : Int) (kids : List Int) (nm : ByteArray) (R : Nat) (hw : CkW w B nb no nc fb N fc l fs) (hi : fs.length < l.length) (hN : fs.length ≤ N) (hNm : N ≤ maxLen) (hle : ∀ j, j < fs.length → fs.getD j 0 ≤ j)
    (hk : IntsV w B (.slice ka kids.length kc) kids) (hnm : nm.size ≤ maxLen) (hf : Five w nb (no + fs.length * 5) kd p ka kids.length kc nm num)
    (e1 : kindI kd = true) (e2 : ¬ p < 0) (e3 : numFitsI kd num kids.length = true) (e4 : nameFitsI kd nm = true) (e5 : orderI fs fs.length kids = true) (e6 : kidsFitI (kdN l) kd num (kids.map Int.toNat) = false) :
    Calls Tryd.prog 23 #[.slice (some ⟨nb, no, none⟩) l.length nc, .slice (some ⟨fb, 0, none⟩) N fc, .int .i64 fs.length] w fun e w' => e = .returned (.int .i64 21) ∧ Below w.heap.size w w' := by
  have hmax := hw.nodes.max
  unfold maxLen at hmax
  have hB := hw.nodes.hi
  have HW : Bx _ := ⟨hw⟩
  have HI : Bx _ := ⟨hk⟩
  have hs0 := cks0 w kd p ka kids.length kc nm num
  obtain ⟨y0, y1, y2, y3, y4⟩ := hs0.five
  obtain ⟨x0, x1, x2, x3, x4⟩ := hf
  have H1 : Bx (∀ W, Calls Tryd.prog 35 #[.agg #[.int .i64 kd, .int .i64 p, .slice ka kids.length kc, .string nm, .int .i64 num]] W fun e w' => e = .returned (.bool (numFitsI kd num kids.length)) ∧ Below W.heap.size W w') := ⟨fun W => numFits_any ka kc ⟨kd, p, kids, nm, num⟩ W⟩
  have H2 : Bx (∀ W, Below w.heap.size w W → Calls Tryd.prog 36 #[.agg #[.int .i64 kd, .int .i64 p, .slice ka kids.length kc, .string nm, .int .i64 num]] W fun e w' => e = .returned (.bool (nameFitsI kd nm)) ∧ Below W.heap.size W w') := ⟨fun W hb => nameFits_any ka kc ⟨kd, p, kids, nm, num⟩ W hnm (HW.out.laid.below hb)⟩
  have H3 : Bx (∀ W, Below w.heap.size w W → Calls Tryd.prog 37 #[.slice ka kids.length kc, .slice (some ⟨fb, 0, none⟩) N fc, .int .i64 fs.length] W fun e w' => e = .returned (.bool (orderI fs fs.length kids)) ∧ W = w') := ⟨fun W hb => inOrder_any kids fs ka kc fb N fc B W (hk.below (hb.mono hB)) (HW.out.below hb).firsts hle hN hNm⟩
  have H4 : Bx (∀ W, Below w.heap.size w W → Calls Tryd.prog 38 #[.slice (some ⟨nb, no, none⟩) l.length nc, .agg #[.int .i64 kd, .int .i64 p, .slice ka kids.length kc, .string nm, .int .i64 num]] W fun e w' => e = .returned (.bool (kidsFitI (kdN l) kd num (kids.map Int.toNat))) ∧ Below W.heap.size W w') := ⟨fun W hb => kfit_at W B nb no nc fb N fc l fs (HW.out.below hb) hi hle ka kc kd p num kids nm (hk.below (hb.mono hB)) e1 e3 e5⟩
  clear hw hk hle
  go_enter Tryd.func23, Tryd.ntmps23
  go_wp2_with (first
    | (go_at_call 34; refine (isKind_any _ _).mono ?_; rintro e w' ⟨rfl, rfl⟩)
    | (go_at_call 35; refine Calls.mono (H1.out _) ?_; rintro e w1 ⟨rfl, hb1⟩; have hs1 := hs0.step hb1; obtain ⟨z0, z1, z2, z3, z4⟩ := hs1.five; clear hs0 y0 y1 y2 y3 y4)
    | (go_at_call 36; refine Calls.mono (H2.out _ hs1.bel) ?_; rintro e w2 ⟨rfl, hb2⟩; have hs2 := hs1.step hb2; obtain ⟨u0, u1, u2, u3, u4⟩ := hs2.five; clear hs1 z0 z1 z2 z3 z4)
    | (go_at_call 37; refine Calls.mono (H3.out _ hs2.bel) ?_; rintro e w' ⟨rfl, rfl⟩)
    | (go_at_call 38; refine Calls.mono (H4.out _ hs2.bel) ?_; rintro e w3 ⟨rfl, hb3⟩; have hs3 := hs2.step hb3; obtain ⟨t0, t1, t2, t3, t4⟩ := hs3.five; clear hs2 u0 u1 u2 u3 u4)
    | (go_at_call 39; refine Calls.mono (H5.out _ hs3.bel) ?_; rintro e w4 ⟨rfl, hb4⟩; have hs4 := hs3.step hb4; clear hs3 t0 t1 t2 t3 t4))
  go_ret
  exact ⟨rfl, hs3.bel⟩

set_option maxRecDepth 100000 in
set_option maxHeartbeats 2000000 in
theorem node_level (w : World) (B nb no nc fb N fc : Nat) (l : List Nd) (fs : List Nat) (ka : Option Addr) (kc : Nat) (kd p num : Int) (kids : List Int) (nm : ByteArray) (R : Nat) (hw : CkW w B nb no nc fb N fc l fs) (hi : fs.length < l.length) (hN : fs.length ≤ N) (hNm : N ≤ maxLen) (hle : ∀ j, j < fs.length → fs.getD j 0 ≤ j)
    (hk : IntsV w B (.slice ka kids.length kc) kids) (hnm : nm.size ≤ maxLen) (hf : Five w nb (no + fs.length * 5) kd p ka kids.length kc nm num)
    (e1 : kindI kd = true) (e2 : ¬ p < 0) (e3 : numFitsI kd num kids.length = true) (e4 : nameFitsI kd nm = true) (e5 : orderI fs fs.length kids = true) (e6 : kidsFitI (kdN l) kd num (kids.map Int.toNat) = true) (h44 : kd = 44 → 0 < kids.length) (e7 : levelsFitI l ⟨kd, p, kids, nm, num⟩ = false) :
    Calls Tryd.prog 23 #[.slice (some ⟨nb, no, none⟩) l.length nc, .slice (some ⟨fb, 0, none⟩) N fc, .int .i64 fs.length] w fun e w' => e = .returned (.int .i64 24) ∧ Below w.heap.size w w' := by
  have hmax := hw.nodes.max
  unfold maxLen at hmax
  have hB := hw.nodes.hi
  have HW : Bx _ := ⟨hw⟩
  have HI : Bx _ := ⟨hk⟩
  have hs0 := cks0 w kd p ka kids.length kc nm num
  obtain ⟨y0, y1, y2, y3, y4⟩ := hs0.five
  obtain ⟨x0, x1, x2, x3, x4⟩ := hf
  have H1 : Bx (∀ W, Calls Tryd.prog 35 #[.agg #[.int .i64 kd, .int .i64 p, .slice ka kids.length kc, .string nm, .int .i64 num]] W fun e w' => e = .returned (.bool (numFitsI kd num kids.length)) ∧ Below W.heap.size W w') := ⟨fun W => numFits_any ka kc ⟨kd, p, kids, nm, num⟩ W⟩
  have H2 : Bx (∀ W, Below w.heap.size w W → Calls Tryd.prog 36 #[.agg #[.int .i64 kd, .int .i64 p, .slice ka kids.length kc, .string nm, .int .i64 num]] W fun e w' => e = .returned (.bool (nameFitsI kd nm)) ∧ Below W.heap.size W w') := ⟨fun W hb => nameFits_any ka kc ⟨kd, p, kids, nm, num⟩ W hnm (HW.out.laid.below hb)⟩
  have H3 : Bx (∀ W, Below w.heap.size w W → Calls Tryd.prog 37 #[.slice ka kids.length kc, .slice (some ⟨fb, 0, none⟩) N fc, .int .i64 fs.length] W fun e w' => e = .returned (.bool (orderI fs fs.length kids)) ∧ W = w') := ⟨fun W hb => inOrder_any kids fs ka kc fb N fc B W (hk.below (hb.mono hB)) (HW.out.below hb).firsts hle hN hNm⟩
  have H4 : Bx (∀ W, Below w.heap.size w W → Calls Tryd.prog 38 #[.slice (some ⟨nb, no, none⟩) l.length nc, .agg #[.int .i64 kd, .int .i64 p, .slice ka kids.length kc, .string nm, .int .i64 num]] W fun e w' => e = .returned (.bool (kidsFitI (kdN l) kd num (kids.map Int.toNat))) ∧ Below W.heap.size W w') := ⟨fun W hb => kfit_at W B nb no nc fb N fc l fs (HW.out.below hb) hi hle ka kc kd p num kids nm (hk.below (hb.mono hB)) e1 e3 e5⟩
  have H5 : Bx (∀ W, Below w.heap.size w W → Calls Tryd.prog 39 #[.slice (some ⟨nb, no, none⟩) l.length nc, .agg #[.int .i64 kd, .int .i64 p, .slice ka kids.length kc, .string nm, .int .i64 num]] W fun e w' => e = .returned (.bool (levelsFitI l ⟨kd, p, kids, nm, num⟩)) ∧ Below W.heap.size W w') := ⟨fun W hb => levelsFit_any W B nb no nc l fs.length ka kc ⟨kd, p, kids, nm, num⟩ (HW.out.below hb).nodes HW.out.led (Nat.le_of_lt hi) (hk.below (hb.mono hB)) (kids_at hle e5) h44⟩
  clear hw hk hle
  go_enter Tryd.func23, Tryd.ntmps23
  go_wp2_with (first
    | (go_at_call 34; refine (isKind_any _ _).mono ?_; rintro e w' ⟨rfl, rfl⟩)
    | (go_at_call 35; refine Calls.mono (H1.out _) ?_; rintro e w1 ⟨rfl, hb1⟩; have hs1 := hs0.step hb1; obtain ⟨z0, z1, z2, z3, z4⟩ := hs1.five; clear hs0 y0 y1 y2 y3 y4)
    | (go_at_call 36; refine Calls.mono (H2.out _ hs1.bel) ?_; rintro e w2 ⟨rfl, hb2⟩; have hs2 := hs1.step hb2; obtain ⟨u0, u1, u2, u3, u4⟩ := hs2.five; clear hs1 z0 z1 z2 z3 z4)
    | (go_at_call 37; refine Calls.mono (H3.out _ hs2.bel) ?_; rintro e w' ⟨rfl, rfl⟩)
    | (go_at_call 38; refine Calls.mono (H4.out _ hs2.bel) ?_; rintro e w3 ⟨rfl, hb3⟩; have hs3 := hs2.step hb3; obtain ⟨t0, t1, t2, t3, t4⟩ := hs3.five; clear hs2 u0 u1 u2 u3 u4)
    | (go_at_call 39; refine Calls.mono (H5.out _ hs3.bel) ?_; rintro e w4 ⟨rfl, hb4⟩; have hs4 := hs3.step hb4; clear hs3 t0 t1 t2 t3 t4))
  go_ret
  exact ⟨rfl, hs4.bel⟩

set_option maxRecDepth 100000 in
set_option maxHeartbeats 2000000 in
theorem node_ok (w : World) (B nb no nc fb N fc : Nat) (l : List Nd) (fs : List Nat) (ka : Option Addr) (kc : Nat) (kd p num : Int) (kids : List Int) (nm : ByteArray) (R : Nat) (hw : CkW w B nb no nc fb N fc l fs) (hi : fs.length < l.length) (hN : fs.length ≤ N) (hNm : N ≤ maxLen) (hle : ∀ j, j < fs.length → fs.getD j 0 ≤ j)
    (hk : IntsV w B (.slice ka kids.length kc) kids) (hnm : nm.size ≤ maxLen) (hf : Five w nb (no + fs.length * 5) kd p ka kids.length kc nm num)
    (e1 : kindI kd = true) (e2 : ¬ p < 0) (e3 : numFitsI kd num kids.length = true) (e4 : nameFitsI kd nm = true) (e5 : orderI fs fs.length kids = true) (e6 : kidsFitI (kdN l) kd num (kids.map Int.toNat) = true) (h44 : kd = 44 → 0 < kids.length) (e7 : levelsFitI l ⟨kd, p, kids, nm, num⟩ = true) :
    Calls Tryd.prog 23 #[.slice (some ⟨nb, no, none⟩) l.length nc, .slice (some ⟨fb, 0, none⟩) N fc, .int .i64 fs.length] w fun e w' => e = .returned (.int .i64 0) ∧ Below w.heap.size w w' := by
  have hmax := hw.nodes.max
  unfold maxLen at hmax
  have hB := hw.nodes.hi
  have HW : Bx _ := ⟨hw⟩
  have HI : Bx _ := ⟨hk⟩
  have hs0 := cks0 w kd p ka kids.length kc nm num
  obtain ⟨y0, y1, y2, y3, y4⟩ := hs0.five
  obtain ⟨x0, x1, x2, x3, x4⟩ := hf
  have H1 : Bx (∀ W, Calls Tryd.prog 35 #[.agg #[.int .i64 kd, .int .i64 p, .slice ka kids.length kc, .string nm, .int .i64 num]] W fun e w' => e = .returned (.bool (numFitsI kd num kids.length)) ∧ Below W.heap.size W w') := ⟨fun W => numFits_any ka kc ⟨kd, p, kids, nm, num⟩ W⟩
  have H2 : Bx (∀ W, Below w.heap.size w W → Calls Tryd.prog 36 #[.agg #[.int .i64 kd, .int .i64 p, .slice ka kids.length kc, .string nm, .int .i64 num]] W fun e w' => e = .returned (.bool (nameFitsI kd nm)) ∧ Below W.heap.size W w') := ⟨fun W hb => nameFits_any ka kc ⟨kd, p, kids, nm, num⟩ W hnm (HW.out.laid.below hb)⟩
  have H3 : Bx (∀ W, Below w.heap.size w W → Calls Tryd.prog 37 #[.slice ka kids.length kc, .slice (some ⟨fb, 0, none⟩) N fc, .int .i64 fs.length] W fun e w' => e = .returned (.bool (orderI fs fs.length kids)) ∧ W = w') := ⟨fun W hb => inOrder_any kids fs ka kc fb N fc B W (hk.below (hb.mono hB)) (HW.out.below hb).firsts hle hN hNm⟩
  have H4 : Bx (∀ W, Below w.heap.size w W → Calls Tryd.prog 38 #[.slice (some ⟨nb, no, none⟩) l.length nc, .agg #[.int .i64 kd, .int .i64 p, .slice ka kids.length kc, .string nm, .int .i64 num]] W fun e w' => e = .returned (.bool (kidsFitI (kdN l) kd num (kids.map Int.toNat))) ∧ Below W.heap.size W w') := ⟨fun W hb => kfit_at W B nb no nc fb N fc l fs (HW.out.below hb) hi hle ka kc kd p num kids nm (hk.below (hb.mono hB)) e1 e3 e5⟩
  have H5 : Bx (∀ W, Below w.heap.size w W → Calls Tryd.prog 39 #[.slice (some ⟨nb, no, none⟩) l.length nc, .agg #[.int .i64 kd, .int .i64 p, .slice ka kids.length kc, .string nm, .int .i64 num]] W fun e w' => e = .returned (.bool (levelsFitI l ⟨kd, p, kids, nm, num⟩)) ∧ Below W.heap.size W w') := ⟨fun W hb => levelsFit_any W B nb no nc l fs.length ka kc ⟨kd, p, kids, nm, num⟩ (HW.out.below hb).nodes HW.out.led (Nat.le_of_lt hi) (hk.below (hb.mono hB)) (kids_at hle e5) h44⟩
  clear hw hk hle
  go_enter Tryd.func23, Tryd.ntmps23
  go_wp2_with (first
    | (go_at_call 34; refine (isKind_any _ _).mono ?_; rintro e w' ⟨rfl, rfl⟩)
    | (go_at_call 35; refine Calls.mono (H1.out _) ?_; rintro e w1 ⟨rfl, hb1⟩; have hs1 := hs0.step hb1; obtain ⟨z0, z1, z2, z3, z4⟩ := hs1.five; clear hs0 y0 y1 y2 y3 y4)
    | (go_at_call 36; refine Calls.mono (H2.out _ hs1.bel) ?_; rintro e w2 ⟨rfl, hb2⟩; have hs2 := hs1.step hb2; obtain ⟨u0, u1, u2, u3, u4⟩ := hs2.five; clear hs1 z0 z1 z2 z3 z4)
    | (go_at_call 37; refine Calls.mono (H3.out _ hs2.bel) ?_; rintro e w' ⟨rfl, rfl⟩)
    | (go_at_call 38; refine Calls.mono (H4.out _ hs2.bel) ?_; rintro e w3 ⟨rfl, hb3⟩; have hs3 := hs2.step hb3; obtain ⟨t0, t1, t2, t3, t4⟩ := hs3.five; clear hs2 u0 u1 u2 u3 u4)
    | (go_at_call 39; refine Calls.mono (H5.out _ hs3.bel) ?_; rintro e w4 ⟨rfl, hb4⟩; have hs4 := hs3.step hb4; clear hs3 t0 t1 t2 t3 t4))
  go_ret
  exact ⟨rfl, hs4.bel⟩

end Go.Proofs.YtjjbgbadkbomlaaDoor
