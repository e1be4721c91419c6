import Derived.Test.YtecodpdfckjalaaGreatDoorYTKfg
import Derived.Test.YtecodpdfckjalaaGreatDoorYTName
import Derived.Test.YtecodpdfckjalaaGreatDoorYTCurA
import Derived.Deep.LoopGhost
set_option linter.unusedVariables false
set_option linter.unusedSimpArgs false
set_option maxHeartbeats 4000000
set_option maxRecDepth 100000
namespace Go.Proofs.YtecodpdfckjalaaGreatDoor
open Go.RowKit
structure CkS (w : World) (k p : Int) (ka : Option Addr) (n kc : Nat) (nm : ByteArray) (num : Int) (W : World) : Prop where
 bel : Below w.heap.size w W
 five : iW W w.heap.size 0 k p ka n kc nm num
 size : w.heap.size < W.heap.size
theorem CkS.step {w : World} {k p : Int} {ka : Option Addr} {n kc : Nat} {nm : ByteArray} {num : Int} {W W' : World} (h : CkS w k p ka n kc nm num W) (hb : Below W.heap.size W W') : CkS w k p ka n kc nm num W' :=
 ⟨h.bel.trans (hb.mono (Nat.le_of_lt h.size)), h.five.below hb h.size, Nat.lt_of_lt_of_le h.size hb.size⟩
theorem xw (w : World) (k p : Int) (ka : Option Addr) (n kc : Nat) (nm : ByteArray) (num : Int) : CkS w k p ka n kc nm num (w.alloc (.cells #[.int .i64 k, .int .i64 p, .slice ka n kc, .string nm, .int .i64 num] 44)) :=
 ⟨ah w _, xq w k p ka n kc nm num, by simp⟩
structure CkW (W : World) (B nb no nc fb N fc : Nat) (l : List Nd) (fs : List Nat) : Prop where
 nodes : gG W B nb no nc l
 led : Led l fs.length
 iX : qQ W fb fs
 laid : Laid W
 fbl : fb < W.heap.size
theorem CkW.below {W W' : World} {B nb no nc fb N fc : Nat} {l : List Nd} {fs : List Nat} (h : CkW W B nb no nc fb N fc l fs) (hb : Below W.heap.size W W') : CkW W' B nb no nc fb N fc l fs :=
 ⟨h.nodes.below (hb.mono h.nodes.hi), h.led, fun j hj => by rw [hb.cell (p := ⟨fb, j, none⟩) h.fbl]; exact h.iX j hj, h.laid.below hb, Nat.lt_of_lt_of_le h.fbl hb.size⟩
theorem vM (W : World) (B nb no nc fb N fc : Nat) (l : List Nd) (fs : List Nat) (h : CkW W B nb no nc fb N fc l fs) (hi : fs.length < l.length) (hle : ∀ j, j < fs.length -> fs.getD j 0 <= j) (ka : Option Addr) (kc : Nat) (kd p num : Int) (kids : List Int) (nm : ByteArray)
  (hk : aO W B (.slice ka kids.length kc) kids) (hkind : gP kd = true) (hnum : cu kd num kids.length = true) (ho : fV fs fs.length kids = true) :
  Calls Tryz.prog 26 #[.slice (some ⟨nb, no, none⟩) l.length nc, .agg #[.int .i64 kd, .int .i64 p, .slice ka kids.length kc, .string nm, .int .i64 num]] W fun e w' => e = .returned (.bool (aA (kdN l) kd num (kids.map Int.toNat))) /\ Below W.heap.size W w' := by
 obtain ⟨e1, e2⟩ := xu hle ho
 have hlen : (kids.map Int.toNat).length = kids.length := by simp
 have hlo := h.nodes.lo
 have hhi := h.nodes.hi
 have hkl : kids.length <= maxLen := by
  obtain ⟨_, _, _, _, h2, _⟩ := hk.ex
  exact h2
 have hk' : aO W W.heap.size (.slice ka (kids.map Int.toNat).length kc) ((kids.map Int.toNat).map fun k : Nat => (k : Int)) := by
  rw [e1, hlen]
  obtain ⟨a, c, q1, q2, q3, q4⟩ := hk.ex
  refine ⟨a, c, q1, q2, q3, fun h0 => ?_⟩
  obtain ⟨b, o, r1, r2, r3⟩ := q4 h0
  exact ⟨b, o, r1, by omega, r3⟩
 have := xm W ka kc nb no nc l kd p num (kids.map Int.toNat) nm hkind (fun hk46 => ?_) (MP W ka kc nb no nc l kd p num (kids.map Int.toNat) nm (by omega) h.nodes.max hk' h.nodes.kinds (fun k hk => by have := e2 k hk; omega))
 ·unfold bS at this
  rw [hlen] at this
  exact this
 ·subst hk46
  unfold cu at hnum
  simp at hnum
  exact ⟨num.toNat, by omega, by omega⟩
theorem CS (w : World) (B nb no nc fb N fc : Nat) (l : List Nd) (fs : List Nat) (ka : Option Addr) (kc : Nat) (kd p num : Int) (kids : List Int) (nm : ByteArray) (R : Nat) (hw : CkW w B nb no nc fb N fc l fs) (hi : fs.length < l.length) (hN : fs.length <= N) (hNm : N <= maxLen) (hle : ∀ j, j < fs.length -> fs.getD j 0 <= j)
  (hk : aO w B (.slice ka kids.length kc) kids) (hnm : nm.size <= maxLen) (hf : iW w nb (no + fs.length * 5) kd p ka kids.length kc nm num)
  (e1 : gP kd = false) :
  Calls Tryz.prog 16 #[.slice (some ⟨nb, no, none⟩) l.length nc, .slice (some ⟨fb, 0, none⟩) N fc, .int .i64 fs.length] w fun e w' => e = .returned (.int .i64 20) /\ Below w.heap.size w w' := by
 have hmax := hw.nodes.max
 unfold maxLen at hmax
 have hB := hw.nodes.hi
 have HW : Bx _ := ⟨hw⟩
 have HI : Bx _ := ⟨hk⟩
 have hs0 := xw w kd p ka kids.length kc nm num
 obtain ⟨y0, y1, y2, y3, y4⟩ := hs0.five
 obtain ⟨x0, x1, x2, x3, x4⟩ := hf
 skip
 clear hw hk hle
 go_enter Tryz.func16, Tryz.ntmps16
 go_wp2_with (first
  | (go_at_call 22; refine (gD _ _).mono ?_; rintro e w' ⟨rfl, rfl⟩)
  | (go_at_call 23; refine Calls.mono (H1.out _) ?_; rintro e w1 ⟨rfl, hb1⟩; have hs1 := hs0.step hb1; obtain ⟨z0, z1, z2, z3, z4⟩ := hs1.five; clear hs0 y0 y1 y2 y3 y4)
  | (go_at_call 24; refine Calls.mono (H2.out _ hs1.bel) ?_; rintro e w2 ⟨rfl, hb2⟩; have hs2 := hs1.step hb2; obtain ⟨u0, u1, u2, u3, u4⟩ := hs2.five; clear hs1 z0 z1 z2 z3 z4)
  | (go_at_call 25; refine Calls.mono (H3.out _ hs2.bel) ?_; rintro e w' ⟨rfl, rfl⟩)
  | (go_at_call 26; refine Calls.mono (H4.out _ hs2.bel) ?_; rintro e w3 ⟨rfl, hb3⟩; have hs3 := hs2.step hb3; obtain ⟨t0, t1, t2, t3, t4⟩ := hs3.five; clear hs2 u0 u1 u2 u3 u4)
  | (go_at_call 27; refine Calls.mono (H5.out _ hs3.bel) ?_; rintro e w4 ⟨rfl, hb4⟩; have hs4 := hs3.step hb4; clear hs3 t0 t1 t2 t3 t4))
 go_ret
 exact ⟨rfl, hs0.bel⟩
theorem Ew (w : World) (B nb no nc fb N fc : Nat) (l : List Nd) (fs : List Nat) (ka : Option Addr) (kc : Nat) (kd p num : Int) (kids : List Int) (nm : ByteArray) (R : Nat) (hw : CkW w B nb no nc fb N fc l fs) (hi : fs.length < l.length) (hN : fs.length <= N) (hNm : N <= maxLen) (hle : ∀ j, j < fs.length -> fs.getD j 0 <= j)
  (hk : aO w B (.slice ka kids.length kc) kids) (hnm : nm.size <= maxLen) (hf : iW w nb (no + fs.length * 5) kd p ka kids.length kc nm num)
  (e1 : gP kd = true) (e2 : p < 0) :
  Calls Tryz.prog 16 #[.slice (some ⟨nb, no, none⟩) l.length nc, .slice (some ⟨fb, 0, none⟩) N fc, .int .i64 fs.length] w fun e w' => e = .returned (.int .i64 20) /\ Below w.heap.size w w' := by
 have hmax := hw.nodes.max
 unfold maxLen at hmax
 have hB := hw.nodes.hi
 have HW : Bx _ := ⟨hw⟩
 have HI : Bx _ := ⟨hk⟩
 have hs0 := xw w kd p ka kids.length kc nm num
 obtain ⟨y0, y1, y2, y3, y4⟩ := hs0.five
 obtain ⟨x0, x1, x2, x3, x4⟩ := hf
 skip
 clear hw hk hle
 go_enter Tryz.func16, Tryz.ntmps16
 go_wp2_with (first
  | (go_at_call 22; refine (gD _ _).mono ?_; rintro e w' ⟨rfl, rfl⟩)
  | (go_at_call 23; refine Calls.mono (H1.out _) ?_; rintro e w1 ⟨rfl, hb1⟩; have hs1 := hs0.step hb1; obtain ⟨z0, z1, z2, z3, z4⟩ := hs1.five; clear hs0 y0 y1 y2 y3 y4)
  | (go_at_call 24; refine Calls.mono (H2.out _ hs1.bel) ?_; rintro e w2 ⟨rfl, hb2⟩; have hs2 := hs1.step hb2; obtain ⟨u0, u1, u2, u3, u4⟩ := hs2.five; clear hs1 z0 z1 z2 z3 z4)
  | (go_at_call 25; refine Calls.mono (H3.out _ hs2.bel) ?_; rintro e w' ⟨rfl, rfl⟩)
  | (go_at_call 26; refine Calls.mono (H4.out _ hs2.bel) ?_; rintro e w3 ⟨rfl, hb3⟩; have hs3 := hs2.step hb3; obtain ⟨t0, t1, t2, t3, t4⟩ := hs3.five; clear hs2 u0 u1 u2 u3 u4)
  | (go_at_call 27; refine Calls.mono (H5.out _ hs3.bel) ?_; rintro e w4 ⟨rfl, hb4⟩; have hs4 := hs3.step hb4; clear hs3 t0 t1 t2 t3 t4))
 go_ret
 exact ⟨rfl, hs0.bel⟩
theorem Ex (w : World) (B nb no nc fb N fc : Nat) (l : List Nd) (fs : List Nat) (ka : Option Addr) (kc : Nat) (kd p num : Int) (kids : List Int) (nm : ByteArray) (R : Nat) (hw : CkW w B nb no nc fb N fc l fs) (hi : fs.length < l.length) (hN : fs.length <= N) (hNm : N <= maxLen) (hle : ∀ j, j < fs.length -> fs.getD j 0 <= j)
  (hk : aO w B (.slice ka kids.length kc) kids) (hnm : nm.size <= maxLen) (hf : iW w nb (no + fs.length * 5) kd p ka kids.length kc nm num)
  (e1 : gP kd = true) (e2 : ¬ p < 0) (e3 : cu kd num kids.length = false) :
  Calls Tryz.prog 16 #[.slice (some ⟨nb, no, none⟩) l.length nc, .slice (some ⟨fb, 0, none⟩) N fc, .int .i64 fs.length] w fun e w' => e = .returned (.int .i64 23) /\ Below w.heap.size w w' := by
 have hmax := hw.nodes.max
 unfold maxLen at hmax
 have hB := hw.nodes.hi
 have HW : Bx _ := ⟨hw⟩
 have HI : Bx _ := ⟨hk⟩
 have hs0 := xw w kd p ka kids.length kc nm num
 obtain ⟨y0, y1, y2, y3, y4⟩ := hs0.five
 obtain ⟨x0, x1, x2, x3, x4⟩ := hf
 have H1 : Bx (∀ W, Calls Tryz.prog 23 #[.agg #[.int .i64 kd, .int .i64 p, .slice ka kids.length kc, .string nm, .int .i64 num]] W fun e w' => e = .returned (.bool (cu kd num kids.length)) /\ Below W.heap.size W w') := ⟨fun W => ib ka kc ⟨kd, p, kids, nm, num⟩ W⟩
 clear hw hk hle
 go_enter Tryz.func16, Tryz.ntmps16
 go_wp2_with (first
  | (go_at_call 22; refine (gD _ _).mono ?_; rintro e w' ⟨rfl, rfl⟩)
  | (go_at_call 23; refine Calls.mono (H1.out _) ?_; rintro e w1 ⟨rfl, hb1⟩; have hs1 := hs0.step hb1; obtain ⟨z0, z1, z2, z3, z4⟩ := hs1.five; clear hs0 y0 y1 y2 y3 y4)
  | (go_at_call 24; refine Calls.mono (H2.out _ hs1.bel) ?_; rintro e w2 ⟨rfl, hb2⟩; have hs2 := hs1.step hb2; obtain ⟨u0, u1, u2, u3, u4⟩ := hs2.five; clear hs1 z0 z1 z2 z3 z4)
  | (go_at_call 25; refine Calls.mono (H3.out _ hs2.bel) ?_; rintro e w' ⟨rfl, rfl⟩)
  | (go_at_call 26; refine Calls.mono (H4.out _ hs2.bel) ?_; rintro e w3 ⟨rfl, hb3⟩; have hs3 := hs2.step hb3; obtain ⟨t0, t1, t2, t3, t4⟩ := hs3.five; clear hs2 u0 u1 u2 u3 u4)
  | (go_at_call 27; refine Calls.mono (H5.out _ hs3.bel) ?_; rintro e w4 ⟨rfl, hb4⟩; have hs4 := hs3.step hb4; clear hs3 t0 t1 t2 t3 t4))
 go_ret
 exact ⟨rfl, hs1.bel⟩
theorem CU (w : World) (B nb no nc fb N fc : Nat) (l : List Nd) (fs : List Nat) (ka : Option Addr) (kc : Nat) (kd p num : Int) (kids : List Int) (nm : ByteArray) (R : Nat) (hw : CkW w B nb no nc fb N fc l fs) (hi : fs.length < l.length) (hN : fs.length <= N) (hNm : N <= maxLen) (hle : ∀ j, j < fs.length -> fs.getD j 0 <= j)
  (hk : aO w B (.slice ka kids.length kc) kids) (hnm : nm.size <= maxLen) (hf : iW w nb (no + fs.length * 5) kd p ka kids.length kc nm num)
  (e1 : gP kd = true) (e2 : ¬ p < 0) (e3 : cu kd num kids.length = true) (e4 : bN kd nm = false) :
  Calls Tryz.prog 16 #[.slice (some ⟨nb, no, none⟩) l.length nc, .slice (some ⟨fb, 0, none⟩) N fc, .int .i64 fs.length] w fun e w' => e = .returned (.int .i64 22) /\ Below w.heap.size w w' := by
 have hmax := hw.nodes.max
 unfold maxLen at hmax
 have hB := hw.nodes.hi
 have HW : Bx _ := ⟨hw⟩
 have HI : Bx _ := ⟨hk⟩
 have hs0 := xw w kd p ka kids.length kc nm num
 obtain ⟨y0, y1, y2, y3, y4⟩ := hs0.five
 obtain ⟨x0, x1, x2, x3, x4⟩ := hf
 have H1 : Bx (∀ W, Calls Tryz.prog 23 #[.agg #[.int .i64 kd, .int .i64 p, .slice ka kids.length kc, .string nm, .int .i64 num]] W fun e w' => e = .returned (.bool (cu kd num kids.length)) /\ Below W.heap.size W w') := ⟨fun W => ib ka kc ⟨kd, p, kids, nm, num⟩ W⟩
 have H2 : Bx (∀ W, Below w.heap.size w W -> Calls Tryz.prog 24 #[.agg #[.int .i64 kd, .int .i64 p, .slice ka kids.length kc, .string nm, .int .i64 num]] W fun e w' => e = .returned (.bool (bN kd nm)) /\ Below W.heap.size W w') := ⟨fun W hb => iB ka kc ⟨kd, p, kids, nm, num⟩ W hnm (HW.out.laid.below hb)⟩
 clear hw hk hle
 go_enter Tryz.func16, Tryz.ntmps16
 go_wp2_with (first
  | (go_at_call 22; refine (gD _ _).mono ?_; rintro e w' ⟨rfl, rfl⟩)
  | (go_at_call 23; refine Calls.mono (H1.out _) ?_; rintro e w1 ⟨rfl, hb1⟩; have hs1 := hs0.step hb1; obtain ⟨z0, z1, z2, z3, z4⟩ := hs1.five; clear hs0 y0 y1 y2 y3 y4)
  | (go_at_call 24; refine Calls.mono (H2.out _ hs1.bel) ?_; rintro e w2 ⟨rfl, hb2⟩; have hs2 := hs1.step hb2; obtain ⟨u0, u1, u2, u3, u4⟩ := hs2.five; clear hs1 z0 z1 z2 z3 z4)
  | (go_at_call 25; refine Calls.mono (H3.out _ hs2.bel) ?_; rintro e w' ⟨rfl, rfl⟩)
  | (go_at_call 26; refine Calls.mono (H4.out _ hs2.bel) ?_; rintro e w3 ⟨rfl, hb3⟩; have hs3 := hs2.step hb3; obtain ⟨t0, t1, t2, t3, t4⟩ := hs3.five; clear hs2 u0 u1 u2 u3 u4)
  | (go_at_call 27; refine Calls.mono (H5.out _ hs3.bel) ?_; rintro e w4 ⟨rfl, hb4⟩; have hs4 := hs3.step hb4; clear hs3 t0 t1 t2 t3 t4))
 go_ret
 exact ⟨rfl, hs2.bel⟩
theorem z8 (w : World) (B nb no nc fb N fc : Nat) (l : List Nd) (fs : List Nat) (ka : Option Addr) (kc : Nat) (kd p num : Int) (kids : List Int) (nm : ByteArray) (R : Nat) (hw : CkW w B nb no nc fb N fc l fs) (hi : fs.length < l.length) (hN : fs.length <= N) (hNm : N <= maxLen) (hle : ∀ j, j < fs.length -> fs.getD j 0 <= j)
  (hk : aO w B (.slice ka kids.length kc) kids) (hnm : nm.size <= maxLen) (hf : iW w nb (no + fs.length * 5) kd p ka kids.length kc nm num)
  (e1 : gP kd = true) (e2 : ¬ p < 0) (e3 : cu kd num kids.length = true) (e4 : bN kd nm = true) (e5 : fV fs fs.length kids = false) :
  Calls Tryz.prog 16 #[.slice (some ⟨nb, no, none⟩) l.length nc, .slice (some ⟨fb, 0, none⟩) N fc, .int .i64 fs.length] w fun e w' => e = .returned (.int .i64 21) /\ Below w.heap.size w w' := by
 have hmax := hw.nodes.max
 unfold maxLen at hmax
 have hB := hw.nodes.hi
 have HW : Bx _ := ⟨hw⟩
 have HI : Bx _ := ⟨hk⟩
 have hs0 := xw w kd p ka kids.length kc nm num
 obtain ⟨y0, y1, y2, y3, y4⟩ := hs0.five
 obtain ⟨x0, x1, x2, x3, x4⟩ := hf
 have H1 : Bx (∀ W, Calls Tryz.prog 23 #[.agg #[.int .i64 kd, .int .i64 p, .slice ka kids.length kc, .string nm, .int .i64 num]] W fun e w' => e = .returned (.bool (cu kd num kids.length)) /\ Below W.heap.size W w') := ⟨fun W => ib ka kc ⟨kd, p, kids, nm, num⟩ W⟩
 have H2 : Bx (∀ W, Below w.heap.size w W -> Calls Tryz.prog 24 #[.agg #[.int .i64 kd, .int .i64 p, .slice ka kids.length kc, .string nm, .int .i64 num]] W fun e w' => e = .returned (.bool (bN kd nm)) /\ Below W.heap.size W w') := ⟨fun W hb => iB ka kc ⟨kd, p, kids, nm, num⟩ W hnm (HW.out.laid.below hb)⟩
 have H3 : Bx (∀ W, Below w.heap.size w W -> Calls Tryz.prog 25 #[.slice ka kids.length kc, .slice (some ⟨fb, 0, none⟩) N fc, .int .i64 fs.length] W fun e w' => e = .returned (.bool (fV fs fs.length kids)) /\ W = w') := ⟨fun W hb => jy kids fs ka kc fb N fc B W (hk.below (hb.mono hB)) (HW.out.below hb).iX hle hN hNm⟩
 clear hw hk hle
 go_enter Tryz.func16, Tryz.ntmps16
 go_wp2_with (first
  | (go_at_call 22; refine (gD _ _).mono ?_; rintro e w' ⟨rfl, rfl⟩)
  | (go_at_call 23; refine Calls.mono (H1.out _) ?_; rintro e w1 ⟨rfl, hb1⟩; have hs1 := hs0.step hb1; obtain ⟨z0, z1, z2, z3, z4⟩ := hs1.five; clear hs0 y0 y1 y2 y3 y4)
  | (go_at_call 24; refine Calls.mono (H2.out _ hs1.bel) ?_; rintro e w2 ⟨rfl, hb2⟩; have hs2 := hs1.step hb2; obtain ⟨u0, u1, u2, u3, u4⟩ := hs2.five; clear hs1 z0 z1 z2 z3 z4)
  | (go_at_call 25; refine Calls.mono (H3.out _ hs2.bel) ?_; rintro e w' ⟨rfl, rfl⟩)
  | (go_at_call 26; refine Calls.mono (H4.out _ hs2.bel) ?_; rintro e w3 ⟨rfl, hb3⟩; have hs3 := hs2.step hb3; obtain ⟨t0, t1, t2, t3, t4⟩ := hs3.five; clear hs2 u0 u1 u2 u3 u4)
  | (go_at_call 27; refine Calls.mono (H5.out _ hs3.bel) ?_; rintro e w4 ⟨rfl, hb4⟩; have hs4 := hs3.step hb4; clear hs3 t0 t1 t2 t3 t4))
 go_ret
 exact ⟨rfl, hs2.bel⟩
theorem CV (w : World) (B nb no nc fb N fc : Nat) (l : List Nd) (fs : List Nat) (ka : Option Addr) (kc : Nat) (kd p num : Int) (kids : List Int) (nm : ByteArray) (R : Nat) (hw : CkW w B nb no nc fb N fc l fs) (hi : fs.length < l.length) (hN : fs.length <= N) (hNm : N <= maxLen) (hle : ∀ j, j < fs.length -> fs.getD j 0 <= j)
  (hk : aO w B (.slice ka kids.length kc) kids) (hnm : nm.size <= maxLen) (hf : iW w nb (no + fs.length * 5) kd p ka kids.length kc nm num)
  (e1 : gP kd = true) (e2 : ¬ p < 0) (e3 : cu kd num kids.length = true) (e4 : bN kd nm = true) (e5 : fV fs fs.length kids = true) (e6 : aA (kdN l) kd num (kids.map Int.toNat) = false) :
  Calls Tryz.prog 16 #[.slice (some ⟨nb, no, none⟩) l.length nc, .slice (some ⟨fb, 0, none⟩) N fc, .int .i64 fs.length] w fun e w' => e = .returned (.int .i64 21) /\ Below w.heap.size w w' := by
 have hmax := hw.nodes.max
 unfold maxLen at hmax
 have hB := hw.nodes.hi
 have HW : Bx _ := ⟨hw⟩
 have HI : Bx _ := ⟨hk⟩
 have hs0 := xw w kd p ka kids.length kc nm num
 obtain ⟨y0, y1, y2, y3, y4⟩ := hs0.five
 obtain ⟨x0, x1, x2, x3, x4⟩ := hf
 have H1 : Bx (∀ W, Calls Tryz.prog 23 #[.agg #[.int .i64 kd, .int .i64 p, .slice ka kids.length kc, .string nm, .int .i64 num]] W fun e w' => e = .returned (.bool (cu kd num kids.length)) /\ Below W.heap.size W w') := ⟨fun W => ib ka kc ⟨kd, p, kids, nm, num⟩ W⟩
 have H2 : Bx (∀ W, Below w.heap.size w W -> Calls Tryz.prog 24 #[.agg #[.int .i64 kd, .int .i64 p, .slice ka kids.length kc, .string nm, .int .i64 num]] W fun e w' => e = .returned (.bool (bN kd nm)) /\ Below W.heap.size W w') := ⟨fun W hb => iB ka kc ⟨kd, p, kids, nm, num⟩ W hnm (HW.out.laid.below hb)⟩
 have H3 : Bx (∀ W, Below w.heap.size w W -> Calls Tryz.prog 25 #[.slice ka kids.length kc, .slice (some ⟨fb, 0, none⟩) N fc, .int .i64 fs.length] W fun e w' => e = .returned (.bool (fV fs fs.length kids)) /\ W = w') := ⟨fun W hb => jy kids fs ka kc fb N fc B W (hk.below (hb.mono hB)) (HW.out.below hb).iX hle hN hNm⟩
 have H4 : Bx (∀ W, Below w.heap.size w W -> Calls Tryz.prog 26 #[.slice (some ⟨nb, no, none⟩) l.length nc, .agg #[.int .i64 kd, .int .i64 p, .slice ka kids.length kc, .string nm, .int .i64 num]] W fun e w' => e = .returned (.bool (aA (kdN l) kd num (kids.map Int.toNat))) /\ Below W.heap.size W w') := ⟨fun W hb => vM W B nb no nc fb N fc l fs (HW.out.below hb) hi hle ka kc kd p num kids nm (hk.below (hb.mono hB)) e1 e3 e5⟩
 clear hw hk hle
 go_enter Tryz.func16, Tryz.ntmps16
 go_wp2_with (first
  | (go_at_call 22; refine (gD _ _).mono ?_; rintro e w' ⟨rfl, rfl⟩)
  | (go_at_call 23; refine Calls.mono (H1.out _) ?_; rintro e w1 ⟨rfl, hb1⟩; have hs1 := hs0.step hb1; obtain ⟨z0, z1, z2, z3, z4⟩ := hs1.five; clear hs0 y0 y1 y2 y3 y4)
  | (go_at_call 24; refine Calls.mono (H2.out _ hs1.bel) ?_; rintro e w2 ⟨rfl, hb2⟩; have hs2 := hs1.step hb2; obtain ⟨u0, u1, u2, u3, u4⟩ := hs2.five; clear hs1 z0 z1 z2 z3 z4)
  | (go_at_call 25; refine Calls.mono (H3.out _ hs2.bel) ?_; rintro e w' ⟨rfl, rfl⟩)
  | (go_at_call 26; refine Calls.mono (H4.out _ hs2.bel) ?_; rintro e w3 ⟨rfl, hb3⟩; have hs3 := hs2.step hb3; obtain ⟨t0, t1, t2, t3, t4⟩ := hs3.five; clear hs2 u0 u1 u2 u3 u4)
  | (go_at_call 27; refine Calls.mono (H5.out _ hs3.bel) ?_; rintro e w4 ⟨rfl, hb4⟩; have hs4 := hs3.step hb4; clear hs3 t0 t1 t2 t3 t4))
 go_ret
 exact ⟨rfl, hs3.bel⟩
theorem Aa (w : World) (B nb no nc fb N fc : Nat) (l : List Nd) (fs : List Nat) (ka : Option Addr) (kc : Nat) (kd p num : Int) (kids : List Int) (nm : ByteArray) (R : Nat) (hw : CkW w B nb no nc fb N fc l fs) (hi : fs.length < l.length) (hN : fs.length <= N) (hNm : N <= maxLen) (hle : ∀ j, j < fs.length -> fs.getD j 0 <= j)
  (hk : aO w B (.slice ka kids.length kc) kids) (hnm : nm.size <= maxLen) (hf : iW w nb (no + fs.length * 5) kd p ka kids.length kc nm num)
  (e1 : gP kd = true) (e2 : ¬ p < 0) (e3 : cu kd num kids.length = true) (e4 : bN kd nm = true) (e5 : fV fs fs.length kids = true) (e6 : aA (kdN l) kd num (kids.map Int.toNat) = true) (h44 : kd = 44 -> 0 < kids.length) (e7 : dY l ⟨kd, p, kids, nm, num⟩ = false) :
  Calls Tryz.prog 16 #[.slice (some ⟨nb, no, none⟩) l.length nc, .slice (some ⟨fb, 0, none⟩) N fc, .int .i64 fs.length] w fun e w' => e = .returned (.int .i64 24) /\ Below w.heap.size w w' := by
 have hmax := hw.nodes.max
 unfold maxLen at hmax
 have hB := hw.nodes.hi
 have HW : Bx _ := ⟨hw⟩
 have HI : Bx _ := ⟨hk⟩
 have hs0 := xw w kd p ka kids.length kc nm num
 obtain ⟨y0, y1, y2, y3, y4⟩ := hs0.five
 obtain ⟨x0, x1, x2, x3, x4⟩ := hf
 have H1 : Bx (∀ W, Calls Tryz.prog 23 #[.agg #[.int .i64 kd, .int .i64 p, .slice ka kids.length kc, .string nm, .int .i64 num]] W fun e w' => e = .returned (.bool (cu kd num kids.length)) /\ Below W.heap.size W w') := ⟨fun W => ib ka kc ⟨kd, p, kids, nm, num⟩ W⟩
 have H2 : Bx (∀ W, Below w.heap.size w W -> Calls Tryz.prog 24 #[.agg #[.int .i64 kd, .int .i64 p, .slice ka kids.length kc, .string nm, .int .i64 num]] W fun e w' => e = .returned (.bool (bN kd nm)) /\ Below W.heap.size W w') := ⟨fun W hb => iB ka kc ⟨kd, p, kids, nm, num⟩ W hnm (HW.out.laid.below hb)⟩
 have H3 : Bx (∀ W, Below w.heap.size w W -> Calls Tryz.prog 25 #[.slice ka kids.length kc, .slice (some ⟨fb, 0, none⟩) N fc, .int .i64 fs.length] W fun e w' => e = .returned (.bool (fV fs fs.length kids)) /\ W = w') := ⟨fun W hb => jy kids fs ka kc fb N fc B W (hk.below (hb.mono hB)) (HW.out.below hb).iX hle hN hNm⟩
 have H4 : Bx (∀ W, Below w.heap.size w W -> Calls Tryz.prog 26 #[.slice (some ⟨nb, no, none⟩) l.length nc, .agg #[.int .i64 kd, .int .i64 p, .slice ka kids.length kc, .string nm, .int .i64 num]] W fun e w' => e = .returned (.bool (aA (kdN l) kd num (kids.map Int.toNat))) /\ Below W.heap.size W w') := ⟨fun W hb => vM W B nb no nc fb N fc l fs (HW.out.below hb) hi hle ka kc kd p num kids nm (hk.below (hb.mono hB)) e1 e3 e5⟩
 have H5 : Bx (∀ W, Below w.heap.size w W -> Calls Tryz.prog 27 #[.slice (some ⟨nb, no, none⟩) l.length nc, .agg #[.int .i64 kd, .int .i64 p, .slice ka kids.length kc, .string nm, .int .i64 num]] W fun e w' => e = .returned (.bool (dY l ⟨kd, p, kids, nm, num⟩)) /\ Below W.heap.size W w') := ⟨fun W hb => lW W B nb no nc l fs.length ka kc ⟨kd, p, kids, nm, num⟩ (HW.out.below hb).nodes HW.out.led (Nat.le_of_lt hi) (hk.below (hb.mono hB)) (nH hle e5) h44⟩
 clear hw hk hle
 go_enter Tryz.func16, Tryz.ntmps16
 go_wp2_with (first
  | (go_at_call 22; refine (gD _ _).mono ?_; rintro e w' ⟨rfl, rfl⟩)
  | (go_at_call 23; refine Calls.mono (H1.out _) ?_; rintro e w1 ⟨rfl, hb1⟩; have hs1 := hs0.step hb1; obtain ⟨z0, z1, z2, z3, z4⟩ := hs1.five; clear hs0 y0 y1 y2 y3 y4)
  | (go_at_call 24; refine Calls.mono (H2.out _ hs1.bel) ?_; rintro e w2 ⟨rfl, hb2⟩; have hs2 := hs1.step hb2; obtain ⟨u0, u1, u2, u3, u4⟩ := hs2.five; clear hs1 z0 z1 z2 z3 z4)
  | (go_at_call 25; refine Calls.mono (H3.out _ hs2.bel) ?_; rintro e w' ⟨rfl, rfl⟩)
  | (go_at_call 26; refine Calls.mono (H4.out _ hs2.bel) ?_; rintro e w3 ⟨rfl, hb3⟩; have hs3 := hs2.step hb3; obtain ⟨t0, t1, t2, t3, t4⟩ := hs3.five; clear hs2 u0 u1 u2 u3 u4)
  | (go_at_call 27; refine Calls.mono (H5.out _ hs3.bel) ?_; rintro e w4 ⟨rfl, hb4⟩; have hs4 := hs3.step hb4; clear hs3 t0 t1 t2 t3 t4))
 go_ret
 exact ⟨rfl, hs4.bel⟩
theorem Gv (w : World) (B nb no nc fb N fc : Nat) (l : List Nd) (fs : List Nat) (ka : Option Addr) (kc : Nat) (kd p num : Int) (kids : List Int) (nm : ByteArray) (R : Nat) (hw : CkW w B nb no nc fb N fc l fs) (hi : fs.length < l.length) (hN : fs.length <= N) (hNm : N <= maxLen) (hle : ∀ j, j < fs.length -> fs.getD j 0 <= j)
  (hk : aO w B (.slice ka kids.length kc) kids) (hnm : nm.size <= maxLen) (hf : iW w nb (no + fs.length * 5) kd p ka kids.length kc nm num)
  (e1 : gP kd = true) (e2 : ¬ p < 0) (e3 : cu kd num kids.length = true) (e4 : bN kd nm = true) (e5 : fV fs fs.length kids = true) (e6 : aA (kdN l) kd num (kids.map Int.toNat) = true) (h44 : kd = 44 -> 0 < kids.length) (e7 : dY l ⟨kd, p, kids, nm, num⟩ = true) :
  Calls Tryz.prog 16 #[.slice (some ⟨nb, no, none⟩) l.length nc, .slice (some ⟨fb, 0, none⟩) N fc, .int .i64 fs.length] w fun e w' => e = .returned (.int .i64 0) /\ Below w.heap.size w w' := by
 have hmax := hw.nodes.max
 unfold maxLen at hmax
 have hB := hw.nodes.hi
 have HW : Bx _ := ⟨hw⟩
 have HI : Bx _ := ⟨hk⟩
 have hs0 := xw w kd p ka kids.length kc nm num
 obtain ⟨y0, y1, y2, y3, y4⟩ := hs0.five
 obtain ⟨x0, x1, x2, x3, x4⟩ := hf
 have H1 : Bx (∀ W, Calls Tryz.prog 23 #[.agg #[.int .i64 kd, .int .i64 p, .slice ka kids.length kc, .string nm, .int .i64 num]] W fun e w' => e = .returned (.bool (cu kd num kids.length)) /\ Below W.heap.size W w') := ⟨fun W => ib ka kc ⟨kd, p, kids, nm, num⟩ W⟩
 have H2 : Bx (∀ W, Below w.heap.size w W -> Calls Tryz.prog 24 #[.agg #[.int .i64 kd, .int .i64 p, .slice ka kids.length kc, .string nm, .int .i64 num]] W fun e w' => e = .returned (.bool (bN kd nm)) /\ Below W.heap.size W w') := ⟨fun W hb => iB ka kc ⟨kd, p, kids, nm, num⟩ W hnm (HW.out.laid.below hb)⟩
 have H3 : Bx (∀ W, Below w.heap.size w W -> Calls Tryz.prog 25 #[.slice ka kids.length kc, .slice (some ⟨fb, 0, none⟩) N fc, .int .i64 fs.length] W fun e w' => e = .returned (.bool (fV fs fs.length kids)) /\ W = w') := ⟨fun W hb => jy kids fs ka kc fb N fc B W (hk.below (hb.mono hB)) (HW.out.below hb).iX hle hN hNm⟩
 have H4 : Bx (∀ W, Below w.heap.size w W -> Calls Tryz.prog 26 #[.slice (some ⟨nb, no, none⟩) l.length nc, .agg #[.int .i64 kd, .int .i64 p, .slice ka kids.length kc, .string nm, .int .i64 num]] W fun e w' => e = .returned (.bool (aA (kdN l) kd num (kids.map Int.toNat))) /\ Below W.heap.size W w') := ⟨fun W hb => vM W B nb no nc fb N fc l fs (HW.out.below hb) hi hle ka kc kd p num kids nm (hk.below (hb.mono hB)) e1 e3 e5⟩
 have H5 : Bx (∀ W, Below w.heap.size w W -> Calls Tryz.prog 27 #[.slice (some ⟨nb, no, none⟩) l.length nc, .agg #[.int .i64 kd, .int .i64 p, .slice ka kids.length kc, .string nm, .int .i64 num]] W fun e w' => e = .returned (.bool (dY l ⟨kd, p, kids, nm, num⟩)) /\ Below W.heap.size W w') := ⟨fun W hb => lW W B nb no nc l fs.length ka kc ⟨kd, p, kids, nm, num⟩ (HW.out.below hb).nodes HW.out.led (Nat.le_of_lt hi) (hk.below (hb.mono hB)) (nH hle e5) h44⟩
 clear hw hk hle
 go_enter Tryz.func16, Tryz.ntmps16
 go_wp2_with (first
  | (go_at_call 22; refine (gD _ _).mono ?_; rintro e w' ⟨rfl, rfl⟩)
  | (go_at_call 23; refine Calls.mono (H1.out _) ?_; rintro e w1 ⟨rfl, hb1⟩; have hs1 := hs0.step hb1; obtain ⟨z0, z1, z2, z3, z4⟩ := hs1.five; clear hs0 y0 y1 y2 y3 y4)
  | (go_at_call 24; refine Calls.mono (H2.out _ hs1.bel) ?_; rintro e w2 ⟨rfl, hb2⟩; have hs2 := hs1.step hb2; obtain ⟨u0, u1, u2, u3, u4⟩ := hs2.five; clear hs1 z0 z1 z2 z3 z4)
  | (go_at_call 25; refine Calls.mono (H3.out _ hs2.bel) ?_; rintro e w' ⟨rfl, rfl⟩)
  | (go_at_call 26; refine Calls.mono (H4.out _ hs2.bel) ?_; rintro e w3 ⟨rfl, hb3⟩; have hs3 := hs2.step hb3; obtain ⟨t0, t1, t2, t3, t4⟩ := hs3.five; clear hs2 u0 u1 u2 u3 u4)
  | (go_at_call 27; refine Calls.mono (H5.out _ hs3.bel) ?_; rintro e w4 ⟨rfl, hb4⟩; have hs4 := hs3.step hb4; clear hs3 t0 t1 t2 t3 t4))
 go_ret
 exact ⟨rfl, hs4.bel⟩
end Go.Proofs.YtecodpdfckjalaaGreatDoor
namespace Go.Proofs.YtecodpdfckjalaaGreatDoor
def dQ (fs : List Nat) (n : Nd) (i : Nat) : Nat :=
 match n.kids with
 | [] => i
 | k :: _ => fs.getD k.toNat 0
def xx (l : List Nd) (fs : List Nat) : Nat × Nat :=
 if l.length = 0 ∨ kdN l (l.length - 1) ≠ 46 ∨ fs.getD (l.length - 1) 0 ≠ 0 then (l.length, 25) else (0, 0)
def gK (l : List Nd) : Nat -> List Nat -> Nat × Nat
 | 0, fs => xx l fs
 | m + 1, fs => if dE l fs fs.length = 0 then gK l m (fs ++ [dQ fs (ndN l fs.length) fs.length]) else (fs.length, dE l fs fs.length)
def bG (l : List Nd) : Nat × Nat := gK l l.length []
theorem ic {l : List Nd} {fs : List Nat} {i : Nat} (h : dE l fs i = 0) :
  gP (ndN l i).kind = true /\ ¬ (ndN l i).pos < 0 /\ cu (ndN l i).kind (ndN l i).num (ndN l i).kids.length = true /\ bN (ndN l i).kind (ndN l i).name = true /\ fV fs i (ndN l i).kids = true
   /\ aA (kdN l) (ndN l i).kind (ndN l i).num ((ndN l i).kids.map Int.toNat) = true /\ dY l (ndN l i) = true := by
 unfold dE at h
 split at h
 ·cases h
 rename_i h1
 split at h
 ·cases h
 rename_i h2
 split at h
 ·cases h
 rename_i h3
 split at h
 ·cases h
 rename_i h4
 split at h
 ·cases h
 rename_i h5
 simp only [not_or, Bool.not_eq_false] at h1 h2 h3 h4 h5
 exact ⟨h1.1, h1.2, h2, h3, h4.1, h4.2, h5⟩
theorem AX {f : Nat -> Int} {k num : Int} {ks : List Nat} (h : aA f k num ks = true) (hk : k = 22 ∨ k = 23 ∨ k = 24 ∨ k = 25 ∨ k = 44) : ks ≠ [] := by
 intro e
 subst e
 unfold aA at h
 rcases hk with rfl | rfl | rfl | rfl | rfl
 ·rw [jX] at h; simp [iw, bH, took] at h
 ·rw [jY] at h; simp [iw, bH, dZ, took] at h
 ·rw [jZ] at h; simp [iw, bH, took] at h
 ·rw [j3] at h; simp [iw, bH, took] at h
 ·rw [j4] at h; simp [iw, bH, took] at h
theorem nI {fs : List Nat} (hle : ∀ j, j < fs.length -> fs.getD j 0 <= j) {n : Nd} (ho : fV fs fs.length n.kids = true) : dQ fs n fs.length <= fs.length := by
 unfold dQ
 match hk : n.kids with
 | [] => simp
 | k :: r =>
  rw [hk] at ho
  obtain ⟨m, hm, hlt⟩ := nH hle ho 0 (by simp)
  simp at hm
  subst hm
  have := hle m hlt
  simp only [Int.toNat_natCast]
  omega
theorem Gw {fs : List Nat} {x : Nat} (hle : ∀ j, j < fs.length -> fs.getD j 0 <= j) (hx : x <= fs.length) : ∀ j, j < (fs ++ [x]).length -> (fs ++ [x]).getD j 0 <= j := by
 intro j hj
 simp at hj
 by_cases h : j < fs.length
 ·have := hle j h
  simp only [List.getD_eq_getElem?_getD] at this ⊢
  rw [List.getElem?_append_left h]
  exact this
 ·have : j = fs.length := by omega
  subst this
  simp [List.getD_eq_getElem?_getD, hx]
end Go.Proofs.YtecodpdfckjalaaGreatDoor
namespace Go.Proofs.YtecodpdfckjalaaGreatDoor
open Go.RowKit
theorem tF (w : World) (B nb no nc fb N fc : Nat) (l : List Nd) (fs : List Nat) (hw : CkW w B nb no nc fb N fc l fs) (hi : fs.length < l.length) (hN : fs.length <= N) (hNm : N <= maxLen) (hle : ∀ j, j < fs.length -> fs.getD j 0 <= j) :
  Calls Tryz.prog 16 #[.slice (some ⟨nb, no, none⟩) l.length nc, .slice (some ⟨fb, 0, none⟩) N fc, .int .i64 fs.length] w fun e w' => e = .returned (.int .i64 (dE l fs fs.length : Nat)) /\ Below w.heap.size w w' := by
 obtain ⟨ka, kc, hnd⟩ := hw.nodes.at_ fs.length hi
 have hwf := hw.nodes.wf fs.length hi
 have h5 := hnd.five
 have hk := hnd.kids
 have hnm := hwf.name
 generalize hR : dE l fs fs.length = R
 unfold dE at hR
 generalize ndN l fs.length = n at *
 obtain ⟨kd, p, kids, nm, num⟩ := n
 simp only at *
 by_cases e1 : gP kd = true
 ·by_cases e2 : p < 0
  ·rw [if_pos (Or.inr e2)] at hR
   subst hR
   exact Ew w B nb no nc fb N fc l fs ka kc kd p num kids nm 0 hw hi hN hNm hle hk hnm h5 e1 e2
  ·rw [if_neg (by simp [e1, e2])] at hR
   by_cases e3 : cu kd num kids.length = true
   ·rw [if_neg (by simp [e3])] at hR
    by_cases e4 : bN kd nm = true
    ·rw [if_neg (by simp [e4])] at hR
     by_cases e5 : fV fs fs.length kids = true
     ·by_cases e6 : aA (kdN l) kd num (kids.map Int.toNat) = true
      ·rw [if_neg (by simp [e5, e6])] at hR
       have h44 : kd = 44 -> 0 < kids.length := fun h => by
        have := AX e6 (by omega)
        rcases Nat.eq_zero_or_pos kids.length with h0 | h0
        ·exact absurd (by rw [List.eq_nil_of_length_eq_zero h0]; rfl) this
        ·exact h0
       by_cases e7 : dY l ⟨kd, p, kids, nm, num⟩ = true
       ·rw [if_neg (by simp [e7])] at hR
        subst hR
        exact Gv w B nb no nc fb N fc l fs ka kc kd p num kids nm 0 hw hi hN hNm hle hk hnm h5 e1 e2 e3 e4 e5 e6 h44 e7
       ·rw [if_pos (by simpa using e7)] at hR
        subst hR
        exact Aa w B nb no nc fb N fc l fs ka kc kd p num kids nm 0 hw hi hN hNm hle hk hnm h5 e1 e2 e3 e4 e5 e6 h44 (by simpa using e7)
      ·rw [if_pos (Or.inr (by simpa using e6))] at hR
       subst hR
       exact CV w B nb no nc fb N fc l fs ka kc kd p num kids nm 0 hw hi hN hNm hle hk hnm h5 e1 e2 e3 e4 e5 (by simpa using e6)
     ·rw [if_pos (Or.inl (by simpa using e5))] at hR
      subst hR
      exact z8 w B nb no nc fb N fc l fs ka kc kd p num kids nm 0 hw hi hN hNm hle hk hnm h5 e1 e2 e3 e4 (by simpa using e5)
    ·rw [if_pos (by simpa using e4)] at hR
     subst hR
     exact CU w B nb no nc fb N fc l fs ka kc kd p num kids nm 0 hw hi hN hNm hle hk hnm h5 e1 e2 e3 (by simpa using e4)
   ·rw [if_pos (by simpa using e3)] at hR
    subst hR
    exact Ex w B nb no nc fb N fc l fs ka kc kd p num kids nm 0 hw hi hN hNm hle hk hnm h5 e1 e2 (by simpa using e3)
 ·rw [if_pos (Or.inl (by simpa using e1))] at hR
  subst hR
  exact CS w B nb no nc fb N fc l fs ka kc kd p num kids nm 0 hw hi hN hNm hle hk hnm h5 (by simpa using e1)
structure gU (W : World) (fb N : Nat) (fs : List Nat) : Prop where
 ex : ∃ C : Array Value, W.heap[fb]? = some (.cells C 3 (0, 0)) /\ C.size = N /\ (∀ j, j < fs.length -> C[j]? = some (.int .i64 (fs.getD j 0 : Nat))) /\ ∀ j, j < N -> ∃ x : Int, C[j]? = some (.int .i64 x)
theorem gU.iX {W : World} {fb N : Nat} {fs : List Nat} (h : gU W fb N fs) : qQ W fb fs := by
 obtain ⟨C, h1, h2, h3, _⟩ := h.ex
 intro j hj
 rw [cell_of_row W fb j C 3 (0, 0) h1]
 exact h3 j hj
theorem gU.cell {W : World} {fb N : Nat} {fs : List Nat} (h : gU W fb N fs) (j : Nat) (hj : j < N) : ∃ x : Int, W.cell? ⟨fb, j, none⟩ = some (.int .i64 x) := by
 obtain ⟨C, h1, h2, h3, h4⟩ := h.ex
 obtain ⟨x, hx⟩ := h4 j hj
 exact ⟨x, by rw [cell_of_row W fb j C 3 (0, 0) h1]; exact hx⟩
theorem gU.frozen {W : World} {fb N : Nat} {fs : List Nat} (h : gU W fb N fs) (j : Nat) : W.frozen? ⟨fb, j, none⟩ = false := by
 obtain ⟨C, h1, _⟩ := h.ex
 simp [World.frozen?, h1]
theorem gU.lt {W : World} {fb N : Nat} {fs : List Nat} (h : gU W fb N fs) : fb < W.heap.size := by
 obtain ⟨C, h1, _⟩ := h.ex
 rcases Nat.lt_or_ge fb W.heap.size with h' | h'
 ·exact h'
 ·simp [Array.getElem?_eq_none h'] at h1
theorem gU.below {W W' : World} {fb N : Nat} {fs : List Nat} (h : gU W fb N fs) (hb : Below W.heap.size W W') : gU W' fb N fs := by
 obtain ⟨C, h1, h2⟩ := h.ex
 exact ⟨C, by rw [hb.block fb h.lt]; exact h1, h2⟩
theorem gU.set {W : World} {fb N : Nat} {fs : List Nat} (h : gU W fb N fs) (hi : fs.length < N) (x : Nat) : gU (W.setCell ⟨fb, fs.length, none⟩ (.int .i64 x)) fb N (fs ++ [x]) := by
 obtain ⟨C, h1, h2, h3, h4⟩ := h.ex
 refine ⟨C.setIfInBounds fs.length (.int .i64 x), heap_setCell_same W fb fs.length C 3 _ h1, by simp [h2], fun j hj => ?_, fun j hj => ?_⟩
 ·rw [Array.getElem?_setIfInBounds]
  by_cases hj2 : j < fs.length
  ·rw [if_neg (by omega), h3 j hj2]
   simp only [List.getD_eq_getElem?_getD]
   rw [List.getElem?_append_left hj2]
  ·have : j = fs.length := by simp at hj; omega
   subst this
   rw [if_pos rfl, if_pos (by omega)]
   simp [List.getD_eq_getElem?_getD]
 ·rw [Array.getElem?_setIfInBounds]
  by_cases hj2 : fs.length = j
  ·rw [if_pos hj2, if_pos (by omega)]
   exact ⟨_, rfl⟩
  ·rw [if_neg hj2]
   exact h4 j hj
theorem gU.put {W : World} {fb N : Nat} {fs : List Nat} (h : gU W fb N fs) (hi : fs.length < N) (v : Int) : gU (W.setCell ⟨fb, fs.length, none⟩ (.int .i64 v)) fb N fs := by
 obtain ⟨C, h1, h2, h3, h4⟩ := h.ex
 refine ⟨C.setIfInBounds fs.length (.int .i64 v), heap_setCell_same W fb fs.length C 3 _ h1, by simp [h2], fun j hj => ?_, fun j hj => ?_⟩
 ·rw [Array.getElem?_setIfInBounds, if_neg (by omega), h3 j hj]
 ·rw [Array.getElem?_setIfInBounds]
  by_cases hj2 : fs.length = j
  ·rw [if_pos hj2, if_pos (by omega)]
   exact ⟨_, rfl⟩
  ·rw [if_neg hj2]
   exact h4 j hj
structure Ab (w : World) (wr : World) (l : List Nd) (fs : List Nat) : Prop where
 bel : Below w.heap.size w wr
 row : gU wr w.heap.size l.length fs
 le : ∀ j, j < fs.length -> fs.getD j 0 <= j
 led : Led l fs.length
 eq : bG l = gK l (l.length - fs.length) fs
theorem Ab.ckw {w wr : World} {l : List Nd} {fs : List Nat} {B nb no nc : Nat} (h : Ab w wr l fs) (hn : gG w B nb no nc l) (hL : Laid w) : CkW wr B nb no nc w.heap.size l.length l.length l fs :=
 ⟨hn.below (h.bel.mono hn.hi), h.led, h.row.iX, hL.below h.bel, h.row.lt⟩
theorem Ey {l : List Nd} {fs : List Nat} (h : Led l fs.length) (hz : dE l fs fs.length = 0) (hle : ∀ j, j < fs.length -> fs.getD j 0 <= j) : Led l (fs.length + 1) := by
 intro j hj h1 h2
 by_cases hj2 : j < fs.length
 ·exact h j hj2 h1 h2
 ·have : j = fs.length := by omega
  subst this
  obtain ⟨q1, q2, q3, q4, q5, q6, q7⟩ := ic hz
  have hne := AX q6 (by unfold kdN at h1 h2; omega)
  match hk : (ndN l fs.length).kids with
  | [] => rw [hk] at hne; exact absurd rfl hne
  | k :: r =>
   rw [hk] at q5
   obtain ⟨m, hm, hlt⟩ := nH hle q5 0 (by simp)
   simp at hm
   exact ⟨m, r, by rw [hm], hlt⟩
theorem Ab.next {w wr w1 : World} {l : List Nd} {fs : List Nat} (h : Ab w wr l fs) (hi : fs.length < l.length) (hz : dE l fs fs.length = 0) (hbel : Below w.heap.size w w1) (hrow : gU w1 w.heap.size l.length fs) :
  ∀ x, x = dQ fs (ndN l fs.length) fs.length -> Ab w (w1.setCell ⟨w.heap.size, fs.length, none⟩ (.int .i64 (x : Nat))) l (fs ++ [x]) := by
 rintro x rfl
 obtain ⟨q1, q2, q3, q4, q5, q6, q7⟩ := ic hz
 have hr := hrow.set hi (dQ fs (ndN l fs.length) fs.length)
 refine ⟨Below.setCell (p := ⟨w.heap.size, fs.length, none⟩) hbel (Nat.le_refl _) _, hr, Gw h.le (nI h.le q5), ?_, ?_⟩
 ·have := Ey h.led hz h.le
  simpa using this
 ·rw [h.eq]
  obtain ⟨m, hm⟩ : ∃ m, l.length - fs.length = m + 1 := ⟨l.length - fs.length - 1, by omega⟩
  rw [hm, gK, if_pos hz]
  congr 1
  simp
  omega
end Go.Proofs.YtecodpdfckjalaaGreatDoor
