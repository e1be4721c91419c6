import Derived.Test.YtecpknpcjoiliabDoorCUXq
namespace Go.Proofs.YtecpknpcjoiliabDoor
open Go.RowKit Go.Shelf
set_option linter.unusedVariables false
set_option linter.unusedSimpArgs false

abbrev bkO : Obj := .cells #[.slice none 0 0, .slice none 0 0, .int .i64 0] 26 (0, 0)
abbrev nxt (w : World) (s : Sc) (v : Value) : World := w.alloc (scB s.lim s.reap v)
theorem nxt_size (w : World) (s : Sc) (v : Value) : (nxt w s v).heap.size = w.heap.size + 1 := by simp
theorem nxt_new (w : World) (s : Sc) (v : Value) : (nxt w s v).heap[w.heap.size]? = some (scB s.lim s.reap v) := heap_alloc_new w _
theorem nxt_below (w : World) (s : Sc) (v : Value) : Below w.heap.size w (nxt w s v) := below1 w _
theorem six_of {w w0 w1 w2 w3 w4 w5 : World} {Hw : Nat} {r q : Sc × Nat × Int} {va vb vc vx vy : Value} (hHw : w.heap.size = Hw) (d0 : Below Hw w w0)
    (d1 : Below (w0.alloc bkO).heap.size (w0.alloc bkO) w1 ∧ PkO w1 (w0.alloc bkO).heap.size va r.1.picks)
    (d2 : Below (nxt w1 r.1 va).heap.size (nxt w1 r.1 va) w2 ∧ PkO w2 (nxt w1 r.1 va).heap.size vb q.1.picks)
    (d3 : Below (nxt w2 q.1 vb).heap.size (nxt w2 q.1 vb) w3 ∧ PkO w3 (nxt w2 q.1 vb).heap.size vc r.1.picks)
    (d4 : Below (nxt w3 r.1 vc).heap.size (nxt w3 r.1 vc) w4 ∧ PkO w4 (nxt w3 r.1 vc).heap.size vx r.1.picks)
    (d5 : Below (nxt w4 r.1 vx).heap.size (nxt w4 r.1 vx) w5 ∧ PkO w5 (nxt w4 r.1 vx).heap.size vy q.1.picks) :
    Six w (nxt w5 q.1 vy) Hw w0.heap.size w1.heap.size w2.heap.size w3.heap.size w4.heap.size w5.heap.size r q va vb vc vx vy (w0.alloc bkO).heap.size w1.heap.size (nxt w1 r.1 va).heap.size w2.heap.size (nxt w2 q.1 vb).heap.size w3.heap.size (nxt w3 r.1 vc).heap.size w4.heap.size := by
  have z0 := d0.size
  have zb : (w0.alloc bkO).heap.size = w0.heap.size + 1 := by simp
  have y1 := nxt_size w1 r.1 va
  have y2 := nxt_size w2 q.1 vb
  have y3 := nxt_size w3 r.1 vc
  have y4 := nxt_size w4 r.1 vx
  have z1 := d1.1.size
  have z2 := d2.1.size
  have z3 := d3.1.size
  have z4 := d4.1.size
  have z5 := d5.1.size
  -- from each world to the last
  have f5 := nxt_below w5 q.1 vy
  have f4' : Below (nxt w4 r.1 vx).heap.size (nxt w4 r.1 vx) (nxt w5 q.1 vy) := d5.1.trans (f5.mono z5)
  have f4 : Below w4.heap.size w4 (nxt w5 q.1 vy) := (nxt_below w4 r.1 vx).trans (f4'.mono (by omega))
  have f3' : Below (nxt w3 r.1 vc).heap.size (nxt w3 r.1 vc) (nxt w5 q.1 vy) := d4.1.trans (f4.mono z4)
  have f3 : Below w3.heap.size w3 (nxt w5 q.1 vy) := (nxt_below w3 r.1 vc).trans (f3'.mono (by omega))
  have f2' : Below (nxt w2 q.1 vb).heap.size (nxt w2 q.1 vb) (nxt w5 q.1 vy) := d3.1.trans (f3.mono z3)
  have f2 : Below w2.heap.size w2 (nxt w5 q.1 vy) := (nxt_below w2 q.1 vb).trans (f2'.mono (by omega))
  have f1' : Below (nxt w1 r.1 va).heap.size (nxt w1 r.1 va) (nxt w5 q.1 vy) := d2.1.trans (f2.mono z2)
  have f1 : Below w1.heap.size w1 (nxt w5 q.1 vy) := (nxt_below w1 r.1 va).trans (f1'.mono (by omega))
  have f0' : Below (w0.alloc bkO).heap.size (w0.alloc bkO) (nxt w5 q.1 vy) := d1.1.trans (f1.mono z1)
  have f0 : Below w0.heap.size w0 (nxt w5 q.1 vy) := (below1 w0 bkO).trans (f0'.mono (by omega))
  refine ⟨d0.trans (f0.mono (by omega)), by omega, below_heap f0' (heap_alloc_new w0 _), below_heap f1' (nxt_new _ _ _), below_heap f2' (nxt_new _ _ _), below_heap f3' (nxt_new _ _ _), below_heap f4' (nxt_new _ _ _), nxt_new _ _ _, by omega, by omega, by omega, by omega, ?_, ?_, ?_, ?_, ?_, d1.2.rng, d2.2.rng, d3.2.rng, d4.2.rng, by omega, by omega, by omega, z2, z3⟩
  · exact (d1.2.keep f1).low (by omega)
  · exact (d2.2.keep f2).low (by omega)
  · exact (d3.2.keep f3).low (by omega)
  · exact (d4.2.keep f4).low (by omega)
  · exact (d5.2.keep f5).low (by omega)
set_option maxRecDepth 100000 in
set_option maxHeartbeats 8000000 in
theorem reads_walk (w : World) (hL : LW w) (t1 : List UInt8) (hx1 : t1.length ≤ 1073741824) (t2 : List UInt8) (hx2 : t2.length ≤ 1073741824) :
    Calls Tryd.prog 3 #[strV t1, strV t2] w fun e w' => e = .returned (.bool true) ∧ Below w.heap.size w w' := by
  obtain ⟨Q, hQ⟩ : ∃ Q : Ending → World → Prop, Q = fun e w' => e = .returned (.bool true) ∧ Below w.heap.size w w' := ⟨_, rfl⟩
  rw [← hQ]
  obtain ⟨Hw, hHw⟩ : ∃ H, w.heap.size = H := ⟨_, rfl⟩
  have HQ : ∀ W, Below Hw w W → Q (.returned (.bool true)) W := fun W hb => by rw [hQ, hHw]; exact ⟨rfl, hb⟩
  have HSH : Bx (Calls Tryd.prog 4 #[] w fun e w' => e = .returned (.bool true) ∧ Bx (Below Hw w w')) := ⟨(shown_any w hL).mono fun e w' h => ⟨h.1, ⟨by rw [← hHw]; exact h.2.out⟩⟩⟩
  have HP1 : Bx (∀ W, Below Hw w W → Calls Tryd.prog 5 #[strV t1] W (ParG W (resG (readS t1)))) := ⟨fun W hb => (Parse_any W (hL.below (by rw [hHw]; exact hb)) t1 (by omega)).mono fun e w' h => par_g h⟩
  have HP2 : Bx (∀ W, Below Hw w W → Calls Tryd.prog 5 #[strV t2] W (ParG W (resG (readS t2)))) := ⟨fun W hb => (Parse_any W (hL.below (by rw [hHw]; exact hb)) t2 (by omega)).mono fun e w' h => par_g h⟩
  have HR1 : Bx (∀ W, Calls Tryd.prog 6 #[strV t1] W (ParG W (resG (readS t1)))) := ⟨fun W => (rParse_any t1 W (by omega)).mono fun e w' h => par_g h⟩
  have HR2 : Bx (∀ W, Calls Tryd.prog 6 #[strV t2] W (ParG W (resG (readS t2)))) := ⟨fun W => (rParse_any t2 W (by omega)).mono fun e w' h => par_g h⟩
  have HSX : Bx (∀ W hb b7 b10 b13 b16 b19 A1 A2 B1 B2 C1 C2 X1 X2 a1 a2 a3 a4 a5 c1 c2 c3 c4 c5, Six w W Hw hb b7 b10 b13 b16 b19 (resG (readS t1)) (resG (readS t2)) (vS a1 (resG (readS t1)).1 c1) (vS a2 (resG (readS t2)).1 c2) (vS a3 (resG (readS t1)).1 c3) (vS a4 (resG (readS t1)).1 c4) (vS a5 (resG (readS t2)).1 c5) A1 A2 B1 B2 C1 C2 X1 X2 → K0 Q hb (strV t1) b7 b10 b13 b16 b19 (resG (readS t1)) (resG (readS t2)) (vS a1 (resG (readS t1)).1 c1) (vS a2 (resG (readS t2)).1 c2) (vS a3 (resG (readS t1)).1 c3) (vS a4 (resG (readS t1)).1 c4) (vS a5 (resG (readS t2)).1 c5) W) := ⟨fun W hb b7 b10 b13 b16 b19 A1 A2 B1 B2 C1 C2 X1 X2 a1 a2 a3 a4 a5 c1 c2 c3 c4 c5 h => six_k0 Q w Hw hHw hL HQ t1 (by omega) _ (res_few t2) h⟩
  have HPa : Bx _ := ⟨HP1.out⟩
  have HHw : Bx (w.heap.size = Hw) := ⟨hHw⟩
  clear hQ hL hx1 hx2 HQ
  generalize resG (readS t1) = R1 at *
  generalize resG (readS t2) = R2 at *
  generalize strV t1 = s1 at *
  generalize strV t2 = s2 at *
  obtain ⟨S1, k1, e1⟩ := R1
  obtain ⟨S2, k2, e2⟩ := R2
  have HLE : Bx (∀ W, Below Hw w W → Hw ≤ W.heap.size) := ⟨fun W hb => by have := hb.size; omega⟩
  have HNX : Bx (∀ (W W' W'' : World), Below Hw w W → Below W.heap.size W W' → Below W'.heap.size W' W'' → Below Hw w W'') := ⟨fun W W' W'' h1 h2 h3 => by
    have z1 := h1.size
    have z2 := h2.size
    exact h1.trans ((h2.trans (h3.mono z2)).mono (by omega))⟩
  go_enter Tryd.func3, Tryd.ntmps3
  go_wp2_with (first
    | (go_at_call 4; refine HSH.out.mono ?_; clear HSH; rintro e w0 ⟨rfl, B0⟩; have Ba : Bx (Below Hw w (w0.alloc bkO)) := ⟨HNX.out _ _ _ B0.out (Below.refl _ _) (below1 w0 bkO)⟩)
    | (go_at_call 5; refine (HPa.out _ Ba.out).mono ?_; clear HPa; rintro e w1 ⟨a1, c1, rfl, D1⟩; have Bb : Bx (Below Hw w (nxt w1 S1 (vS a1 S1 c1))) := ⟨HNX.out _ _ _ Ba.out D1.out.1 (nxt_below w1 _ _)⟩)
    | (go_at_call 5; refine (HP2.out _ Bb.out).mono ?_; clear HP2; rintro e w2 ⟨a2, c2, rfl, D2⟩; have Bc : Bx (Below Hw w (nxt w2 S2 (vS a2 S2 c2))) := ⟨HNX.out _ _ _ Bb.out D2.out.1 (nxt_below w2 _ _)⟩)
    | (go_at_call 5; refine (HP1.out _ Bc.out).mono ?_; clear HP1; rintro e w3 ⟨a3, c3, rfl, D3⟩)
    | (go_at_call 6; refine (HR1.out (nxt w3 S1 (vS a3 S1 c3))).mono ?_; clear HR1; rintro e w4 ⟨a4, c4, rfl, D4⟩)
    | (go_at_call 6; refine (HR2.out (nxt w4 S1 (vS a4 S1 c4))).mono ?_; clear HR2; rintro e w5 ⟨a5, c5, rfl, D5⟩
       have hk0 := HSX.out _ _ _ _ _ _ _ _ _ _ _ _ _ _ _ a1 a2 a3 a4 a5 c1 c2 c3 c4 c5 (six_of (r := (S1, k1, e1)) (q := (S2, k2, e2)) HHw.out B0.out D1.out D2.out D3.out D4.out D5.out)
       obtain ⟨W6, hW6⟩ : ∃ W6, w5.alloc (scB S2.lim S2.reap (vS a5 S2 c5)) = W6 := ⟨_, rfl⟩
       have hk1 : K0 Q w0.heap.size s1 w1.heap.size w2.heap.size w3.heap.size w4.heap.size w5.heap.size (S1, k1, e1) (S2, k2, e2) (vS a1 S1 c1) (vS a2 S2 c2) (vS a3 S1 c3) (vS a4 S1 c4) (vS a5 S2 c5) W6 := (by rw [← hW6]; exact hk0)
       have HK0 : Bx _ := ⟨hk1⟩
       have B6 : Bx (Below W6.heap.size W6 W6) := ⟨Below.refl _ _⟩
       obtain ⟨⟨h7, _, _, h16, _⟩, _⟩ := hk1 _ B6.out
       obtain ⟨p0, p1, p2, p3, p4, p5, p6, p7, p8⟩ := cells9 h7
       obtain ⟨x0, x1, x2, x3, x4, x5, x6, x7, x8⟩ := cells9 h16
       clear hk0 hk1 h7 h16 HSX D1 D2 D3 D4 D5 B0 Ba Bb Bc HNX HLE HHw)
    | (go_at_call 7; refine (HK0.out _ B6.out).2.1.mono ?_; clear B6; rintro e y1 ⟨rfl, B7⟩
       obtain ⟨⟨_, h7, _, _, h16⟩, _⟩ := HK0.out _ B7.out
       clear p0 p1 p2 p3 p4 p5 p6 p7 p8 x0 x1 x2 x3 x4 x5 x6 x7 x8
       obtain ⟨p0, p1, p2, p3, p4, p5, p6, p7, p8⟩ := cells9 h7
       obtain ⟨x0, x1, x2, x3, x4, x5, x6, x7, x8⟩ := cells9 h16
       clear h7 h16)
    | (go_at_call 7; refine (HK0.out _ B7.out).2.2.1.mono ?_; clear B7; rintro e y2 ⟨rfl, B8⟩
       obtain ⟨⟨_, _, h7, h16, _⟩, _⟩ := HK0.out _ B8.out
       clear p0 p1 p2 p3 p4 p5 p6 p7 p8 x0 x1 x2 x3 x4 x5 x6 x7 x8
       obtain ⟨p0, p1, p2, p3, p4, p5, p6, p7, p8⟩ := cells9 h7
       obtain ⟨x0, x1, x2, x3, x4, x5, x6, x7, x8⟩ := cells9 h16
       clear h7 h16)
    | (go_at_call 7; refine (HK0.out _ B8.out).2.2.2.1.mono ?_; clear B8; rintro e y3 ⟨rfl, B9⟩
       obtain ⟨⟨h7, _, _, _, _⟩, _⟩ := HK0.out _ B9.out
       clear p0 p1 p2 p3 p4 p5 p6 p7 p8 x0 x1 x2 x3 x4 x5 x6 x7 x8
       have p8 := (cells9 h7).2.2.2.2.2.2.2.2
       clear h7)
    | (go_at_call 8; refine (HK0.out _ B9.out).2.2.2.2.mono ?_; clear B9 HK0 p8; rintro e z1 ⟨rfl, HK1⟩; have p8 := HK1.out.1)
    | (go_at_call 8; refine HK1.out.2.mono ?_; clear HK1 p8; rintro e z2 ⟨rfl, HK2⟩; have p8 := HK2.out.1)
    | (go_at_call 8; refine HK2.out.2.mono ?_; clear HK2 p8; rintro e z3 ⟨rfl, HK3⟩)
    | (go_at_call 9; refine HK3.out.mono ?_; clear HK3; rintro e z4 ⟨rfl, HK4⟩)
    | (go_at_call 5; refine HK4.out.mono ?_; clear HK4; rintro e w6 ⟨a6, c6, rfl, HK5⟩
       obtain ⟨x0, x1, x2, x3, x4, x5, x6, x7, x8⟩ := cells9 HK5.out.1)
    | (go_at_call 7; refine HK5.out.2.mono ?_; clear HK5; rintro e y5 ⟨rfl, HE⟩))
  exact HE.out
end Go.Proofs.YtecpknpcjoiliabDoor
