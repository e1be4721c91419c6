import Derived.Test.YtpnbjkegpbpcjaaDoorCUWb
namespace Go.Proofs.YtpnbjkegpbpcjaaDoor
open Go.RowKit Go.Shelf
set_option linter.unusedVariables false
set_option linter.unusedSimpArgs false

/-- all that lies about once the picks are copied -/
structure WI (w : World) (m : Lm) (rp : Bool) (pa : Option Addr) (pc : Nat) (ps : List Pk) (ob ib : Nat) (L : List Pk) (W : World) : Prop where
  bel : Below w.heap.size w W
  sb : W.heap[w.heap.size]? = some (.cells #[.int .i64 m.a, .int .i64 m.b, .int .i64 m.c, .int .i64 m.d, .int .i64 m.e, .int .i64 m.f, .int .i64 m.g, .bool rp, .slice pa ps.length pc] 31 (0, 0))
  ow : OW W ob L
  ib : W.heap[ib]? = some (.cells #[.int .i64 m.a, .int .i64 m.b, .int .i64 m.c, .int .i64 m.d, .int .i64 m.e, .int .i64 m.f, .int .i64 m.g, .bool rp, .slice (some ⟨ob, 0, none⟩) ps.length (ps.length + 2)] 31 (0, 0))
theorem WI.below {w W W' : World} {m : Lm} {rp : Bool} {pa : Option Addr} {pc ob ib : Nat} {ps L : List Pk} (h : WI w m rp pa pc ps ob ib L W) (hb : Below W.heap.size W W') : WI w m rp pa pc ps ob ib L W' :=
  ⟨h.bel.trans (hb.mono h.bel.size), below_heap hb h.sb, below_heap hb h.ow, below_heap hb h.ib⟩
theorem WI.drew {w W : World} {m : Lm} {rp : Bool} {pa : Option Addr} {pc ob ib : Nat} {ps L : List Pk} (h : WI w m rp pa pc ps ob ib L W) : WI w m rp pa pc ps ob ib L W.drew := ⟨h.bel.drew, h.sb, h.ow, h.ib⟩
/-- what stands ahead of the first Print -/
structure WPr (w : World) (m : Lm) (rp : Bool) (pa : Option Addr) (pc : Nat) (ps : List Pk) (w1 W2 W3 W4 W5 W6 W7 : World) : Prop where
  mk2 : (Instr.makeSlice 29 (.int .i64 ((ps.length : Int) + 2)) (.int .i64 ((ps.length : Int) + 2))).run Tryd.prog w1 = .ok (.slice (some ⟨w1.heap.size, 0, none⟩) (ps.length + 2) (ps.length + 2)) W2
  cp : ∀ ty, (Builtin.copy_ #[29, 29] ty #[.slice (some ⟨w1.heap.size, 0, none⟩) (ps.length + 2) (ps.length + 2), .slice pa ps.length pc]).run Tryd.prog W2 = .ok (goInt ps.length) W3
  e4 : W3.setCell ⟨w1.heap.size, ps.length * 3, none⟩ (.int .i64 (-7)) = W4
  e5 : W4.setCell ⟨w1.heap.size, (ps.length + 1) * 3, none⟩ (.int .i64 (-8)) = W5
  e6 : W5.alloc (.cells #[.int .i64 m.a, .int .i64 m.b, .int .i64 m.c, .int .i64 m.d, .int .i64 m.e, .int .i64 m.f, .int .i64 m.g, .bool rp, .slice pa ps.length pc] 31) = W6
  e7 : W6.setCell ⟨w1.heap.size + 1, 8, none⟩ (.slice (some ⟨w1.heap.size, 0, none⟩) ps.length (ps.length + 2)) = W7
  c2 : W2.cell? ⟨w.heap.size, 8, none⟩ = some (.slice pa ps.length pc)
  c3 : W3.cell? ⟨w1.heap.size, ps.length * 3, none⟩ = some (.int .i64 0) ∧ W3.frozen? ⟨w1.heap.size, ps.length * 3, none⟩ = false
  c4 : W4.cell? ⟨w1.heap.size, (ps.length + 1) * 3, none⟩ = some (.int .i64 0) ∧ W4.frozen? ⟨w1.heap.size, (ps.length + 1) * 3, none⟩ = false
  c5 : W5.heap[w.heap.size]? = some (.cells #[.int .i64 m.a, .int .i64 m.b, .int .i64 m.c, .int .i64 m.d, .int .i64 m.e, .int .i64 m.f, .int .i64 m.g, .bool rp, .slice pa ps.length pc] 31 (0, 0))
  s5 : W5.heap.size = w1.heap.size + 1
  c6 : W6.cell? ⟨w1.heap.size + 1, 8, none⟩ = some (.slice pa ps.length pc) ∧ W6.frozen? ⟨w1.heap.size + 1, 8, none⟩ = false
  wi : WI w m rp pa pc ps w1.heap.size (w1.heap.size + 1) (tnL ps 0) W7
theorem writes_prep (w : World) (m : Lm) (rp : Bool) (pa : Option Addr) (pc : Nat) (ps : List Pk) (hp : PkV w w.heap.size pa ps) (hN : ps.length ≤ 5864062014634) (w1 : World) (hb : Below w.heap.size w w1)
    (hs : w1.heap[w.heap.size]? = some (.cells #[.int .i64 m.a, .int .i64 m.b, .int .i64 m.c, .int .i64 m.d, .int .i64 m.e, .int .i64 m.f, .int .i64 m.g, .bool rp, .slice pa ps.length pc] 31 (0, 0))) :
    ∃ W2 W3 W4 W5 W6 W7, WPr w m rp pa pc ps w1 W2 W3 W4 W5 W6 W7 := by
  have hsl := heap_lt hs
  obtain ⟨W2, hW2⟩ : ∃ W, w1.alloc (.cells (madeCells zP ((ps.length + 2) * 3)) 39) = W := ⟨_, rfl⟩
  have hb2 : Below w1.heap.size w1 W2 := by rw [← hW2]; exact below1 _ _
  have hs2 : W2.heap.size = w1.heap.size + 1 := by rw [← hW2]; simp
  have hg2 : W2.heap[w1.heap.size]? = some (.cells (madeCells zP ((ps.length + 2) * 3)) 39 (0, 0)) := by rw [← hW2]; exact heap_newH _ _ _ rfl
  have hmk := make_picks w1 (ps.length + 2) (by omega)
  rw [hW2, show ((ps.length + 2 : Nat) : Int) = (ps.length : Int) + 2 by omega] at hmk
  have hbw2 := hb.trans (hb2.mono hb.size)
  obtain ⟨W3, hcp, ho3, hk3, hz3⟩ := copy_picks W2 w1.heap.size pa pc ps ((hp.below hbw2).up hbw2.size) hg2
  have hs3 : W2.heap.size ≤ W3.heap.size := hk3.size
  have hl3 : (ps ++ [⟨0, 0, 0⟩, ⟨0, 0, 0⟩] : List Pk).length = ps.length + 2 := by simp
  obtain ⟨W4, hW4⟩ : ∃ W, W3.setCell ⟨w1.heap.size, ps.length * 3, none⟩ (.int .i64 (-7)) = W := ⟨_, rfl⟩
  have ho4 : OW W4 w1.heap.size (ps ++ [⟨-7, 0, 0⟩, ⟨0, 0, 0⟩]) := by
    have := ho3.kind (i := ps.length) (by omega) (-7)
    rw [hW4] at this
    have e : (ps ++ [⟨0, 0, 0⟩, ⟨0, 0, 0⟩] : List Pk)[ps.length]'(by omega) = ⟨0, 0, 0⟩ := by simp
    rw [e, List.set_append, if_neg (by omega), Nat.sub_self] at this
    exact this
  obtain ⟨W5, hW5⟩ : ∃ W, W4.setCell ⟨w1.heap.size, (ps.length + 1) * 3, none⟩ (.int .i64 (-8)) = W := ⟨_, rfl⟩
  have hl4 : (ps ++ [⟨-7, 0, 0⟩, ⟨0, 0, 0⟩] : List Pk).length = ps.length + 2 := by simp
  have ho5 : OW W5 w1.heap.size (ps ++ [⟨-7, 0, 0⟩, ⟨-8, 0, 0⟩]) := by
    have := ho4.kind (i := ps.length + 1) (by omega) (-8)
    rw [hW5] at this
    have e : (ps ++ [⟨-7, 0, 0⟩, ⟨0, 0, 0⟩] : List Pk)[ps.length + 1]'(by omega) = ⟨0, 0, 0⟩ := by simp
    rw [e, List.set_append, if_neg (by omega), show ps.length + 1 - ps.length = 1 by omega] at this
    exact this
  have k4 : Kx (fun x => x = w1.heap.size) W2 W4 := hk3.trans (by rw [← hW4]; exact Kx.set (P := fun x => x = w1.heap.size) W3 _ _ rfl) fun _ _ h => h
  have k5 : Kx (fun x => x = w1.heap.size) W2 W5 := k4.trans (by rw [← hW5]; exact Kx.set (P := fun x => x = w1.heap.size) W4 _ _ rfl) fun _ _ h => h
  have hsW2 := below_heap hb2 hs
  have hs5 : W5.heap.size = w1.heap.size + 1 := by
    rw [← hW5, ← hW4]
    simp [hz3, hs2]
  have hsW5 := k5.at_ hsW2 (by omega)
  obtain ⟨W6, hW6⟩ : ∃ W, W5.alloc (.cells #[.int .i64 m.a, .int .i64 m.b, .int .i64 m.c, .int .i64 m.d, .int .i64 m.e, .int .i64 m.f, .int .i64 m.g, .bool rp, .slice pa ps.length pc] 31) = W := ⟨_, rfl⟩
  have hb6 : Below W5.heap.size W5 W6 := by rw [← hW6]; exact below1 _ _
  have hi6 : W6.heap[w1.heap.size + 1]? = some (.cells #[.int .i64 m.a, .int .i64 m.b, .int .i64 m.c, .int .i64 m.d, .int .i64 m.e, .int .i64 m.f, .int .i64 m.g, .bool rp, .slice pa ps.length pc] 31 (0, 0)) := by rw [← hW6]; exact heap_newH _ _ _ hs5
  obtain ⟨W7, hW7⟩ : ∃ W, W6.setCell ⟨w1.heap.size + 1, 8, none⟩ (.slice (some ⟨w1.heap.size, 0, none⟩) ps.length (ps.length + 2)) = W := ⟨_, rfl⟩
  have k7 : Kx (fun x => x = w1.heap.size + 1) W6 W7 := by rw [← hW7]; exact Kx.set (P := fun x => x = w1.heap.size + 1) W6 _ _ rfl
  have hi7 : W7.heap[w1.heap.size + 1]? = some (.cells #[.int .i64 m.a, .int .i64 m.b, .int .i64 m.c, .int .i64 m.d, .int .i64 m.e, .int .i64 m.f, .int .i64 m.g, .bool rp, .slice (some ⟨w1.heap.size, 0, none⟩) ps.length (ps.length + 2)] 31 (0, 0)) := by
    rw [← hW7]
    have := Lib.heap_setCell_same (i := 8) hi6 (.slice (some ⟨w1.heap.size, 0, none⟩) ps.length (ps.length + 2))
    simpa using this
  have hbs := hb.size
  have hbel : Below w.heap.size w W7 := by
    refine (hbw2.trans (k5.below (by omega) fun x hx => by omega)).trans ?_
    exact (hb6.mono (by omega)).trans (k7.below (by have := hb6.size; omega) fun x hx => by omega)
  have x3 := ho3.cell (i := ps.length) (by omega)
  have x4 := ho4.cell (i := ps.length + 1) (by omega)
  have ex3 : ((ps ++ [⟨0, 0, 0⟩, ⟨0, 0, 0⟩] : List Pk)[ps.length]'(by omega)) = ⟨0, 0, 0⟩ := by simp
  have ex4 : ((ps ++ [⟨-7, 0, 0⟩, ⟨0, 0, 0⟩] : List Pk)[ps.length + 1]'(by omega)) = ⟨0, 0, 0⟩ := by simp
  rw [ex3] at x3
  rw [ex4] at x4
  refine ⟨W2, W3, W4, W5, W6, W7, hmk, hcp, hW4, hW5, hW6, hW7, cell_blk hsW2 rfl, ⟨x3.1, ho3.frz _⟩, ⟨x4.1, ho4.frz _⟩, hsW5, hs5, ⟨cell_blk hi6 rfl, frz_blk hi6⟩, hbel, ?_, ?_, hi7⟩
  · exact k7.at_ (below_heap hb6 hsW5) (by omega)
  · rw [tnL_zero]
    exact (ho5.below hb6).kx k7 (by omega)
theorem WI.turn {w W : World} {m : Lm} {rp : Bool} {pa : Option Addr} {pc ob ib : Nat} {ps : List Pk} {i j : Nat} (h : WI w m rp pa pc ps ob ib (tnL ps i) W) (hi : i < ps.length) (hj : j = ps.length - 1 - i) (hjl : j < ps.length) (ho : w.heap.size < ob) (hib : ib = ob + 1) :
    WI w m rp pa pc ps ob ib (tnL ps (i + 1)) (((W.setCell ⟨ob, i * 3, none⟩ (.int .i64 ps[j].kind)).setCell ⟨ob, i * 3 + 1, none⟩ (.int .i64 ps[j].n)).setCell ⟨ob, i * 3 + 2, none⟩ (.int .i64 ps[j].v)) := by
  have s : ∀ (X : World) (i : Nat) (v : Value), Kx (fun z => z = ob) X (X.setCell ⟨ob, i, none⟩ v) := fun X i v => Kx.set X i v rfl
  have k : Kx (fun z => z = ob) W (((W.setCell ⟨ob, i * 3, none⟩ (.int .i64 ps[j].kind)).setCell ⟨ob, i * 3 + 1, none⟩ (.int .i64 ps[j].n)).setCell ⟨ob, i * 3 + 2, none⟩ (.int .i64 ps[j].v)) := ((s _ _ _).trans (s _ _ _) fun _ _ h => h).trans (s _ _ _) fun _ _ h => h
  refine ⟨h.bel.trans (k.below h.bel.size fun x hx => by omega), k.at_ h.sb (by omega), ?_, k.at_ h.ib (by omega)⟩
  have := h.ow.put (i := i) (by rw [tnL_len ps (by omega)]; omega) ps[j].kind ps[j].n ps[j].v
  have e : (⟨ps[j].kind, ps[j].n, ps[j].v⟩ : Pk) = ps[j] := rfl
  rw [e, tnL_set ps hi j hj] at this
  exact this
/-- the copy of what is turned round -/
theorem writes_app {w : World} {m : Lm} {rp : Bool} {pa : Option Addr} {pc ob ib : Nat} {ps : List Pk} (hN : ps.length ≤ 5864062014634) (ho : w.heap.size < ob) (hib : ib = ob + 1) (wr : World) (h : WI w m rp pa pc ps ob ib (tnL ps ps.length) wr) :
    ∃ g c W22, (∀ ty, (Builtin.append_ #[29, 29] ty #[.slice (some ⟨wr.heap.size + 1, 0, none⟩) 0 0, .slice (some ⟨ob, 0, none⟩) ps.length (ps.length + 2)]).run Tryd.prog ((wr.alloc (.cells #[.int .i64 m.a, .int .i64 m.b, .int .i64 m.c, .int .i64 m.d, .int .i64 m.e, .int .i64 m.f, .int .i64 m.g, .bool rp, .slice (some ⟨ob, 0, none⟩) ps.length (ps.length + 2)] 31)).alloc (.cells #[] 39)) = .ok (.slice (some ⟨g, 0, none⟩) ps.length c) W22) ∧ W22.cell? ⟨wr.heap.size, 8, none⟩ = some (.slice (some ⟨ob, 0, none⟩) ps.length (ps.length + 2)) ∧ W22.frozen? ⟨wr.heap.size, 8, none⟩ = false ∧
      WI w m rp pa pc ps ob ib (tnL ps ps.length) (W22.setCell ⟨wr.heap.size, 8, none⟩ (.slice (some ⟨g, 0, none⟩) ps.length c)) ∧ (W22.setCell ⟨wr.heap.size, 8, none⟩ (.slice (some ⟨g, 0, none⟩) ps.length c)).heap[wr.heap.size]? = some (.cells #[.int .i64 m.a, .int .i64 m.b, .int .i64 m.c, .int .i64 m.d, .int .i64 m.e, .int .i64 m.f, .int .i64 m.g, .bool rp, .slice (some ⟨g, 0, none⟩) ps.length c] 31 (0, 0)) ∧ PkV (W22.setCell ⟨wr.heap.size, 8, none⟩ (.slice (some ⟨g, 0, none⟩) ps.length c)) (W22.setCell ⟨wr.heap.size, 8, none⟩ (.slice (some ⟨g, 0, none⟩) ps.length c)).heap.size (some ⟨g, 0, none⟩) ps.reverse := by
  obtain ⟨X, hX⟩ : ∃ X, X = (wr.alloc (.cells #[.int .i64 m.a, .int .i64 m.b, .int .i64 m.c, .int .i64 m.d, .int .i64 m.e, .int .i64 m.f, .int .i64 m.g, .bool rp, .slice (some ⟨ob, 0, none⟩) ps.length (ps.length + 2)] 31)).alloc (.cells #[] 39) := ⟨_, rfl⟩
  have hbX : Below wr.heap.size wr X := by rw [hX]; exact (below1 wr _).alloc (by simp) _
  have hsX : X.heap.size = wr.heap.size + 2 := by rw [hX]; simp
  have ht : X.heap[wr.heap.size]? = some (.cells #[.int .i64 m.a, .int .i64 m.b, .int .i64 m.c, .int .i64 m.d, .int .i64 m.e, .int .i64 m.f, .int .i64 m.g, .bool rp, .slice (some ⟨ob, 0, none⟩) ps.length (ps.length + 2)] 31 (0, 0)) := by rw [hX]; exact below_heap (below1 _ _) (heap_newH _ _ _ rfl)
  have hg0 : X.heap[wr.heap.size + 1]? = some (.cells #[] 39 (0, 0)) := by rw [hX]; exact heap_newH _ _ _ (by simp)
  have hxi := h.below hbX
  have hv := hxi.ow.view ps.length (by rw [tnL_len ps (Nat.le_refl _)]; unfold maxLen; omega)
  have e : (tnL ps ps.length).take ps.length = ps.reverse := by
    rw [tnL_all, List.take_append_of_le_length (by simp)]
    exact List.take_of_length_le (by simp)
  rw [e] at hv
  obtain ⟨g, c, W22, hr, hpo, hgr⟩ := app_picks X (wr.heap.size + 1) (some ⟨ob, 0, none⟩) (ps.length + 2) ps.reverse hg0 hv (by simp; omega)
  simp only [List.length_reverse] at hr hpo
  have hz := hgr.size
  have hobl := heap_lt h.ow
  have hibl := heap_lt h.ib
  have hbl := h.bel.size
  have hkb : ∀ x, x < wr.heap.size + 1 → W22.heap[x]? = X.heap[x]? := fun x hx => hgr.block x (by omega) (fun e => by cases e; omega)
  have ht2 : W22.heap[wr.heap.size]? = some (.cells #[.int .i64 m.a, .int .i64 m.b, .int .i64 m.c, .int .i64 m.d, .int .i64 m.e, .int .i64 m.f, .int .i64 m.g, .bool rp, .slice (some ⟨ob, 0, none⟩) ps.length (ps.length + 2)] 31 (0, 0)) := by rw [hkb _ (by omega)]; exact ht
  have k := Kx.set (P := fun x => x = wr.heap.size) W22 8 (.slice (some ⟨g, 0, none⟩) ps.length c) (b := wr.heap.size) rfl
  have hq := hpo.row
  rw [← hX]
  refine ⟨g, c, W22, hr, cell_blk ht2 rfl, frz_blk ht2, ⟨?_, ?_, ?_, ?_⟩, ?_, ?_⟩
  · have hbw : Below w.heap.size w W22 := (hxi.bel).grown hgr (by omega) fun x hx => by cases hx; omega
    exact hbw.trans (k.below hbw.size fun x hx => by omega)
  · exact k.at_ (by rw [hkb _ (by omega)]; exact hxi.sb) (by omega)
  · exact OW.kx (w := W22) (by unfold OW; rw [hkb _ (by omega)]; exact hxi.ow) k (by omega)
  · exact k.at_ (by rw [hkb _ (by omega)]; exact hxi.ib) (by omega)
  · have := Lib.heap_setCell_same (i := 8) ht2 (.slice (some ⟨g, 0, none⟩) ps.length c)
    simpa using this
  · have hpo2 : PkO W22 (wr.heap.size + 1) (.slice (some ⟨g, 0, none⟩) ps.length c) ps.reverse := hpo
    have hp3 : PkO (W22.setCell ⟨wr.heap.size, 8, none⟩ (.slice (some ⟨g, 0, none⟩) ps.length c)) (wr.heap.size + 1) (.slice (some ⟨g, 0, none⟩) ps.length c) ps.reverse := owns_kx hpo2 k fun x hx e => by
      have := (owns_block hpo2 hx).1
      omega
    exact hp3.view
end Go.Proofs.YtpnbjkegpbpcjaaDoor
