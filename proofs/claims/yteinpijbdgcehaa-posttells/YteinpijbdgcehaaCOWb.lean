import Derived.Test.YteinpijbdgcehaaCOWa
namespace Go.Proofs.Yteinpijbdgcehaa
open Go.RowKit Go.Shelf
set_option linter.unusedVariables false
set_option linter.unusedSimpArgs false

theorem blk_set {W : World} {g : Nat} {us : Array Value} {t : TypeId} {fr : Nat × Nat} (h : W.heap[g]? = some (.cells us t fr)) (j : Nat) (v : Value) : (W.setCell ⟨g, j, none⟩ v).heap[g]? = some (.cells (us.setIfInBounds j v) t fr) := by
  simp [World.setCell, Array.getElem?_modify, h]
set_option maxRecDepth 100000 in
set_option maxHeartbeats 4000000 in
/-- a process's arm -/
theorem arm_any (w : World) (Pr : Nat → Prop) (hPr : ∀ b, Pr b → ∃ o : Obj, w.heap[b]? = some o ∧ o.isCells = true) (p : Option Addr) (c : Nat) (l : List OWt) (hl : WsIn w Pr p c l) (k n : Nat) (hk : k < l.length) (hn : n < l[k].arms.length) (hu : ∀ j (h : j < l.length), j < k → l[j].id ≠ l[k].id) :
    Calls Try.prog 18 #[.slice p l.length c, .int .i64 l[k].id, .int .i64 n] w fun e w' => e = .returned (armV l[k].arms[n]) ∧ Below w.heap.size w w' := by
  have hlc := hl.len
  have hcm := hl.max
  unfold maxLen at hcm
  have hlW : WsIn (w.alloc (.cells #[.int .i64 0, .bool false, .int .i64 0, .int .i64 0, .slice none 0 0] 43)) Pr p c l := hl.keep (Kpt.of_below hPr (below1 _ _))
  have HB : Bx (Below w.heap.size w (w.alloc (.cells #[.int .i64 0, .bool false, .int .i64 0, .int .i64 0, .slice none 0 0] 43))) := ⟨below1 _ _⟩
  clear hl
  go_enter Try.func18, Try.ntmps18
  go_wp2
  obtain ⟨W1, hW1⟩ : ∃ W1, w.alloc (.cells #[.int .i64 0, .bool false, .int .i64 0, .int .i64 0, .slice none 0 0] 43) = W1 := ⟨_, rfl⟩
  have hbx : W1.heap[w.heap.size]? = some (.cells #[.int .i64 0, .bool false, .int .i64 0, .int .i64 0, .slice none 0 0] 43) := by rw [← hW1]; exact World.alloc_heap_new _ _
  rw [hW1] at hlW HB ⊢
  go_loopg [7] (l.length + 1) (fun g v wr => ∃ i : Nat, g = l.length + 1 - i ∧ i ≤ k ∧ v = .int .i64 i ∧ Bx (wr = W1))
  case atStart => exact ⟨0, by simp, by omega, rfl, ⟨rfl⟩⟩
  case round =>
    obtain ⟨i, hg, hil, rfl, HW⟩ := hrel
    obtain rfl : wr = W1 := HW.out
    clear HW
    obtain ⟨b, o, q, d, rfl, hb, c0, c1, hA, _⟩ := hlW.at_ i (by omega)
    by_cases hik : i < k
    · have hne : (l[i].id == l[k].id) = false := by simpa using hu i (by omega) hik
      go_wp2
      go_roundg (l.length + 1 - (i + 1))
      case measure => omega
      case rel => exact ⟨i + 1, rfl, by omega, by simp, ⟨rfl⟩⟩
    · obtain rfl : i = k := by omega
      obtain ⟨b2, o2, rfl, hb2, ha⟩ := hA.at_ n hn
      have hA1 := hA.len
      have hA2 := hA.max
      unfold maxLen at hA2
      have a0 := ha.c0
      have a1 := ha.c1
      have a2 := ha.c2
      have a3 := ha.c3
      have a4 := ha.c4
      have f0 : wr.cell? ⟨w.heap.size, 0, none⟩ = some (.int .i64 0) := cell_of hbx rfl
      have f1 : wr.cell? ⟨w.heap.size, 1, none⟩ = some (.bool false) := cell_of hbx rfl
      have f2 : wr.cell? ⟨w.heap.size, 2, none⟩ = some (.int .i64 0) := cell_of hbx rfl
      have f3 : wr.cell? ⟨w.heap.size, 3, none⟩ = some (.int .i64 0) := cell_of hbx rfl
      have f4 : wr.cell? ⟨w.heap.size, 4, none⟩ = some (.slice none 0 0) := cell_of hbx rfl
      have g0 : ∀ j, wr.frozen? ⟨w.heap.size, j, none⟩ = false := fun j => by simp [World.frozen?, hbx]
      have g1 := g0 0
      have g2 := g0 1
      have g3 := g0 2
      have g4 := g0 3
      have g5 := g0 4
      have hfin : ∀ a : OArm, (((((wr.setCell ⟨w.heap.size, 0, none⟩ (.int .i64 a.chan)).setCell ⟨w.heap.size, 1, none⟩ (.bool a.send)).setCell ⟨w.heap.size, 2, none⟩ (.int .i64 a.x)).setCell ⟨w.heap.size, 3, none⟩ (.int .i64 a.y)).setCell ⟨w.heap.size, 4, none⟩ (.slice a.zp a.zn a.zc)).heap[w.heap.size]? = some (.cells #[.int .i64 a.chan, .bool a.send, .int .i64 a.x, .int .i64 a.y, .slice a.zp a.zn a.zc] 43) := fun a => by
        have := blk_set (blk_set (blk_set (blk_set (blk_set hbx 0 (.int .i64 a.chan)) 1 (.bool a.send)) 2 (.int .i64 a.x)) 3 (.int .i64 a.y)) 4 (.slice a.zp a.zn a.zc)
        simpa using this
      have HFN : Bx _ := ⟨hfin⟩
      have HBL : Bx (∀ a : OArm, Below w.heap.size w (((((wr.setCell ⟨w.heap.size, 0, none⟩ (.int .i64 a.chan)).setCell ⟨w.heap.size, 1, none⟩ (.bool a.send)).setCell ⟨w.heap.size, 2, none⟩ (.int .i64 a.x)).setCell ⟨w.heap.size, 3, none⟩ (.int .i64 a.y)).setCell ⟨w.heap.size, 4, none⟩ (.slice a.zp a.zn a.zc))) := ⟨fun a => ((((HB.out.setCell (p := ⟨w.heap.size, 0, none⟩) (Nat.le_refl _) _).setCell (p := ⟨w.heap.size, 1, none⟩) (Nat.le_refl _) _).setCell (p := ⟨w.heap.size, 2, none⟩) (Nat.le_refl _) _).setCell (p := ⟨w.heap.size, 3, none⟩) (Nat.le_refl _) _).setCell (p := ⟨w.heap.size, 4, none⟩) (Nat.le_refl _) _⟩
      clear ha hA hlW g0 hfin
      go_wp2
      generalize l[i].arms[n] = a at *
      obtain ⟨X, hX⟩ : ∃ X, (((((wr.setCell ⟨w.heap.size, 0, none⟩ (.int .i64 a.chan)).setCell ⟨w.heap.size, 1, none⟩ (.bool a.send)).setCell ⟨w.heap.size, 2, none⟩ (.int .i64 a.x)).setCell ⟨w.heap.size, 3, none⟩ (.int .i64 a.y)).setCell ⟨w.heap.size, 4, none⟩ (.slice a.zp a.zn a.zc)) = X := ⟨_, rfl⟩
      have hx := HFN.out a
      have hbl := HBL.out a
      rw [hX] at hx hbl ⊢
      have z0 : X.cell? ⟨w.heap.size, 0, none⟩ = some (.int .i64 a.chan) := cell_of hx rfl
      have z1 : X.cell? ⟨w.heap.size, 1, none⟩ = some (.bool a.send) := cell_of hx rfl
      have z2 : X.cell? ⟨w.heap.size, 2, none⟩ = some (.int .i64 a.x) := cell_of hx rfl
      have z3 : X.cell? ⟨w.heap.size, 3, none⟩ = some (.int .i64 a.y) := cell_of hx rfl
      have z4 : X.cell? ⟨w.heap.size, 4, none⟩ = some (.slice a.zp a.zn a.zc) := cell_of hx rfl
      exact bodyPost_ret (v := armV a) (by simp [results, Try.results18, go_sem, z0, z1, z2, z3, z4, armV]) rfl ⟨rfl, hbl⟩
/-- is a pair ahead of another one? -/
def prX (x : OPr) : List Int := [x.p, x.i, x.q, x.j]
theorem rise_at {x y : OPr} (h : orise x y) : ∃ r, r < 4 ∧ (∀ m, m < r → (prX x)[m]? = (prX y)[m]?) ∧ ∃ u v, (prX x)[r]? = some u ∧ (prX y)[r]? = some v ∧ u < v := by
  unfold orise at h
  rcases h with h | ⟨h0, h | ⟨h1, h | ⟨h2, h⟩⟩⟩
  · exact ⟨0, by omega, fun m hm => by omega, _, _, rfl, rfl, h⟩
  · exact ⟨1, by omega, fun m hm => by
      rcases (show m = 0 by omega) with rfl
      simp [prX, h0], _, _, rfl, rfl, by omega⟩
  · exact ⟨2, by omega, fun m hm => by
      rcases (show m = 0 ∨ m = 1 by omega) with rfl | rfl
      · simp [prX, h0]
      · simp [prX, h1], _, _, rfl, rfl, h⟩
  · exact ⟨3, by omega, fun m hm => by
      rcases (show m = 0 ∨ m = 1 ∨ m = 2 by omega) with rfl | rfl | rfl
      · simp [prX, h0]
      · simp [prX, h1]
      · simp [prX, h2], _, _, rfl, rfl, by omega⟩
def pV (x : OPr) : Value := .agg #[.int .i64 x.p, .int .i64 x.i, .int .i64 x.q, .int .i64 x.j, .int .i64 x.ch]
set_option maxRecDepth 100000 in
set_option maxHeartbeats 4000000 in
theorem rises_yes (w : World) (x y : OPr) (h : orise x y) : Calls Try.prog 19 #[pV x, pV y] w fun e w' => e = .returned (.bool true) ∧ Below w.heap.size w w' := by
  obtain ⟨r, hr, heq, u, v, hu, hv, huv⟩ := rise_at h
  clear h
  obtain ⟨H, hH⟩ : ∃ H, w.heap.size = H := ⟨_, rfl⟩
  obtain ⟨X, hX⟩ : ∃ X, (((w.alloc (.cells #[.int .i64 x.p, .int .i64 x.i, .int .i64 x.q, .int .i64 x.j, .int .i64 x.ch] 47)).alloc (.cells #[.int .i64 y.p, .int .i64 y.i, .int .i64 y.q, .int .i64 y.j, .int .i64 y.ch] 47)).alloc (.cells #[.int .i64 x.p, .int .i64 x.i, .int .i64 x.q, .int .i64 x.j] 67)).alloc (.cells #[.int .i64 y.p, .int .i64 y.i, .int .i64 y.q, .int .i64 y.j] 67) = X := ⟨_, rfl⟩
  have hbX : Below w.heap.size w X := by rw [← hX]; exact (two_new _ _ _).trans ((two_new _ _ _).mono (by simp; omega))
  have hz3 : (((w.alloc (.cells #[.int .i64 x.p, .int .i64 x.i, .int .i64 x.q, .int .i64 x.j, .int .i64 x.ch] 47)).alloc (.cells #[.int .i64 y.p, .int .i64 y.i, .int .i64 y.q, .int .i64 y.j, .int .i64 y.ch] 47)).alloc (.cells #[.int .i64 x.p, .int .i64 x.i, .int .i64 x.q, .int .i64 x.j] 67)).heap.size = H + 1 + 1 + 1 := by simp [hH]
  have hz2 : ((w.alloc (.cells #[.int .i64 x.p, .int .i64 x.i, .int .i64 x.q, .int .i64 x.j, .int .i64 x.ch] 47)).alloc (.cells #[.int .i64 y.p, .int .i64 y.i, .int .i64 y.q, .int .i64 y.j, .int .i64 y.ch] 47)).heap.size = H + 1 + 1 := by simp [hH]
  have k2 : X.heap[H + 1 + 1]? = some (.cells #[.int .i64 x.p, .int .i64 x.i, .int .i64 x.q, .int .i64 x.j] 67) := by
    rw [← hX]
    refine (Below.heap_alloc _ _ _ (by omega)).trans ?_
    rw [← hz2]; exact World.alloc_heap_new _ _
  have k3 : X.heap[H + 1 + 1 + 1]? = some (.cells #[.int .i64 y.p, .int .i64 y.i, .int .i64 y.q, .int .i64 y.j] 67) := by
    rw [← hX, ← hz3]; exact World.alloc_heap_new _ _
  have KX : Bx (∀ m z, (prX x)[m]? = some z → X.cell? ⟨H + 1 + 1, m, none⟩ = some (.int .i64 z)) := ⟨fun m z hz => cell_of k2 (by
    have : (#[Value.int .i64 x.p, .int .i64 x.i, .int .i64 x.q, .int .i64 x.j] : Array Value)[m]? = ((prX x)[m]?).map (Value.int .i64) := by
      match m with
      | 0 => rfl
      | 1 => rfl
      | 2 => rfl
      | 3 => rfl
      | m + 4 => simp [prX]
    rw [this, hz]; rfl)⟩
  have KY : Bx (∀ m z, (prX y)[m]? = some z → X.cell? ⟨H + 1 + 1 + 1, m, none⟩ = some (.int .i64 z)) := ⟨fun m z hz => cell_of k3 (by
    have : (#[Value.int .i64 y.p, .int .i64 y.i, .int .i64 y.q, .int .i64 y.j] : Array Value)[m]? = ((prX y)[m]?).map (Value.int .i64) := by
      match m with
      | 0 => rfl
      | 1 => rfl
      | 2 => rfl
      | 3 => rfl
      | m + 4 => simp [prX]
    rw [this, hz]; rfl)⟩
  have HB : Bx (Below w.heap.size w X) := ⟨hbX⟩
  clear k2 k3 hz2 hz3 hbX
  simp only [pV]
  go_enter Try.func19, Try.ntmps19
  go_wp2
  clear hX
  go_loopg [7] 5 (fun g vv wr => ∃ i : Nat, g = 5 - i ∧ i ≤ r ∧ vv = .int .i64 i ∧ Bx ((∀ a, wr.cell? a = X.cell? a) ∧ Below w.heap.size w wr))
  case atStart => exact ⟨0, by simp, by omega, rfl, ⟨fun _ => rfl, HB.out⟩⟩
  case round =>
    obtain ⟨i, hg, hil, rfl, HR⟩ := hrel
    have HD : Bx (∀ n, (∀ a, (wr.drewN n).cell? a = X.cell? a) ∧ Below w.heap.size w (wr.drewN n)) := ⟨fun n => ⟨HR.out.1, ⟨HR.out.2.os, HR.out.2.tape, HR.out.2.output, HR.out.2.size, HR.out.2.block⟩⟩⟩
    by_cases hir : i < r
    · obtain ⟨z, hz⟩ : ∃ z, (prX x)[i]? = some z := ⟨(prX x)[i]'(by simp [prX]; omega), List.getElem?_eq_getElem (by simp [prX]; omega)⟩
      have m1 : wr.cell? ⟨H + 1 + 1, i, none⟩ = some (.int .i64 z) := (HR.out.1 _).trans (KX.out i z hz)
      have m2 : wr.cell? ⟨H + 1 + 1 + 1, i, none⟩ = some (.int .i64 z) := (HR.out.1 _).trans (KY.out i z ((heq i hir).symm.trans hz))
      clear HR
      go_wp2
      go_quiet (fail)
      go_wp2
      go_roundg (5 - (i + 1))
      case measure => omega
      case rel => exact ⟨i + 1, rfl, by omega, by simp, ⟨HD.out _⟩⟩
    · obtain rfl : i = r := by omega
      have m1 : wr.cell? ⟨H + 1 + 1, i, none⟩ = some (.int .i64 u) := (HR.out.1 _).trans (KX.out i u hu)
      have m2 : wr.cell? ⟨H + 1 + 1 + 1, i, none⟩ = some (.int .i64 v) := (HR.out.1 _).trans (KY.out i v hv)
      have g1 : (u != v) = true := by simp; omega
      have g2 : decide (u < v) = true := by simpa using huv
      clear HR
      go_wp2
      go_quiet (fail)
      go_wp2
      go_quiet (fail)
      go_wp2
      go_ret
      exact ⟨rfl, by rw [World.drewN_drewN]; exact (HD.out _).2⟩
end Go.Proofs.Yteinpijbdgcehaa
