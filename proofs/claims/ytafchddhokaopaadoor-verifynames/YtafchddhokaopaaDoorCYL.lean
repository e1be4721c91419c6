import Derived.Test.YtafchddhokaopaaDoorCYK
namespace Go.Proofs.YtafchddhokaopaaDoor
open Go.RowKit
set_option linter.unusedVariables false
set_option linter.unusedSimpArgs false

theorem Due.fx {P : Nat → Prop} {w w' : World} {db eb dc : Nat} {x : Int} (h : Due w db eb dc x) (hb : Fx P w w') (h1 : ¬ P db) (h2 : ¬ P eb) : Due w' db eb dc x :=
  ⟨by rw [World.cell?_of_block (w := w) (hb.block db h.lt.2 h1)]; exact h.d0, (hb.block eb h.lt.1 h2).trans h.e0, h.cap, h.ne⟩
theorem WK.fx {P : Nat → Prop} {w w' : World} {wb kb db eb dc : Nat} {o : Obj} {K : List (Int × Int)} {x : Int} (h : WK w wb kb db eb dc o K x) (hb : Fx P w w') (h1 : ¬ P wb) (h2 : ¬ P kb) (h3 : ¬ P db) (h4 : ¬ P eb) : WK w' wb kb db eb dc o K x :=
  ⟨(hb.block wb (Array.getElem?_eq_some_iff.1 h.wk).1 h1).trans h.wk, (hb.block kb (Array.getElem?_eq_some_iff.1 h.kn).1 h2).trans h.kn, h.du.fx hb h3 h4, h.n1, h.n2, h.n3, h.n4, h.n5⟩
theorem WK.lts {w : World} {wb kb db eb dc : Nat} {o : Obj} {K : List (Int × Int)} {x : Int} (h : WK w wb kb db eb dc o K x) : wb < w.heap.size ∧ kb < w.heap.size ∧ db < w.heap.size ∧ eb < w.heap.size :=
  ⟨(Array.getElem?_eq_some_iff.1 h.wk).1, (Array.getElem?_eq_some_iff.1 h.kn).1, h.du.lt.2, h.du.lt.1⟩
abbrev NoP : Nat → Prop := fun _ => False
theorem Fx.no {w w' : World} (h : Below w.heap.size w w') : Fx NoP w w' := Fx.of h
set_option maxRecDepth 100000 in
set_option maxHeartbeats 2000000 in
theorem come_ex (w : World) (wb kb db eb dc : Nat) (a b c : Int) (r : Bool) (cd : Value) (n : Nat) (lv : Int) (pv mv : Value) (K : List (Int × Int)) (hW : WK w wb kb db eb dc (wkO a b c r cd kb n db dc lv pv mv) K 0) (hn : K.length = n) (i : Nat) (hi : i < n) (hi3 : i < 3) (hn3 : n ≤ 3) (hz : ∀ h : i < K.length, K[i].1 = 0) (ab s : Int) :
    Calls Tryd.prog 42 #[.pointer (some ⟨wb, 0, none⟩), .int .i64 i, .agg #[.int .i64 ab, .int .u64 s]] w fun e w' => e = .returned (.bool true) ∧ Bx (WK w' wb kb db eb dc (wkO a b c r cd kb n db dc lv pv mv) (K.set i (ab, s)) ((2 ^ i : Nat) : Int) ∧ Fx (fun k => k = kb ∨ k = eb) w w') := by
  obtain ⟨H, hH⟩ : ∃ H, w.heap.size = H := ⟨_, rfl⟩
  obtain ⟨l1, l2, l3, l4⟩ := hW.lts
  rw [hH] at l1 l2 l3 l4
  have hiK : i < K.length := by omega
  have hk := hW.kn
  have hw := hW.wk
  unfold wkO at hw
  obtain ⟨w0, hw0⟩ : ∃ w0, w.alloc (.cells #[.int .i64 ab, .int .u64 s] 66) = w0 := ⟨_, rfl⟩
  have b0 : Below H w w0 := by rw [← hw0, ← hH]; exact below1 w _
  have s0 : w0.heap.size = H + 1 := by rw [← hw0]; simp [hH]
  have q0 : w0.heap[H]? = some (.cells #[.int .i64 ab, .int .u64 s] 66 (0, 0)) := by rw [← hw0, ← hH]; exact heap_alloc_new w _
  have hw1 := (b0.block wb l1).trans hw
  have hk1 := (b0.block kb l2).trans hk
  obtain ⟨g1, g2⟩ := kC_get K i hiK
  have c5 : w0.cell? ⟨wb, 5, none⟩ = some (.slice (some ⟨kb, 0, none⟩) n n) := (cell_of_row w0 _ 5 _ _ _ hw1).trans rfl
  have c6 : w0.cell? ⟨wb, 6, none⟩ = some (.slice (some ⟨db, 0, none⟩) 1 dc) := (cell_of_row w0 _ 6 _ _ _ hw1).trans rfl
  have ca : w0.cell? ⟨kb, i * 2, none⟩ = some (.int .i64 0) := by rw [cell_of_row w0 _ _ _ _ _ hk1, g1, hz hiK]
  have ca1 : w0.cell? ⟨kb, i * 2 + 1, none⟩ = some (.int .u64 K[i].2) := (cell_of_row w0 _ _ _ _ _ hk1).trans g2
  have fz : ∀ j, w0.frozen? ⟨kb, j, none⟩ = false := fun j => by simp [World.frozen?, hk1]
  have p0 : w0.cell? ⟨H, 0, none⟩ = some (.int .i64 ab) := (cell_of_row w0 _ 0 _ _ _ q0).trans rfl
  have p1 : w0.cell? ⟨H, 1, none⟩ = some (.int .u64 s) := (cell_of_row w0 _ 1 _ _ _ q0).trans rfl
  have HA : Bx (∀ k, ((((w0.drewN k).setCell ⟨kb, i * 2, none⟩ (.int .i64 ab)).setCell ⟨kb, i * 2 + 1, none⟩ (.int .u64 s)).cell? ⟨wb, 6, none⟩ = some (.slice (some ⟨db, 0, none⟩) 1 dc)) ∧ Calls Tryd.prog 61 #[.slice (some ⟨db, 0, none⟩) 1 dc, .int .i64 i] (((w0.drewN k).setCell ⟨kb, i * 2, none⟩ (.int .i64 ab)).setCell ⟨kb, i * 2 + 1, none⟩ (.int .u64 s)) fun e w' => e = .returned (.tuple #[]) ∧ w'.cell? ⟨wb, 5, none⟩ = some (.slice (some ⟨kb, 0, none⟩) n n) ∧ w'.cell? ⟨kb, i * 2, none⟩ = some (.int .i64 ab) ∧ w'.cell? ⟨kb, i * 2 + 1, none⟩ = some (.int .u64 s) ∧ w'.cell? ⟨H, 0, none⟩ = some (.int .i64 ab) ∧ w'.cell? ⟨H, 1, none⟩ = some (.int .u64 s) ∧ Bx (WK w' wb kb db eb dc (wkO a b c r cd kb n db dc lv pv mv) (K.set i (ab, s)) ((2 ^ i : Nat) : Int) ∧ Fx (fun k => k = kb ∨ k = eb) w w')) := ⟨fun k => by
    have e1 := heap_setCell_same (w0.drewN k) kb (i * 2) (kC K) 66 (.int .i64 ab) hk1
    have e2 := heap_setCell_same _ kb (i * 2 + 1) _ 66 (.int .u64 s) e1
    rw [kC_set K i hiK] at e2
    have x2 : Fx (fun k => k = kb ∨ k = eb) w (((w0.drewN k).setCell ⟨kb, i * 2, none⟩ (.int .i64 ab)).setCell ⟨kb, i * 2 + 1, none⟩ (.int .u64 s)) := Fx.set (P := fun k => k = kb ∨ k = eb) (p := ⟨kb, i * 2 + 1, none⟩) (Fx.set (P := fun k => k = kb ∨ k = eb) (p := ⟨kb, i * 2, none⟩) ((Fx.of (hH ▸ b0)).drewN k) (.inl (.inl rfl)) _) (.inl (.inl rfl)) _
    have x1 : Fx (· = kb) w (((w0.drewN k).setCell ⟨kb, i * 2, none⟩ (.int .i64 ab)).setCell ⟨kb, i * 2 + 1, none⟩ (.int .u64 s)) := Fx.set (P := (· = kb)) (p := ⟨kb, i * 2 + 1, none⟩) (Fx.set (P := (· = kb)) (p := ⟨kb, i * 2, none⟩) ((Fx.of (hH ▸ b0)).drewN k) (.inl rfl) _) (.inl rfl) _
    have x3 : ∀ j, j ≠ kb → (((w0.drewN k).setCell ⟨kb, i * 2, none⟩ (.int .i64 ab)).setCell ⟨kb, i * 2 + 1, none⟩ (.int .u64 s)).heap[j]? = w0.heap[j]? := fun j hj => (Below.heap_setCell _ ⟨kb, i * 2 + 1, none⟩ _ j hj).trans (Below.heap_setCell (w0.drewN k) ⟨kb, i * 2, none⟩ _ j hj)
    have d2 := hW.du.fx x1 (fun e => hW.n4 e.symm) (fun e => hW.n5 e.symm)
    generalize ((w0.drewN k).setCell ⟨kb, i * 2, none⟩ (.int .i64 ab)).setCell ⟨kb, i * 2 + 1, none⟩ (.int .u64 s) = X at *
    have hwX := (x3 wb hW.n1).trans hw1
    refine ⟨(cell_of_row X _ 6 _ _ _ hwX).trans rfl, (add_any i hi3 X db eb dc d2).mono ?_⟩
    rintro e w' ⟨rfl, hb⟩
    obtain ⟨hd, hx⟩ := hb.out
    have sX : H + 1 ≤ X.heap.size := by have := x2.size; have h9 := Array.getElem?_eq_some_iff.1 ((x3 H (by omega)).trans q0); obtain ⟨h9, _⟩ := h9; omega
    have hw' := (hx.block wb (by omega) hW.n3).trans hwX
    have hk' := (hx.block kb (by omega) hW.n5).trans e2
    have hp' := (hx.block H (by omega) (by omega)).trans ((x3 H (by omega)).trans q0)
    obtain ⟨y1, y2⟩ := kC_get (K.set i (ab, s)) i (by simpa using hiK)
    simp only [List.getElem_set_self] at y1 y2
    refine ⟨rfl, (cell_of_row w' _ 5 _ _ _ hw').trans rfl, (cell_of_row w' _ _ _ _ _ hk').trans y1, (cell_of_row w' _ _ _ _ _ hk').trans y2, (cell_of_row w' _ 0 _ _ _ hp').trans rfl, (cell_of_row w' _ 1 _ _ _ hp').trans rfl, ⟨⟨hw', hk', hd, hW.n1, hW.n2, hW.n3, hW.n4, hW.n5⟩, x2.trans (hx.mono fun k _ hk => .inr hk)⟩⟩⟩
  have hkl0 : kb < w0.heap.size := by omega
  have hHl0 : H < w0.heap.size := by omega
  have hkH : kb ≠ H := by omega
  have hwk : wb ≠ kb := hW.n1
  clear hW hk hw hw1 hk1 q0 g1 g2
  generalize K[i].2 = z at *
  go_enter Tryd.func42, Tryd.ntmps42
  go_wp2
  go_region
  go_wp2_with (first
    | (go_at_call 61; refine Calls.mono (HA.out 1).2 ?_; rintro e w2 ⟨rfl, y5, y0, y1, z0, z1, HX⟩; clear HA c5 c6 ca ca1 fz p0 p1))
  go_quiet (fail)
  go_wp2
  go_ret
  exact ⟨by first | rfl | simp, ⟨HX.out.1.fx (P := NoP) ((Fx.refl _ _).drewN _) id id id id, HX.out.2.drewN _⟩⟩
end Go.Proofs.YtafchddhokaopaaDoor
