import Derived.Test.YtadmpgegolmkgaaDoorCYJ
namespace Go.Proofs.YtadmpgegolmkgaaDoor
open Go.RowKit
set_option linter.unusedVariables false
set_option linter.unusedSimpArgs false

theorem Due.fx {P : Nat → Prop} {w w' : World} {db eb dc : Nat} {x : Int} (h : Due w db eb dc x) (hb : Fx P w w') (h1 : ¬ P db) (h2 : ¬ P eb) : Due w' db eb dc x :=
  ⟨by rw [World.cell?_of_block (w := w) (hb.block db h.lt.2 h1)]; exact h.d0, (hb.block eb h.lt.1 h2).trans h.e0, h.cap, h.ne⟩
theorem WK.fx {P : Nat → Prop} {w w' : World} {wb kb db eb dc : Nat} {o : Obj} {K : List (Int × Int)} {x : Int} (h : WK w wb kb db eb dc o K x) (hb : Fx P w w') (h1 : ¬ P wb) (h2 : ¬ P kb) (h3 : ¬ P db) (h4 : ¬ P eb) : WK w' wb kb db eb dc o K x :=
  ⟨(hb.block wb (Array.getElem?_eq_some_iff.1 h.wk).1 h1).trans h.wk, (hb.block kb (Array.getElem?_eq_some_iff.1 h.kn).1 h2).trans h.kn, h.du.fx hb h3 h4, h.n1, h.n2, h.n3, h.n4, h.n5⟩
theorem WK.lts {w : World} {wb kb db eb dc : Nat} {o : Obj} {K : List (Int × Int)} {x : Int} (h : WK w wb kb db eb dc o K x) : wb < w.heap.size ∧ kb < w.heap.size ∧ db < w.heap.size ∧ eb < w.heap.size :=
  ⟨(Array.getElem?_eq_some_iff.1 h.wk).1, (Array.getElem?_eq_some_iff.1 h.kn).1, h.du.lt.2, h.du.lt.1⟩
abbrev NoP : Nat → Prop := fun _ => False
theorem Fx.no {w w' : World} (h : Below w.heap.size w w') : Fx NoP w w' := Fx.of h
set_option maxRecDepth 100000 in
set_option maxHeartbeats 2000000 in
theorem come_ex (w : World) (wb kb db eb dc : Nat) (a b c : Int) (r : Bool) (cd : Value) (n : Nat) (lv : Int) (pv mv : Value) (K : List (Int × Int)) (hW : WK w wb kb db eb dc (wkO a b c r cd kb n db dc lv pv mv) K 0) (hn : K.length = n) (i : Nat) (hi : i < n) (hi3 : i < 3) (hn3 : n ≤ 3) (hz : ∀ h : i < K.length, K[i].1 = 0) (ab s : Int) :
    Calls Tryd.prog 41 #[.pointer (some ⟨wb, 0, none⟩), .int .i64 i, .agg #[.int .i64 ab, .int .u64 s]] w fun e w' => e = .returned (.bool true) ∧ Bx (WK w' wb kb db eb dc (wkO a b c r cd kb n db dc lv pv mv) (K.set i (ab, s)) ((2 ^ i : Nat) : Int) ∧ Fx (fun k => k = kb ∨ k = eb) w w') := by
  obtain ⟨H, hH⟩ : ∃ H, w.heap.size = H := ⟨_, rfl⟩
  obtain ⟨l1, l2, l3, l4⟩ := hW.lts
  rw [hH] at l1 l2 l3 l4
  have hiK : i < K.length := by omega
  have hk := hW.kn
  have hw := hW.wk
  unfold wkO at hw
  obtain ⟨w0, hw0⟩ : ∃ w0, w.alloc (.cells #[.int .i64 ab, .int .u64 s] 66) = w0 := ⟨_, rfl⟩
  have b0 : Below H w w0 := by rw [← hw0, ← hH]; exact below1 w _
  have s0 : w0.heap.size = H + 1 := by rw [← hw0]; simp [hH]
  have q0 : w0.heap[H]? = some (.cells #[.int .i64 ab, .int .u64 s] 66 (0, 0)) := by rw [← hw0, ← hH]; exact heap_alloc_new w _
  have hw1 := (b0.block wb l1).trans hw
  have hk1 := (b0.block kb l2).trans hk
  obtain ⟨g1, g2⟩ := kC_get K i hiK
  have c5 : w0.cell? ⟨wb, 5, none⟩ = some (.slice (some ⟨kb, 0, none⟩) n n) := (cell_of_row w0 _ 5 _ _ _ hw1).trans rfl
  have c6 : w0.cell? ⟨wb, 6, none⟩ = some (.slice (some ⟨db, 0, none⟩) 1 dc) := (cell_of_row w0 _ 6 _ _ _ hw1).trans rfl
  have ca : w0.cell? ⟨kb, i * 2, none⟩ = some (.int .i64 0) := by rw [cell_of_row w0 _ _ _ _ _ hk1, g1, hz hiK]
  have ca1 : w0.cell? ⟨kb, i * 2 + 1, none⟩ = some (.int .u64 K[i].2) := (cell_of_row w0 _ _ _ _ _ hk1).trans g2
  have fz : ∀ j, w0.frozen? ⟨kb, j, none⟩ = false := fun j => by simp [World.frozen?, hk1]
  have p0 : w0.cell? ⟨H, 0, none⟩ = some (.int .i64 ab) := (cell_of_row w0 _ 0 _ _ _ q0).trans rfl
  have p1 : w0.cell? ⟨H, 1, none⟩ = some (.int .u64 s) := (cell_of_row w0 _ 1 _ _ _ q0).trans rfl
  have HA : Bx (∀ k, ((((w0.drewN k).setCell ⟨kb, i * 2, none⟩ (.int .i64 ab)).setCell ⟨kb, i * 2 + 1, none⟩ (.int .u64 s)).cell? ⟨wb, 6, none⟩ = some (.slice (some ⟨db, 0, none⟩) 1 dc)) ∧ Calls Tryd.prog 60 #[.slice (some ⟨db, 0, none⟩) 1 dc, .int .i64 i] (((w0.drewN k).setCell ⟨kb, i * 2, none⟩ (.int .i64 ab)).setCell ⟨kb, i * 2 + 1, none⟩ (.int .u64 s)) fun e w' => e = .returned (.tuple #[]) ∧ w'.cell? ⟨wb, 5, none⟩ = some (.slice (some ⟨kb, 0, none⟩) n n) ∧ w'.cell? ⟨kb, i * 2, none⟩ = some (.int .i64 ab) ∧ w'.cell? ⟨kb, i * 2 + 1, none⟩ = some (.int .u64 s) ∧ w'.cell? ⟨H, 0, none⟩ = some (.int .i64 ab) ∧ w'.cell? ⟨H, 1, none⟩ = some (.int .u64 s) ∧ Bx (WK w' wb kb db eb dc (wkO a b c r cd kb n db dc lv pv mv) (K.set i (ab, s)) ((2 ^ i : Nat) : Int) ∧ Fx (fun k => k = kb ∨ k = eb) w w')) := ⟨fun k => by
    have e1 := heap_setCell_same (w0.drewN k) kb (i * 2) (kC K) 66 (.int .i64 ab) hk1
    have e2 := heap_setCell_same _ kb (i * 2 + 1) _ 66 (.int .u64 s) e1
    rw [kC_set K i hiK] at e2
    have x2 : Fx (fun k => k = kb ∨ k = eb) w (((w0.drewN k).setCell ⟨kb, i * 2, none⟩ (.int .i64 ab)).setCell ⟨kb, i * 2 + 1, none⟩ (.int .u64 s)) := Fx.set (P := fun k => k = kb ∨ k = eb) (p := ⟨kb, i * 2 + 1, none⟩) (Fx.set (P := fun k => k = kb ∨ k = eb) (p := ⟨kb, i * 2, none⟩) ((Fx.of (hH ▸ b0)).drewN k) (.inl (.inl rfl)) _) (.inl (.inl rfl)) _
    have x1 : Fx (· = kb) w (((w0.drewN k).setCell ⟨kb, i * 2, none⟩ (.int .i64 ab)).setCell ⟨kb, i * 2 + 1, none⟩ (.int .u64 s)) := Fx.set (P := (· = kb)) (p := ⟨kb, i * 2 + 1, none⟩) (Fx.set (P := (· = kb)) (p := ⟨kb, i * 2, none⟩) ((Fx.of (hH ▸ b0)).drewN k) (.inl rfl) _) (.inl rfl) _
    have x3 : ∀ j, j ≠ kb → (((w0.drewN k).setCell ⟨kb, i * 2, none⟩ (.int .i64 ab)).setCell ⟨kb, i * 2 + 1, none⟩ (.int .u64 s)).heap[j]? = w0.heap[j]? := fun j hj => (Below.heap_setCell _ ⟨kb, i * 2 + 1, none⟩ _ j hj).trans (Below.heap_setCell (w0.drewN k) ⟨kb, i * 2, none⟩ _ j hj)
    have d2 := hW.du.fx x1 (fun e => hW.n4 e.symm) (fun e => hW.n5 e.symm)
    generalize ((w0.drewN k).setCell ⟨kb, i * 2, none⟩ (.int .i64 ab)).setCell ⟨kb, i * 2 + 1, none⟩ (.int .u64 s) = X at *
    have hwX := (x3 wb hW.n1).trans hw1
    refine ⟨(cell_of_row X _ 6 _ _ _ hwX).trans rfl, (add_any i hi3 X db eb dc d2).mono ?_⟩
    rintro e w' ⟨rfl, hb⟩
    obtain ⟨hd, hx⟩ := hb.out
    have sX : H + 1 ≤ X.heap.size := by have := x2.size; have h9 := Array.getElem?_eq_some_iff.1 ((x3 H (by omega)).trans q0); obtain ⟨h9, _⟩ := h9; omega
    have hw' := (hx.block wb (by omega) hW.n3).trans hwX
    have hk' := (hx.block kb (by omega) hW.n5).trans e2
    have hp' := (hx.block H (by omega) (by omega)).trans ((x3 H (by omega)).trans q0)
    obtain ⟨y1, y2⟩ := kC_get (K.set i (ab, s)) i (by simpa using hiK)
    simp only [List.getElem_set_self] at y1 y2
    refine ⟨rfl, (cell_of_row w' _ 5 _ _ _ hw').trans rfl, (cell_of_row w' _ _ _ _ _ hk').trans y1, (cell_of_row w' _ _ _ _ _ hk').trans y2, (cell_of_row w' _ 0 _ _ _ hp').trans rfl, (cell_of_row w' _ 1 _ _ _ hp').trans rfl, ⟨⟨hw', hk', hd, hW.n1, hW.n2, hW.n3, hW.n4, hW.n5⟩, x2.trans (hx.mono fun k _ hk => .inr hk)⟩⟩⟩
  have hkl0 : kb < w0.heap.size := by omega
  have hHl0 : H < w0.heap.size := by omega
  have hkH : kb ≠ H := by omega
  have hwk : wb ≠ kb := hW.n1
  clear hW hk hw hw1 hk1 q0 g1 g2
  generalize K[i].2 = z at *
  go_enter Tryd.func41, Tryd.ntmps41
  go_wp2
  go_region
  go_wp2_with (first
    | (go_at_call 60; refine Calls.mono (HA.out 1).2 ?_; rintro e w2 ⟨rfl, y5, y0, y1, z0, z1, HX⟩; clear HA c5 c6 ca ca1 fz p0 p1))
  go_quiet (fail)
  go_wp2
  go_ret
  exact ⟨by first | rfl | simp, ⟨HX.out.1.fx (P := NoP) ((Fx.refl _ _).drewN _) id id id id, HX.out.2.drewN _⟩⟩
end Go.Proofs.YtadmpgegolmkgaaDoor
namespace Go.Proofs.YtadmpgegolmkgaaDoor
open Go.RowKit
set_option linter.unusedVariables false
set_option linter.unusedSimpArgs false

/-- a walker in the midst of a prog -/
structure LK (w0 w : World) (wb kb db eb dc cb n : Nat) (pv mv : Value) (K : List (Int × Int)) (x : Int) : Prop where
  wk : WK w wb kb db eb dc (wkO 0 1 2 false (.slice (some ⟨cb, 0, none⟩) n n) kb n db dc 0 pv mv) K x
  bel : Below w0.heap.size w0 w
  g1 : w0.heap.size ≤ wb
  g2 : w0.heap.size ≤ kb
  g3 : w0.heap.size ≤ db
  g4 : w0.heap.size ≤ eb
  kl : K.length = n
theorem LK.below {w0 w w' : World} {wb kb db eb dc cb n : Nat} {pv mv : Value} {K : List (Int × Int)} {x : Int} (h : LK w0 w wb kb db eb dc cb n pv mv K x) (hb : Below w.heap.size w w') : LK w0 w' wb kb db eb dc cb n pv mv K x :=
  ⟨h.wk.fx (Fx.no hb) id id id id, h.bel.trans (hb.mono h.bel.size), h.g1, h.g2, h.g3, h.g4, h.kl⟩
theorem LK.drewN {w0 w : World} {wb kb db eb dc cb n : Nat} {pv mv : Value} {K : List (Int × Int)} {x : Int} (h : LK w0 w wb kb db eb dc cb n pv mv K x) (k : Nat) : LK w0 (w.drewN k) wb kb db eb dc cb n pv mv K x :=
  h.below ⟨rfl, rfl, rfl, Nat.le_refl _, fun _ _ => rfl⟩
theorem LK.cells {w0 w : World} {wb kb db eb dc cb n : Nat} {pv mv : Value} {K : List (Int × Int)} {x : Int} (h : LK w0 w wb kb db eb dc cb n pv mv K x) : w.cell? ⟨wb, 3, none⟩ = some (.bool false) ∧ w.cell? ⟨wb, 4, none⟩ = some (.slice (some ⟨cb, 0, none⟩) n n) ∧ w.cell? ⟨wb, 5, none⟩ = some (.slice (some ⟨kb, 0, none⟩) n n) ∧ w.cell? ⟨wb, 6, none⟩ = some (.slice (some ⟨db, 0, none⟩) 1 dc) ∧ w.cell? ⟨wb, 7, none⟩ = some (.int .i64 0) ∧ wb < w.heap.size := by
  have q := h.wk.wk
  unfold wkO at q
  exact ⟨(cell_of_row w _ 3 _ _ _ q).trans rfl, (cell_of_row w _ 4 _ _ _ q).trans rfl, (cell_of_row w _ 5 _ _ _ q).trans rfl, (cell_of_row w _ 6 _ _ _ q).trans rfl, (cell_of_row w _ 7 _ _ _ q).trans rfl, h.wk.lts.1⟩
theorem LK.known {w0 w : World} {wb kb db eb dc cb n : Nat} {pv mv : Value} {K : List (Int × Int)} {x : Int} (h : LK w0 w wb kb db eb dc cb n pv mv K x) (i : Nat) (hi : i < K.length) : w.cell? ⟨kb, i * 2, none⟩ = some (.int .i64 K[i].1) ∧ w.cell? ⟨kb, i * 2 + 1, none⟩ = some (.int .u64 K[i].2) := by
  obtain ⟨g1, g2⟩ := kC_get K i hi
  exact ⟨(cell_of_row w _ _ _ _ _ h.wk.kn).trans g1, (cell_of_row w _ _ _ _ _ h.wk.kn).trans g2⟩
theorem come_lk {w0 w : World} {wb kb db eb dc cb n : Nat} {pv mv : Value} {K : List (Int × Int)} (h : LK w0 w wb kb db eb dc cb n pv mv K 0) (i : Nat) (hi : i < n) (hn3 : n ≤ 3) (hz : ∀ h : i < K.length, K[i].1 = 0) (ab s : Int) :
    Calls Tryd.prog 41 #[.pointer (some ⟨wb, 0, none⟩), .int .i64 i, .agg #[.int .i64 ab, .int .u64 s]] w fun e w' => e = .returned (.bool true) ∧ Bx (LK w0 w' wb kb db eb dc cb n pv mv (K.set i (ab, s)) ((2 ^ i : Nat) : Int)) :=
  (come_ex w wb kb db eb dc 0 1 2 false _ n 0 pv mv K h.wk h.kl i hi (by omega) hn3 hz ab s).mono fun e w' hh => by
    obtain ⟨h1, h2⟩ := hh.2.out
    have hs := h.bel.size
    have hg2 := h.g2
    have hg4 := h.g4
    exact ⟨hh.1, ⟨h1, h.bel.trans (h2.bel hs (fun k hk e => by rcases e with e | e <;> omega)), h.g1, h.g2, h.g3, h.g4, by simpa using h.kl⟩⟩
set_option maxRecDepth 100000 in
set_option maxHeartbeats 1000000 in
theorem results_ex (w : World) (wb : Nat) (h : w.cell? ⟨wb, 3, none⟩ = some (.bool false)) : Calls Tryd.prog 65 #[.pointer (some ⟨wb, 0, none⟩)] w fun e w' => e = .returned (.int .i64 0) ∧ w = w' := by
  go_enter Tryd.func65, Tryd.ntmps65
  go_wp2
  go_ret
  exact ⟨rfl, rfl⟩
set_option maxRecDepth 100000 in
set_option maxHeartbeats 1000000 in
theorem needsValue_ex (op : Int) (h : op = 1 ∨ op = 5 ∨ op = 25) (w : World) : Calls Tryd.prog 66 #[.int .i64 op] w fun e w' => e = .returned (.bool false) ∧ w = w' := by
  rcases h with rfl | rfl | rfl
  all_goals
    go_enter Tryd.func66, Tryd.ntmps66
    go_wp2
    go_ret
    exact ⟨rfl, rfl⟩
set_option maxRecDepth 100000 in
set_option maxHeartbeats 1000000 in
theorem goesBehind_ex (op : Int) (h : op = 1 ∨ op = 5 ∨ op = 25) (w : World) : Calls Tryd.prog 68 #[.int .i64 op] w fun e w' => e = .returned (.bool (op != 25)) ∧ w = w' := by
  rcases h with rfl | rfl | rfl
  all_goals
    go_enter Tryd.func68, Tryd.ntmps68
    go_wp2
    go_ret
    exact ⟨rfl, rfl⟩
set_option maxRecDepth 100000 in
set_option maxHeartbeats 1000000 in
theorem slotsPast_ex (op a s s' : Int) (h : (op = 1 ∧ s' = s) ∨ (op = 5 ∧ a = 0 ∧ s = 0 ∧ s' = 1) ∨ (op = 25 ∧ s' = s)) (w : World) (wb : Nat) (h7 : w.cell? ⟨wb, 7, none⟩ = some (.int .i64 0)) : Calls Tryd.prog 69 #[.pointer (some ⟨wb, 0, none⟩), exV op a, .int .u64 s] w fun e w' => e = .returned (.int .u64 s') ∧ Below w.heap.size w w' := by
  have hwl : wb < w.heap.size := World.block_lt_of_cell? w _ h7
  have hb : Bx (∀ o, Below w.heap.size w (w.alloc o)) := ⟨fun o => below1 w o⟩
  have hb2 : Bx (∀ o k1 k2, Below w.heap.size w (((w.alloc o).drewN k1).drewN k2)) := ⟨fun o k1 k2 => ⟨rfl, rfl, rfl, by simp, fun k hk => (below1 w o).block k hk⟩⟩
  have HW : Bx (∀ o k, Calls Tryd.prog 82 #[.pointer (some ⟨wb, 7, none⟩), .int .u64 0, .int .i64 0] ((w.alloc o).drewN k) fun e w' => e = .returned (.int .u64 1) ∧ Bx (Below w.heap.size w w')) := ⟨fun o k => (with_ex ((w.alloc o).drewN k) wb (((below1 w o).cell (p := ⟨wb, 7, none⟩) hwl).trans h7)).mono fun e w' hh => ⟨hh.1, by obtain ⟨k2, rfl⟩ := hh.2; exact ⟨hb2.out _ _ _⟩⟩⟩
  rcases h with ⟨rfl, rfl⟩ | ⟨rfl, rfl, rfl, rfl⟩ | ⟨rfl, rfl⟩
  · go_enter Tryd.func69, Tryd.ntmps69
    go_wp2
    go_ret
    exact ⟨rfl, hb.out _⟩
  · go_enter Tryd.func69, Tryd.ntmps69
    go_wp2
    go_region_with (first
      | (go_at_call 82; refine (HW.out _ 1).mono ?_; rintro e w1 ⟨rfl, HX⟩))
    all_goals
      go_wp2
      go_ret
      exact ⟨rfl, HX.out⟩
  · go_enter Tryd.func69, Tryd.ntmps69
    go_wp2
    go_ret
    exact ⟨rfl, hb.out _⟩
end Go.Proofs.YtadmpgegolmkgaaDoor
namespace Go.Proofs.YtadmpgegolmkgaaDoor
open Go.RowKit
set_option linter.unusedVariables false
set_option linter.unusedSimpArgs false

set_option maxRecDepth 100000 in
set_option maxHeartbeats 2000000 in
theorem goOn_ret {w0 w : World} {wb kb db eb dc cb pb n : Nat} {pv mv : Value} {K l : List (Int × Int)} {x : Int} (h : LK w0 w wb kb db eb dc cb n pv mv K x) (hU : UE w0 pb cb l) (hl : l.length = n) (i : Nat) (hi : i < l.length) (ho : l[i].1 = 25) (ab s : Int) :
    Calls Tryd.prog 70 #[.pointer (some ⟨wb, 0, none⟩), .int .i64 i, .agg #[.int .i64 ab, .int .u64 s]] w fun e w' => e = .returned (.bool true) ∧ Bx (LK w0 w' wb kb db eb dc cb n pv mv K x) := by
  obtain ⟨c3, c4, c5, c6, c7, hwl⟩ := h.cells
  obtain ⟨u0, u1, u2, u3⟩ := (hU.below h.bel).cell i hi
  have hcl := (hU.below h.bel).lt.2
  rw [ho] at u0
  generalize l[i].2 = a at *
  rw [hl] at hi
  have HE : Bx (∀ o1 o2, LK w0 ((w.alloc o1).alloc o2) wb kb db eb dc cb n pv mv K x) := ⟨fun o1 o2 => h.below ((below1 w o1).alloc (by simp) o2)⟩
  have hn3 : n ≤ 3 := hl ▸ hU.len
  clear h hU
  go_enter Tryd.func70, Tryd.ntmps70
  go_wp2
  go_ret
  exact ⟨rfl, ⟨HE.out _ _⟩⟩
set_option maxRecDepth 100000 in
set_option maxHeartbeats 2000000 in
theorem goOn_on {w0 w : World} {wb kb db eb dc cb pb n : Nat} {pv mv : Value} {K l : List (Int × Int)} (h : LK w0 w wb kb db eb dc cb n pv mv K 0) (hU : UE w0 pb cb l) (hl : l.length = n) (i : Nat) (hi : i < l.length) (ho : l[i].1 = 1 ∨ l[i].1 = 5) (hi2 : i + 1 < n) (hz : ∀ h : i + 1 < K.length, K[i + 1].1 = 0) (ab s : Int) :
    Calls Tryd.prog 70 #[.pointer (some ⟨wb, 0, none⟩), .int .i64 i, .agg #[.int .i64 ab, .int .u64 s]] w fun e w' => e = .returned (.bool true) ∧ Bx (LK w0 w' wb kb db eb dc cb n pv mv (K.set (i + 1) (ab, s)) ((2 ^ (i + 1) : Nat) : Int)) := by
  obtain ⟨c3, c4, c5, c6, c7, hwl⟩ := h.cells
  obtain ⟨u0, u1, u2, u3⟩ := (hU.below h.bel).cell i hi
  have hcl := (hU.below h.bel).lt.2
  have hn3 : n ≤ 3 := hl ▸ hU.len
  generalize l[i].2 = a at *
  generalize l[i].1 = op at *
  rw [hl] at hi
  have HC : Bx (∀ o1 o2, Calls Tryd.prog 41 #[.pointer (some ⟨wb, 0, none⟩), .int .i64 ((i : Int) + 1), .agg #[.int .i64 ab, .int .u64 s]] ((w.alloc o1).alloc o2) fun e w' => e = .returned (.bool true) ∧ Bx (LK w0 w' wb kb db eb dc cb n pv mv (K.set (i + 1) (ab, s)) ((2 ^ (i + 1) : Nat) : Int))) := ⟨fun o1 o2 => come_lk (h.below ((below1 w o1).alloc (by simp) o2)) (i + 1) hi2 hn3 hz ab s⟩
  clear h hU hz
  rcases ho with rfl | rfl
  all_goals
    go_enter Tryd.func70, Tryd.ntmps70
    go_wp2_with (first
      | (go_at_call 41; refine (HC.out _ _).mono ?_; rintro e w1 ⟨rfl, HX⟩))
    go_ret
    exact ⟨rfl, HX⟩
end Go.Proofs.YtadmpgegolmkgaaDoor
namespace Go.Proofs.YtadmpgegolmkgaaDoor
open Go.RowKit
set_option linter.unusedVariables false
set_option linter.unusedSimpArgs false

/-- a copy of an instruction and one of how it is come to, in blocks of their own -/
structure LC (w X : World) (ib yb : Nat) (op a ab s : Int) : Prop where
  bel : Below w.heap.size w X
  ih : X.heap[ib]? = some (.cells #[.int .i64 op, .int .i64 a, .int .i64 0, .slice none 0 0] 43 (0, 0))
  yh : X.heap[yb]? = some (.cells #[.int .i64 ab, .int .u64 s] 66 (0, 0))
  ne : ib ≠ yb
  l1 : w.heap.size ≤ ib
  l2 : w.heap.size ≤ yb
theorem LC.below {w X X' : World} {ib yb : Nat} {op a ab s : Int} (h : LC w X ib yb op a ab s) (hb : Below X.heap.size X X') : LC w X' ib yb op a ab s :=
  ⟨h.bel.trans (hb.mono h.bel.size), (hb.block _ (Array.getElem?_eq_some_iff.1 h.ih).1).trans h.ih, (hb.block _ (Array.getElem?_eq_some_iff.1 h.yh).1).trans h.yh, h.ne, h.l1, h.l2⟩
theorem LC.cells {w X : World} {ib yb : Nat} {op a ab s : Int} (h : LC w X ib yb op a ab s) : X.cell? ⟨ib, 0, none⟩ = some (.int .i64 op) ∧ X.cell? ⟨ib, 1, none⟩ = some (.int .i64 a) ∧ X.cell? ⟨ib, 2, none⟩ = some (.int .i64 0) ∧ X.cell? ⟨ib, 3, none⟩ = some (.slice none 0 0) ∧ X.cell? ⟨yb, 0, none⟩ = some (.int .i64 ab) ∧ X.cell? ⟨yb, 1, none⟩ = some (.int .u64 s) ∧ X.frozen? ⟨yb, 0, none⟩ = false ∧ X.frozen? ⟨yb, 1, none⟩ = false :=
  ⟨(cell_of_row X _ 0 _ _ _ h.ih).trans rfl, (cell_of_row X _ 1 _ _ _ h.ih).trans rfl, (cell_of_row X _ 2 _ _ _ h.ih).trans rfl, (cell_of_row X _ 3 _ _ _ h.ih).trans rfl, (cell_of_row X _ 0 _ _ _ h.yh).trans rfl, (cell_of_row X _ 1 _ _ _ h.yh).trans rfl, by simp [World.frozen?, h.yh], by simp [World.frozen?, h.yh]⟩
theorem LC.set0 {w X : World} {ib yb : Nat} {op a ab s : Int} (h : LC w X ib yb op a ab s) (v : Int) : LC w (X.setCell ⟨yb, 0, none⟩ (.int .i64 v)) ib yb op a v s :=
  ⟨h.bel.setCell (p := ⟨yb, 0, none⟩) h.l2 _, (Below.heap_setCell X ⟨yb, 0, none⟩ _ ib h.ne).trans h.ih, heap_setCell_same X yb 0 _ _ _ h.yh, h.ne, h.l1, h.l2⟩
theorem LC.set1 {w X : World} {ib yb : Nat} {op a ab s : Int} (h : LC w X ib yb op a ab s) (v : Int) : LC w (X.setCell ⟨yb, 1, none⟩ (.int .u64 v)) ib yb op a ab v :=
  ⟨h.bel.setCell (p := ⟨yb, 1, none⟩) h.l2 _, (Below.heap_setCell X ⟨yb, 1, none⟩ _ ib h.ne).trans h.ih, heap_setCell_same X yb 1 _ _ _ h.yh, h.ne, h.l1, h.l2⟩
theorem LC.drewN {w X : World} {ib yb : Nat} {op a ab s : Int} (h : LC w X ib yb op a ab s) (k : Nat) : LC w (X.drewN k) ib yb op a ab s := h.below ⟨rfl, rfl, rfl, Nat.le_refl _, fun _ _ => rfl⟩
theorem LC.one (w : World) (op a ab s : Int) : LC w (((w.alloc (.cells #[.int .i64 op, .int .i64 a, .int .i64 0, .slice none 0 0] 43)).alloc (.cells #[.int .i64 ab, .int .u64 s] 66)).drew) w.heap.size (w.heap.size + 1) op a ab s := by
  obtain ⟨X, hX⟩ : ∃ X, w.alloc (.cells #[.int .i64 op, .int .i64 a, .int .i64 0, .slice none 0 0] 43) = X := ⟨_, rfl⟩
  have sX : X.heap.size = w.heap.size + 1 := by rw [← hX]; simp
  have qX : X.heap[w.heap.size]? = some (.cells #[.int .i64 op, .int .i64 a, .int .i64 0, .slice none 0 0] 43 (0, 0)) := by rw [← hX]; exact heap_alloc_new w _
  have bX : Below w.heap.size w X := by rw [← hX]; exact below1 w _
  rw [hX]
  exact ⟨(bX.alloc (by omega) _).drew, ((below1 X (.cells #[.int .i64 ab, .int .u64 s] 66)).block _ (by omega)).trans qX, by rw [← sX]; exact heap_alloc_new X _, by omega, Nat.le_refl _, by omega⟩
theorem LC.two (w : World) (op a ab s : Int) : LC w (((w.alloc (.cells #[.int .i64 ab, .int .u64 s] 66)).alloc (.cells #[.int .i64 op, .int .i64 a, .int .i64 0, .slice none 0 0] 43)).drew) (w.heap.size + 1) w.heap.size op a ab s := by
  obtain ⟨X, hX⟩ : ∃ X, w.alloc (.cells #[.int .i64 ab, .int .u64 s] 66) = X := ⟨_, rfl⟩
  have sX : X.heap.size = w.heap.size + 1 := by rw [← hX]; simp
  have qX : X.heap[w.heap.size]? = some (.cells #[.int .i64 ab, .int .u64 s] 66 (0, 0)) := by rw [← hX]; exact heap_alloc_new w _
  have bX : Below w.heap.size w X := by rw [← hX]; exact below1 w _
  rw [hX]
  exact ⟨(bX.alloc (by omega) _).drew, by rw [← sX]; exact heap_alloc_new X _, ((below1 X (.cells #[.int .i64 op, .int .i64 a, .int .i64 0, .slice none 0 0] 43)).block _ (by omega)).trans qX, by omega, by omega, Nat.le_refl _⟩
/-- the examples' kinds of steps: operation, A, how it is come to, what it takes and lays -/
def St (op a ab s po pu ab' s' : Int) : Prop := (op = 25 ∧ a = 0 ∧ ab = 1 ∧ po = 0 ∧ pu = 0 ∧ ab' = 1 ∧ s' = s) ∨ (op = 1 ∧ a = 1 ∧ ab = 1 ∧ s = 0 ∧ po = 0 ∧ pu = 1 ∧ ab' = 2 ∧ s' = 0) ∨ (op = 5 ∧ a = 0 ∧ ab = 2 ∧ s = 0 ∧ po = 1 ∧ pu = 0 ∧ ab' = 1 ∧ s' = 1)
theorem pops_25 : popsI ⟨25, 0, 0, []⟩ = 0 ∧ popsI ⟨1, 1, 0, []⟩ = 0 ∧ popsI ⟨5, 0, 0, []⟩ = 1 ∧ pushesI ⟨25, 0, 0, []⟩ = 0 ∧ pushesI ⟨1, 1, 0, []⟩ = 1 ∧ pushesI ⟨5, 0, 0, []⟩ = 0 := by decide
theorem pops_c {w0 w X : World} {ib yb : Nat} {op a ab s po pu ab' s' : Int} (hV : VW w0) (hb : Below w0.heap.size w0 w) (h : LC w X ib yb op a ab s) (hs : (op = 25 ∧ a = 0 ∧ po = 0) ∨ (op = 1 ∧ a = 1 ∧ po = 0) ∨ (op = 5 ∧ a = 0 ∧ po = 1)) : Calls Tryd.prog 16 #[exV op a] X fun e w' => e = .returned (.int .i64 po) ∧ LC w w' ib yb op a ab s := by
  have hS : Shp X := (hV.below (hb.trans (h.bel.mono hb.size))).shp
  have e := pops_25
  have := Pops_any X X.heap.size ⟨op, a, 0, []⟩ none 0 hS (by rcases hs with ⟨rfl, rfl, _⟩ | ⟨rfl, rfl, _⟩ | ⟨rfl, rfl, _⟩ <;> exact ⟨by unfold I64; decide, by unfold I64; decide, by unfold I64; decide, fun k hk => by simp at hk⟩) (intsV_nil _ _ _ _) (by simp) (Nat.le_refl _)
  refine Calls.mono this ?_
  rintro e' w' ⟨rfl, hb'⟩
  refine ⟨?_, h.below hb'⟩
  rcases hs with ⟨rfl, rfl, rfl⟩ | ⟨rfl, rfl, rfl⟩ | ⟨rfl, rfl, rfl⟩
  · exact ret_int e.1
  · exact ret_int e.2.1
  · exact ret_int e.2.2.1
theorem pushes_c {w0 w X : World} {ib yb : Nat} {op a ab s pu : Int} (hV : VW w0) (hb : Below w0.heap.size w0 w) (h : LC w X ib yb op a ab s) (hs : (op = 25 ∧ a = 0 ∧ pu = 0) ∨ (op = 1 ∧ a = 1 ∧ pu = 1) ∨ (op = 5 ∧ a = 0 ∧ pu = 0)) : Calls Tryd.prog 30 #[exV op a] X fun e w' => e = .returned (.int .i64 pu) ∧ LC w w' ib yb op a ab s := by
  have hS : Shp X := (hV.below (hb.trans (h.bel.mono hb.size))).shp
  have e := pops_25
  have := Pushes_any X ⟨op, a, 0, []⟩ none 0 hS (by rcases hs with ⟨rfl, rfl, _⟩ | ⟨rfl, rfl, _⟩ | ⟨rfl, rfl, _⟩ <;> exact ⟨by unfold I64; decide, by unfold I64; decide, by unfold I64; decide, fun k hk => by simp at hk⟩)
  refine Calls.mono this ?_
  rintro e' w' ⟨rfl, hb'⟩
  refine ⟨?_, h.below hb'⟩
  rcases hs with ⟨rfl, rfl, rfl⟩ | ⟨rfl, rfl, rfl⟩ | ⟨rfl, rfl, rfl⟩
  · exact ret_int e.2.2.2.1
  · exact ret_int e.2.2.2.2.1
  · exact ret_int e.2.2.2.2.2
end Go.Proofs.YtadmpgegolmkgaaDoor
