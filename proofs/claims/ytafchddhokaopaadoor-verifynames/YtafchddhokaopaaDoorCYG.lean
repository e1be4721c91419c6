import Derived.Test.YtafchddhokaopaaDoorCYF
namespace Go.Proofs.YtafchddhokaopaaDoor
open Go.RowKit
set_option linter.unusedVariables false
set_option linter.unusedSimpArgs false

abbrev unE (pb : Nat) : Value := .agg #[.slice (some ⟨pb, 0, none⟩) 1 1, .slice none 0 0]
set_option maxRecDepth 100000 in
set_option maxHeartbeats 2000000 in
theorem wrongAlone_ex (w : World) (hV : VW w) (pb cb : Nat) (l : List (Int × Int)) (hU : UE w pb cb l) : Calls Tryd.prog 21 #[unE pb] w fun e w' => e = .returned (.tuple #[.int .i64 0, .int .i64 0, .int .i64 0]) ∧ Below w.heap.size w w' := by
  obtain ⟨H, hH⟩ : ∃ H, w.heap.size = H := ⟨_, rfl⟩
  have hpl : pb < H := hH ▸ hU.lt.1
  obtain ⟨w0, hw0⟩ : ∃ w0, w.alloc (.cells #[.slice (some ⟨pb, 0, none⟩) 1 1, .slice none 0 0] 25) = w0 := ⟨_, rfl⟩
  have b0 : Below H w w0 := by rw [← hw0, ← hH]; exact below1 w _
  have s0 : w0.heap.size = H + 1 := by rw [← hw0]; simp [hH]
  have q0 : w0.heap[H]? = some (.cells #[.slice (some ⟨pb, 0, none⟩) 1 1, .slice none 0 0] 25 (0, 0)) := by rw [← hw0, ← hH]; exact heap_alloc_new w _
  have e0 : w0.cell? ⟨H, 0, none⟩ = some (.slice (some ⟨pb, 0, none⟩) 1 1) := (cell_of_row w0 _ 0 _ _ _ q0).trans rfl
  have e1 : w0.cell? ⟨H, 1, none⟩ = some (.slice none 0 0) := (cell_of_row w0 _ 1 _ _ _ q0).trans rfl
  have HC : Bx (∀ X, Below (H + 1) w0 X → X.cell? ⟨H, 0, none⟩ = some (.slice (some ⟨pb, 0, none⟩) 1 1) ∧ X.cell? ⟨H, 1, none⟩ = some (.slice none 0 0)) := ⟨fun X hX => by
    have r0 : X.heap[H]? = _ := (hX.block H (by omega)).trans q0
    exact ⟨(cell_of_row X _ 0 _ _ _ r0).trans rfl, (cell_of_row X _ 1 _ _ _ r0).trans rfl⟩⟩
  have HD : Bx (∀ X, Below (H + 1) w0 X → Calls Tryd.prog 36 #[.slice none 0 0] X fun e w' => ∃ g, e = .returned (.slice (some ⟨g, 0, none⟩) 0 0) ∧ Below (H + 1) w0 w') := ⟨fun X hX => (defaults_nil X).mono fun e w' hh => ⟨_, hh.1, hX.trans (hh.2.mono (by have := hX.size; omega))⟩⟩
  have hbr : Below (H + 1) w0 w0 := Below.refl _ _
  have hlt0 : H < w0.heap.size := by omega
  rw [hH]
  go_enter Tryd.func21, Tryd.ntmps21
  go_wp2
  clear e0 e1 q0
  go_region_held3 (fun w' => w'.cell? ⟨H, 0, none⟩ = some (.slice (some ⟨pb, 0, none⟩) 1 1) ∧ w'.cell? ⟨H, 1, none⟩ = some (.slice none 0 0))
    (first | exact HC.out _ (hz1.alloc (by have := hz1.size; omega) _) | exact HC.out _ hz1.drew | exact HC.out _ hz1 | exact HC.out _ hbr.drew)
    (first
      | (go_at_call 36; refine Calls.mono (HD.out _ hbr.drew) ?_; rintro e z1 ⟨g, rfl, hz1⟩))
  rename_i hHeld
  obtain ⟨J, hJ⟩ : ∃ J, z1.heap.size = J := ⟨_, rfl⟩
  obtain ⟨w2, hw2⟩ : ∃ w2, z1.alloc (.cells #[.slice (some ⟨pb, 0, none⟩) 1 1, .slice (some ⟨g, 0, none⟩) 0 0, .int .i64 0, .int .i64 0, .int .i64 0, .bool false, .slice none 0 0] 87) = w2 := ⟨_, rfl⟩
  rw [hw2, hJ]
  have hJH : H + 1 ≤ J := by have := hz1.size; omega
  have b2 : Below J z1 w2 := by rw [← hw2, ← hJ]; exact below1 z1 _
  have s2 : w2.heap.size = J + 1 := by rw [← hw2]; simp [hJ]
  have q2 : w2.heap[J]? = some (.cells #[.slice (some ⟨pb, 0, none⟩) 1 1, .slice (some ⟨g, 0, none⟩) 0 0, .int .i64 0, .int .i64 0, .int .i64 0, .bool false, .slice none 0 0] 87 (0, 0)) := by rw [← hw2, ← hJ]; exact heap_alloc_new z1 _
  have hb2 : Below H w w2 := b0.trans ((hz1.mono (by omega)).trans (b2.mono (by omega)))
  obtain ⟨f0, f1⟩ := HC.out w2 (hz1.trans (b2.mono (by omega)))
  have qp : w2.heap[pb]? = _ := (hb2.block pb hpl).trans hU.pg
  obtain ⟨n, hn⟩ : ∃ n, l.length = n := ⟨_, rfl⟩
  rw [hn] at qp
  have p0 : w2.cell? ⟨pb, 0, none⟩ = some (.int .i64 0) := (cell_of_row w2 _ 0 _ _ _ qp).trans rfl
  have p1 : w2.cell? ⟨pb, 1, none⟩ = some (.int .i64 1) := (cell_of_row w2 _ 1 _ _ _ qp).trans rfl
  have p2 : w2.cell? ⟨pb, 2, none⟩ = some (.int .i64 2) := (cell_of_row w2 _ 2 _ _ _ qp).trans rfl
  have p3 : w2.cell? ⟨pb, 3, none⟩ = some (.bool false) := (cell_of_row w2 _ 3 _ _ _ qp).trans rfl
  have p4 : w2.cell? ⟨pb, 4, none⟩ = some (.slice (some ⟨cb, 0, none⟩) n n) := (cell_of_row w2 _ 4 _ _ _ qp).trans rfl
  have hpl2 : pb < w2.heap.size := by omega
  obtain ⟨w3, hw3⟩ : ∃ w3, w2.alloc (.cells #[.int .i64 0, .int .i64 1, .int .i64 2, .bool false, .slice (some ⟨cb, 0, none⟩) n n] 40) = w3 := ⟨_, rfl⟩
  have HW3 : Bx _ := ⟨hw3⟩
  have j2 : w2.cell? ⟨J, 2, none⟩ = some (.int .i64 0) := (cell_of_row w2 _ 2 _ _ _ q2).trans rfl
  have j3 : w2.cell? ⟨J, 3, none⟩ = some (.int .i64 0) := (cell_of_row w2 _ 3 _ _ _ q2).trans rfl
  have j4 : w2.cell? ⟨J, 4, none⟩ = some (.int .i64 0) := (cell_of_row w2 _ 4 _ _ _ q2).trans rfl
  have j5 : w2.cell? ⟨J, 5, none⟩ = some (.bool false) := (cell_of_row w2 _ 5 _ _ _ q2).trans rfl
  have j6 : w2.cell? ⟨J, 6, none⟩ = some (.slice none 0 0) := (cell_of_row w2 _ 6 _ _ _ q2).trans rfl
  have jf : ∀ k, w2.frozen? ⟨J, k, none⟩ = false := fun k => by simp [World.frozen?, q2]
  have hJl : J < w2.heap.size := by omega
  have hbX : Below H w ((((((w2.setCell ⟨J, 2, none⟩ (.int .i64 0)).setCell ⟨J, 3, none⟩ (.int .i64 1)).setCell ⟨J, 4, none⟩ (.int .i64 2)).setCell ⟨J, 5, none⟩ (.bool false)).setCell ⟨J, 6, none⟩ (.slice (some ⟨cb, 0, none⟩) n n)).alloc (.cells #[.int .i64 0, .int .i64 1, .int .i64 2, .bool false, .slice (some ⟨cb, 0, none⟩) n n] 40)) :=
    (((((hb2.setCell (p := ⟨J, 2, none⟩) (by simp; omega) _).setCell (p := ⟨J, 3, none⟩) (by simp; omega) _).setCell (p := ⟨J, 4, none⟩) (by simp; omega) _).setCell (p := ⟨J, 5, none⟩) (by simp; omega) _).setCell (p := ⟨J, 6, none⟩) (by simp; omega) _).alloc (by simp; omega) _
  have hcX : (((((((w2.setCell ⟨J, 2, none⟩ (.int .i64 0)).setCell ⟨J, 3, none⟩ (.int .i64 1)).setCell ⟨J, 4, none⟩ (.int .i64 2)).setCell ⟨J, 5, none⟩ (.bool false)).setCell ⟨J, 6, none⟩ (.slice (some ⟨cb, 0, none⟩) n n)).alloc (.cells #[.int .i64 0, .int .i64 1, .int .i64 2, .bool false, .slice (some ⟨cb, 0, none⟩) n n] 40))).cell? ⟨J, 3, none⟩ = some (.int .i64 1) := by
    rw [(below1 _ _).cell (p := ⟨J, 3, none⟩) (by simp; omega)]
    simp [World.cell?, World.setCell, Array.getElem?_modify, q2]
  have HIX : Bx _ := ⟨(⟨hbX, hcX⟩ : _ ∧ _)⟩
  clear hbX hcX
  have HR : Bx (∀ X i (h : i < n), Below H w X ∧ X.cell? ⟨J, 3, none⟩ = some (.int .i64 1) → ∃ op a : Int, X.cell? ⟨cb, i * 4, none⟩ = some (.int .i64 op) ∧ X.cell? ⟨cb, i * 4 + 1, none⟩ = some (.int .i64 a) ∧ X.cell? ⟨cb, i * 4 + 2, none⟩ = some (.int .i64 0) ∧ X.cell? ⟨cb, i * 4 + 3, none⟩ = some (.slice none 0 0) ∧ cb < X.heap.size ∧ Bx (∀ o, Calls Tryd.prog 37 #[.pointer (some ⟨J, 0, none⟩), .int .i64 i, .agg #[.int .i64 op, .int .i64 a, .int .i64 0, .slice none 0 0]] (X.alloc o) fun e w' => e = .returned (.int .i64 0) ∧ Bx (Below H w w' ∧ w'.cell? ⟨J, 3, none⟩ = some (.int .i64 1)))) := ⟨fun X i h ⟨hX, hc⟩ => by
    have hUX : UE X pb cb l := hU.below (hH ▸ hX)
    have hi : i < l.length := by omega
    obtain ⟨u0, u1, u2, u3⟩ := hUX.cell i hi
    refine ⟨_, _, u0, u1, u2, u3, hUX.lt.2, ⟨fun o => ?_⟩⟩
    obtain ⟨v, hv⟩ := hU.all _ (List.getElem_mem hi)
    have hJX : J < X.heap.size := World.block_lt_of_cell? X _ hc
    have hcc : (X.alloc o).cell? ⟨J, 3, none⟩ = some (.int .i64 1) := ((below1 X o).cell (p := ⟨J, 3, none⟩) hJX).trans hc
    have hsX : H ≤ X.heap.size := by have := hX.size; omega
    refine (wrong_ex (X.alloc o) (hV.below (hH ▸ hX.alloc hsX o)) J hcc _ _ v hv i).mono ?_
    rintro e w' ⟨rfl, hb⟩
    exact ⟨rfl, ⟨(hX.alloc hsX o).trans (hb.mono (by simp; omega)), (hb.cell (p := ⟨J, 3, none⟩) (by simp; omega)).trans hcc⟩⟩⟩
  have hn3 : n ≤ 3 := hn ▸ hU.len
  have HU2 : Bx _ := ⟨hU⟩
  have HV2 : Bx _ := ⟨hV⟩
  have HB2 : Bx _ := ⟨hb2⟩
  have HQ2 : Bx _ := ⟨q2⟩
  clear hw2 hw0 hw3 HW3 q2 qp hU hV HC HD hb2 b2 hz1 hbr b0 hHeld HU2 HV2 HB2 HQ2
  go_wp2
  refine wp_loop_rounds 2 ?_
  rw [rounds_succ]
  go_wp2
  go_loopw [33] (fun x wr => ∃ i : Nat, i ≤ n ∧ x = .int .i64 i ∧ Bx (Below H w wr ∧ wr.cell? ⟨J, 3, none⟩ = some (.int .i64 1))) (fun x _ => n - (intOf x).toNat)
  case atStart => exact ⟨0, Nat.zero_le _, rfl, HIX⟩
  case round =>
    clear HIX j2 j3 j4 j5 j6 jf p0 p1 p2 p3 p4 f0 f1
    obtain ⟨i, hi, rfl, HI⟩ := hrel
    by_cases hlt : i < n
    · obtain ⟨op, a, u0, u1, u2, u3, hcl, HWR⟩ := HR.out _ i hlt HI.out
      go_wp2_with (first
        | (go_at_call 37; refine (HWR.out _).mono ?_; rintro e w9 ⟨rfl, HI'⟩))
      go_roundw
      case rel => exact ⟨i + 1, by omega, by go_num, HI'⟩
      case measure => simp [intOf]; omega
    · go_wp2
      rw [rounds_succ]
      go_wp2
      go_returns
      exact ⟨rfl, HI.out.1⟩
end Go.Proofs.YtafchddhokaopaaDoor
