import Derived.Test.YtecpknpcjoiliabDoorCUL
namespace Go.Proofs.YtecpknpcjoiliabDoor
open Go.RowKit
set_option linter.unusedVariables false
set_option linter.unusedSimpArgs false

theorem ret_int {k : IntKind} {a b : Int} (h : a = b) : Ending.returned (.int k a) = .returned (.int k b) := by rw [h]
set_option maxHeartbeats 1000000 in
theorem shapeOf_no (k : Int) (w : World) (h : k < 1 ∨ 4 < k) :
    Calls Tryd.prog 33 #[.int .i64 k] w fun e w' => e = .returned (.tuple #[.agg #[strV [], .int .i64 0], .bool false]) ∧ Below w.heap.size w w' := by
  by_cases h0 : k < 1
  · go_enter Tryd.func33, Tryd.ntmps33
    go_wp2
    refine bodyPost_ret (v := .tuple #[.agg #[strV [], .int .i64 0], .bool false]) (by simp [results, Tryd.results33, go_sem]) rfl ⟨rfl, ?_⟩
    repeat (first | exact below1 _ _ | refine Below.setCell ?_ (Nat.le_refl _) _)
  · have h1 : 4 < k := by omega
    go_enter Tryd.func33, Tryd.ntmps33
    go_wp2
    refine bodyPost_ret (v := .tuple #[.agg #[strV [], .int .i64 0], .bool false]) (by simp [results, Tryd.results33, go_sem]) rfl ⟨rfl, ?_⟩
    repeat (first | exact below1 _ _ | refine Below.setCell ?_ (Nat.le_refl _) _)
set_option maxHeartbeats 1000000 in
theorem shapeOf_yes (k : Int) (w : World) (hs : Shp w) (h : 1 ≤ k ∧ k ≤ 4) :
    Calls Tryd.prog 33 #[.int .i64 k] w fun e w' => e = .returned (.tuple #[.agg #[strV (shapeI k).1, .int .i64 ((shapeI k).2 : Nat)], .bool true]) ∧ Below w.heap.size w w' := by
  obtain ⟨j, rfl⟩ : ∃ j : Nat, k = (j : Int) + 1 := ⟨(k - 1).toNat, by omega⟩
  have hj : j < 4 := by omega
  have c0 := hs.c0 j hj; have c1 := hs.c1 j hj
  have e : shapeI ((j : Int) + 1) = shapesT.getD j noShape := by
    unfold shapeI
    have : ((j : Int) + 1).toNat - 1 = j := by omega
    rw [this]
  rw [e]
  generalize shapesT.getD j noShape = s at *
  have hlt := hs.lt
  have lc : ∀ i o, (w.alloc o).cell? ⟨1, i, none⟩ = w.cell? ⟨1, i, none⟩ := fun i o => (below1 w o).cell (p := ⟨1, i, none⟩) hlt
  have d0 := (lc (j * 2) (.cells #[.string ⟨#[]⟩, .int .i64 0] 94)).trans c0
  have d1 := (lc (j * 2 + 1) (.cells #[.string ⟨#[]⟩, .int .i64 0] 94)).trans c1
  have hsub : (j : Int) + 1 - 1 = (j : Int) := by omega
  obtain ⟨K, hK⟩ : ∃ K : Int, K = (j : Int) + 1 := ⟨_, rfl⟩
  have k1 : 1 ≤ K := by omega
  have k2 : K ≤ 4 := by omega
  have k3 : K - 1 = (j : Int) := by omega
  rw [← hK]
  clear lc hs hK h e
  go_enter Tryd.func33, Tryd.ntmps33
  go_wp2
  refine bodyPost_ret (v := .tuple #[.agg #[strV s.1, .int .i64 (s.2 : Nat)], .bool true]) (by simp [results, Tryd.results33, go_sem]) rfl ⟨rfl, ?_⟩
  repeat (first | exact below1 _ _ | refine Below.setCell ?_ (Nat.le_refl _) _)
theorem kind_at {j : Nat} (h : j < 4) : kindI (shapesT.getD j noShape).1 = j + 1 := by
  match j, h with
  | 0, _ => rfl
  | 1, _ => rfl
  | 2, _ => rfl
  | 3, _ => rfl
theorem kind_none {t : List UInt8} (h : ∀ j, j < 4 → (shapesT.getD j noShape).1 ≠ t) : kindI t = 0 := by
  unfold kindI
  rw [if_neg (fun e => h 0 (by omega) e.symm), if_neg (fun e => h 1 (by omega) e.symm), if_neg (fun e => h 2 (by omega) e.symm), if_neg (fun e => h 3 (by omega) e.symm)]
/-- the table as a value -/
def shpA : Value := .agg #[strV [115, 116, 101, 112], .int .i64 1, strV [105, 110], .int .i64 2, strV [111, 117, 116], .int .i64 1, strV [112, 114, 111, 98, 101], .int .i64 0]
theorem shp_i0 (W : World) : (Instr.index 122 shpA (.int .i64 0)).run Tryd.prog W = .ok (.agg #[strV [115, 116, 101, 112], .int .i64 1]) W := by kernel_rfl
theorem shp_i1 (W : World) : (Instr.index 122 shpA (.int .i64 1)).run Tryd.prog W = .ok (.agg #[strV [105, 110], .int .i64 2]) W := by kernel_rfl
theorem shp_i2 (W : World) : (Instr.index 122 shpA (.int .i64 2)).run Tryd.prog W = .ok (.agg #[strV [111, 117, 116], .int .i64 1]) W := by kernel_rfl
theorem shp_i3 (W : World) : (Instr.index 122 shpA (.int .i64 3)).run Tryd.prog W = .ok (.agg #[strV [112, 114, 111, 98, 101], .int .i64 0]) W := by kernel_rfl
set_option maxHeartbeats 2000000 in
set_option maxRecDepth 100000 in
theorem kindOf_any (t : List UInt8) (w : World) (hs : Shp w) :
    Calls Tryd.prog 32 #[strV t] w fun e w' => e = .returned (.int .i64 (kindI t)) ∧ Below w.heap.size w w' := by
  have a0 := hs.c0 0 (by omega); have b0 := hs.c1 0 (by omega)
  have a1 := hs.c0 1 (by omega); have b1 := hs.c1 1 (by omega)
  have a2 := hs.c0 2 (by omega); have b2 := hs.c1 2 (by omega)
  have a3 := hs.c0 3 (by omega); have b3 := hs.c1 3 (by omega)
  simp only [Nat.zero_mul, Nat.zero_add, Nat.one_mul, Nat.reduceMul, Nat.reduceAdd, shapesT, List.getD_cons_zero, List.getD_cons_succ] at a0 b0 a1 b1 a2 b2 a3 b3
  obtain ⟨K, hK⟩ : ∃ K, K = kindI t := ⟨_, rfl⟩
  have HK : Bx (K = kindI t) := ⟨hK⟩
  rw [← hK]
  clear hK
  go_enter Tryd.func32, Tryd.ntmps32
  go_wp2
  have hA : Value.agg #[strV [115, 116, 101, 112], .int .i64 1, strV [105, 110], .int .i64 2, strV [111, 117, 116], .int .i64 1, strV [112, 114, 111, 98, 101], .int .i64 0] = shpA := rfl
  rw [hA]
  clear hA
  have i0 := shp_i0; have i1 := shp_i1; have i2 := shp_i2; have i3 := shp_i3
  generalize shpA = A at *
  go_loopw [6] (fun x wr => ∃ j : Nat, j ≤ 4 ∧ x = .int .i64 j ∧ Bx ((∀ i, i < j → (shapesT.getD i noShape).1 ≠ t) ∧ Below w.heap.size w wr)) (fun x _ => 4 - (intOf x).toNat)
  case atStart => exact ⟨0, by omega, rfl, ⟨fun i hi => absurd hi (by omega), Below.refl _ _⟩⟩
  case round =>
    obtain ⟨j, hj, rfl, H⟩ := hrel
    clear a0 b0 a1 b1 a2 b2 a3 b3 hs
    by_cases hlt : j < 4
    · have HB : Bx (∀ o, Below w.heap.size w (wr.alloc o)) := ⟨fun o => H.out.2.alloc H.out.2.size o⟩
      cases hq : ((shapesT.getD j noShape).1 == t)
      · have HN : Bx (∀ i, i < j + 1 → (shapesT.getD i noShape).1 ≠ t) := ⟨fun i hi => by
          rcases Nat.lt_or_ge i j with h | h
          · exact H.out.1 i h
          · have : i = j := by omega
            subst this
            intro e
            rw [e] at hq
            simp at hq⟩
        have e : j = 0 ∨ j = 1 ∨ j = 2 ∨ j = 3 := by omega
        clear H hj hlt
        rcases e with rfl | rfl | rfl | rfl
        all_goals
          simp only [shapesT, List.getD_cons_zero, List.getD_cons_succ] at hq
          go_wp2
          go_roundw
          case rel => exact ⟨_, by decide, by go_num, ⟨HN.out, HB.out _⟩⟩
          case measure => simp [intOf]
      · have hk : K = j + 1 := by
          rw [HK.out, ← kind_at hlt]
          rw [beq_iff_eq] at hq
          rw [hq]
        have e : j = 0 ∨ j = 1 ∨ j = 2 ∨ j = 3 := by omega
        clear H hj hlt HK
        have HKK : Bx _ := ⟨hk⟩
        clear hk
        rcases e with rfl | rfl | rfl | rfl
        all_goals
          simp only [shapesT, List.getD_cons_zero, List.getD_cons_succ] at hq
          go_wp2
          go_ret
          exact ⟨ret_int (by rw [HKK.out]; rfl), HB.out _⟩
    · have : j = 4 := by omega
      subst this
      have hk : K = 0 := by rw [HK.out]; exact kind_none H.out.1
      have HKK : Bx _ := ⟨hk⟩
      clear hk
      go_wp2
      go_ret
      exact ⟨ret_int (by rw [HKK.out]; rfl), H.out.2⟩
end Go.Proofs.YtecpknpcjoiliabDoor
