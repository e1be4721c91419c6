import Derived.Test.YtecpknpcjoiliaaDoorCJK
namespace Go.Proofs.YtecpknpcjoiliaaDoor
open Go.RowKit
set_option linter.unusedVariables false
set_option linter.unusedSimpArgs false

set_option maxHeartbeats 4000000 in
set_option maxRecDepth 100000 in
theorem kindOf_any (t : List UInt8) (w : World) (hs : Shp w) :
    Calls Tryd.prog 45 #[strV t] w fun e w' => e = .returned (.int .i64 (tkind t)) ∧ Below w.heap.size w w' := by
  have HIX : Bx (∀ j, j < 11 → ∀ W, (Instr.index 62 shpA (.int .i64 (j : Nat))).run Tryd.prog W = .ok (shV (tshT.getD j noTsh)) W) := ⟨shp_ix⟩
  have HS : Bx _ := ⟨hs⟩
  clear hs
  obtain ⟨K, hK⟩ : ∃ K, K = tkind t := ⟨_, rfl⟩
  have HK : Bx (K = tkind t) := ⟨hK⟩
  rw [← hK]
  clear hK
  go_enter Tryd.func45, Tryd.ntmps45
  go_wp2_with (refine wpList_shp HS.out rfl rfl ?_)
  generalize shpA = A at *
  go_loopw [6] (fun x wr => ∃ j : Nat, j ≤ 11 ∧ x = .int .i64 j ∧ Bx ((∀ i, i < j → (tshT.getD i noTsh).1 ≠ t) ∧ Below w.heap.size w wr)) (fun x _ => 11 - (intOf x).toNat)
  case atStart => exact ⟨0, by omega, rfl, ⟨fun i hi => absurd hi (by omega), Below.refl _ _⟩⟩
  case round =>
    obtain ⟨j, hj, rfl, H⟩ := hrel
    clear HS
    by_cases hlt : j < 11
    · have HB : Bx (∀ o, Below w.heap.size w (wr.alloc o)) := ⟨fun o => H.out.2.alloc H.out.2.size o⟩
      cases hq : ((tshT.getD j noTsh).1 == t)
      · have HN : Bx (∀ i, i < j + 1 → (tshT.getD i noTsh).1 ≠ t) := ⟨fun i hi => by
          rcases Nat.lt_or_ge i j with h | h
          · exact H.out.1 i h
          · have : i = j := by omega
            subst this
            intro e
            rw [e] at hq
            simp at hq⟩
        have hix : ∀ W, (Instr.index 62 A (.int .i64 (j : Int))).run Tryd.prog W = .ok (shV (tshT.getD j noTsh)) W := fun W => HIX.out j hlt W
        have hj2 : (j : Int) < 11 := by omega
        have hq2 : ¬ (tshT.getD j noTsh).1 = t := by simpa using hq
        clear H
        generalize tshT.getD j noTsh = s at *
        go_wp2
        go_roundw
        case rel => exact ⟨j + 1, hlt, by go_num, ⟨HN.out, HB.out _⟩⟩
        case measure => simp [intOf]; omega
      · have hk : K = j + 1 := by
          rw [HK.out, ← tkind_at hlt]
          rw [beq_iff_eq] at hq
          rw [hq]
        have hix : ∀ W, (Instr.index 62 A (.int .i64 (j : Int))).run Tryd.prog W = .ok (shV (tshT.getD j noTsh)) W := fun W => HIX.out j hlt W
        have hj2 : (j : Int) < 11 := by omega
        clear H HK
        have HKK : Bx _ := ⟨hk⟩
        clear hk
        have hq3 : (tshT.getD j noTsh).1 = t := by simpa using hq
        generalize tshT.getD j noTsh = s at *
        go_wp2
        go_ret
        exact ⟨ret_int (by rw [HKK.out]; omega), HB.out _⟩
    · have : j = 11 := by omega
      subst this
      have hk : K = 0 := by rw [HK.out]; exact tkind_none H.out.1
      have HKK : Bx _ := ⟨hk⟩
      clear hk
      go_wp2
      go_ret
      exact ⟨ret_int (by rw [HKK.out]; rfl), H.out.2⟩
end Go.Proofs.YtecpknpcjoiliaaDoor
