import Derived.Test.YtijdcplffmdijaaDoorCLaidC
import Derived.Test.YtijdcplffmdijaaDoorCDZ
import Derived.Test.YtijdcplffmdijaaDoorCards
import Derived.Test.YtijdcplffmdijaaDoorTie
import Derived.SevenTiedAt
namespace Go.Proofs.YtijdcplffmdijaaDoor
open Go.ChangeShapes Go.WideShapes Go.ChangeAt Go.RowKit
set_option linter.unusedVariables false
set_option linter.unusedSimpArgs false

theorem ops_fact : ∀ k, k < 28 → k ≠ 0 → nameI (k : Nat) ≠ [] ∧ opI (nameI (k : Nat)) = k := by decide
set_option maxRecDepth 100000 in
set_option maxHeartbeats 2000000 in
theorem ops_walk (w : World) (hL : LW w) : Calls Tryd.prog 8 #[] w fun e w' => e = .returned (.bool true) ∧ Below w.heap.size w w' := by
  have HL : Bx _ := ⟨hL⟩
  have HS := shown_any w hL
  clear hL
  go_enter Tryd.func8, Tryd.ntmps8
  go_wp2_with (go_at_call 9; refine HS.mono ?_; rintro e w1 ⟨rfl, hb1⟩; have HB1 : Bx _ := ⟨hb1⟩; clear hb1)
  go_loopw [1] (fun x wr => ∃ k : Nat, 1 ≤ k ∧ k ≤ 28 ∧ x = .int .i64 k ∧ Bx (Below w.heap.size w wr)) (fun x _ => 28 - (intOf x).toNat)
  case atStart => exact ⟨1, by omega, by omega, rfl, HB1⟩
  case round =>
    obtain ⟨k, hk1, hk2, rfl, HB⟩ := hrel
    clear HB1
    by_cases hlt : k < 28
    · obtain ⟨n1, n2⟩ := ops_fact k hlt (by omega)
      have hN : Bx (∀ X, Below w.heap.size w X → Calls Tryd.prog 10 #[.int .i64 k] X fun e w' => e = .returned (strV (nameI k)) ∧ Below w.heap.size w w') := ⟨fun X hb => (Name_any k X (HL.out.below hb).shp ⟨by omega, by omega⟩).mono fun e w' h => ⟨h.1, hb.trans (h.2.mono hb.size)⟩⟩
      have hO : Bx (∀ X, Below w.heap.size w X → Calls Tryd.prog 11 #[strV (nameI k)] X fun e w' => e = .returned (.int .i64 (k : Nat)) ∧ X = w') := ⟨fun X hb => (Op_any ⟨(nameI k).toArray⟩ X (HL.out.below hb).shp).mono fun e w' h => ⟨by rw [h.1, Lib.toList_data]; show Ending.returned (.int .i64 ((opI (nameI k) : Nat) : Int)) = _; rw [n2], h.2⟩⟩
      generalize nameI k = nm at *
      have HN1 := hN
      have n3 : nm.isEmpty = false := by
        cases nm with
        | nil => exact absurd rfl n1
        | cons a b => rfl
      have n4 : ¬ nm = [] := n1
      clear n2 n1
      go_wp2_with (first
        | (go_at_call 10; refine (hN.out _ HB.out).mono ?_; rintro e w2 ⟨rfl, hb2⟩; have HB2 : Bx _ := ⟨hb2⟩; clear hb2 hN)
        | (go_at_call 10; refine (HN1.out _ HB2.out).mono ?_; rintro e w3 ⟨rfl, hb3⟩; have HB3 : Bx _ := ⟨hb3⟩; clear hb3)
        | (go_at_call 11; refine (hO.out _ HB3.out).mono ?_; rintro e w4 ⟨rfl, rfl⟩))
      go_roundw
      case rel => exact ⟨k + 1, by omega, by omega, by go_num, HB3⟩
      case measure => simp [intOf]; omega
    · have : k = 28 := by omega
      subst this
      go_wp2
      go_ret
      exact ⟨rfl, HB.out⟩

set_option maxRecDepth 100000 in
theorem ops_lifted (os : Os) (started : os.Started) (H : Type) (enc : TypeId × Value → H) :
    ReturnsInHanded {} Tryd.checked os 8 .any (fun w args => (Rows.codeOpsSpec.pre enc Tryd.prog Tryd.f8 [] false w args ∧ laidMetH Tryd.prog laid6 w) ∧ sizedMet enc Tryd.prog Tryd.f8 (OpenSpec.ofChange Rows.codeOpsSpec) false w args)
      (Rows.codeOpsSpec.post enc Tryd.prog Tryd.f8 false true false false) := by
  refine returnsInHanded_of_change_and (C := Tryd.checked) (X := fun w _ => laidMetH Tryd.prog laid6 w) (fun _ _ _ hh h => h.of_heap hh) own started (by kernel_rfl) Tryd.func8
    (ChangeSpec.witness_shaped (enc := enc) (C := Tryd.checked) (os := os) (X := fun w _ => laidMetH Tryd.prog laid6 w) false (World.doorLaid Tryd.prog 400 os) #[] 8 rfl (World.shaped_of_RefB (by kernel_rfl) (by kernel_rfl)) (by kernel_rfl) (by kernel_rfl) (by kernel_rfl) (door_met os _)) ?_
  intro W base args ds gs before hval0 hW _ _ hL _
  have hW' := hW
  obtain ⟨p, q, hA0, hV, rfl, hfz, hnd⟩ := hW
  have hA : DataW.TrodAll enc Tryd.prog W 0 (fun _ => true) true Tryd.f8.params.toList args.toList ds p := hA0
  rw [Tryd.params8] at hA
  obtain ⟨rfl, rfl, rfl⟩ := trodAll_none hA
  obtain ⟨rfl, rfl⟩ := trodVars_none hV
  clear hA0 hval0
  refine (ops_walk W (laid_of W hL)).mono fun e W' ⟨he, bel⟩ => ?_
  subst he
  exact ⟨_, rfl, _, _, _, [], [], [], hW', trodAll_mk1 (shut_bool Tryd.underlying4 _), rfl, rfl, bel.frame _, fun h => by cases h⟩

theorem ops_said : Rows.CodeOpsSaid :=
  OpenClaim.holds_of_wide 8 Tryd.f8 rfl rfl rfl rfl rfl rfl rfl ⟨rfl, rfl, rfl, rfl, rfl⟩ rfl rfl rfl rfl rfl (by kernel_rfl) Tryd.func8 (by kernel_rfl)
    (of_decide_eq_true (by kernel_rfl)) (by unfold Func.isWrapper; first | (rw [if_pos (by decide +kernel)]; kernel_rfl) | (rw [if_neg (by decide +kernel)]; exact ⟨rfl, rfl⟩))
    (fun os started H enc _ => ops_lifted os started H enc)

theorem ops_plain (f : FuncId) (fn : Func) (hf : Tryd.pinned.checked.prog.funcNamed "squint/squintlaw08.CodeOps" = some f) (hfn : Tryd.pinned.checked.prog.funcs[f]? = some fn) :
    true = Tryd.pinned.checked.prog.looks [] ∧ ∀ (j : Nat) t, fn.params[j]? = some t → Tryd.pinned.checked.prog.wantsStandIn t = false := by
  obtain rfl : f = 8 := Option.some.inj ((show Tryd.prog.funcNamed "squint/squintlaw08.CodeOps" = some 8 by kernel_rfl).symm.trans hf) |>.symm
  obtain rfl : fn = Tryd.f8 := (Option.some.inj (Tryd.func8.symm.trans hfn)).symm
  refine ⟨by kernel_rfl, fun j t ht => ?_⟩
  rw [Tryd.params8] at ht
  simp at ht

/-- ████ THE CARD ████ -/
theorem codeOps_holds : Rows.CodeOpsCardSaid :=
  Claim7.holds_tied_plain_at .later [] _ _ _ _ ops_said (fun _ h => by cases h) (by kernel_rfl) (fun _ h => by cases h) codeOps_row_tie rfl ⟨rfl, rfl⟩ (by kernel_rfl) rfl ops_plain (by kernel_rfl)
#print axioms codeOps_holds
end Go.Proofs.YtijdcplffmdijaaDoor
