import Derived.Test.YtadmpgegolmkgaaDoorBWzP
import Derived.Test.YtadmpgegolmkgaaDoorBLaidV
import Derived.Test.YtadmpgegolmkgaaDoorCards
import Derived.Test.YtadmpgegolmkgaaDoorTie
import Derived.SevenTiedAt
set_option linter.unusedVariables false
set_option linter.unusedSimpArgs false
set_option maxHeartbeats 4000000
set_option maxRecDepth 100000
namespace Go.Proofs.YtadmpgegolmkgaaDoor
open Go.ChangeShapes Go.WideShapes Go.ChangeAt Go.RowKit
theorem lJ : laidOutB Tryd.prog = true := by kernel_rfl
theorem lW (os : Os) (started : os.Started) (H : Type) (enc : TypeId × Value -> H) :
  ReturnsInHanded {} Tryd.checked os 3 .any (fun w args => (Rows.verifyChecksSpec.pre enc Tryd.prog Tryd.f3 [] false w args /\ laidMetH Tryd.prog pW w) /\ sizedMet enc Tryd.prog Tryd.f3 (OpenSpec.ofChange Rows.verifyChecksSpec) false w args)
   (Rows.verifyChecksSpec.post enc Tryd.prog Tryd.f3 false true false false) := by
 refine returnsInHanded_of_change_and (C := Tryd.checked) (X := fun w _ => laidMetH Tryd.prog pW w) (fun _ _ _ hh h => h.of_heap hh) own started (by kernel_rfl) Tryd.func3
  (ChangeSpec.witness_shaped (enc := enc) (C := Tryd.checked) (os := os) (X := fun w _ => laidMetH Tryd.prog pW w) false (World.doorLaid Tryd.prog 400 os) #[.agg #[.slice none 0 0, .slice none 0 0], .int .i64 0] 8 rfl (World.shaped_of_RefB (by kernel_rfl) (by kernel_rfl)) (by kernel_rfl) (by kernel_rfl) (by kernel_rfl) (yP os _)) ?_
 intro W base args ds gs before hval0 hW _ hwt hL hsz
 have hval : ∀ (j : Nat) t v, Tryd.f3.params[j]? = some t -> args[j]? = some v -> Value.okWide Tryd.prog W .any base t v := hval0
 have hwt' : (DataW.weightsEach Tryd.prog (Tryd.f3.params.toList ++ Rows.verifyChecksSpec.plain.varTypes Tryd.prog) (ds ++ gs)).all (· <= reachBytes) = true := hwt
 have hW' := hW
 obtain ⟨p, q, hA0, hV, rfl, hfz, hnd⟩ := hW
 have hA : DataW.TrodAll enc Tryd.prog W 0 (fun _ => true) true Tryd.f3.params.toList args.toList ds p := hA0
 rw [Tryd.params3] at hA hval hwt'
 obtain ⟨v0, vs0, d0, ds0, p0, q0, hargs, rfl, rfl, h0, r0⟩ := trodAll_cons hA
 obtain ⟨v1, vs1, d1, ds1, p1, q1, rfl, rfl, rfl, h1, r1⟩ := trodAll_cons r0
 obtain ⟨rfl, rfl, rfl⟩ := trodAll_nil r1
 obtain rfl : args = #[v0, v1] := by cases args; simp_all
 obtain ⟨rfl, rfl⟩ := trodVars_none hV
 have k0 := h0
 have lt0 : ∀ x ∈ p0, x.block < W.heap.size := by obtain ⟨m, hm⟩ := k0; exact DataW.trod_lt m _ _ _ hm
 have k1 := h1
 have lt1 : ∀ x ∈ p1, x.block < W.heap.size := by obtain ⟨m, hm⟩ := k1; exact DataW.trod_lt m _ _ _ hm
 obtain ⟨u0, pa0, ta0, pc0, tc0, rfl, hw0, hu0, hl0⟩ := yX (hval 0 25 v0 rfl rfl) (show ∃ fuel, DataW.trod enc Tryd.prog W 0 (fun _ => true) true fuel 25 v0.cells.toList = some (d0, p0) from k0) (nV hwt' (j := 0) rfl rfl)
 obtain ⟨n1, rfl, hn1⟩ := BB (hval 1 3 v1 rfl rfl) (show ∃ fuel, DataW.trod enc Tryd.prog W 0 (fun _ => true) true fuel 3 v1.cells.toList = some (d1, p1) from k1)
 clear hA0 hval0 hwt hwt'
 refine (pV W (Ap W hL) u0 pa0 ta0 pc0 tc0 hu0 hw0 hl0 n1 hn1).mono fun e W' ⟨he, bx⟩ => ?_
 subst he
 have bel := bx.out
 exact ⟨_, rfl, _, _, _, [], _, [], hW', trodAll_mk1 (shut_bool Tryd.underlying4 _), (trodAll_cons_mk (Below.trod lJ (by kernel_rfl) (of_decide_eq_true (by kernel_rfl)) k0 bel lt0) (trodAll_cons_mk (Below.trod lJ (by kernel_rfl) (of_decide_eq_true (by kernel_rfl)) k1 bel lt1) trodAll_mk0)), rfl, bel.frame _, fun h => by cases h⟩
theorem p9 : Rows.VerifyChecksSaid :=
 OpenClaim.holds_of_wide 3 Tryd.f3 rfl rfl rfl rfl rfl rfl rfl ⟨rfl, rfl, rfl, rfl, rfl⟩ rfl rfl rfl rfl rfl (by kernel_rfl) Tryd.func3 (by kernel_rfl)
  (of_decide_eq_true (by kernel_rfl)) (by unfold Func.isWrapper; first | (rw [if_pos (by decide +kernel)]; kernel_rfl) | (rw [if_neg (by decide +kernel)]; exact ⟨rfl, rfl⟩))
  (fun os started H enc _ => lW os started H enc)
theorem nW (f : FuncId) (fn : Func) (hf : Tryd.pinned.checked.prog.funcNamed "squint/squintlaw09.VerifyChecks" = some f) (hfn : Tryd.pinned.checked.prog.funcs[f]? = some fn) :
  false = Tryd.pinned.checked.prog.looks [] /\ ∀ (j : Nat) t, fn.params[j]? = some t -> Tryd.pinned.checked.prog.wantsStandIn t = false := by
 obtain rfl : f = 3 := Option.some.inj ((show Tryd.prog.funcNamed "squint/squintlaw09.VerifyChecks" = some 3 by kernel_rfl).symm.trans hf) |>.symm
 obtain rfl : fn = Tryd.f3 := (Option.some.inj (Tryd.func3.symm.trans hfn)).symm
 refine ⟨by kernel_rfl, fun j t ht => ?_⟩
 rw [Tryd.params3] at ht
 have hm : t ∈ [25, 3] := by simpa using Array.mem_of_getElem? ht
 have hall : ([25, 3].all fun u => !Tryd.prog.wantsStandIn u) = true := by kernel_rfl
 exact (show Tryd.prog.wantsStandIn t = false by simpa using List.all_eq_true.1 hall t hm)
theorem verifyChecks_holds : Rows.VerifyChecksCardSaid :=
 Claim7.holds_tied_plain_at .later [] _ _ _ _ p9 (fun _ h => by cases h) (by kernel_rfl) (fun _ h => by cases h) verifyChecks_row_tie rfl ⟨rfl, rfl⟩ (by kernel_rfl) rfl nW (by kernel_rfl)
#print axioms verifyChecks_holds
end Go.Proofs.YtadmpgegolmkgaaDoor
