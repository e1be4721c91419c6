import Derived.Test.YtfocggaocadkmaaDoorCTKid
import Derived.Test.YtfocggaocadkmaaDoorCTArg
import Derived.Test.YtfocggaocadkmaaDoorCLaid
import Derived.Below
import Derived.Lib.SmallJoins
import Derived.Test.YtfocggaocadkmaaDoorCards
import Derived.Test.YtfocggaocadkmaaDoorTie
import Derived.SevenTiedAt
namespace Go.Proofs.YtfocggaocadkmaaDoor
open Go.ChangeShapes Go.WideShapes Go.ChangeAt Go.RowKit
set_option linter.unusedVariables false
set_option linter.unusedSimpArgs false

theorem laidOutK : laidOutB Tryd.prog = true := by kernel_rfl
set_option maxRecDepth 100000 in
set_option maxHeartbeats 2000000 in
theorem kids_none (w : World) (a : Option Addr) (cap : Nat) (hL : LaidP w) :
    Calls Tryd.prog 6 #[.slice a 0 cap] w fun e w' => e = .returned (.bool true) ∧ Below w.heap.size w w' := by
  have HB : Bx _ := ⟨beyond_none w a cap⟩
  have HS : Bx _ := ⟨shown_any w hL⟩
  have HC : Bx (∀ W, Below w.heap.size w W → Calls Tryd.prog 14 #[.slice a 0 cap] W fun e w' => e = .returned (.tuple #[.int .i64 0, .int .i64 25]) ∧ Below W.heap.size W w') := ⟨fun W hb => Check_any W 0 a cap [] ⟨fun h => by simp at h, Nat.zero_le _⟩ (hL.below hb).laid (by simp)⟩
  clear hL
  go_enter Tryd.func6, Tryd.ntmps6
  go_wp2_with (first
    | (go_at_call 11; refine Calls.mono HB.out ?_; rintro e w' ⟨rfl, rfl⟩)
    | (go_at_call 8; refine Calls.mono HS.out ?_; rintro e w1 ⟨rfl, b1⟩)
    | (go_at_call 14; refine Calls.mono (HC.out _ b1) ?_; rintro e w2 ⟨rfl, b2⟩; have b3 := b1.trans (b2.mono b1.size)))
  go_ret
  exact ⟨rfl, b3⟩
theorem kids_walk (w : World) (a : Option Addr) (cap : Nat) (l : List Nd) (hn : IsNodes w w.heap.size a cap l) (hL : LaidP w) :
    Calls Tryd.prog 6 #[.slice a l.length cap] w fun e w' => e = .returned (.bool true) ∧ Below w.heap.size w w' := by
  by_cases h0 : 0 < l.length
  · obtain ⟨nb, no, rfl, h⟩ := hn.at_ h0
    exact kids_some w nb no cap l h hL h0
  · have hx : l = [] := List.eq_nil_of_length_eq_zero (by omega)
    subst hx
    exact kids_none w a cap hL

set_option maxRecDepth 100000 in
theorem kids_lifted (os : Os) (started : os.Started) (H : Type) (enc : TypeId × Value → H) :
    ReturnsInHanded {} Tryd.checked os 6 .any (fun w args => (Rows.treeKidsSpec.pre enc Tryd.prog Tryd.f6 [] false w args ∧ laidMetH Tryd.prog laid7 w) ∧ sizedMet enc Tryd.prog Tryd.f6 (OpenSpec.ofChange Rows.treeKidsSpec) false w args)
      (Rows.treeKidsSpec.post enc Tryd.prog Tryd.f6 false true false false) := by
  refine returnsInHanded_of_change_and (C := Tryd.checked) (X := fun w _ => laidMetH Tryd.prog laid7 w) (fun _ _ _ hh h => h.of_heap hh) own started (by kernel_rfl) Tryd.func6
    (ChangeSpec.witness_shaped (enc := enc) (C := Tryd.checked) (os := os) (X := fun w _ => laidMetH Tryd.prog laid7 w) false (World.doorLaid Tryd.prog 400 os) #[.slice none 0 0] 8 rfl (World.shaped_of_RefB (by kernel_rfl) (by kernel_rfl)) (by kernel_rfl) (by kernel_rfl) (by kernel_rfl) (door_met os _)) ?_
  intro W base args ds gs before hval0 hW _ _ hL _
  have hval : ∀ (j : Nat) t v, Tryd.f6.params[j]? = some t → args[j]? = some v → Value.okWide Tryd.prog W .any base t v := hval0
  have hW' := hW
  obtain ⟨p, q, hA0, hV, rfl, hfz, hnd⟩ := hW
  have hA : DataW.TrodAll enc Tryd.prog W 0 (fun _ => true) true Tryd.f6.params.toList args.toList ds p := hA0
  rw [Tryd.params6] at hA hval
  obtain ⟨v0, vs0, d0, ds0, p0, q0, hargs, rfl, rfl, h0, r0⟩ := trodAll_cons hA
  obtain ⟨rfl, rfl, rfl⟩ := trodAll_nil r0
  obtain rfl : args = #[v0] := by cases args; simp_all
  obtain ⟨rfl, rfl⟩ := trodVars_none hV
  have k0 := h0
  have lt0 : ∀ x ∈ p0, x.block < W.heap.size := by obtain ⟨m, hm⟩ := k0; exact DataW.trod_lt m _ _ _ hm
  obtain ⟨a0, len0, cap0, rfl⟩ := okWide_slice Tryd.underlying28 (hval 0 28 v0 rfl rfl)
  obtain ⟨l, hlen, hn⟩ := nodes_of (show ∃ fuel, DataW.trod enc Tryd.prog W 0 (fun _ => true) true fuel 28 (Value.slice a0 len0 cap0).cells.toList = some (d0, p0) from k0)
  subst hlen
  clear hA0 hval0
  refine (kids_walk W a0 cap0 l hn (laidP_of W hL)).mono fun e W' ⟨he, bel⟩ => ?_
  subst he
  exact ⟨_, rfl, _, _, _, [], _, [], hW', trodAll_mk1 (shut_bool Tryd.underlying4 _), (trodAll_cons_mk (Below.trod laidOutK (by kernel_rfl) (of_decide_eq_true (by kernel_rfl)) k0 bel lt0) trodAll_mk0), rfl, bel.frame _, fun h => by cases h⟩

theorem kids_said : Rows.TreeKidsSaid :=
  OpenClaim.holds_of_wide 6 Tryd.f6 rfl rfl rfl rfl rfl rfl rfl ⟨rfl, rfl, rfl, rfl, rfl⟩ rfl rfl rfl rfl rfl (by kernel_rfl) Tryd.func6 (by kernel_rfl)
    (of_decide_eq_true (by kernel_rfl)) (by unfold Func.isWrapper; first | (rw [if_pos (by decide +kernel)]; kernel_rfl) | (rw [if_neg (by decide +kernel)]; exact ⟨rfl, rfl⟩))
    (fun os started H enc _ => kids_lifted os started H enc)

theorem kids_plain (f : FuncId) (fn : Func) (hf : Tryd.pinned.checked.prog.funcNamed "squint/squintlaw02.TreeKids" = some f) (hfn : Tryd.pinned.checked.prog.funcs[f]? = some fn) :
    true = Tryd.pinned.checked.prog.looks [] ∧ ∀ (j : Nat) t, fn.params[j]? = some t → Tryd.pinned.checked.prog.wantsStandIn t = false := by
  obtain rfl : f = 6 := Option.some.inj ((show Tryd.prog.funcNamed "squint/squintlaw02.TreeKids" = some 6 by kernel_rfl).symm.trans hf) |>.symm
  obtain rfl : fn = Tryd.f6 := (Option.some.inj (Tryd.func6.symm.trans hfn)).symm
  refine ⟨by kernel_rfl, fun j t ht => ?_⟩
  rw [Tryd.params6] at ht
  have hm : t ∈ [28] := by simpa using Array.mem_of_getElem? ht
  have hall : ([28].all fun u => !Tryd.prog.wantsStandIn u) = true := by kernel_rfl
  exact (show Tryd.prog.wantsStandIn t = false by simpa using List.all_eq_true.1 hall t hm)

/-- ████ THE CARD ████ -/
theorem treeKids_holds : Rows.TreeKidsCardSaid :=
  Claim7.holds_tied_plain_at .later [] _ _ _ _ kids_said (fun _ h => by cases h) (by kernel_rfl) (fun _ h => by cases h) treeKids_row_tie rfl ⟨rfl, rfl⟩ (by kernel_rfl) rfl kids_plain (by kernel_rfl)
#print axioms treeKids_holds
end Go.Proofs.YtfocggaocadkmaaDoor
