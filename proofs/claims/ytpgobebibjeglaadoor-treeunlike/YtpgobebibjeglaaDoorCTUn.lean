import Derived.Test.YtpgobebibjeglaaDoorCTSame
import Derived.Test.YtpgobebibjeglaaDoorCTSc
import Derived.Test.YtpgobebibjeglaaDoorCTArg
import Derived.Test.YtpgobebibjeglaaDoorCLaid
import Derived.Below
import Derived.Lib.SmallJoins
import Derived.Test.YtpgobebibjeglaaDoorCards
import Derived.Test.YtpgobebibjeglaaDoorTie
import Derived.SevenTiedAt
namespace Go.Proofs.YtpgobebibjeglaaDoor
open Go.RowKit
set_option linter.unusedVariables false
set_option linter.unusedSimpArgs false

theorem isNodes_max {w : World} {B cap : Nat} {a : Option Addr} {l : List Nd} (h : IsNodes w B a cap l) : l.length ≤ maxLen := by
  by_cases h0 : 0 < l.length
  · obtain ⟨nb, no, _, h⟩ := h.at_ h0
    exact h.max
  · unfold maxLen; omega
theorem IsNodes.mono {w : World} {B C cap : Nat} {a : Option Addr} {l : List Nd} (h : IsNodes w B a cap l) (hB : B ≤ C) (hC : C ≤ w.heap.size) : IsNodes w C a cap l := by
  refine ⟨fun h0 => ?_, hC⟩
  obtain ⟨nb, no, e, hn⟩ := h.at_ h0
  exact ⟨nb, no, e, hn.mono hB hC⟩
theorem bytes_beq {x y : List UInt8} : ((⟨x.toArray⟩ : ByteArray).toList == (⟨y.toArray⟩ : ByteArray).toList) = decide (x = y) := by
  rw [ByteArray.toList_eq, ByteArray.toList_eq]
  by_cases h : x = y
  · subst h
    simp
  · rw [decide_eq_false h, beq_eq_false_iff_ne]
    simpa using h

set_option maxRecDepth 100000 in
set_option maxHeartbeats 2000000 in
theorem unlike_walk (w : World) (a b : Option Addr) (ca cb : Nat) (l m : List Nd) (hl : IsNodes w w.heap.size a ca l) (hm : IsNodes w w.heap.size b cb m) (hL : LaidP w) :
    Calls Tryd.prog 3 #[.slice a l.length ca, .slice b m.length cb] w fun e w' => e = .returned (.bool true) ∧ Below w.heap.size w w' := by
  have HB1 : Bx _ := ⟨beyond_any w _ a ca l hl⟩
  have HB2 : Bx _ := ⟨beyond_any w _ b cb m hm⟩
  have hbl := bulk_len l
  have hbm := bulk_len m
  by_cases hB1 : 2147483647 < bulkL l
  · rw [decide_eq_true hB1] at HB1
    generalize l.length = L at *
    generalize m.length = M at *
    clear hl hm hL hbl hbm hB1 HB2
    go_enter Tryd.func3, Tryd.ntmps3
    go_wp2_with (first | (go_at_call 5; refine Calls.mono HB1.out ?_; rintro e w' ⟨rfl, rfl⟩))
    go_ret
    exact ⟨rfl, Below.refl _ _⟩
  rw [decide_eq_false hB1] at HB1
  have T1 : Bx True := ⟨trivial⟩
  by_cases hB2 : 2147483647 < bulkL m
  · rw [decide_eq_true hB2] at HB2
    generalize l.length = L at *
    generalize m.length = M at *
    clear hl hm hL hbl hbm hB1 hB2
    go_enter Tryd.func3, Tryd.ntmps3
    go_wp2_with (first | (go_at_call 5; clear T1; refine Calls.mono HB1.out ?_; rintro e w' ⟨rfl, rfl⟩) | (go_at_call 5; refine Calls.mono HB2.out ?_; rintro e w' ⟨rfl, rfl⟩))
    go_ret
    exact ⟨rfl, Below.refl _ _⟩
  rw [decide_eq_false hB2] at HB2
  have hl31 : l.length ≤ 2147483647 := by omega
  have hm31 : m.length ≤ 2147483647 := by omega
  have HS : Bx _ := ⟨shown_any w hL⟩
  have HP1 : Bx (∀ W, Below w.heap.size w W → Calls Tryd.prog 7 #[.slice a l.length ca] W fun e w' => e = .returned (.tuple #[.string ⟨(printT l).toArray⟩, .int .i64 ((checkAll l).2 : Nat)]) ∧ Below W.heap.size W w') := ⟨fun W hb => Print_any W _ a ca l (hl.below hb) (hL.below hb) hl31⟩
  have HP2 : Bx (∀ W, Below w.heap.size w W → Calls Tryd.prog 7 #[.slice b m.length cb] W fun e w' => e = .returned (.tuple #[.string ⟨(printT m).toArray⟩, .int .i64 ((checkAll m).2 : Nat)]) ∧ Below W.heap.size W w') := ⟨fun W hb => Print_any W _ b cb m (hm.below hb) (hL.below hb) hm31⟩
  have T2 : Bx True := ⟨trivial⟩
  by_cases hok : (checkAll l).2 = 0 ∧ (checkAll m).2 = 0
  · obtain ⟨o1, o2⟩ := hok
    obtain ⟨nb, no, rfl, hN1⟩ := hl.at_ (ok_all o1).2.1
    obtain ⟨mb, mo, rfl, hN2⟩ := hm.at_ (ok_all o2).2.1
    have hiff := unlike_all o1 o2 (fun j hj => (hN1.wf j hj).num) (fun j hj => (hN2.wf j hj).num)
    have p1 : printT l = layT [] (textG l (l.length - 1)) := by unfold printT; rw [if_pos o1]
    have p2 : printT m = layT [] (textG m (m.length - 1)) := by unfold printT; rw [if_pos o2]
    rw [← p1, ← p2] at hiff
    obtain ⟨r, hr⟩ : ∃ r : Bool, r = true ↔ l.map er = m.map er := ⟨decide (printT l = printT m), by rw [decide_eq_true_eq]; exact hiff⟩
    have HR : Bx (∀ W, Below w.heap.size w W → Calls Tryd.prog 8 #[.slice (some ⟨nb, no, none⟩) l.length ca, .slice (some ⟨mb, mo, none⟩) m.length cb, .bool false] W fun e w' => e = .returned (.bool r) ∧ Below W.heap.size W w') := ⟨fun W hb => sameNodes_any W _ nb no ca mb mo cb l m (hN1.below hb) (hN2.below hb) r hr⟩
    have hs : ((⟨(printT l).toArray⟩ : ByteArray).toList == (⟨(printT m).toArray⟩ : ByteArray).toList) = r := by
      rw [bytes_beq]
      cases r with
      | true => exact decide_eq_true (hiff.2 (hr.1 rfl))
      | false => exact decide_eq_false (fun h => by have := hr.2 (hiff.1 h); cases this)
    rw [o1] at HP1
    rw [o2] at HP2
    generalize (⟨(printT l).toArray⟩ : ByteArray) = s at *
    generalize (⟨(printT m).toArray⟩ : ByteArray) = t at *
    generalize l.length = L at *
    generalize m.length = M at *
    clear hl hm hL hbl hbm hB1 hB2 hiff hr hN1 hN2 p1 p2 o1 o2
    have hrr : (r == r) = true := by simp
    go_enter Tryd.func3, Tryd.ntmps3
    go_wp2_with (first
      | (go_at_call 5; clear T1; refine Calls.mono HB1.out ?_; rintro e w' ⟨rfl, rfl⟩)
      | (go_at_call 5; refine Calls.mono HB2.out ?_; rintro e w' ⟨rfl, rfl⟩)
      | (go_at_call 6; refine Calls.mono HS.out ?_; rintro e w1 ⟨rfl, b1⟩)
      | (go_at_call 7; clear T2; refine Calls.mono (HP1.out _ b1) ?_; rintro e w2 ⟨rfl, b2⟩; have b3 := b1.trans (b2.mono b1.size))
      | (go_at_call 7; refine Calls.mono (HP2.out _ b3) ?_; rintro e w3 ⟨rfl, b4⟩; have b5 := b3.trans (b4.mono b3.size))
      | (go_at_call 8; refine Calls.mono (HR.out _ b5) ?_; rintro e w4 ⟨rfl, b6⟩; have b7 := b5.trans (b6.mono b5.size)))
    go_ret
    exact ⟨ret_bool (by first | rfl | simp [hs]), b7⟩
  · have hne : ((((checkAll l).2 : Nat) : Int) != 0 || (((checkAll m).2 : Nat) : Int) != 0) = true := by
      simp only [Bool.or_eq_true, bne_iff_ne, ne_eq]
      omega
    generalize (checkAll l).2 = x at *
    generalize (checkAll m).2 = y at *
    generalize (⟨(printT l).toArray⟩ : ByteArray) = s at *
    generalize (⟨(printT m).toArray⟩ : ByteArray) = t at *
    generalize l.length = L at *
    generalize m.length = M at *
    clear hl hm hL hbl hbm hB1 hB2 hok
    by_cases hx : x = 0
    · have d1 : ((y : Int) != 0) = true := by rw [hx] at hne; simpa using hne
      subst hx
      clear hne
      go_enter Tryd.func3, Tryd.ntmps3
      go_wp2_with (first
        | (go_at_call 5; clear T1; refine Calls.mono HB1.out ?_; rintro e w' ⟨rfl, rfl⟩)
        | (go_at_call 5; refine Calls.mono HB2.out ?_; rintro e w' ⟨rfl, rfl⟩)
        | (go_at_call 6; refine Calls.mono HS.out ?_; rintro e w1 ⟨rfl, b1⟩)
        | (go_at_call 7; clear T2; refine Calls.mono (HP1.out _ b1) ?_; rintro e w2 ⟨rfl, b2⟩; have b3 := b1.trans (b2.mono b1.size))
        | (go_at_call 7; refine Calls.mono (HP2.out _ b3) ?_; rintro e w3 ⟨rfl, b4⟩; have b5 := b3.trans (b4.mono b3.size)))
      go_ret
      exact ⟨rfl, b5⟩
    · have d1 : ((x : Int) != 0) = true := by simpa using hx
      clear hne
      go_enter Tryd.func3, Tryd.ntmps3
      go_wp2_with (first
        | (go_at_call 5; clear T1; refine Calls.mono HB1.out ?_; rintro e w' ⟨rfl, rfl⟩)
        | (go_at_call 5; refine Calls.mono HB2.out ?_; rintro e w' ⟨rfl, rfl⟩)
        | (go_at_call 6; refine Calls.mono HS.out ?_; rintro e w1 ⟨rfl, b1⟩)
        | (go_at_call 7; clear T2; refine Calls.mono (HP1.out _ b1) ?_; rintro e w2 ⟨rfl, b2⟩; have b3 := b1.trans (b2.mono b1.size))
        | (go_at_call 7; refine Calls.mono (HP2.out _ b3) ?_; rintro e w3 ⟨rfl, b4⟩; have b5 := b3.trans (b4.mono b3.size)))
      go_ret
      exact ⟨rfl, b5⟩
end Go.Proofs.YtpgobebibjeglaaDoor
namespace Go.Proofs.YtpgobebibjeglaaDoor
open Go.ChangeShapes Go.WideShapes Go.ChangeAt Go.RowKit
set_option linter.unusedVariables false
set_option linter.unusedSimpArgs false

theorem laidOutU : laidOutB Tryd.prog = true := by kernel_rfl
set_option maxRecDepth 100000 in
theorem unlike_lifted (os : Os) (started : os.Started) (H : Type) (enc : TypeId × Value → H) :
    ReturnsInHanded {} Tryd.checked os 3 .any (fun w args => (Rows.treeUnlikeSpec.pre enc Tryd.prog Tryd.f3 [] false w args ∧ laidMetH Tryd.prog laid7 w) ∧ sizedMet enc Tryd.prog Tryd.f3 (OpenSpec.ofChange Rows.treeUnlikeSpec) false w args)
      (Rows.treeUnlikeSpec.post enc Tryd.prog Tryd.f3 false true false false) := by
  refine returnsInHanded_of_change_and (C := Tryd.checked) (X := fun w _ => laidMetH Tryd.prog laid7 w) (fun _ _ _ hh h => h.of_heap hh) own started (by kernel_rfl) Tryd.func3
    (ChangeSpec.witness_shaped (enc := enc) (C := Tryd.checked) (os := os) (X := fun w _ => laidMetH Tryd.prog laid7 w) false (World.doorLaid Tryd.prog 400 os) #[.slice none 0 0, .slice none 0 0] 8 rfl (World.shaped_of_RefB (by kernel_rfl) (by kernel_rfl)) (by kernel_rfl) (by kernel_rfl) (by kernel_rfl) (door_met os _)) ?_
  intro W base args ds gs before hval0 hW _ _ hL _
  have hval : ∀ (j : Nat) t v, Tryd.f3.params[j]? = some t → args[j]? = some v → Value.okWide Tryd.prog W .any base t v := hval0
  have hW' := hW
  obtain ⟨p, q, hA0, hV, rfl, hfz, hnd⟩ := hW
  have hA : DataW.TrodAll enc Tryd.prog W 0 (fun _ => true) true Tryd.f3.params.toList args.toList ds p := hA0
  rw [Tryd.params3] at hA hval
  obtain ⟨v0, vs0, d0, ds0, p0, q0, hargs, rfl, rfl, h0, r0⟩ := trodAll_cons hA
  obtain ⟨v1, vs1, d1, ds1, p1, q1, rfl, rfl, rfl, h1, r1⟩ := trodAll_cons r0
  obtain ⟨rfl, rfl, rfl⟩ := trodAll_nil r1
  obtain rfl : args = #[v0, v1] := by cases args; simp_all
  obtain ⟨rfl, rfl⟩ := trodVars_none hV
  have k0 := h0
  have lt0 : ∀ x ∈ p0, x.block < W.heap.size := by obtain ⟨m, hm⟩ := k0; exact DataW.trod_lt m _ _ _ hm
  have k1 := h1
  have lt1 : ∀ x ∈ p1, x.block < W.heap.size := by obtain ⟨m, hm⟩ := k1; exact DataW.trod_lt m _ _ _ hm
  obtain ⟨a0, len0, cap0, rfl⟩ := okWide_slice Tryd.underlying22 (hval 0 22 v0 rfl rfl)
  obtain ⟨a1, len1, cap1, rfl⟩ := okWide_slice Tryd.underlying22 (hval 1 22 v1 rfl rfl)
  obtain ⟨l, hlen, hn⟩ := nodes_of (show ∃ fuel, DataW.trod enc Tryd.prog W 0 (fun _ => true) true fuel 22 (Value.slice a0 len0 cap0).cells.toList = some (d0, p0) from k0)
  obtain ⟨m, hlen1, hm⟩ := nodes_of (show ∃ fuel, DataW.trod enc Tryd.prog W 0 (fun _ => true) true fuel 22 (Value.slice a1 len1 cap1).cells.toList = some (d1, p1) from k1)
  subst hlen
  subst hlen1
  clear hA0 hval0
  refine (unlike_walk W a0 a1 cap0 cap1 l m hn hm (laidP_of W hL)).mono fun e W' ⟨he, bel⟩ => ?_
  subst he
  exact ⟨_, rfl, _, _, _, [], _, [], hW', trodAll_mk1 (shut_bool Tryd.underlying4 _), (trodAll_cons_mk (Below.trod laidOutU (by kernel_rfl) (of_decide_eq_true (by kernel_rfl)) k0 bel lt0) (trodAll_cons_mk (Below.trod laidOutU (by kernel_rfl) (of_decide_eq_true (by kernel_rfl)) k1 bel lt1) trodAll_mk0)), rfl, bel.frame _, fun h => by cases h⟩

theorem unlike_said : Rows.TreeUnlikeSaid :=
  OpenClaim.holds_of_wide 3 Tryd.f3 rfl rfl rfl rfl rfl rfl rfl ⟨rfl, rfl, rfl, rfl, rfl⟩ rfl rfl rfl rfl rfl (by kernel_rfl) Tryd.func3 (by kernel_rfl)
    (of_decide_eq_true (by kernel_rfl)) (by unfold Func.isWrapper; first | (rw [if_pos (by decide +kernel)]; kernel_rfl) | (rw [if_neg (by decide +kernel)]; exact ⟨rfl, rfl⟩))
    (fun os started H enc _ => unlike_lifted os started H enc)

theorem unlike_plain (f : FuncId) (fn : Func) (hf : Tryd.pinned.checked.prog.funcNamed "squint/squintlaw02.TreeUnlike" = some f) (hfn : Tryd.pinned.checked.prog.funcs[f]? = some fn) :
    true = Tryd.pinned.checked.prog.looks [] ∧ ∀ (j : Nat) t, fn.params[j]? = some t → Tryd.pinned.checked.prog.wantsStandIn t = false := by
  obtain rfl : f = 3 := Option.some.inj ((show Tryd.prog.funcNamed "squint/squintlaw02.TreeUnlike" = some 3 by kernel_rfl).symm.trans hf) |>.symm
  obtain rfl : fn = Tryd.f3 := (Option.some.inj (Tryd.func3.symm.trans hfn)).symm
  refine ⟨by kernel_rfl, fun j t ht => ?_⟩
  rw [Tryd.params3] at ht
  have hm : t ∈ [22, 22] := by simpa using Array.mem_of_getElem? ht
  have hall : ([22, 22].all fun u => !Tryd.prog.wantsStandIn u) = true := by kernel_rfl
  exact (show Tryd.prog.wantsStandIn t = false by simpa using List.all_eq_true.1 hall t hm)

/-- ████ THE CARD ████ -/
theorem treeUnlike_holds : Rows.TreeUnlikeCardSaid :=
  Claim7.holds_tied_plain_at .later [] _ _ _ _ unlike_said (fun _ h => by cases h) (by kernel_rfl) (fun _ h => by cases h) treeUnlike_row_tie rfl ⟨rfl, rfl⟩ (by kernel_rfl) rfl unlike_plain (by kernel_rfl)
#print axioms treeUnlike_holds
end Go.Proofs.YtpgobebibjeglaaDoor
