import Derived.Test.YtijdcplffmdijaaDoorCDFf
namespace Go.Proofs.YtijdcplffmdijaaDoor
open Go.RowKit
set_option linter.unusedVariables false
set_option linter.unusedSimpArgs false

/-- what add leaves -/
def AP (w : World) (B ub : Nat) (u : CUn) (r : Option CUn) (b : Bool) (w2 : World) : Prop :=
  match r with
  | none => b = false ∧ Below B w w2
  | some u' => b = true ∧ Below B w w2 ∧ UW w2 B ub u'
/-- an instruction's line -/
def insR (u : CUn) (word : List UInt8) (l : List Int) : Option CUn := match insOf (opI word) l with
  | none => none
  | some i => if u.progs.length = 0 then none else some (addIns u i)
/-- what add answers, and leaves -/
def AQ (w : World) (B ub : Nat) (u : CUn) (r : Option CUn) (e : Ending) (w2 : World) : Prop := ∃ b : Bool, e = .returned (.bool b) ∧ Bx (AP w B ub u r b w2)
theorem szU_types (u : CUn) : u.types.length ≤ szU u := by unfold szU; omega
theorem szU_progs (u : CUn) : u.progs.length ≤ szU u := by
  have := sumF_len (fun p : CPg => 1 + p.code.length) (fun x => by omega) u.progs
  unfold szU
  omega
theorem type_call (w w1 : World) (B ub : Nat) (u : CUn) (hu : UW w B ub u) (hBu : B ≤ ub) (hb : Below w.heap.size w w1) (hBw : B ≤ w.heap.size) (a : Option Addr) (cap : Nat) (l : List Int) (hi : IK w1 a cap l) (hl : l.length ≤ 1099511627776) (hz : szU u ≤ 1099511627776) :
    Calls Tryd.prog 64 #[.pointer (some ⟨ub, 0, none⟩), .slice a l.length cap] w1 (AQ w B ub u (if 0 < u.progs.length ∨ l.length < 2 ∨ isBitI (l.getD 1 0) = false then none else some { u with types := u.types ++ [⟨l.getD 0 0, l.drop 2, l.getD 1 0 == 1⟩] })) := by
  have hu1 := hu.below hb
  have ht := szU_types u
  by_cases h : 0 < u.progs.length ∨ l.length < 2 ∨ isBitI (l.getD 1 0) = false
  · rw [if_pos h]
    refine (addType_no w1 B ub u hu1 a cap l hi.ints h).mono ?_
    rintro e w2 ⟨rfl, rfl⟩
    exact ⟨false, rfl, ⟨rfl, hb.mono hBw⟩⟩
  · rw [if_neg h]
    rw [not_or, not_or] at h
    obtain ⟨h0, h1, h2⟩ := h
    have h00 : u.progs = [] := List.eq_nil_of_length_eq_zero (by omega)
    match l, h1, h2, hi, hl with
    | x :: d :: kd, _, h2, hi, hl =>
      simp only [List.getD_cons_succ, List.getD_cons_zero] at h2 ⊢
      obtain ⟨b', o', LC, fz, hbo, _, _⟩ := hi.at_ (by simp)
      subst hbo
      rcases (show d = 0 ∨ d = 1 by unfold isBitI at h2; simp at h2; omega) with rfl | rfl
      · refine (addType_b0 w1 B ub b' o' cap u hu1 h00 x kd hi hBu (by omega) (by simp at hl; omega) _ rfl).mono ?_
        rintro e w2 ⟨rfl, hx⟩
        exact ⟨true, rfl, ⟨rfl, (hb.mono hBw).trans hx.out.1, hx.out.2⟩⟩
      · refine (addType_b1 w1 B ub b' o' cap u hu1 h00 x kd hi hBu (by omega) (by simp at hl; omega) _ rfl).mono ?_
        rintro e w2 ⟨rfl, hx⟩
        exact ⟨true, rfl, ⟨rfl, (hb.mono hBw).trans hx.out.1, hx.out.2⟩⟩
    | [], h1, _, _, _ => exact absurd (by simp) h1
    | [_], h1, _, _, _ => exact absurd (by simp) h1
theorem prog_call (w w1 : World) (B ub : Nat) (u : CUn) (hu : UW w B ub u) (hBu : B ≤ ub) (hb : Below w.heap.size w w1) (hBw : B ≤ w.heap.size) (a : Option Addr) (cap : Nat) (l : List Int) (hi : IK w1 a cap l) (hl : l.length = 4) (hz : szU u ≤ 1099511627776) :
    Calls Tryd.prog 65 #[.pointer (some ⟨ub, 0, none⟩), .slice a 4 cap] w1 (AQ w B ub u (if isBitI (l.getD 3 0) = false then none else some { u with progs := u.progs ++ [⟨l.getD 0 0, l.getD 1 0, l.getD 2 0, l.getD 3 0 == 1, []⟩] })) := by
  have hu1 := hu.below hb
  have ht := szU_progs u
  match l, hl, hi with
  | [x0, x1, x2, d], _, hi =>
    simp only [List.getD_cons_succ, List.getD_cons_zero]
    obtain ⟨b', o', LC, fz, hbo, hlb, hcs⟩ := hi.at_ (by simp)
    subst hbo
    have h0 : w1.cell? ⟨b', o', none⟩ = some (.int .i64 x0) := hcs 0 (by simp)
    have h1 : w1.cell? ⟨b', o' + 1, none⟩ = some (.int .i64 x1) := hcs 1 (by simp)
    have h2 : w1.cell? ⟨b', o' + 2, none⟩ = some (.int .i64 x2) := hcs 2 (by simp)
    have h3 : w1.cell? ⟨b', o' + 3, none⟩ = some (.int .i64 d) := hcs 3 (by simp)
    have hc : 4 ≤ cap := hi.cap
    by_cases h : isBitI d = false
    · rw [if_pos h]
      refine (addProg_no w1 _ b' o' cap d h3 hc h).mono ?_
      rintro e w2 ⟨rfl, rfl⟩
      exact ⟨false, rfl, ⟨rfl, hb.mono hBw⟩⟩
    · rw [if_neg h]
      rcases (show d = 0 ∨ d = 1 by unfold isBitI at h; simp at h; omega) with rfl | rfl
      · refine (addProg_b0 w1 B ub b' o' cap u hu1 x0 x1 x2 LC fz hlb h0 h1 h2 h3 hc hBu (by omega)).mono ?_
        rintro e w2 ⟨rfl, hx⟩
        exact ⟨true, rfl, ⟨rfl, (hb.mono hBw).trans hx.out.1, hx.out.2⟩⟩
      · refine (addProg_b1 w1 B ub b' o' cap u hu1 x0 x1 x2 LC fz hlb h0 h1 h2 h3 hc hBu (by omega)).mono ?_
        rintro e w2 ⟨rfl, hx⟩
        exact ⟨true, rfl, ⟨rfl, (hb.mono hBw).trans hx.out.1, hx.out.2⟩⟩
theorem ins_call (w w1 : World) (hL : Shp w1) (B ub : Nat) (u : CUn) (hu : UW w B ub u) (hBu : B ≤ ub) (hb : Below w.heap.size w w1) (hBw : B ≤ w.heap.size) (word : List UInt8) (a : Option Addr) (cap : Nat) (l : List Int) (hi : IK w1 a cap l) (hl : l.length ≤ 1099511627776) (hz : szU u ≤ 1099511627776) :
    Calls Tryd.prog 66 #[.pointer (some ⟨ub, 0, none⟩), strV word, .slice a l.length cap] w1 (AQ w B ub u (insR u word l)) := by
  unfold insR
  have hu1 := hu.below hb
  have hs := hb.size
  cases hins : insOf (opI word) l with
  | none =>
    refine (addIns_none w1 hL _ word a cap l hi.ints hl hins).mono ?_
    rintro e w2 ⟨rfl, h2⟩
    exact ⟨false, rfl, ⟨rfl, (hb.mono hBw).trans (h2.mono (by omega))⟩⟩
  | some i =>
    simp only []
    by_cases h0 : u.progs.length = 0
    · rw [if_pos h0]
      refine (addIns_zero w1 hL B ub u hu1 (List.eq_nil_of_length_eq_zero h0) word a cap l hi.ints hl i hins).mono ?_
      rintro e w2 ⟨rfl, h2⟩
      exact ⟨false, rfl, ⟨rfl, (hb.mono hBw).trans (h2.mono (by omega))⟩⟩
    · rw [if_neg h0]
      obtain ⟨ps, ts⟩ := u
      obtain ⟨qs, p, rfl⟩ := last_of (ps := ps) (by rintro rfl; exact h0 rfl)
      rw [szU_p] at hz
      have hq := sumF_len (fun p : CPg => 1 + p.code.length) (fun x => by omega) qs
      rw [addIns_last]
      refine (addIns_yes w1 hL B ub qs p ts hu1 word a cap l hi.ints hl i hins hBu (by omega) (by omega)).mono ?_
      rintro e w2 ⟨rfl, hx⟩
      exact ⟨true, rfl, ⟨rfl, (hb.mono hBw).trans hx.out.1, hx.out.2⟩⟩
set_option maxRecDepth 100000 in
set_option maxHeartbeats 2000000 in
theorem add_any (w : World) (hL : LW w) (B ub : Nat) (u : CUn) (hu : UW w B ub u) (hBu : B ≤ ub) (line : List UInt8) (hln : line.length ≤ 1099511627776) (hz : szU u ≤ 1099511627776) :
    Calls Tryd.prog 50 #[.pointer (some ⟨ub, 0, none⟩), strV line] w (AQ w B ub u (addL u line)) := by
  have hub : ub < w.heap.size := by
    obtain ⟨pv, tv, pcs, cut, u1, _⟩ := hu.ex
    exact (Array.getElem?_eq_some_iff.1 u1).1
  have HS := split_any line w hL (by omega)
  have hpl := pieces_len 32 line
  unfold SplitA at HS
  unfold addL
  cases hn : numsOf (pieces 32 line).2 with
  | none =>
    rw [hn] at HS
    simp only [] at HS
    have hB : Bx (B ≤ w.heap.size) := ⟨by omega⟩
    clear hL hu hBu hub hpl
    go_enter Tryd.func50, Tryd.ntmps50
    go_wp2_with (first
      | (go_at_call 63; refine HS.mono ?_; rintro e w1 ⟨rfl, hb1⟩))
    go_ret
    exact ⟨false, rfl, ⟨rfl, hb1.mono hB.out⟩⟩
  | some l =>
    rw [hn] at HS
    simp only [] at HS ⊢
    have hll : l.length ≤ 1099511627776 := by
      have := congrArg List.length (numsOf_some hn).1
      rw [List.length_map] at this
      omega
    have HS2 : Calls Tryd.prog 63 #[strV line] w fun e w' => ∃ a cap, e = .returned (.tuple #[strV (pieces 32 line).1, .slice a l.length cap, .bool true]) ∧ Bx (IK w' a cap l ∧ Below w.heap.size w w') := HS.mono fun e w' h => by
      obtain ⟨v, h1, h2, h3⟩ := h
      obtain ⟨a, cap, rfl, hk⟩ := IK.of_own h2.own
      exact ⟨a, cap, h1, ⟨hk, h3⟩⟩
    have HT : Bx (∀ w1 a cap, IK w1 a cap l ∧ Below w.heap.size w w1 → _) := ⟨fun w1 a cap h => type_call w w1 B ub u hu hBu h.2 (by omega) a cap l h.1 hll hz⟩
    have HP : Bx (∀ w1 a cap, IK w1 a cap l ∧ Below w.heap.size w w1 → ∀ h4 : l.length = 4, _) := ⟨fun w1 a cap h h4 => prog_call w w1 B ub u hu hBu h.2 (by omega) a cap l h.1 h4 hz⟩
    have HI : Bx (∀ w1 a cap word, IK w1 a cap l ∧ Below w.heap.size w w1 → _) := ⟨fun w1 a cap word h => ins_call w w1 (hL.below h.2).shp B ub u hu hBu h.2 (by omega) word a cap l h.1 hll hz⟩
    generalize (pieces 32 line).1 = word at *
    clear HS hL hu hBu hub hpl hn hln
    by_cases hw1 : word = typeW
    · rw [if_pos hw1]
      subst hw1
      generalize (if 0 < u.progs.length ∨ l.length < 2 ∨ isBitI (l.getD 1 0) = false then none else some ({ u with types := u.types ++ [⟨l.getD 0 0, l.drop 2, l.getD 1 0 == 1⟩] } : CUn)) = R at *
      generalize l.length = ln at *
      clear HP HI
      unfold typeW at HS2
      go_enter Tryd.func50, Tryd.ntmps50
      go_wp2_with (first
        | (go_at_call 63; refine HS2.mono ?_; rintro e w1 ⟨a, cap, rfl, HX⟩)
        | (go_at_call 64; refine (HT.out _ _ _ HX.out).mono ?_; rintro e w2 ⟨b, rfl, HR⟩))
      go_ret
      exact ⟨b, rfl, HR⟩
    · rw [if_neg hw1]
      by_cases hw2 : word = progW ∧ l.length = 4
      · rw [if_pos hw2]
        obtain ⟨hw2, hw3⟩ := hw2
        subst hw2
        generalize (if isBitI (l.getD 3 0) = false then none else some ({ u with progs := u.progs ++ [⟨l.getD 0 0, l.getD 1 0, l.getD 2 0, l.getD 3 0 == 1, []⟩] } : CUn)) = R at *
        rw [hw3] at HS2
        have HP2 : Bx _ := ⟨fun w1 a cap h => HP.out w1 a cap h hw3⟩
        clear HT HI HP hw1 hw3
        unfold progW at HS2
        go_enter Tryd.func50, Tryd.ntmps50
        go_wp2_with (first
          | (go_at_call 63; refine HS2.mono ?_; rintro e w1 ⟨a, cap, rfl, HX⟩)
          | (go_at_call 65; refine (HP2.out _ _ _ HX.out).mono ?_; rintro e w2 ⟨b, rfl, HR⟩))
        go_ret
        exact ⟨b, rfl, HR⟩
      · rw [if_neg hw2]
        show Calls _ _ _ _ (AQ w B ub u (insR u word l))
        have HI2 : Bx _ := ⟨fun w1 a cap h => HI.out w1 a cap word h⟩
        clear HT HI HP
        by_cases hw3 : word = progW
        · have hl4 : ¬ (l.length : Int) = 4 := fun h => hw2 ⟨hw3, by omega⟩
          have hl5 : ((l.length : Int) == 4) = false := by simpa using hl4
          subst hw3
          clear hw1 hw2
          generalize l.length = ln at *
          unfold progW at HS2 HI2 ⊢
          go_enter Tryd.func50, Tryd.ntmps50
          go_wp2_with (first
            | (go_at_call 63; refine HS2.mono ?_; rintro e w1 ⟨a, cap, rfl, HX⟩)
            | (go_at_call 66; refine (HI2.out _ _ _ HX.out).mono ?_; rintro e w2 ⟨b, rfl, HR⟩))
          go_ret
          exact ⟨b, rfl, HR⟩
        · unfold typeW at hw1
          unfold progW at hw3
          have hx1 : (word == [116, 121, 112, 101]) = false := by simpa using hw1
          have hx3 : (word == [112, 114, 111, 103]) = false := by simpa using hw3
          clear hw1 hw3
          clear hw2
          generalize l.length = ln at *
          go_enter Tryd.func50, Tryd.ntmps50
          go_wp2_with (first
            | (go_at_call 63; refine HS2.mono ?_; rintro e w1 ⟨a, cap, rfl, HX⟩)
            | (go_at_call 66; refine (HI2.out _ _ _ HX.out).mono ?_; rintro e w2 ⟨b, rfl, HR⟩))
          go_ret
          exact ⟨b, rfl, HR⟩
end Go.Proofs.YtijdcplffmdijaaDoor
