import Derived.Test.YtijdcplffmdijaaDoorCDFf
namespace Go.Proofs.YtijdcplffmdijaaDoor
open Go.RowKit
set_option linter.unusedVariables false
set_option linter.unusedSimpArgs false

/-- what add leaves -/
def AP (w : World) (B ub : Nat) (u : CUn) (r : Option CUn) (b : Bool) (w2 : World) : Prop :=
  match r with
  | none => b = false ∧ Below B w w2
  | some u' => b = true ∧ Below B w w2 ∧ UW w2 B ub u'
/-- an instruction's line -/
def insR (u : CUn) (word : List UInt8) (l : List Int) : Option CUn := match insOf (opI word) l with
  | none => none
  | some i => if u.progs.length = 0 then none else some (addIns u i)
/-- what add answers, and leaves -/
def AQ (w : World) (B ub : Nat) (u : CUn) (r : Option CUn) (e : Ending) (w2 : World) : Prop := ∃ b : Bool, e = .returned (.bool b) ∧ Bx (AP w B ub u r b w2)
theorem szU_types (u : CUn) : u.types.length ≤ szU u := by unfold szU; omega
theorem szU_progs (u : CUn) : u.progs.length ≤ szU u := by
  have := sumF_len (fun p : CPg => 1 + p.code.length) (fun x => by omega) u.progs
  unfold szU
  omega
theorem type_call (w w1 : World) (B ub : Nat) (u : CUn) (hu : UW w B ub u) (hBu : B ≤ ub) (hb : Below w.heap.size w w1) (hBw : B ≤ w.heap.size) (a : Option Addr) (cap : Nat) (l : List Int) (hi : IK w1 a cap l) (hl : l.length ≤ 1099511627776) (hz : szU u ≤ 1099511627776) :
    Calls Tryd.prog 64 #[.pointer (some ⟨ub, 0, none⟩), .slice a l.length cap] w1 (AQ w B ub u (if 0 < u.progs.length ∨ l.length < 2 ∨ isBitI (l.getD 1 0) = false then none else some { u with types := u.types ++ [⟨l.getD 0 0, l.drop 2, l.getD 1 0 == 1⟩] })) := by
  have hu1 := hu.below hb
  have ht := szU_types u
  by_cases h : 0 < u.progs.length ∨ l.length < 2 ∨ isBitI (l.getD 1 0) = false
  · rw [if_pos h]
    refine (addType_no w1 B ub u hu1 a cap l hi.ints h).mono ?_
    rintro e w2 ⟨rfl, rfl⟩
    exact ⟨false, rfl, ⟨rfl, hb.mono hBw⟩⟩
  · rw [if_neg h]
    rw [not_or, not_or] at h
    obtain ⟨h0, h1, h2⟩ := h
    have h00 : u.progs = [] := List.eq_nil_of_length_eq_zero (by omega)
    match l, h1, h2, hi, hl with
    | x :: d :: kd, _, h2, hi, hl =>
      simp only [List.getD_cons_succ, List.getD_cons_zero] at h2 ⊢
      obtain ⟨b', o', LC, fz, hbo, _, _⟩ := hi.at_ (by simp)
      subst hbo
      rcases (show d = 0 ∨ d = 1 by unfold isBitI at h2; simp at h2; omega) with rfl | rfl
      · refine (addType_b0 w1 B ub b' o' cap u hu1 h00 x kd hi hBu (by omega) (by simp at hl; omega) _ rfl).mono ?_
        rintro e w2 ⟨rfl, hx⟩
        exact ⟨true, rfl, ⟨rfl, (hb.mono hBw).trans hx.out.1, hx.out.2⟩⟩
      · refine (addType_b1 w1 B ub b' o' cap u hu1 h00 x kd hi hBu (by omega) (by simp at hl; omega) _ rfl).mono ?_
        rintro e w2 ⟨rfl, hx⟩
        exact ⟨true, rfl, ⟨rfl, (hb.mono hBw).trans hx.out.1, hx.out.2⟩⟩
    | [], h1, _, _, _ => exact absurd (by simp) h1
    | [_], h1, _, _, _ => exact absurd (by simp) h1
theorem prog_call (w w1 : World) (B ub : Nat) (u : CUn) (hu : UW w B ub u) (hBu : B ≤ ub) (hb : Below w.heap.size w w1) (hBw : B ≤ w.heap.size) (a : Option Addr) (cap : Nat) (l : List Int) (hi : IK w1 a cap l) (hl : l.length = 4) (hz : szU u ≤ 1099511627776) :
    Calls Tryd.prog 65 #[.pointer (some ⟨ub, 0, none⟩), .slice a 4 cap] w1 (AQ w B ub u (if isBitI (l.getD 3 0) = false then none else some { u with progs := u.progs ++ [⟨l.getD 0 0, l.getD 1 0, l.getD 2 0, l.getD 3 0 == 1, []⟩] })) := by
  have hu1 := hu.below hb
  have ht := szU_progs u
  match l, hl, hi with
  | [x0, x1, x2, d], _, hi =>
    simp only [List.getD_cons_succ, List.getD_cons_zero]
    obtain ⟨b', o', LC, fz, hbo, hlb, hcs⟩ := hi.at_ (by simp)
    subst hbo
    have h0 : w1.cell? ⟨b', o', none⟩ = some (.int .i64 x0) := hcs 0 (by simp)
    have h1 : w1.cell? ⟨b', o' + 1, none⟩ = some (.int .i64 x1) := hcs 1 (by simp)
    have h2 : w1.cell? ⟨b', o' + 2, none⟩ = some (.int .i64 x2) := hcs 2 (by simp)
    have h3 : w1.cell? ⟨b', o' + 3, none⟩ = some (.int .i64 d) := hcs 3 (by simp)
    have hc : 4 ≤ cap := hi.cap
    by_cases h : isBitI d = false
    · rw [if_pos h]
      refine (addProg_no w1 _ b' o' cap d h3 hc h).mono ?_
      rintro e w2 ⟨rfl, rfl⟩
      exact ⟨false, rfl, ⟨rfl, hb.mono hBw⟩⟩
    · rw [if_neg h]
      rcases (show d = 0 ∨ d = 1 by unfold isBitI at h; simp at h; omega) with rfl | rfl
      · refine (addProg_b0 w1 B ub b' o' cap u hu1 x0 x1 x2 LC fz hlb h0 h1 h2 h3 hc hBu (by omega)).mono ?_
        rintro e w2 ⟨rfl, hx⟩
        exact ⟨true, rfl, ⟨rfl, (hb.mono hBw).trans hx.out.1, hx.out.2⟩⟩
      · refine (addProg_b1 w1 B ub b' o' cap u hu1 x0 x1 x2 LC fz hlb h0 h1 h2 h3 hc hBu (by omega)).mono ?_
        rintro e w2 ⟨rfl, hx⟩
        exact ⟨true, rfl, ⟨rfl, (hb.mono hBw).trans hx.out.1, hx.out.2⟩⟩
theorem ins_call (w w1 : World) (hL : Shp w1) (B ub : Nat) (u : CUn) (hu : UW w B ub u) (hBu : B ≤ ub) (hb : Below w.heap.size w w1) (hBw : B ≤ w.heap.size) (word : List UInt8) (a : Option Addr) (cap : Nat) (l : List Int) (hi : IK w1 a cap l) (hl : l.length ≤ 1099511627776) (hz : szU u ≤ 1099511627776) :
    Calls Tryd.prog 66 #[.pointer (some ⟨ub, 0, none⟩), strV word, .slice a l.length cap] w1 (AQ w B ub u (insR u word l)) := by
  unfold insR
  have hu1 := hu.below hb
  have hs := hb.size
  cases hins : insOf (opI word) l with
  | none =>
    refine (addIns_none w1 hL _ word a cap l hi.ints hl hins).mono ?_
    rintro e w2 ⟨rfl, h2⟩
    exact ⟨false, rfl, ⟨rfl, (hb.mono hBw).trans (h2.mono (by omega))⟩⟩
  | some i =>
    simp only []
    by_cases h0 : u.progs.length = 0
    · rw [if_pos h0]
      refine (addIns_zero w1 hL B ub u hu1 (List.eq_nil_of_length_eq_zero h0) word a cap l hi.ints hl i hins).mono ?_
      rintro e w2 ⟨rfl, h2⟩
      exact ⟨false, rfl, ⟨rfl, (hb.mono hBw).trans (h2.mono (by omega))⟩⟩
    · rw [if_neg h0]
      obtain ⟨ps, ts⟩ := u
      obtain ⟨qs, p, rfl⟩ := last_of (ps := ps) (by rintro rfl; exact h0 rfl)
      rw [szU_p] at hz
      have hq := sumF_len (fun p : CPg => 1 + p.code.length) (fun x => by omega) qs
      rw [addIns_last]
      refine (addIns_yes w1 hL B ub qs p ts hu1 word a cap l hi.ints hl i hins hBu (by omega) (by omega)).mono ?_
      rintro e w2 ⟨rfl, hx⟩
      exact ⟨true, rfl, ⟨rfl, (hb.mono hBw).trans hx.out.1, hx.out.2⟩⟩
set_option maxRecDepth 100000 in
set_option maxHeartbeats 2000000 in
theorem add_any (w : World) (hL : LW w) (B ub : Nat) (u : CUn) (hu : UW w B ub u) (hBu : B ≤ ub) (line : List UInt8) (hln : line.length ≤ 1099511627776) (hz : szU u ≤ 1099511627776) :
    Calls Tryd.prog 50 #[.pointer (some ⟨ub, 0, none⟩), strV line] w (AQ w B ub u (addL u line)) := by
  have hub : ub < w.heap.size := by
    obtain ⟨pv, tv, pcs, cut, u1, _⟩ := hu.ex
    exact (Array.getElem?_eq_some_iff.1 u1).1
  have HS := split_any line w hL (by omega)
  have hpl := pieces_len 32 line
  unfold SplitA at HS
  unfold addL
  cases hn : numsOf (pieces 32 line).2 with
  | none =>
    rw [hn] at HS
    simp only [] at HS
    have hB : Bx (B ≤ w.heap.size) := ⟨by omega⟩
    clear hL hu hBu hub hpl
    go_enter Tryd.func50, Tryd.ntmps50
    go_wp2_with (first
      | (go_at_call 63; refine HS.mono ?_; rintro e w1 ⟨rfl, hb1⟩))
    go_ret
    exact ⟨false, rfl, ⟨rfl, hb1.mono hB.out⟩⟩
  | some l =>
    rw [hn] at HS
    simp only [] at HS ⊢
    have hll : l.length ≤ 1099511627776 := by
      have := congrArg List.length (numsOf_some hn).1
      rw [List.length_map] at this
      omega
    have HS2 : Calls Tryd.prog 63 #[strV line] w fun e w' => ∃ a cap, e = .returned (.tuple #[strV (pieces 32 line).1, .slice a l.length cap, .bool true]) ∧ Bx (IK w' a cap l ∧ Below w.heap.size w w') := HS.mono fun e w' h => by
      obtain ⟨v, h1, h2, h3⟩ := h
      obtain ⟨a, cap, rfl, hk⟩ := IK.of_own h2.own
      exact ⟨a, cap, h1, ⟨hk, h3⟩⟩
    have HT : Bx (∀ w1 a cap, IK w1 a cap l ∧ Below w.heap.size w w1 → _) := ⟨fun w1 a cap h => type_call w w1 B ub u hu hBu h.2 (by omega) a cap l h.1 hll hz⟩
    have HP : Bx (∀ w1 a cap, IK w1 a cap l ∧ Below w.heap.size w w1 → ∀ h4 : l.length = 4, _) := ⟨fun w1 a cap h h4 => prog_call w w1 B ub u hu hBu h.2 (by omega) a cap l h.1 h4 hz⟩
    have HI : Bx (∀ w1 a cap word, IK w1 a cap l ∧ Below w.heap.size w w1 → _) := ⟨fun w1 a cap word h => ins_call w w1 (hL.below h.2).shp B ub u hu hBu h.2 (by omega) word a cap l h.1 hll hz⟩
    generalize (pieces 32 line).1 = word at *
    clear HS hL hu hBu hub hpl hn hln
    by_cases hw1 : word = typeW
    · rw [if_pos hw1]
      subst hw1
      generalize (if 0 < u.progs.length ∨ l.length < 2 ∨ isBitI (l.getD 1 0) = false then none else some ({ u with types := u.types ++ [⟨l.getD 0 0, l.drop 2, l.getD 1 0 == 1⟩] } : CUn)) = R at *
      generalize l.length = ln at *
      clear HP HI
      unfold typeW at HS2
      go_enter Tryd.func50, Tryd.ntmps50
      go_wp2_with (first
        | (go_at_call 63; refine HS2.mono ?_; rintro e w1 ⟨a, cap, rfl, HX⟩)
        | (go_at_call 64; refine (HT.out _ _ _ HX.out).mono ?_; rintro e w2 ⟨b, rfl, HR⟩))
      go_ret
      exact ⟨b, rfl, HR⟩
    · rw [if_neg hw1]
      by_cases hw2 : word = progW ∧ l.length = 4
      · rw [if_pos hw2]
        obtain ⟨hw2, hw3⟩ := hw2
        subst hw2
        generalize (if isBitI (l.getD 3 0) = false then none else some ({ u with progs := u.progs ++ [⟨l.getD 0 0, l.getD 1 0, l.getD 2 0, l.getD 3 0 == 1, []⟩] } : CUn)) = R at *
        rw [hw3] at HS2
        have HP2 : Bx _ := ⟨fun w1 a cap h => HP.out w1 a cap h hw3⟩
        clear HT HI HP hw1 hw3
        unfold progW at HS2
        go_enter Tryd.func50, Tryd.ntmps50
        go_wp2_with (first
          | (go_at_call 63; refine HS2.mono ?_; rintro e w1 ⟨a, cap, rfl, HX⟩)
          | (go_at_call 65; refine (HP2.out _ _ _ HX.out).mono ?_; rintro e w2 ⟨b, rfl, HR⟩))
        go_ret
        exact ⟨b, rfl, HR⟩
      · rw [if_neg hw2]
        show Calls _ _ _ _ (AQ w B ub u (insR u word l))
        have HI2 : Bx _ := ⟨fun w1 a cap h => HI.out w1 a cap word h⟩
        clear HT HI HP
        by_cases hw3 : word = progW
        · have hl4 : ¬ (l.length : Int) = 4 := fun h => hw2 ⟨hw3, by omega⟩
          have hl5 : ((l.length : Int) == 4) = false := by simpa using hl4
          subst hw3
          clear hw1 hw2
          generalize l.length = ln at *
          unfold progW at HS2 HI2 ⊢
          go_enter Tryd.func50, Tryd.ntmps50
          go_wp2_with (first
            | (go_at_call 63; refine HS2.mono ?_; rintro e w1 ⟨a, cap, rfl, HX⟩)
            | (go_at_call 66; refine (HI2.out _ _ _ HX.out).mono ?_; rintro e w2 ⟨b, rfl, HR⟩))
          go_ret
          exact ⟨b, rfl, HR⟩
        · unfold typeW at hw1
          unfold progW at hw3
          have hx1 : (word == [116, 121, 112, 101]) = false := by simpa using hw1
          have hx3 : (word == [112, 114, 111, 103]) = false := by simpa using hw3
          clear hw1 hw3
          clear hw2
          generalize l.length = ln at *
          go_enter Tryd.func50, Tryd.ntmps50
          go_wp2_with (first
            | (go_at_call 63; refine HS2.mono ?_; rintro e w1 ⟨a, cap, rfl, HX⟩)
            | (go_at_call 66; refine (HI2.out _ _ _ HX.out).mono ?_; rintro e w2 ⟨b, rfl, HR⟩))
          go_ret
          exact ⟨b, rfl, HR⟩
end Go.Proofs.YtijdcplffmdijaaDoor
namespace Go.Proofs.YtijdcplffmdijaaDoor
open Go.RowKit
set_option linter.unusedVariables false
set_option linter.unusedSimpArgs false

/-- what Parse answers, and leaves -/
def ParA (w : World) (r : CUn × Nat × Int) (e : Ending) (w' : World) : Prop := ∃ pa pc ta tc, e = .returned (.tuple #[.agg #[.slice pa r.1.progs.length pc, .slice ta r.1.types.length tc], .int .i64 r.2.1, .int .i64 r.2.2]) ∧ Bx (UnIn w' w'.heap.size pa pc ta tc r.1 ∧ Below w.heap.size w w')
theorem UW.setR {w : World} {B ub rb i : Nat} {u : CUn} {C : Array Value} {v : Value} (h : UW w B ub u) (hr : w.heap[rb]? = some (.cells C 36 (0, 0))) (hne : ub ≠ rb) : UW (w.setCell ⟨rb, i, none⟩ v) B ub u := by
  obtain ⟨pv, tv, pcs, cut, h1, h2, h3, h4, h5, h6⟩ := h.ex
  have hk := Kp.set (i := i) (v := v) hr
  exact ⟨pv, tv, pcs, cut, (Below.heap_setCell w ⟨rb, i, none⟩ v ub hne).trans h1, h2.on (TyC.on hk fun _ => by decide) hk fun _ _ => by decide, owns_on h3 hk fun _ _ => by decide, h4, Nat.le_trans h5 hk.size, h6.on hk (fun _ => by decide) fun _ => by decide⟩
theorem cut_ten {c : UInt8} : ∀ {l : List UInt8}, c ∈ l → ∃ a r, l = a ++ c :: r ∧ c ∉ a
  | x :: l, h => by
    by_cases hx : x = c
    · subst hx
      exact ⟨[], l, rfl, by simp⟩
    · rcases List.mem_cons.1 h with rfl | h
      · exact absurd rfl hx
      · obtain ⟨a, r, rfl, h2⟩ := cut_ten h
        exact ⟨x :: a, r, rfl, by rw [List.mem_cons, not_or]; exact ⟨fun e => hx e.symm, h2⟩⟩
/-- in the midst of Parse -/
structure PIn (w : World) (text tl : List UInt8) (k : Nat) (u : CUn) (wr : World) : Prop where
  bel : Below w.heap.size w wr
  res : wr.heap[w.heap.size]? = some (.cells #[.slice none 0 0, .slice none 0 0] 36 (0, 0))
  uw : UW wr (w.heap.size + 1) (w.heap.size + 1) u
  rd : rd tl u k = readU text
  sz : szU u + 1 = k
  len : k + tl.length ≤ text.length + 1
theorem PIn.below {w wr w' : World} {text tl : List UInt8} {k : Nat} {u : CUn} (h : PIn w text tl k u wr) (hb : Below wr.heap.size wr w') : PIn w text tl k u w' :=
  ⟨h.bel.trans (hb.mono h.bel.size), below_heap hb h.res, h.uw.below hb, h.rd, h.sz, h.len⟩
/-- refused -/
theorem par_bad {w w2 : World} {text : List UInt8} {k : Nat} (hr : readU text = (⟨[], []⟩, k, 80)) (hb : Below w.heap.size w w2) :
    Bx (UnIn w2 w2.heap.size none 0 none 0 (readU text).1 ∧ Below w.heap.size w w2) := by
  rw [hr]
  exact ⟨⟨Row.nil _ _ _ _ _, Row.nil _ _ _ _ _⟩, hb⟩
set_option maxRecDepth 100000 in
set_option maxHeartbeats 4000000 in
theorem Parse_any (w : World) (hL : LW w) (text : List UInt8) (hlen : text.length ≤ 549755813888) :
    Calls Tryd.prog 26 #[strV text] w (ParA w (readU text)) := by
  obtain ⟨w0, hw0⟩ : ∃ w0, w0 = (w.alloc (.cells #[.slice none 0 0, .slice none 0 0] 36)).alloc (.cells #[.slice none 0 0, .slice none 0 0] 36) := ⟨_, rfl⟩
  have hb0 : Below w.heap.size w w0 := by rw [hw0]; exact (below1 w _).trans ((below1 _ _).mono (by simp))
  have hr0 : w0.heap[w.heap.size]? = some (.cells #[.slice none 0 0, .slice none 0 0] 36 (0, 0)) := by rw [hw0]; exact below_heap (below1 _ _) (heap_new w _)
  have hu0 : w0.heap[w.heap.size + 1]? = some (.cells #[.slice none 0 0, .slice none 0 0] 36 (0, 0)) := by rw [hw0]; exact heap_newH _ _ _ (by simp)
  have HP0 : Bx (PIn w text text 1 ⟨[], []⟩ w0) := ⟨⟨hb0, hr0, UW.new hu0 (Nat.le_of_lt (Array.getElem?_eq_some_iff.1 hu0).1), (readU_rd text).symm, rfl, by omega⟩⟩
  have HL : Bx (∀ W, Below w.heap.size w W → LW W) := ⟨fun W hb => hL.below hb⟩
  have HLN : Bx (text.length ≤ 549755813888) := ⟨hlen⟩
  obtain ⟨H, hH⟩ : ∃ H, H = w.heap.size := ⟨_, rfl⟩
  have HH : Bx (H = w.heap.size) := ⟨hH⟩
  clear hL hb0 hr0 hu0 hlen
  obtain ⟨TL, hTL⟩ : ∃ TL, TL = text.length := ⟨_, rfl⟩
  have HTL : Bx _ := ⟨hTL⟩
  clear hTL
  show Calls Tryd.prog 26 #[.string ⟨text.toArray⟩] w _
  clear hH
  go_enter Tryd.func26, Tryd.ntmps26
  go_wp2
  rw [← hw0]
  clear hw0
  go_loopw [0, 6] (fun t n wr => ∃ tl k u, t = strV tl ∧ n = .int .i64 ((k : Nat) : Int) ∧ Bx (PIn w text tl k u wr)) (fun _ n _ => TL + 2 - (intOf n).toNat)
  case atStart => exact ⟨text, 1, ⟨[], []⟩, rfl, rfl, HP0⟩
  case round =>
    obtain ⟨tl, k, u, rfl, rfl, HP⟩ := hrel
    by_cases htl : tl = []
    · subst htl
      have hrd : readU text = (u, 0, 0) := by rw [← HP.out.rd, rd_nil]
      obtain ⟨pa, pc, ta, tc, hub, _⟩ := HP.out.uw.unit
      have d0 : wr.cell? ⟨w.heap.size + 1, 0, none⟩ = some (.slice pa u.progs.length pc) := cell_blk hub rfl
      have d1 : wr.cell? ⟨w.heap.size + 1, 1, none⟩ = some (.slice ta u.types.length tc) := cell_blk hub rfl
      have hq1 : w.heap.size + 1 < wr.heap.size := (Array.getElem?_eq_some_iff.1 hub).1
      have HFI : Bx (UnIn ((wr.setCell ⟨w.heap.size, 0, none⟩ (.slice pa u.progs.length pc)).setCell ⟨w.heap.size, 1, none⟩ (.slice ta u.types.length tc)) ((wr.setCell ⟨w.heap.size, 0, none⟩ (.slice pa u.progs.length pc)).setCell ⟨w.heap.size, 1, none⟩ (.slice ta u.types.length tc)).heap.size pa pc ta tc u) := ⟨by
        have r1 := heap_setCell_same wr w.heap.size 0 _ _ (.slice pa u.progs.length pc) HP.out.res
        have x1 := HP.out.uw.setR (i := 0) (v := .slice pa u.progs.length pc) HP.out.res (by omega)
        have x2 := x1.setR (i := 1) (v := .slice ta u.types.length tc) r1 (by omega)
        obtain ⟨pa', pc', ta', tc', hub', hx⟩ := x2.unit
        rw [Below.heap_setCell _ _ _ _ (by simp), Below.heap_setCell _ _ _ _ (by simp), hub] at hub'
        simp only [Option.some.injEq, Obj.cells.injEq, and_true, Array.mk.injEq, List.cons.injEq, Value.slice.injEq, true_and] at hub'
        obtain ⟨⟨rfl, rfl⟩, rfl, rfl⟩ := hub'
        exact hx⟩
      have e1 := HP.out.res
      have c0 : wr.cell? ⟨w.heap.size, 0, none⟩ = some (.slice none 0 0) := cell_blk e1 rfl
      have c1 : wr.cell? ⟨w.heap.size, 1, none⟩ = some (.slice none 0 0) := cell_blk e1 rfl
      have f0 : wr.frozen? ⟨w.heap.size, 0, none⟩ = false := (by simp [World.frozen?, e1])
      have f1 : wr.frozen? ⟨w.heap.size, 1, none⟩ = false := (by simp [World.frozen?, e1])
      have hq : w.heap.size < wr.heap.size := (Array.getElem?_eq_some_iff.1 e1).1
      clear e1
      have HB : Bx _ := ⟨HP.out.bel⟩
      have HRD : Bx _ := ⟨hrd⟩
      clear hub hrd HP HP0 HL
      go_wp2
      refine bodyPost_ret (v := .tuple #[.agg #[.slice pa u.progs.length pc, .slice ta u.types.length tc], .int .i64 0, .int .i64 0]) (by simp [results, Tryd.results26, go_sem, c0, c1, hq]) rfl ?_
      rw [HRD.out]
      exact ⟨pa, pc, ta, tc, rfl, ⟨HFI.out, (HB.out.setCell (p := ⟨w.heap.size, 0, none⟩) (Nat.le_refl _) _).setCell (p := ⟨w.heap.size, 1, none⟩) (Nat.le_refl _) _⟩⟩
    · have hemp : (tl == []) = false := by simpa using htl
      have htn : tl.isEmpty = false := by simpa using htl
      have hlt := HP.out.len
      by_cases h10 : (10 : UInt8) ∈ tl
      · obtain ⟨line, rest, htr, hno⟩ := cut_ten h10
        have HC : Bx (Calls Tryd.prog 49 #[strV tl, strV [10]] wr fun e w' => e = .returned (.tuple #[strV line, strV rest, .bool true]) ∧ Bx (Below wr.heap.size wr w')) := ⟨by
          have hx : (line ++ 10 :: rest).length ≤ 9223372036854775806 := by rw [← htr]; have := HLN.out; omega
          rw [htr]
          exact (Cut_any (line ++ 10 :: rest) line _ true 10 wr (cut0_hit line rest 10 wr hno hx)).mono fun e w' h => ⟨h.1, ⟨h.2⟩⟩⟩
        have hll : tl.length = line.length + 1 + rest.length := by rw [htr]; simp; omega
        have HA : Bx (∀ w1, Below wr.heap.size wr w1 → Calls Tryd.prog 50 #[.pointer (some ⟨w.heap.size + 1, 0, none⟩), strV line] w1 (AQ w1 (w.heap.size + 1) (w.heap.size + 1) u (addL u line))) := ⟨fun w1 hb => add_any w1 (HL.out w1 (HP.out.bel.trans (hb.mono HP.out.bel.size))) _ _ u (HP.out.uw.below hb) (Nat.le_refl _) line (by have := HLN.out; omega) (by have := HLN.out; have := HP.out.sz; omega)⟩
        cases hadd : addL u line with
        | none =>
          have hrd : readU text = (⟨[], []⟩, k, 80) := by rw [← HP.out.rd, htr, rd_none hno hadd]
          rw [hadd] at HA
          clear hadd htr hll hlt h10 htl
          go_wp2_with (first
            | (go_at_call 49; refine HC.out.mono ?_; rintro e w1 ⟨rfl, H1⟩; clear HC)
            | (go_at_call 50; refine (HA.out _ H1.out).mono ?_; rintro e w2 ⟨b, rfl, HR⟩; have hbb : b = false := HR.out.1; subst hbb
               have H2 : Bx (PIn w text tl k u w1) := ⟨HP.out.below H1.out⟩
               have e0 : w2.heap[w.heap.size]? = some (.cells #[.slice none 0 0, .slice none 0 0] 36 (0, 0)) := (by rw [HR.out.2.block _ (by omega)]; exact H2.out.res)
               have HB2 : Bx (Below w.heap.size w w2) := ⟨H2.out.bel.trans (HR.out.2.mono (by omega))⟩
               have c0 : w2.cell? ⟨w.heap.size, 0, none⟩ = some (.slice none 0 0) := cell_blk e0 rfl
               have c1 : w2.cell? ⟨w.heap.size, 1, none⟩ = some (.slice none 0 0) := cell_blk e0 rfl
               have f0 : w2.frozen? ⟨w.heap.size, 0, none⟩ = false := (by simp [World.frozen?, e0])
               have f1 : w2.frozen? ⟨w.heap.size, 1, none⟩ = false := (by simp [World.frozen?, e0])
               have hq : w.heap.size < w2.heap.size := (Array.getElem?_eq_some_iff.1 e0).1
               clear e0))
          refine bodyPost_ret (v := .tuple #[.agg #[.slice none 0 0, .slice none 0 0], .int .i64 k, .int .i64 80]) (by simp [results, Tryd.results26, go_sem, c0, c1, hq]) rfl ?_
          rw [hrd]
          refine ⟨none, 0, none, 0, rfl, ⟨⟨Row.nil _ _ _ _ _, Row.nil _ _ _ _ _⟩, ?_⟩⟩
          exact (HB2.out.setCell (p := ⟨w.heap.size, 0, none⟩) (Nat.le_refl _) _).setCell (p := ⟨w.heap.size, 1, none⟩) (Nat.le_refl _) _
        | some u' =>
          have hrd : rd rest u' (k + 1) = readU text := by rw [← HP.out.rd, htr, rd_some hno hadd]
          have hsz := addL_sz hadd
          have HNX : Bx (∀ w1 w2, Below wr.heap.size wr w1 → Below (w.heap.size + 1) w1 w2 → UW w2 (w.heap.size + 1) (w.heap.size + 1) u' → PIn w text rest (k + 1) u' w2) := ⟨fun w1 w2 hb h2 h3 => by
            have H2 := HP.out.below hb
            exact ⟨H2.bel.trans (h2.mono (by omega)), by rw [h2.block _ (by omega)]; exact H2.res, h3, hrd, by have := H2.sz; omega, by have := H2.len; omega⟩⟩
          rw [hadd] at HA
          have hk1 : k ≤ TL := by have := HTL.out; omega
          have hkb : Bx (k ≤ 549755813888) := ⟨by have := HTL.out; have := HLN.out; omega⟩
          have hwr : IntKind.i64.wrap ((k : Int) + 1) = (k : Int) + 1 := by
            have := hkb.out
            have e : IntKind.i64.bits = 64 := rfl
            unfold IntKind.wrap
            simp [e, IntKind.signed]
            omega
          clear hadd htr hll hlt h10 htl hrd hsz
          go_wp2_with (first
            | (go_at_call 49; refine HC.out.mono ?_; rintro e w1 ⟨rfl, H1⟩; clear HC)
            | (go_at_call 50; refine (HA.out _ H1.out).mono ?_; rintro e w2 ⟨b, rfl, HR⟩; have hbb : b = true := HR.out.1; subst hbb
               have H2 : Bx _ := ⟨HNX.out w1 w2 H1.out HR.out.2.1 HR.out.2.2⟩))
          go_roundw
          case rel => exact ⟨rest, k + 1, u', rfl, rfl, H2⟩
          case measure => simp only [intOf]; omega
      · have hrd : readU text = (⟨[], []⟩, k, 80) := by rw [← HP.out.rd, rd_open h10 htl]
        have HC : Bx (Calls Tryd.prog 49 #[strV tl, strV [10]] wr fun e w' => e = .returned (.tuple #[strV tl, strV [], .bool false]) ∧ Bx (PIn w text tl k u w')) := ⟨(Cut_any tl tl _ false 10 wr (cut0_miss tl 10 wr h10)).mono fun e w' h => ⟨h.1, ⟨HP.out.below h.2⟩⟩⟩
        clear hlt h10 htl
        go_wp2_with (first
          | (go_at_call 49; refine HC.out.mono ?_; rintro e w2 ⟨rfl, H1⟩; clear HC
             have e1 := H1.out.res
             have c0 : w2.cell? ⟨w.heap.size, 0, none⟩ = some (.slice none 0 0) := cell_blk e1 rfl
             have c1 : w2.cell? ⟨w.heap.size, 1, none⟩ = some (.slice none 0 0) := cell_blk e1 rfl
             have f0 : w2.frozen? ⟨w.heap.size, 0, none⟩ = false := (by simp [World.frozen?, e1])
             have f1 : w2.frozen? ⟨w.heap.size, 1, none⟩ = false := (by simp [World.frozen?, e1])
             have hq : w.heap.size < w2.heap.size := (Array.getElem?_eq_some_iff.1 e1).1
             clear e1))
        refine bodyPost_ret (v := .tuple #[.agg #[.slice none 0 0, .slice none 0 0], .int .i64 k, .int .i64 80]) (by simp [results, Tryd.results26, go_sem, c0, c1, hq]) rfl ?_
        rw [hrd]
        refine ⟨none, 0, none, 0, rfl, ⟨⟨Row.nil _ _ _ _ _, Row.nil _ _ _ _ _⟩, ?_⟩⟩
        exact (H1.out.bel.setCell (p := ⟨w.heap.size, 0, none⟩) (Nat.le_refl _) _).setCell (p := ⟨w.heap.size, 1, none⟩) (Nat.le_refl _) _
end Go.Proofs.YtijdcplffmdijaaDoor
