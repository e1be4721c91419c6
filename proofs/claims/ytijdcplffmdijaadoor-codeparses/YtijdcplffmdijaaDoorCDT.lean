import Derived.Test.YtijdcplffmdijaaDoorCDL
namespace Go.Proofs.YtijdcplffmdijaaDoor
open Go.RowKit
set_option linter.unusedVariables false
set_option linter.unusedSimpArgs false

/-- a row of ints, as a slice's value has it -/
structure IntsV (w : World) (B : Nat) (a : Option Addr) (cap : Nat) (ks : List Int) : Prop where
  cap : ks.length ≤ cap
  max : ks.length ≤ maxLen
  at_ : 0 < ks.length → ∃ b o, a = some ⟨b, o, none⟩ ∧ b < B ∧ ∀ i (h : i < ks.length), w.cell? ⟨b, o + i, none⟩ = some (.int .i64 ks[i])
theorem IntsV.below {w w' : World} {B cap : Nat} {a : Option Addr} {ks : List Int} (h : IntsV w B a cap ks) (hb : Below B w w') : IntsV w' B a cap ks := by
  refine ⟨h.cap, h.max, fun h0 => ?_⟩
  obtain ⟨b, o, e, hlt, hc⟩ := h.at_ h0
  exact ⟨b, o, e, hlt, fun i hi => by rw [hb.cell (p := ⟨b, o + i, none⟩) hlt]; exact hc i hi⟩
theorem IntsV.up {w : World} {B B' cap : Nat} {a : Option Addr} {ks : List Int} (h : IntsV w B a cap ks) (hb : B ≤ B') : IntsV w B' a cap ks := by
  refine ⟨h.cap, h.max, fun h0 => ?_⟩
  obtain ⟨b, o, e, hlt, hc⟩ := h.at_ h0
  exact ⟨b, o, e, by omega, hc⟩
theorem intsV_nil (w : World) (B : Nat) (a : Option Addr) (cap : Nat) : IntsV w B a cap [] := ⟨Nat.zero_le _, Nat.zero_le _, fun h => absurd h (by simp)⟩

def pathN : List Int → Nat
  | [] => 0
  | x :: r => (if x = -1 then 1 else 0) + pathN r
theorem pathN_le (l : List Int) : pathN l ≤ l.length := by
  induction l with
  | nil => exact Nat.le_refl _
  | cons x r ih => rw [pathN, List.length_cons]; split <;> omega
theorem pathN_take (l : List Int) (k : Nat) (h : k < l.length) : pathN (l.take (k + 1)) = pathN (l.take k) + (if l[k] = -1 then 1 else 0) := by
  induction l generalizing k with
  | nil => simp at h
  | cons x r ih =>
    cases k with
    | zero => simp [pathN]
    | succ k =>
      have := ih k (by simpa using h)
      simp only [List.take_succ_cons, pathN, this, List.getElem_cons_succ]
      omega
/-- the arms: the numbers with an even place -/
def armsN : List Int → Nat
  | [] => 0
  | [x] => 1 + (if x = 1 then 1 else 0)
  | x :: _ :: r => 1 + (if x = 1 then 1 else 0) + armsN r
theorem armsN_le : ∀ l : List Int, armsN l ≤ l.length + 1
  | [] => by simp [armsN]
  | [x] => by rw [armsN]; simp only [List.length_cons, List.length_nil]; split <;> omega
  | x :: y :: r => by
    have := armsN_le r
    simp only [armsN, List.length_cons]
    split <;> omega
theorem armsN_drop (l : List Int) (k : Nat) (h : k < l.length) : armsN (l.drop k) = 1 + (if l[k] = 1 then 1 else 0) + armsN (l.drop (k + 2)) := by
  rw [List.drop_eq_getElem_cons h]
  rcases Nat.lt_or_ge (k + 1) l.length with h' | h'
  · rw [List.drop_eq_getElem_cons h', armsN]
  · rw [List.drop_eq_nil_of_le h', List.drop_eq_nil_of_le (by omega), armsN, armsN, Nat.add_zero]

set_option maxHeartbeats 1000000 in
theorem ofPath_any (w : World) (B : Nat) (a : Option Addr) (cap : Nat) (ks : List Int) (hi : IntsV w B a cap ks) :
    Calls Tryd.prog 54 #[.slice a ks.length cap] w fun e w' => e = .returned (.int .i64 (pathN ks)) ∧ w = w' := by
  obtain ⟨h1, h2, h3⟩ := hi
  unfold maxLen at h2
  have H3 : Bx _ := ⟨h3⟩
  clear h3
  go_enter Tryd.func54, Tryd.ntmps54
  go_wp2
  go_loop [8, 3] (fun i v => ∃ j : Nat, j ≤ ks.length ∧ i = .int .i64 j ∧ v = .int .i64 (pathN (ks.take j) : Nat)) (fun i _ => ks.length - (intOf i).toNat)
  case atStart => exact ⟨0, by omega, rfl, rfl⟩
  case round =>
    obtain ⟨j, hj, rfl, rfl⟩ := hrel
    by_cases hlt : j < ks.length
    · obtain ⟨b, o, rfl, hb, hc⟩ := H3.out (by omega)
      have c := hc j hlt
      have hp := pathN_take ks j hlt
      have hpl := pathN_le (ks.take j)
      rw [List.length_take] at hpl
      have HP : Bx _ := ⟨hp⟩
      clear hp hc
      by_cases hq : ks[j] = -1
      · have hq' : (ks[j] == -1) = true := by simpa using hq
        go_wp2
        go_round
        case rel => exact ⟨j + 1, by omega, by go_num, by have := HP.out; rw [if_pos hq] at this; rw [this]; go_num⟩
        case measure => simp [intOf]; omega
      · have hq' : (ks[j] == -1) = false := by simpa using hq
        go_wp2
        go_round
        case rel => exact ⟨j + 1, by omega, by go_num, by have := HP.out; rw [if_neg hq] at this; rw [this]; rfl⟩
        case measure => simp [intOf]; omega
    · have : j = ks.length := by omega
      subst this
      go_wp2
      go_ret
      exact ⟨rfl, rfl⟩
set_option maxHeartbeats 1000000 in
theorem ofArms_any (w : World) (B : Nat) (a : Option Addr) (cap : Nat) (ks : List Int) (hi : IntsV w B a cap ks) (hm : ks.length ≤ 281474976710656) :
    Calls Tryd.prog 55 #[.slice a ks.length cap] w fun e w' => e = .returned (.int .i64 (armsN ks)) ∧ w = w' := by
  obtain ⟨h1, h2, h3⟩ := hi
  unfold maxLen at h2
  have H3 : Bx _ := ⟨h3⟩
  clear h3
  have hal := armsN_le ks
  go_enter Tryd.func55, Tryd.ntmps55
  go_wp2
  go_loop [4, 3] (fun i v => ∃ j n : Nat, j ≤ ks.length + 1 ∧ i = .int .i64 j ∧ v = .int .i64 n ∧ Hid (armsN ks = n + armsN (ks.drop j))) (fun i _ => ks.length + 1 - (intOf i).toNat)
  case atStart => exact ⟨0, 0, by omega, rfl, rfl, by show _ = _; rw [List.drop_zero, Nat.zero_add]⟩
  case round =>
    obtain ⟨j, n, hj, rfl, rfl, H⟩ := hrel
    by_cases hlt : j < ks.length
    · obtain ⟨b, o, rfl, hb, hc⟩ := H3.out (by omega)
      have c := hc j hlt
      have hp := armsN_drop ks j hlt
      have HP : Bx _ := ⟨hp⟩
      clear hp hc
      by_cases hq : ks[j] = 1
      · have hq' : (ks[j] == 1) = true := by simpa using hq
        have hn : armsN ks = n + 2 + armsN (ks.drop (j + 2)) := by have := HP.out; rw [if_pos hq] at this; rw [H.out, this]; omega
        have HN : Hid (armsN ks = n + 2 + armsN (ks.drop (j + 2))) := hn
        have hn2 : n + 2 ≤ ks.length + 1 := by omega
        clear hn
        go_wp2
        go_round
        case rel => exact ⟨j + 2, n + 2, by omega, by go_num, by go_num, HN⟩
        case measure => simp [intOf]; omega
      · have hq' : (ks[j] == 1) = false := by simpa using hq
        have hn : armsN ks = n + 1 + armsN (ks.drop (j + 2)) := by have := HP.out; rw [if_neg hq] at this; rw [H.out, this]; omega
        have HN : Hid (armsN ks = n + 1 + armsN (ks.drop (j + 2))) := hn
        have hn2 : n + 1 ≤ ks.length + 1 := by omega
        clear hn
        go_wp2
        go_round
        case rel => exact ⟨j + 2, n + 1, by omega, by go_num, by go_num, HN⟩
        case measure => simp [intOf]; omega
    · go_wp2
      go_ret
      exact ⟨ret_int (by rw [H.out, List.drop_eq_nil_of_le (by omega)]; rfl), rfl⟩

/-- an instruction's value, with its list's -/
abbrev insV (i : CIn) (a : Option Addr) (cap : Nat) : Value := .agg #[.int .i64 i.op, .int .i64 i.a, .int .i64 i.b, .slice a i.list.length cap]
def moreI (i : CIn) : Int :=
  if i.op = 10 ∨ i.op = 11 ∨ i.op = 23 ∨ i.op = 24 then max i.a 0
  else if i.op = 22 then max i.b 0
  else if i.op = 16 then pathN i.list
  else if i.op = 27 then armsN i.list
  else 0
def popsI (i : CIn) : Int := if 9223372036854775807 - (shapeI i.op).2.2.1 < moreI i then 9223372036854775807 else (shapeI i.op).2.2.1 + moreI i
def pushesI (i : CIn) : Int := if i.op = 23 ∧ i.b = 1 then 1 else (shapeI i.op).2.2.2

set_option maxRecDepth 100000 in
set_option maxHeartbeats 4000000 in
theorem takesMore_any (w : World) (B : Nat) (i : CIn) (a : Option Addr) (cap : Nat) (hw : i.Wf) (hi : IntsV w B a cap i.list) (hm : i.list.length ≤ 281474976710656) (hB : B ≤ w.heap.size) :
    Calls Tryd.prog 33 #[insV i a cap] w fun e w' => e = .returned (.int .i64 (moreI i)) ∧ Below w.heap.size w w' := by
  obtain ⟨op, x, y, l⟩ := i
  obtain ⟨⟨o1, o2⟩, ⟨x1, x2⟩, ⟨y1, y2⟩, _⟩ := hw
  simp only [] at *
  have hb := below1 w (.cells #[.int .i64 op, .int .i64 x, .int .i64 y, .slice a l.length cap] 28)
  have hi' : IntsV (w.alloc (.cells #[.int .i64 op, .int .i64 x, .int .i64 y, .slice a l.length cap] 28)) B a cap l := hi.below (hb.mono hB)
  have HP := ofPath_any _ B a cap l hi'
  have HA := ofArms_any _ B a cap l hi' hm
  have HB : Bx _ := ⟨hb⟩
  clear hi hi' hb
  unfold moreI
  simp only []
  by_cases h1 : op = 10 ∨ op = 11 ∨ op = 23 ∨ op = 24
  · rw [if_pos h1]
    rcases h1 with rfl | rfl | rfl | rfl <;>
      (go_enter Tryd.func33, Tryd.ntmps33
       go_wp2 <;> (go_ret; exact ⟨ret_int (by omega), HB.out⟩))
  · rw [if_neg h1]
    rw [not_or, not_or, not_or] at h1
    obtain ⟨n1, n2, n3, n4⟩ := h1
    have b1 : (op == 10) = false := by simpa using n1
    have b2 : (op == 11) = false := by simpa using n2
    have b3 : (op == 23) = false := by simpa using n3
    have b4 : (op == 24) = false := by simpa using n4
    by_cases h2 : op = 22
    · rw [if_pos h2]
      subst h2
      go_enter Tryd.func33, Tryd.ntmps33
      go_wp2 <;> (go_ret; exact ⟨ret_int (by omega), HB.out⟩)
    · rw [if_neg h2]
      have b5 : (op == 22) = false := by simpa using h2
      by_cases h3 : op = 16
      · rw [if_pos h3]
        subst h3
        go_enter Tryd.func33, Tryd.ntmps33
        go_wp2_with (go_at_call 54; refine HP.mono ?_; rintro e w' ⟨rfl, rfl⟩)
        go_ret
        exact ⟨rfl, HB.out⟩
      · rw [if_neg h3]
        have b6 : (op == 16) = false := by simpa using h3
        by_cases h4 : op = 27
        · rw [if_pos h4]
          subst h4
          go_enter Tryd.func33, Tryd.ntmps33
          go_wp2_with (go_at_call 55; refine HA.mono ?_; rintro e w' ⟨rfl, rfl⟩)
          go_ret
          exact ⟨rfl, HB.out⟩
        · rw [if_neg h4]
          have b7 : (op == 27) = false := by simpa using h4
          go_enter Tryd.func33, Tryd.ntmps33
          go_wp2
          go_ret
          exact ⟨rfl, HB.out⟩

theorem more_64 {i : CIn} (hw : i.Wf) (hm : i.list.length ≤ 281474976710656) : 0 ≤ moreI i ∧ moreI i ≤ 9223372036854775807 := by
  obtain ⟨_, ⟨a1, a2⟩, ⟨b1, b2⟩, _⟩ := hw
  have p1 := pathN_le i.list
  have p2 := armsN_le i.list
  unfold moreI
  split
  · omega
  · split
    · omega
    · split
      · omega
      · split <;> omega
theorem shape_small (op : Int) : 0 ≤ (shapeI op).2.2.1 ∧ (shapeI op).2.2.1 ≤ 2 ∧ 0 ≤ (shapeI op).2.2.2 ∧ (shapeI op).2.2.2 ≤ 1 ∧ 0 ≤ (shapeI op).2.1 ∧ (shapeI op).2.1 ≤ 7 := by
  have key : ∀ k, k < 28 → 0 ≤ (shapesT.getD k noShape).2.2.1 ∧ (shapesT.getD k noShape).2.2.1 ≤ 2 ∧ 0 ≤ (shapesT.getD k noShape).2.2.2 ∧ (shapesT.getD k noShape).2.2.2 ≤ 1 ∧ 0 ≤ (shapesT.getD k noShape).2.1 ∧ (shapesT.getD k noShape).2.1 ≤ 7 := by decide
  unfold shapeI
  split
  · decide
  · exact key _ (by omega)
set_option maxRecDepth 100000 in
set_option maxHeartbeats 4000000 in
theorem Pops_any (w : World) (B : Nat) (i : CIn) (a : Option Addr) (cap : Nat) (hs : Shp w) (hw : i.Wf) (hi : IntsV w B a cap i.list) (hm : i.list.length ≤ 281474976710656) (hB : B ≤ w.heap.size) :
    Calls Tryd.prog 15 #[insV i a cap] w fun e w' => e = .returned (.int .i64 (popsI i)) ∧ Below w.heap.size w w' := by
  have hb := below1 w (.cells #[.int .i64 i.op, .int .i64 i.a, .int .i64 i.b, .slice a i.list.length cap] 28)
  have HS := shapeOf_any i.op (w.alloc (.cells #[.int .i64 i.op, .int .i64 i.a, .int .i64 i.b, .slice a i.list.length cap] 28)) (hs.below hb) hw.op
  have HT : ∀ w', Below w.heap.size w w' → Calls Tryd.prog 33 #[insV i a cap] w' fun e w2 => e = .returned (.int .i64 (moreI i)) ∧ Below w.heap.size w w2 := fun w' h' => (takesMore_any w' B i a cap hw (hi.below (h'.mono hB)) hm (Nat.le_trans hB h'.size)).mono fun e w2 h => ⟨h.1, h'.trans (h.2.mono h'.size)⟩
  have HHT : Bx _ := ⟨HT⟩
  have hm' := more_64 hw hm
  have hsm := shape_small i.op
  unfold popsI
  generalize shapeI i.op = s at *
  generalize moreI i = m at *
  unfold shpV at HS
  have f2 := fun W => shp_f2 W (strV s.1) (.int .i64 s.2.1) (.int .i64 s.2.2.1) (.int .i64 s.2.2.2)
  obtain ⟨op, x, y, l⟩ := i
  obtain ⟨nm, hs1, tk, ly⟩ := s
  simp only [] at *
  have HB : Bx _ := ⟨hb⟩
  obtain ⟨m1, m2⟩ := hm'
  obtain ⟨t1, t2, _⟩ := hsm
  clear hs hw hi hm hB HT hb
  go_enter Tryd.func15, Tryd.ntmps15
  go_wp2_with (first
    | (go_at_call 31; refine HS.mono ?_; rintro e w1 ⟨rfl, hb1⟩
       have hb2 : Below w.heap.size w w1 := HB.out.trans (hb1.mono (by simp))
       have hq : w.heap.size < w1.heap.size := by have := hb1.size; simp at this; omega
       have q0 : ∀ j v, (w.alloc (.cells #[.int .i64 op, .int .i64 x, .int .i64 y, .slice a l.length cap] 28)).cell? ⟨w.heap.size, j, none⟩ = some v → w1.cell? ⟨w.heap.size, j, none⟩ = some v := fun j v h => by rw [hb1.cell (p := ⟨w.heap.size, j, none⟩) (by simp)]; exact h
       have g0 := q0 0 (.int .i64 op) (by simp [go_sem])
       have g1 := q0 1 (.int .i64 x) (by simp [go_sem])
       have g2 := q0 2 (.int .i64 y) (by simp [go_sem])
       have g3 := q0 3 (.slice a l.length cap) (by simp [go_sem])
       have HB2 : Bx _ := ⟨hb2⟩
       clear q0 hb1 hb2)
    | (go_at_call 33; refine (HHT.out _ HB2.out).mono ?_; rintro e w2 ⟨rfl, hb3⟩))
  all_goals go_ret
  all_goals exact ⟨ret_int (by first | rfl | omega | (split <;> omega)), hb3⟩
set_option maxRecDepth 100000 in
set_option maxHeartbeats 4000000 in
theorem Pushes_any (w : World) (i : CIn) (a : Option Addr) (cap : Nat) (hs : Shp w) (hw : i.Wf) :
    Calls Tryd.prog 16 #[insV i a cap] w fun e w' => e = .returned (.int .i64 (pushesI i)) ∧ Below w.heap.size w w' := by
  have hb := below1 w (.cells #[.int .i64 i.op, .int .i64 i.a, .int .i64 i.b, .slice a i.list.length cap] 28)
  have HS := shapeOf_any i.op (w.alloc (.cells #[.int .i64 i.op, .int .i64 i.a, .int .i64 i.b, .slice a i.list.length cap] 28)) (hs.below hb) hw.op
  unfold pushesI
  generalize shapeI i.op = s at *
  unfold shpV at HS
  have f3 := fun W => shp_f3 W (strV s.1) (.int .i64 s.2.1) (.int .i64 s.2.2.1) (.int .i64 s.2.2.2)
  obtain ⟨op, x, y, l⟩ := i
  obtain ⟨nm, hs1, tk, ly⟩ := s
  simp only [] at *
  have HB : Bx _ := ⟨hb⟩
  clear hs hb
  by_cases h1 : op = 23
  · subst h1
    by_cases h2 : y = 1
    · subst h2
      rw [if_pos ⟨rfl, rfl⟩]
      go_enter Tryd.func16, Tryd.ntmps16
      go_wp2
      go_ret
      exact ⟨rfl, HB.out⟩
    · rw [if_neg (fun h => h2 h.2)]
      have b2 : (y == 1) = false := by simpa using h2
      go_enter Tryd.func16, Tryd.ntmps16
      go_wp2_with (go_at_call 31; refine HS.mono ?_; rintro e w1 ⟨rfl, hb1⟩)
      go_ret
      exact ⟨rfl, HB.out.trans (hb1.mono (by simp))⟩
  · rw [if_neg (fun h => h1 h.1)]
    have b1 : (op == 23) = false := by simpa using h1
    go_enter Tryd.func16, Tryd.ntmps16
    go_wp2_with (go_at_call 31; refine HS.mono ?_; rintro e w1 ⟨rfl, hb1⟩)
    go_ret
    exact ⟨rfl, HB.out.trans (hb1.mono (by simp))⟩
end Go.Proofs.YtijdcplffmdijaaDoor
