import Derived.Test.YtadmpgegolmkgaaDoorCWsN
import Derived.Laws.Bits64b
namespace Go.Proofs.YtadmpgegolmkgaaDoor
open Go.RowKit Go.MapKept Go.ChangeMaps Go.WideShapes
set_option linter.unusedVariables false
set_option linter.unusedSimpArgs false

theorem SePost.drew {w w' : World} {wb : Nat} {h : WH} {L gb mb : Nat} {P' : Prs} (k : Nat) (s : SePost (w.drewN k) wb h L gb mb P' w') : SePost w wb h L gb mb P' w' := SePost.trans (Fx.of (below_drewN (Below.refl _ w) k)) (.inl rfl) s
set_option maxRecDepth 100000 in
set_option maxHeartbeats 1000000 in
/-- a slot more -/
theorem with_any (w : World) (wb : Nat) (h : WH) (L gb gc mb : Nat) (P : Prs) (s : SeM w wb h L gb gc mb P) (hL : L < 60) (hP : P.length + L < 1099511627776) (x slot : Nat) (hs : slot ≤ 2147483648) (hx : vsP L P x) :
    Calls Tryd.prog 82 #[.pointer (some ⟨wb, 7, none⟩), .int .u64 (x : Int), .int .i64 (slot : Int)] w fun e w' => e = .returned (.int .u64 ((chgP L P x slot (2 ^ (slot % 64))).2 : Int)) ∧ Bx (SePost w wb h L gb mb (chgP L P x slot (2 ^ (slot % 64))).1 w') := by
  have HB : Bx (∀ W, _) := ⟨fun W => bitOf_any slot hs W⟩
  have HC : Bx _ := ⟨changed_any slot (2 ^ (slot % 64)) hs (.inr rfl) L hL w.drew wb h L gb gc mb P (s.fx (Fx.of (P := fun _ => False) (below_drewN (Below.refl _ w) 1)) id id id) hP x hx⟩
  have hwk := s.wk
  unfold wkA at hwk
  have c7 : w.cell? ⟨wb, 7, none⟩ = some (.int .i64 L) := cell_blk hwk rfl
  have HD : Bx (∀ w', SePost w.drew wb h L gb mb (chgP L P x slot (2 ^ (slot % 64))).1 w' → SePost w wb h L gb mb (chgP L P x slot (2 ^ (slot % 64))).1 w') := ⟨fun w' q => SePost.drew 1 q⟩
  generalize 2 ^ (slot % 64) = b at *
  generalize chgP L P x slot b = R at *
  obtain ⟨P2, y⟩ := R
  simp only at HC HD ⊢
  clear s hwk
  go_enter Tryd.func82, Tryd.ntmps82
  go_wp2
  go_region_with (first
    | (go_at_call 81; refine (HB.out _).mono ?_; rintro e w1 ⟨rfl, rfl⟩)
    | (go_at_call 89; refine HC.out.mono ?_; rintro e w1 ⟨rfl, hw⟩; replace hw : Bx _ := ⟨HD.out _ hw.out⟩))
  all_goals
    go_wp2
    go_ret
    exact ⟨rfl, hw⟩
set_option maxRecDepth 100000 in
set_option maxHeartbeats 1000000 in
/-- a slot less -/
theorem without_any (w : World) (wb : Nat) (h : WH) (L gb gc mb : Nat) (P : Prs) (s : SeM w wb h L gb gc mb P) (hL : L < 60) (hP : P.length + L < 1099511627776) (x slot : Nat) (hs : slot ≤ 2147483648) (hx : vsP L P x) :
    Calls Tryd.prog 83 #[.pointer (some ⟨wb, 7, none⟩), .int .u64 (x : Int), .int .i64 (slot : Int)] w fun e w' => e = .returned (.int .u64 ((chgP L P x slot 0).2 : Int)) ∧ Bx (SePost w wb h L gb mb (chgP L P x slot 0).1 w') := by
  have HC : Bx _ := ⟨changed_any slot 0 hs (.inl rfl) L hL w wb h L gb gc mb P s hP x hx⟩
  have hwk := s.wk
  unfold wkA at hwk
  have c7 : w.cell? ⟨wb, 7, none⟩ = some (.int .i64 L) := cell_blk hwk rfl
  generalize chgP L P x slot 0 = R at *
  obtain ⟨P2, y⟩ := R
  simp only at HC ⊢
  clear s hwk
  go_enter Tryd.func83, Tryd.ntmps83
  go_wp2_with (first
    | (go_at_call 89; refine HC.out.mono ?_; rintro e w1 ⟨rfl, hw⟩))
  go_ret
  exact ⟨rfl, hw⟩
theorem testBit_and_pow (x b : Nat) : decide (x &&& 2 ^ b ≠ 0) = x.testBit b := by
  have hp : 2 ^ b ≠ 0 := Nat.ne_of_gt (Nat.two_pow_pos b)
  have e : x &&& 2 ^ b = if x.testBit b = true then 2 ^ b else 0 := Nat.eq_of_testBit_eq fun k => by
    rw [Nat.testBit_and, Nat.testBit_two_pow]
    by_cases q : b = k
    · subst q
      cases h : x.testBit b <;> simp [Nat.testBit_two_pow]
    · rw [decide_eq_false q, Bool.and_false]
      split
      · rw [Nat.testBit_two_pow, decide_eq_false q]
      · exact (Nat.zero_testBit _).symm
  rw [e]
  cases x.testBit b <;> simp [hp]
theorem bit_u64 (x b : Nat) (hx : x < 18446744073709551616) (hb : b < 64) : (bits BinOp.and IntKind.u64 (x : Int) ((2 ^ b : Nat) : Int) != 0) = x.testBit b := by
  rw [bits_and_u64_nat x (2 ^ b) hx (Nat.pow_lt_pow_right (by decide) hb), ← testBit_and_pow]
  generalize x &&& 2 ^ b = z
  cases z with
  | zero => rfl
  | succ n => simp; omega
set_option maxRecDepth 100000 in
set_option maxHeartbeats 1000000 in
theorem has_any (w : World) (wb : Nat) (h : WH) (L gb gc mb : Nat) (P : Prs) (s : SeM w wb h L gb gc mb P) (hL : L < 60) (x slot : Nat) (hs : slot ≤ 2147483648) (hx : vsP L P x) :
    Calls Tryd.prog 67 #[.pointer (some ⟨wb, 7, none⟩), .int .u64 (x : Int), .int .i64 (slot : Int)] w fun e w' => e = .returned (.bool (den L P x slot)) ∧ Bx (Below w.heap.size w w') := by
  obtain ⟨H, hH⟩ : ∃ H, w.heap.size = H := ⟨_, rfl⟩
  have HB : Bx (∀ W, _) := ⟨fun W => bitOf_any slot hs W⟩
  have HS : Bx (SeM w wb h L gb gc mb P) := ⟨s⟩
  have hwk := s.wk
  unfold wkA at hwk
  have c7 : w.cell? ⟨wb, 7, none⟩ = some (.int .i64 L) := cell_blk hwk rfl
  obtain ⟨rr, hrr⟩ : ∃ rr, den L P x slot = rr := ⟨_, rfl⟩
  have H0 : Bx (vsP L P x ∧ den L P x slot = rr ∧ Below H w w) := ⟨hx, hrr, Below.refl _ _⟩
  rw [hrr]
  have hPl := s.lim
  rw [hH]
  clear s hwk hx hrr
  go_enter Tryd.func67, Tryd.ntmps67
  go_wp2
  go_loopg [1, 7, 8] (L + 1) (fun g v1 v7 v8 wr => ∃ l y : Nat, g = l + 1 ∧ l ≤ L ∧ v7 = .int .i64 l ∧ v1 = .int .u64 y ∧ Bx (vsP l P y ∧ den l P y slot = rr ∧ Below H w wr))
  case atStart => exact ⟨L, x, rfl, Nat.le_refl _, rfl, rfl, H0⟩
  case round =>
    obtain ⟨l, y, hg, hl, rfl, rfl, HI⟩ := hrel
    clear H0
    cases l with
    | zero =>
      have hy := HI.out.1
      have hd := HI.out.2.1
      have hbe := HI.out.2.2
      have hbu := bit_u64 y (slot % 64) hy (Nat.mod_lt _ (by decide))
      have hd2 : y.testBit (slot % 64) = rr := hd
      rw [hd2] at hbu
      have HF : Bx (Below H w wr) := ⟨hbe⟩
      generalize 2 ^ (slot % 64) = b at *
      clear hy hd hd2 hbe HI HS c7
      go_wp2_with (first
        | (go_at_call 81; refine (HB.out _).mono ?_; rintro e w1 ⟨rfl, rfl⟩))
      go_ret
      exact ⟨rfl, HF⟩
    | succ l =>
      obtain ⟨⟨⟨p, hpy⟩, h1, h2⟩, hd, hbe⟩ := HI.out
      have hat := atP_eq hpy
      rw [den, hat] at hd
      rw [hat] at h1 h2
      have s1 := HS.out.fx (Fx.of (P := fun _ => False) (hH.symm ▸ hbe)) id id id
      have hwk := s1.wk
      unfold wkA at hwk
      have c8 : wr.cell? ⟨wb, 8, none⟩ = some (.slice (some ⟨gb, 0, none⟩) P.length gc) := cell_blk hwk rfl
      obtain ⟨z0, z1⟩ := prC_at P y p hpy
      have d0 : wr.cell? ⟨gb, y * 2, none⟩ = some (.int .u64 (p.1 : Int)) := owns_cellj s1.row z0
      have d1 : wr.cell? ⟨gb, y * 2 + 1, none⟩ = some (.int .u64 (p.2 : Int)) := owns_cellj s1.row z1
      obtain ⟨W1, hW1⟩ : ∃ W1, wr.alloc (.cells #[.int .u64 (p.1 : Int), .int .u64 (p.2 : Int)] 120) = W1 := ⟨_, rfl⟩
      have he : W1.heap[wr.heap.size]? = some (.cells #[.int .u64 (p.1 : Int), .int .u64 (p.2 : Int)] 120 (0, 0)) := by rw [← hW1]; exact heap_newH _ _ _ rfl
      have e0 : W1.cell? ⟨wr.heap.size, 0, none⟩ = some (.int .u64 (p.1 : Int)) := cell_blk he rfl
      have e1 : W1.cell? ⟨wr.heap.size, 1, none⟩ = some (.int .u64 (p.2 : Int)) := cell_blk he rfl
      have b1 : Below H w W1 := by rw [← hW1]; exact hbe.alloc (by have := hbe.size; omega) _
      have hxl := (List.getElem?_eq_some_iff.1 hpy).1
      have hxI : (y : Int) < (P.length : Int) := by omega
      have hlm : (l : Int) + 1 - 1 = (l : Int) := by omega
      have hlv : ((l + 1 : Nat) : Int) = (l : Int) + 1 := by omega
      have hl0 : (0 : Int) < (l : Int) + 1 := by omega
      have HH := fun W => isHigh_any slot l hs (by omega) W
      have HQ : Bx (∀ z, z = (if (slot / 64).testBit l = true then p.2 else p.1) → vsP l P z ∧ den l P z slot = rr ∧ Below H w W1) := ⟨fun z hz => by
        subst hz
        refine ⟨?_, hd, b1⟩
        split
        · exact h2
        · exact h1⟩
      rw [hlv]
      clear he s1 hwk b1 hpy hat z0 z1 h1 h2 hd hbe HI c7
      cases hb : (slot / 64).testBit l with
      | true =>
        rw [hb] at HH HQ
        go_wp2_with (first
          | (go_at_call 61; refine (HH _).mono ?_; rintro e w1 ⟨rfl, rfl⟩))
        go_roundg (l + 1)
        case measure => omega
        case rel => exact ⟨l, p.2, rfl, by omega, by simp, rfl, ⟨HQ.out _ rfl⟩⟩
      | false =>
        rw [hb] at HH HQ
        go_wp2_with (first
          | (go_at_call 61; refine (HH _).mono ?_; rintro e w1 ⟨rfl, rfl⟩))
        go_roundg (l + 1)
        case measure => omega
        case rel => exact ⟨l, p.1, rfl, by omega, by simp, rfl, ⟨HQ.out _ rfl⟩⟩
end Go.Proofs.YtadmpgegolmkgaaDoor
