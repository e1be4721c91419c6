import Derived.Test.YtijdcplffmdijaaDoorCDTe
import Derived.Deep.RegionHeld
import Derived.Deep.QuietTactic
import Derived.BigQuiet
namespace Go.Proofs.YtijdcplffmdijaaDoor
open Go.RowKit
set_option linter.unusedVariables false
set_option linter.unusedSimpArgs false

theorem ret_bool {b c : Bool} (h : b = c) : Ending.returned (.bool b) = .returned (.bool c) := by rw [h]
theorem take_eqS {α : Type} {xs ys : List α} {p : Nat} (h : xs.take p = ys.take p) (h1 : p < xs.length) (h2 : p < ys.length) (he : xs[p] = ys[p]) : xs.take (p + 1) = ys.take (p + 1) := by
  rw [List.take_succ_eq_append_getElem h1, List.take_succ_eq_append_getElem h2, h, he]
set_option maxRecDepth 100000 in
set_option maxHeartbeats 2000000 in
theorem sameInts_any (w : World) (B : Nat) (a1 a2 : Option Addr) (c1 c2 : Nat) (xs ys : List Int) (h1 : IntsV w B a1 c1 xs) (h2 : IntsV w B a2 c2 ys) :
    Calls Tryd.prog 19 #[.slice a1 xs.length c1, .slice a2 ys.length c2] w fun e w' => e = .returned (.bool (decide (xs = ys))) ∧ ∃ k, w' = w.drewN k := by
  have hl1 := h1.max
  have hl2 := h2.max
  unfold maxLen at hl1 hl2
  by_cases hlen : xs.length = ys.length
  · have HX : Bx _ := ⟨h1⟩
    have HY : Bx _ := ⟨h2⟩
    clear h1 h2
    generalize hn : xs.length = n at *
    have HN : Bx (xs.length = n ∧ ys.length = n) := ⟨hn, hlen.symm⟩
    rw [← hlen] at hl2
    rw [← hlen]
    clear hn hlen
    go_enter Tryd.func19, Tryd.ntmps19
    go_wp2
    go_loopw [5] (fun x wr => ∃ p k : Nat, p ≤ n ∧ x = .int .i64 p ∧ wr = w.drewN k ∧ Bx (xs.take p = ys.take p)) (fun x _ => n - (intOf x).toNat)
    case atStart => exact ⟨0, 0, Nat.zero_le _, rfl, rfl, ⟨rfl⟩⟩
    case round =>
      obtain ⟨p, k, hp, rfl, rfl, HR⟩ := hrel
      by_cases hlt : p < n
      · have hp1 : p < xs.length := by rw [HN.out.1]; exact hlt
        have hp2 : p < ys.length := by rw [HN.out.2]; exact hlt
        obtain ⟨b1, o1, rfl, hb1, hcell1⟩ := HX.out.at_ (by omega)
        have hc1 := HX.out.cap
        rw [HN.out.1] at hc1
        obtain ⟨b2, o2, rfl, hb2, hcell2⟩ := HY.out.at_ (by omega)
        have hc2 := HY.out.cap
        rw [HN.out.2] at hc2
        have k1 := hcell1 p hp1
        have k2 := hcell2 p hp2
        by_cases he : xs[p] = ys[p]
        · have HT : Bx _ := ⟨take_eqS HR.out hp1 hp2 he⟩
          rw [← he] at k2
          generalize xs[p] = z at *
          clear hcell1 hcell2 HR HX HY
          go_wp2
          go_quiet (fail)
          go_wp2
          go_roundw
          case rel => exact ⟨p + 1, k + nq, by omega, by go_num, by first | rfl | rw [World.drewN_drewN], HT⟩
          case measure => simp [intOf]; omega
        · have hf : Bx (decide (xs = ys) = false) := ⟨decide_eq_false (fun e => he (by subst e; rfl))⟩
          have hz : (xs[p] != ys[p]) = true := by simpa using he
          generalize xs[p] = z at *
          generalize ys[p] = z2 at *
          clear hcell1 hcell2 HR HX HY
          go_wp2
          go_quiet (fail)
          go_wp2
          go_ret
          exact ⟨ret_bool hf.out.symm, k + nq, by first | rfl | rw [World.drewN_drewN]⟩
      · have hf : Bx (decide (xs = ys) = true) := ⟨decide_eq_true (by
          have := HR.out
          rw [List.take_of_length_le (by rw [HN.out.1]; omega), List.take_of_length_le (by rw [HN.out.2]; omega)] at this
          exact this)⟩
        clear HR HX HY HN
        go_wp2
        go_ret
        exact ⟨ret_bool hf.out.symm, k, rfl⟩
  · have hne : decide (xs = ys) = false := decide_eq_false (fun e => hlen (by rw [e]))
    rw [hne]
    have hne2 : ((xs.length : Int) != (ys.length : Int)) = true := by simp; omega
    clear h1 h2 hlen hne
    generalize xs.length = n1 at *
    generalize ys.length = n2 at *
    go_enter Tryd.func19, Tryd.ntmps19
    go_wp2
    go_ret
    exact ⟨rfl, 0, rfl⟩
end Go.Proofs.YtijdcplffmdijaaDoor
