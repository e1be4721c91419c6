import Derived.Test.YtjabdhmkibahlaaCGLa
import Derived.Deep.RegionHeld
import Derived.Deep.QuietTactic
import Derived.BigQuiet
namespace Go.Proofs.Ytjabdhmkibahlaa
open Go.RowKit
set_option linter.unusedVariables false
set_option linter.unusedSimpArgs false

set_option maxRecDepth 100000 in
set_option maxHeartbeats 2000000 in
theorem sameInts_yes (w : World) (p1 p2 : Option Addr) (c1 c2 : Nat) (l : List Int) (h1 : IntsR w p1 c1 l) (h2 : IntsR w p2 c2 l) :
    Calls Try.prog 47 #[.slice p1 l.length c1, .slice p2 l.length c2] w fun e w' => e = .returned (.bool true) ∧ ∃ k, w' = w.drewN k := by
  have a1 := h1.len
  have a2 := h1.max
  have a3 := h2.len
  have a4 := h2.max
  unfold maxLen at a2 a4
  have H1 : Bx _ := ⟨h1⟩
  have H2 : Bx _ := ⟨h2⟩
  clear h1 h2
  go_enter Try.func47, Try.ntmps47
  go_wp2
  go_loopg [5] (l.length + 1) (fun g v5 wr => ∃ i k : Nat, g = l.length + 1 - i ∧ i ≤ l.length ∧ v5 = .int .i64 i ∧ Bx (wr = w.drewN k))
  case atStart => exact ⟨0, 0, by simp, by omega, rfl, ⟨rfl⟩⟩
  case round =>
    obtain ⟨i, k, hg, hil, rfl, HR⟩ := hrel
    by_cases hlt : i < l.length
    · obtain ⟨b1, o1, rfl, _, k1⟩ := H1.out.at_ i hlt
      obtain ⟨b2, o2, rfl, _, k2⟩ := H2.out.at_ i hlt
      have hbl : Below w.heap.size w wr := by rw [HR.out]; exact below_drewN (Below.refl _ _) k
      have q1 := k1 wr hbl
      have q2 := k2 wr hbl
      clear k1 k2 hbl
      generalize l[i] = z at *
      go_wp2
      go_quiet (fail)
      go_wp2
      go_roundg (l.length + 1 - (i + 1))
      case measure => omega
      case rel => exact ⟨i + 1, k + nq, rfl, by omega, by simp, ⟨by rw [HR.out]; first | rfl | rw [World.drewN_drewN]⟩⟩
    · have hie : i = l.length := by omega
      subst hie
      go_wp2
      go_ret
      exact ⟨rfl, k, HR.out⟩
set_option maxRecDepth 100000 in
set_option maxHeartbeats 2000000 in
theorem sameHands_yes (w : World) (p1 p2 : Option Addr) (c1 c2 : Nat) (l : List Hd) (h1 : HdsR w p1 c1 l) (h2 : HdsR w p2 c2 l) :
    Calls Try.prog 46 #[.slice p1 l.length c1, .slice p2 l.length c2] w fun e w' => e = .returned (.bool true) ∧ ∃ k, w' = w.drewN k := by
  have a1 := h1.len
  have a2 := h1.max
  have a3 := h2.len
  have a4 := h2.max
  unfold maxLen at a2 a4
  have H1 : Bx _ := ⟨h1⟩
  have H2 : Bx _ := ⟨h2⟩
  clear h1 h2
  go_enter Try.func46, Try.ntmps46
  go_wp2
  go_loopg [5] (l.length + 1) (fun g v5 wr => ∃ i k : Nat, g = l.length + 1 - i ∧ i ≤ l.length ∧ v5 = .int .i64 i ∧ Bx (wr = w.drewN k))
  case atStart => exact ⟨0, 0, by simp, by omega, rfl, ⟨rfl⟩⟩
  case round =>
    obtain ⟨i, k, hg, hil, rfl, HR⟩ := hrel
    by_cases hlt : i < l.length
    · obtain ⟨b1, o1, rfl, _, k1⟩ := H1.out.at_ i hlt
      obtain ⟨b2, o2, rfl, _, k2⟩ := H2.out.at_ i hlt
      have hbl : Below w.heap.size w wr := by rw [HR.out]; exact below_drewN (Below.refl _ _) k
      obtain ⟨q1, q3⟩ := k1 wr hbl
      obtain ⟨q2, q4⟩ := k2 wr hbl
      clear k1 k2 hbl
      generalize l[i] = z at *
      go_wp2
      go_quiet (fail)
      go_wp2
      go_roundg (l.length + 1 - (i + 1))
      case measure => omega
      case rel => exact ⟨i + 1, k + nq, rfl, by omega, by simp, ⟨by rw [HR.out]; first | rfl | rw [World.drewN_drewN]⟩⟩
    · have hie : i = l.length := by omega
      subst hie
      go_wp2
      go_ret
      exact ⟨rfl, k, HR.out⟩
end Go.Proofs.Ytjabdhmkibahlaa
