import Derived.Test.YtjabdhmkibahlaaCGHb
import Derived.Test.YtjabdhmkibahlaaCGC
import Derived.BigQuiet
namespace Go.Proofs.Ytjabdhmkibahlaa
open Go.RowKit
set_option linter.unusedVariables false
set_option linter.unusedSimpArgs false

/-! ### the reference's Check -/
set_option maxRecDepth 100000 in
set_option maxHeartbeats 1000000 in
theorem rhas_any (w : World) (p : Option Addr) (c : Nat) (l : List Int) (n : Int) (h : IntsR w p c l) (hn : I64 n) :
    Calls Try.prog 62 #[.slice p l.length c, .int .i64 n] w fun e w' => e = .returned (.bool (l.contains n)) ∧ w' = w := by
  have hlc := h.len
  have hcm := h.max
  unfold maxLen at hcm
  have HS : Bx _ := ⟨h⟩
  clear h
  go_enter Try.func62, Try.ntmps62
  go_wp2
  go_loopg [5] (l.length + 1) (fun k v5 wr => ∃ i : Nat, k = l.length + 1 - i ∧ i ≤ l.length ∧ v5 = .int .i64 i ∧ Bx ((l.drop i).contains n = l.contains n ∧ wr = w))
  case atStart => exact ⟨0, by simp, by omega, rfl, ⟨by simp, rfl⟩⟩
  case round =>
    obtain ⟨i, hk, hil, rfl, HR⟩ := hrel
    by_cases hlt : i < l.length
    · obtain ⟨b, o, rfl, _, hc⟩ := HS.out.at_ i hlt
      have c0 := hc wr (by rw [HR.out.2]; exact Below.refl _ _)
      have HD : Bx ((l.drop i).contains n = (n == l[i] || (l.drop (i + 1)).contains n)) := ⟨by rw [List.drop_eq_getElem_cons hlt, List.contains_cons]⟩
      clear hc HS
      generalize l[i] = z at *
      by_cases hz : z = n
      · subst hz
        have HF : Bx (l.contains z = true) := ⟨by rw [← HR.out.1, HD.out]; simp⟩
        go_wp2
        go_ret
        exact ⟨by rw [HF.out]; rfl, HR.out.2⟩
      · have HF : Bx ((l.drop (i + 1)).contains n = l.contains n) := ⟨by
          rw [← HR.out.1, HD.out]
          have : (n == z) = false := beq_eq_false_iff_ne.2 (fun e => hz e.symm)
          rw [this, Bool.false_or]⟩
        go_wp2
        go_roundg (l.length + 1 - (i + 1))
        case measure => omega
        case rel => exact ⟨i + 1, rfl, by omega, by simp, ⟨HF.out, HR.out.2⟩⟩
    · have hie : i = l.length := by omega
      subst hie
      have HF : Bx (l.contains n = false) := ⟨by rw [← HR.out.1, List.drop_length]; rfl⟩
      go_wp2
      go_ret
      exact ⟨by rw [HF.out]; rfl, HR.out.2⟩
end Go.Proofs.Ytjabdhmkibahlaa
