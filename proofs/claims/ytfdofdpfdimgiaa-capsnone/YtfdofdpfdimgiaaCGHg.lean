import Derived.Test.YtfdofdpfdimgiaaCGHf
import Derived.Test.YtfdofdpfdimgiaaCGHp
import Derived.Test.YtfdofdpfdimgiaaCGNa
namespace Go.Proofs.Ytfdofdpfdimgiaa
open Go.RowKit
set_option linter.unusedVariables false
set_option linter.unusedSimpArgs false

theorem chk_ok {s : List Ag} (h : chkI s = 0) : stOk s = true := by
  unfold chkI at h
  cases hs : stOk s with
  | true => rfl
  | false => rw [hs] at h; cases h
theorem ok_arms {a : Ag} (h : agOk a = true) (haw : a.awake = true) : a.arms.length = 0 := by
  unfold agOk at h
  rw [Bool.and_eq_true, Bool.and_eq_true] at h
  have h1 := h.1.1
  rw [haw] at h1
  simp at h1
  simp [h1]
/-- CapsNone, of whatever agents -/
theorem none_all (w : World) (p : Option Addr) (c : Nat) (s : List Ag) (h : AgsR w p c s) :
    Calls Try.prog 6 #[.slice p s.length c] w fun e w' => e = .returned (.bool true) ∧ Below w.heap.size w w' := by
  by_cases hok : stOk s = true
  · refine none_walk w p c s h (linksI s).length (fun ⟨i, hg⟩ => List.length_pos_iff.2 (good_link hok hg)) (fun h => link_good hok (List.length_pos_iff.1 h)) (fun _ k hk haw => ok_arms (st_all hok _ (List.getElem_mem hk)).1 haw) ⟨fun W => shown_any W⟩ ⟨fun ht W hW => Check_any W p c s (h.later hW) (few_of ht)⟩ ⟨fun ht _ W hW => ?_⟩
    have hl := links_len hok ht
    refine (Links_yes W p c s (h.later hW) (few_of ht) hok hl).mono ?_
    rintro e w' ⟨v, rfl, ho, hb⟩
    rcases ho.2 with ⟨x1, x2⟩ | ⟨g, cap, cur, x1, _⟩
    · exact ⟨none, 0, by rw [x1, x2], by omega, hb⟩
    · exact ⟨_, cap, by rw [x1], by omega, hb⟩
  · by_cases hg : AnyG s
    · exact none_walk w p c s h 1 (fun _ => by decide) (fun _ => hg) (fun h0 => absurd (chk_ok h0) hok) ⟨fun W => shown_any W⟩ ⟨fun ht W hW => Check_any W p c s (h.later hW) (few_of ht)⟩ ⟨fun _ h0 => absurd (chk_ok h0) hok⟩
    · exact none_walk w p c s h 0 (fun h => absurd h hg) (fun h => by cases h) (fun h0 => absurd (chk_ok h0) hok) ⟨fun W => shown_any W⟩ ⟨fun ht W hW => Check_any W p c s (h.later hW) (few_of ht)⟩ ⟨fun _ h0 => absurd (chk_ok h0) hok⟩
end Go.Proofs.Ytfdofdpfdimgiaa
