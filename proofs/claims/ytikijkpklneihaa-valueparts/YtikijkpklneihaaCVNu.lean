import Derived.Test.YtikijkpklneihaaCVSh
import Derived.Deep.QuietTactic
namespace Go.Proofs.Ytikijkpklneihaa
open Go.RowKit
set_option linter.unusedVariables false
set_option linter.unusedSimpArgs false

theorem pth_of {W : World} {base B : Nat} {v : Value} {ks : List Int} (h : W.ownsRow base 3 1 v ks.length (ks.map (Value.int .i64))) (hB : W.heap.size ≤ B) (h64 : ∀ k ∈ ks, I64 k) : ∃ p c, v = .slice p ks.length c ∧ Pth W B p c ks := by
  rcases h.2 with ⟨rfl, h0⟩ | ⟨g, cap, cur, rfl, q3, q4, q5, q6, q7, q8⟩
  · have : ks = [] := List.eq_nil_of_length_eq_zero h0
    subst this
    exact ⟨none, 0, rfl, ⟨by simp, by simp [maxLen], fun i hi => by simp at hi⟩⟩
  · refine ⟨_, _, rfl, ⟨q5, q6, fun i hi => ⟨g, 0, rfl, Nat.lt_of_lt_of_le (Array.getElem?_eq_some_iff.1 q4).1 hB, ?_, h64 _ (List.getElem_mem hi)⟩⟩⟩
    have := h.cellAt i (by omega)
    rw [Nat.zero_add, this]
    simp [hi]
set_option maxRecDepth 100000 in
set_option maxHeartbeats 2000000 in
theorem numbers_yes (w : World) (B : Nat) (ks : List Int) (p : Option Addr) (c : Nat) (p' : Option Addr) (c' : Nat) (hp : Pth w B p c ks) (hp' : Pth w B p' c' ks) :
    Calls Try.prog 14 #[.slice p ks.length c, .slice p' ks.length c'] w fun e w' => e = .returned (.bool true) ∧ Below w.heap.size w w' := by
  have HP : Bx _ := ⟨hp⟩
  have HP' : Bx _ := ⟨hp'⟩
  have h1 := hp.len
  have h2 := hp.max
  have h3 := hp'.len
  have h4 := hp'.max
  unfold maxLen at h2 h4
  clear hp hp'
  go_enter Try.func14, Try.ntmps14
  go_wp2
  go_loopg [5] ks.length (fun q v wr => ∃ i : Nat, q = ks.length - i ∧ i ≤ ks.length ∧ v = .int .i64 i ∧ Bx (Below w.heap.size w wr ∧ Lo B w wr))
  case atStart => exact ⟨0, by simp, by omega, rfl, ⟨Below.refl _ _, ⟨fun _ _ _ => rfl⟩⟩⟩
  case round =>
    obtain ⟨i, hq, hil, rfl, HS⟩ := hrel
    by_cases hlt : i < ks.length
    · obtain ⟨b, o, rfl, hb, d0, _⟩ := (HP.out.lo HS.out.2).at_ i hlt
      obtain ⟨b', o', rfl, hb', e0, _⟩ := (HP'.out.lo HS.out.2).at_ i hlt
      have HN : ∀ q, Bx (Below w.heap.size w (wr.drewN q) ∧ Lo B w (wr.drewN q)) := fun q => ⟨⟨HS.out.1.os, HS.out.1.tape, HS.out.1.output, HS.out.1.size, HS.out.1.block⟩, ⟨fun b o hb => HS.out.2.cell b o hb⟩⟩
      go_wp2_with fail
      go_quiet (fail)
      go_wp2
      go_roundg (ks.length - (i + 1))
      case measure => omega
      case rel => exact ⟨i + 1, rfl, by omega, by simp, HN _⟩
    · go_wp2
      go_ret
      exact ⟨rfl, HS.out.1⟩
end Go.Proofs.Ytikijkpklneihaa
