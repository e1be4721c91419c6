import Derived.Test.YtfocggaocadkmaaDoorTPr
namespace Go.Proofs.YtfocggaocadkmaaDoor
open Go.RowKit
set_option linter.unusedVariables false
set_option linter.unusedSimpArgs false

set_option maxRecDepth 100000 in
set_option maxHeartbeats 2000000 in
theorem row_any (w0 : World) (B b : Nat) (lv : Value) (N : Nat) (G : Nat → List (List UInt8)) (ks : List Nat) (a : Option Addr) (cap : Nat) (hk : IntsV w0 B (.slice a ks.length cap) (ks.map fun k : Nat => (k : Int))) (HC : ∀ k ∈ ks, NdC w0 B b lv N G k) :
    PrC w0 B b lv N 49 #[.pointer (some ⟨b, 0, none⟩), .slice a ks.length cap] (rowT G ks) := by
  intro W bs hst hb
  have HX : Bx (IntsV w0 B (.slice a ks.length cap) (ks.map fun k : Nat => (k : Int)) ∧ ∀ k ∈ ks, NdC w0 B b lv N G k) := ⟨hk, HC⟩
  have HS : Bx _ := ⟨hst⟩
  have hkl : ks.length ≤ maxLen := by
    obtain ⟨_, _, _, _, h2, _⟩ := hk.ex
    simpa using h2
  unfold maxLen at hkl
  clear hk HC hst
  go_enter Tryd.func49, Tryd.ntmps49
  go_wp2
  go_loopw [8] (fun x wr => ∃ p : Nat, p ≤ ks.length ∧ x = .int .i64 p ∧ Bx (PrS w0 B b lv bs (rowT G (ks.take p)) wr ∧ Keep W wr b ∧ b < wr.heap.size)) (fun x _ => ks.length - (intOf x).toNat)
  case atStart => exact ⟨0, Nat.zero_le _, rfl, ⟨HS.out, Keep.refl _ _, HS.out.pb.lt⟩⟩
  case round =>
    obtain ⟨p, hp, rfl, HR⟩ := hrel
    by_cases hlt : p < ks.length
    · obtain ⟨a', cap', he, h1, h2, h3⟩ := (HX.out.1.below HR.out.1.bel).ex
      simp only [Value.slice.injEq] at he
      obtain ⟨rfl, -, rfl⟩ := he
      obtain ⟨kb, ko, rfl, hbB, hcell⟩ := h3 (by simp; omega)
      have hc := hcell p (by simpa using hlt)
      simp only [List.getElem_map] at hc
      have htk : ks.take (p + 1) = ks.take p ++ [ks[p]] := List.take_succ_eq_append_getElem hlt
      have hcst := rowT_cost G ks (p + 1)
      rw [htk, rowT_snoc] at hcst
      have HN : Bx _ := ⟨pr_step (HX.out.2 ks[p] (List.getElem_mem hlt)) HR.out.1 (by omega)⟩
      have HT : Bx (rowT G (ks.take p) ++ G ks[p] = rowT G (ks.take (p + 1))) := ⟨by rw [htk, rowT_snoc]⟩
      generalize ks[p] = k at *
      have hbl := HR.out.2.2
      have hcap : ks.length ≤ cap := by simpa using h1
      clear hcell h3 htk hcst h1 h2 hb
      go_wp2_with (first | (go_at_call 22; refine Calls.mono HN.out ?_; rintro e w1 ⟨rfl, q1, q2, q3⟩))
      go_roundw
      case rel => exact ⟨p + 1, by omega, by go_num, ⟨by rw [← HT.out]; exact q1, HR.out.2.1.trans q2, q3⟩⟩
      case measure => simp [intOf]; omega
    · have HE : Bx (ks.take p = ks) := ⟨List.take_of_length_le (by omega)⟩
      go_wp2
      go_end0
      refine ⟨rfl, ?_, HR.out.2⟩
      have := HR.out.1
      rw [HE.out] at this
      exact this

set_option maxRecDepth 100000 in
set_option maxHeartbeats 2000000 in
theorem list_any (w0 : World) (B b : Nat) (lv : Value) (N : Nat) (hN : N ≤ 140737488355328) (G : Nat → List (List UInt8)) (ks : List Nat) (a : Option Addr) (cap : Nat) (op sh : ByteArray) (hop : op.data.toList ≠ []) (hsh : sh.data.toList ≠ [])
    (hk : IntsV w0 B (.slice a ks.length cap) (ks.map fun k : Nat => (k : Int))) (HC : ∀ k ∈ ks, NdC w0 B b lv N G k) :
    PrC w0 B b lv N 50 #[.pointer (some ⟨b, 0, none⟩), .string op, .slice a ks.length cap, .string sh] ([op.data.toList] ++ innerT G ks ++ [sh.data.toList]) := by
  intro W bs hst hb
  have HX : Bx (IntsV w0 B (.slice a ks.length cap) (ks.map fun k : Nat => (k : Int)) ∧ ∀ k ∈ ks, NdC w0 B b lv N G k) := ⟨hk, HC⟩
  have HS : Bx (PrS w0 B b lv bs [] W) := ⟨hst⟩
  have hkl : ks.length ≤ maxLen := by
    obtain ⟨_, _, _, _, h2, _⟩ := hk.ex
    simpa using h2
  unfold maxLen at hkl
  have hbW := hst.pb.lt
  have HB : Bx _ := ⟨hb⟩
  have HO : Bx _ := ⟨lay_step hN (C := #[.string op]) (n := 1) (cap := 1) rfl HS.out ⟨hop, trivial⟩ (by omega) (by simp [toksOf, strT] at hb ⊢; omega)⟩
  clear hk HC hst hb
  go_enter Tryd.func50, Tryd.ntmps50
  go_wp2_with (first | (go_at_call 48; refine Calls.mono HO.out ?_; rintro e w1 ⟨rfl, q1, q2, q3⟩))
  have HQ : Bx (PrS w0 B b lv bs [op.data.toList] w1 ∧ Keep W w1 b ∧ b < w1.heap.size) := ⟨q1, q2, q3⟩
  clear q1 q2 q3
  go_loopw [16] (fun x wr => ∃ p : Nat, p ≤ ks.length ∧ x = .int .i64 p ∧ Bx (PrS w0 B b lv bs ([op.data.toList] ++ innerT G (ks.take p)) wr ∧ Keep W wr b ∧ b < wr.heap.size)) (fun x _ => ks.length - (intOf x).toNat)
  case atStart => exact ⟨0, Nat.zero_le _, rfl, ⟨by simpa [innerT] using HQ.out.1, HQ.out.2⟩⟩
  case round =>
    obtain ⟨p, hp, rfl, HR⟩ := hrel
    by_cases hlt : p < ks.length
    · obtain ⟨a', cap', he, h1, h2, h3⟩ := (HX.out.1.below HR.out.1.bel).ex
      simp only [Value.slice.injEq] at he
      obtain ⟨rfl, -, rfl⟩ := he
      obtain ⟨kb, ko, rfl, hbB, hcell⟩ := h3 (by simp; omega)
      have hc := hcell p (by simpa using hlt)
      simp only [List.getElem_map] at hc
      have hcap : ks.length ≤ cap := by simpa using h1
      have htk : ks.take (p + 1) = ks.take p ++ [ks[p]] := List.take_succ_eq_append_getElem hlt
      have hcst := innerT_cost G ks (p + 1)
      have hbb := HB.out
      simp at hbb
      have hbl := HR.out.2.2
      have HG : Bx _ := ⟨HX.out.2 ks[p] (List.getElem_mem hlt)⟩
      by_cases h0 : p = 0
      · subst h0
        rw [Nat.add_zero] at hc
        have HT : Bx (innerT G (ks.take (0 + 1)) = innerT G (ks.take 0) ++ G ks[0]) := ⟨by rw [htk]; simp [innerT]⟩
        rw [HT.out] at hcst
        have HN : Bx _ := ⟨pr_step HG.out HR.out.1 (by simp at hcst ⊢; omega)⟩
        generalize ks[0] = k at *
        clear hcell h3 htk hcst h1 h2 hbb
        go_wp2_with (first | (go_at_call 22; refine Calls.mono HN.out ?_; rintro e w2 ⟨rfl, q1, q2, q3⟩))
        go_roundw
        case rel => exact ⟨0 + 1, by omega, by go_num, ⟨by rw [HT.out]; simpa using q1, HR.out.2.1.trans q2, q3⟩⟩
        case measure => simp [intOf]; omega
      · have hne : ks.take p ≠ [] := by
          intro e
          have := congrArg List.length e
          rw [List.length_take, List.length_nil] at this
          omega
        have HT : Bx (innerT G (ks.take (p + 1)) = innerT G (ks.take p) ++ ([[44]] ++ G ks[p])) := ⟨by rw [htk, innerT_snoc _ _ _ hne]⟩
        rw [HT.out] at hcst
        have HM : Bx _ := ⟨lay_step hN (C := #[.string ⟨#[44]⟩]) (n := 1) (cap := 1) rfl HR.out.1 ⟨by simp, trivial⟩ (by omega) (by simp [toksOf, strT] at hcst ⊢; omega)⟩
        have HN : Bx (∀ W2, PrS w0 B b lv bs (([op.data.toList] ++ innerT G (ks.take p)) ++ toksOf #[.string ⟨#[44]⟩]) W2 → _) := ⟨fun W2 h2 => pr_step (T2 := G ks[p]) HG.out h2 (by simp [toksOf, strT] at hcst ⊢; omega)⟩
        have hp0 : (0 : Int) < (p : Int) := by omega
        generalize ks[p] = k at *
        clear hcell h3 htk hcst h1 h2 hbb
        go_wp2_with (first | (go_at_call 48; refine Calls.mono HM.out ?_; rintro e w2 ⟨rfl, q1, q2, q3⟩) | (go_at_call 22; refine Calls.mono (HN.out _ q1) ?_; rintro e w3 ⟨rfl, r1, r2, r3⟩))
        go_roundw
        case rel => exact ⟨p + 1, by omega, by go_num, ⟨by rw [HT.out]; simpa [toksOf, strT] using r1, HR.out.2.1.trans (q2.trans r2), r3⟩⟩
        case measure => simp [intOf]; omega
    · have HE : Bx (ks.take p = ks) := ⟨List.take_of_length_le (by omega)⟩
      have HR1 := HR.out.1
      rw [HE.out] at HR1
      have HM : Bx _ := ⟨lay_step hN (C := #[.string sh]) (n := 1) (cap := 1) rfl HR1 ⟨hsh, trivial⟩ (by omega) (by have := HB.out; simp [toksOf, strT] at this ⊢; omega)⟩
      have hbl := HR.out.2.2
      clear HR1
      go_wp2_with (first | (go_at_call 48; refine Calls.mono HM.out ?_; rintro e w2 ⟨rfl, q1, q2, q3⟩))
      go_end0
      exact ⟨rfl, q1, HR.out.2.1.trans q2, q3⟩

def resT (G : Nat → List (List UInt8)) (ks : List Nat) : List (List UInt8) := if ks.length = 0 then [] else [[58]] ++ rowT G ks
set_option maxRecDepth 100000 in
set_option maxHeartbeats 2000000 in
theorem result_any (w0 : World) (B b : Nat) (lv : Value) (N : Nat) (hN : N ≤ 140737488355328) (G : Nat → List (List UInt8)) (ks : List Nat) (a : Option Addr) (cap : Nat)
    (hk : IntsV w0 B (.slice a ks.length cap) (ks.map fun k : Nat => (k : Int))) (HC : ∀ k ∈ ks, NdC w0 B b lv N G k) :
    PrC w0 B b lv N 51 #[.pointer (some ⟨b, 0, none⟩), .slice a ks.length cap] (resT G ks) := by
  intro W bs hst hb
  have HR : Bx _ := ⟨row_any w0 B b lv N G ks a cap hk HC⟩
  have hbW := hst.pb.lt
  have HS : Bx (PrS w0 B b lv bs [] W) := ⟨hst⟩
  by_cases h0 : ks.length = 0
  · have HT : Bx (resT G ks = []) := ⟨by unfold resT; rw [if_pos h0]⟩
    rw [HT.out]
    rw [h0] at HR ⊢
    clear hb hst hk HC
    go_enter Tryd.func51, Tryd.ntmps51
    go_wp2
    go_end0
    exact ⟨rfl, HS.out, Keep.refl _ _, hbW⟩
  · have HT : Bx (resT G ks = [[58]] ++ rowT G ks) := ⟨by unfold resT; rw [if_neg h0]⟩
    rw [HT.out] at hb ⊢
    have hp0 : (0 : Int) < (ks.length : Int) := by omega
    have HM : Bx _ := ⟨lay_step hN (C := #[.string ⟨#[58]⟩]) (n := 1) (cap := 1) rfl HS.out ⟨by simp, trivial⟩ (by omega) (by simp [toksOf, strT] at hb ⊢; omega)⟩
    have HN : Bx (∀ W2, PrS w0 B b lv bs ([] ++ toksOf #[.string ⟨#[58]⟩]) W2 → _) := ⟨fun W2 h2 => pr_step HR.out h2 (by simp [toksOf, strT] at hb ⊢; omega)⟩
    clear hb hst hk HC
    go_enter Tryd.func51, Tryd.ntmps51
    go_wp2_with (first | (go_at_call 48; refine Calls.mono HM.out ?_; rintro e w2 ⟨rfl, q1, q2, q3⟩) | (go_at_call 49; refine Calls.mono (HN.out _ q1) ?_; rintro e w3 ⟨rfl, r1, r2, r3⟩))
    go_end0
    exact ⟨rfl, by simpa [toksOf, strT, PrS] using r1, q2.trans r2, r3⟩
end Go.Proofs.YtfocggaocadkmaaDoor
