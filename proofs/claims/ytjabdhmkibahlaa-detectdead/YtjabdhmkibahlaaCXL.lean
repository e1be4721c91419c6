import Derived.Test.YtjabdhmkibahlaaCXLa
import Derived.Test.YtjabdhmkibahlaaCHD
import Derived.Test.YtjabdhmkibahlaaCER
import Derived.Test.YtjabdhmkibahlaaCGP
import Derived.Test.YtjabdhmkibahlaaCGN
namespace Go.Proofs.Ytjabdhmkibahlaa
open Go.RowKit
set_option linter.unusedVariables false
set_option linter.unusedSimpArgs false

set_option maxRecDepth 100000 in
set_option maxHeartbeats 4000000 in
theorem lent7_any (w : World) (p : Option Addr) (cap : Nat) (s : List Ag) (h : AgsR w p cap s) (ht : totA s ≤ 2147483647) :
    Calls Try.prog 24 #[.slice p s.length cap] w fun e w' => ∃ ga c, e = .returned (.slice (some ⟨ga, 0, none⟩) s.length c) ∧ Bx (Below w.heap.size w w' ∧ Own7 w' ga c s) := by
  obtain ⟨H, hH⟩ : ∃ H, w.heap.size = H := ⟨_, rfl⟩
  rw [hH]
  have hlc := h.len
  have hcm := h.max
  unfold maxLen at hcm
  have HP : Bx _ := ⟨h⟩
  have H6 : Bx _ := ⟨h.a64⟩
  have hlen := len_totA s
  have HT : Bx (∀ i (h : i < s.length), s[i].arms.length ≤ 2147483647 ∧ s[i].held.length ≤ 2147483647) := ⟨fun i hi => by have := arm_totA s i hi; omega⟩
  clear h
  go_enter Try.func24, Try.ntmps24
  go_wp2
  go_loopg [3, 10] (s.length + 1) (fun g v3 v10 wr => ∃ (k : Nat) (va : Value), g = s.length + 1 - k ∧ k ≤ s.length ∧ v10 = .int .i64 k ∧ va = v3 ∧ Bx (∃ gs, Ls7 w wr H (s.take k) va gs))
  case atStart => exact ⟨0, _, by simp, Nat.zero_le _, rfl, rfl, ⟨[], Ls7.nil w H⟩⟩
  case round =>
    obtain ⟨k, va, hg, hk, rfl, rfl, HI⟩ := hrel
    obtain ⟨gs, hI⟩ := HI.out
    clear HI
    by_cases hlt : k < s.length
    · obtain ⟨b, o, ap, ac, hp, hc, rfl, hA, hcl⟩ := HP.out.at_ k hlt
      obtain ⟨c0, c1, c2, c3⟩ := hcl wr (by rw [hH]; exact hI.bel)
      have htk := HT.out k hlt
      have htake : s.take (k + 1) = s.take k ++ [s[k]] := List.take_succ_eq_append_getElem hlt
      generalize s[k] = a at *
      obtain ⟨n, hn⟩ : ∃ n, n = a.arms.length := ⟨_, rfl⟩
      obtain ⟨m, hm⟩ : ∃ m, m = a.held.length := ⟨_, rfl⟩
      obtain ⟨W2, W3, W4, W5, W6, W7, v2, v4, va', g, RA⟩ := rn7 hI hH wr.heap.size rfl a n m hn hm ap ac hp hc (hA.later (by rw [hH]; exact hI.bel)) (by omega) (by omega) (by rw [List.length_take]; omega)
      obtain ⟨k1, r2, r3, cp, k3, r4, r5, cq, k5, d5, f5, g5, w6, b6, r7, st⟩ := RA
      obtain ⟨p0, p1, p2, p3⟩ : W6.cell? ⟨wr.heap.size, 0, none⟩ = some (.int .i64 a.id) ∧ W6.cell? ⟨wr.heap.size, 1, none⟩ = some (.bool a.awake) ∧ W6.cell? ⟨wr.heap.size, 2, none⟩ = some _ ∧ W6.cell? ⟨wr.heap.size, 3, none⟩ = some _ := ⟨cell_blk b6 rfl, cell_blk b6 rfl, cell_blk b6 rfl, cell_blk b6 rfl⟩
      rw [← hn] at c2
      rw [← hm] at c3
      have HN : Bx (∃ gs, Ls7 w W7 H (s.take (k + 1)) va' gs) := ⟨_, by rw [htake]; exact st⟩
      have hkI : (k : Int) < (s.length : Int) := by omega
      have hk0 : (0 : Int) ≤ (k : Int) := by omega
      have hnl : n ≤ 2147483647 := by omega
      have hml : m ≤ 2147483647 := by omega
      clear hI hcl hA htake htk st b6 hn hm HP HT
      obtain ⟨⟨ga, cga⟩, ⟨gh, cgh⟩⟩ := g
      simp only at *
      go_wp2_with (first
        | (at_builtin; refine wpList_appI rfl (.const (.slice none 0 0)) (.tmp 15) 51 rfl rfl rfl r2 ?_)
        | (at_builtin; refine wpList_appI rfl (.tmp 16) (.tmp 18) 51 rfl rfl rfl r3 ?_)
        | (at_builtin; refine wpList_appI rfl (.const (.slice none 0 0)) (.tmp 21) 45 rfl rfl rfl r4 ?_)
        | (at_builtin; refine wpList_appI rfl (.tmp 22) (.tmp 23) 45 rfl rfl rfl r5 ?_)
        | (at_builtin; refine wpList_appI rfl (.tmp 37) (.tmp 39) 22 rfl rfl rfl r7 ?_))
      go_roundg (s.length + 1 - (k + 1))
      case measure => omega
      case rel => exact ⟨k + 1, _, rfl, by omega, by go_num, rfl, HN⟩
    · have hke : k = s.length := by omega
      subst hke
      rw [List.take_of_length_le (Nat.le_refl _)] at hI
      obtain ⟨W1, ga, c, r1, hcc, hb1, hL⟩ := hI.last hH (by omega)
      have HF : Bx (Below H w W1 ∧ Own7 W1 ga c s) := ⟨hb1, hL.own H6.out⟩
      have hs31 : s.length ≤ 2147483647 := by omega
      clear hI hb1 hL HP HT H6
      go_wp2_with (at_builtin; refine wpList_appI rfl (.tmp 42) (.tmp 44) 22 rfl rfl rfl r1 ?_)
      go_ret
      exact ⟨ga, c, rfl, HF⟩
end Go.Proofs.Ytjabdhmkibahlaa
namespace Go.Proofs.Ytjabdhmkibahlaa
open Go.RowKit
set_option linter.unusedVariables false
set_option linter.unusedSimpArgs false

/-! ### heavy -/
/-- no list of an agent's is beyond what memory may hold -/
def Lists (s : List Ag) : Prop := ∀ a ∈ s, a.arms.length ≤ 1152921504606846976 ∧ a.held.length ≤ 1152921504606846976
set_option maxRecDepth 100000 in
set_option maxHeartbeats 2000000 in
theorem heavy_any (w : World) (p : Option Addr) (c : Nat) (s : List Ag) (h : AgsR w p c s) (hz : Lists s) (hsl : s.length ≤ 1152921504606846976) :
    Calls Try.prog 22 #[.slice p s.length c] w fun e w' => e = .returned (.bool (decide (2147483647 < totA s))) ∧ ∃ k, w' = w.drewN k := by
  have a1 := h.len
  have a2 := h.max
  unfold maxLen at a2
  have HS : Bx _ := ⟨h⟩
  have HZ : Bx (Lists s) := ⟨hz⟩
  have HT : Bx (∀ i, totA (s.take i) ≤ totA s) := ⟨fun i => by
    have := totA_app (s.take i) (s.drop i)
    rw [List.take_append_drop] at this
    omega⟩
  clear h hz
  go_enter Try.func22, Try.ntmps22
  go_wp2
  go_loopg [3, 4] (s.length + 1) (fun g v3 v4 wr => ∃ i k : Nat, g = s.length + 1 - i ∧ i ≤ s.length ∧ v4 = .int .i64 i ∧ Bx (wr = w.drewN k) ∧ (∃ t : Nat, v3 = .int .i64 t ∧ t = totA (s.take i) + (s.length - i)))
  case atStart => exact ⟨0, 0, by simp, by omega, rfl, ⟨rfl⟩, s.length, rfl, by simp [totA]⟩
  case round =>
    obtain ⟨i, k, hg, hil, rfl, HR, t, rfl, ht0⟩ := hrel
    have HTT : Bx (t = totA (s.take i) + (s.length - i)) := ⟨ht0⟩
    clear ht0
    by_cases hlt : i < s.length
    · by_cases hle : t ≤ 2147483647
      · obtain ⟨b, o, ap, ac, hp, hc, rfl, hA, hcl⟩ := HS.out.at_ i hlt
        have hbl : Below w.heap.size w wr := by rw [HR.out]; exact below_drewN (Below.refl _ _) k
        obtain ⟨c0, c1, c2, c3⟩ := hcl wr hbl
        have hz := HZ.out s[i] (List.getElem_mem hlt)
        have htt := totA_take s i hlt
        clear hcl hA hbl
        generalize s[i] = a at *
        obtain ⟨id, aw, arms, held⟩ := a
        simp only at c0 c1 c2 c3 hz htt
        obtain ⟨z1, z2⟩ := hz
        go_wp2
        go_quiet (fail)
        go_wp2
        go_roundg (s.length + 1 - (i + 1))
        case measure => omega
        case rel => exact ⟨i + 1, k + nq, rfl, by omega, by simp, ⟨by rw [HR.out]; first | rfl | rw [World.drewN_drewN]⟩, t + (arms.length + held.length), by simp, by have := HTT.out; omega⟩
      · go_wp2
        go_ret
        have ht := HTT.out
        have h1 : 2147483647 < totA s := by
          have h2 := totA_app (s.take i) (s.drop i)
          rw [List.take_append_drop] at h2
          have h3 : ∀ l : List Ag, l.length ≤ totA l := fun l => by
            induction l with
            | nil => simp
            | cons a r ih => simp only [totA, List.length_cons]; omega
          have h4 := h3 (s.drop i)
          rw [List.length_drop] at h4
          omega
        exact ⟨by simp [h1]; try omega, k, HR.out⟩
    · have hie : i = s.length := by omega
      subst hie
      go_wp2
      go_ret
      have ht := HTT.out
      rw [List.take_length, Nat.sub_self, Nat.add_zero] at ht
      exact ⟨by rw [← ht]; congr 2; simp; try omega, k, HR.out⟩
end Go.Proofs.Ytjabdhmkibahlaa
namespace Go.Proofs.Ytjabdhmkibahlaa
open Go.RowKit Go.MapKept Go.ChangeMaps Go.WideShapes
set_option linter.unusedVariables false
set_option linter.unusedSimpArgs false

/-! ### the example, in memory -/
theorem shA_read {X : World} {g0 g1 g2 : Nat} (h0 : X.heap[g0]? = some (.cells #[iV 3, .bool false] 58 (0, 0))) (h1 : X.heap[g1]? = some (.cells #[iV 3] 3 (0, 0))) (h2 : X.heap[g2]? = some (.cells #[iV 0, .bool false, pS g0 1, pS g1 1] 53 (0, 0))) : AgsR X (some ⟨g2, 0, none⟩) 1 exA := by
  have e0 := own_blk (n := 1) (z := 2) h0 rfl (by decide)
  have e1 := own_blk (n := 1) (z := 1) h1 rfl (by decide)
  have e2 := own_blk (n := 1) (z := 4) h2 rfl (by decide)
  have hC : AgC X 0 exA #[iV 0, .bool false, pS g0 1, pS g1 1].toList := by
    refine ⟨_, _, rfl, ⟨some ⟨g0, 0, none⟩, 1, some ⟨g1, 0, none⟩, 1, rfl, by unfold I64; simp, by simp [I64], by simp [I64], e0, e1⟩, ?_⟩
    rfl
  obtain ⟨p, c, e, h⟩ := AgC.read e2 hC
  injection e with x1 x2 x3
  subst x1 x3
  exact h
def cA (g0 g1 : Nat) : List Value := [iV 0, .bool false, pS g0 1, pS g1 1]
def cB (g3 : Nat) : List Value := [iV 1, .bool true, .slice none 0 0, pS g3 1]
theorem shB_read {X : World} {B g0 g1 g3 gg cap : Nat} (h0 : X.heap[g0]? = some (.cells #[iV 3, .bool false] 58 (0, 0))) (h1 : X.heap[g1]? = some (.cells #[iV 3] 3 (0, 0))) (h3 : X.heap[g3]? = some (.cells #[iV 3] 3 (0, 0))) (ho : X.ownsRow B 53 4 (.slice (some ⟨gg, 0, none⟩) 2 cap) 2 (cA g0 g1 ++ cB g3)) : AgsR X (some ⟨gg, 0, none⟩) cap exB := by
  have e0 := own_blk (n := 1) (z := 2) h0 rfl (by decide)
  have e1 := own_blk (n := 1) (z := 1) h1 rfl (by decide)
  have e3 := own_blk (n := 1) (z := 1) h3 rfl (by decide)
  have n1 : X.ownsRow 0 58 2 (.slice none 0 0) 0 [] := ⟨rfl, .inl ⟨rfl, rfl⟩⟩
  have hC : AgC X 0 exB (cA g0 g1 ++ cB g3) := by
    refine ⟨_, _, rfl, ⟨some ⟨g0, 0, none⟩, 1, some ⟨g1, 0, none⟩, 1, rfl, by unfold I64; simp, by simp [I64], by simp [I64], e0, e1⟩, ?_⟩
    refine ⟨_, _, (List.append_nil _).symm, ⟨none, 0, some ⟨g3, 0, none⟩, 1, rfl, by unfold I64; simp, by simp, by simp [I64], n1, e3⟩, ?_⟩
    rfl
  obtain ⟨p, c, e, h⟩ := AgC.read (gs := exB) ho hC
  injection e with x1 x2 x3
  subst x1 x3
  exact h
theorem deadA {X : World} {p : Option Addr} {c : Nat} (h : AgsR X p c exA) : Calls Try.prog 25 #[.slice p 1 c] X fun e w' => ∃ q d, e = .returned (.tuple #[.slice q 1 d, .int .i64 0]) ∧ IntsR w' q d [0] ∧ Below X.heap.size X w' := by
  refine (Dead_yes X p c exA h (by decide) exA_ok).mono ?_
  rintro e w' ⟨Y, q, d, hF, rfl, h1, h2⟩
  rw [exA_dead hF] at h1 ⊢
  exact ⟨q, d, rfl, h1, h2⟩
theorem deadB {X : World} {p : Option Addr} {c : Nat} (h : AgsR X p c exB) : Calls Try.prog 25 #[.slice p 2 c] X fun e w' => ∃ q d, e = .returned (.tuple #[.slice q 0 d, .int .i64 0]) ∧ Below X.heap.size X w' := by
  refine (Dead_yes X p c exB h (by decide) exB_ok).mono ?_
  rintro e w' ⟨Y, q, d, hF, rfl, h1, h2⟩
  rw [exB_dead hF]
  exact ⟨q, d, rfl, h2⟩
theorem chainB {X : World} {p : Option Addr} {c : Nat} (h : AgsR X p c exB) : Calls Try.prog 27 #[.slice p 2 c, .int .i64 0] X fun e w' => ∃ q d, e = .returned (.tuple #[.slice q 1 d, .bool true]) ∧ LksR w' q d [⟨1, 0, 3⟩] ∧ Below X.heap.size X w' := by
  refine (Chain_yes X p c exB 0 h (by decide) ⟨by decide, by decide⟩ exB_ok).mono ?_
  rintro e w' ⟨Y, hF, h1, h2⟩
  have hy := exB_chain hF
  rcases h1 with ⟨h1, _⟩ | ⟨n, l, q, d, h1, _, _, rfl, h3⟩
  · rw [hy] at h1; cases h1
  · rw [hy] at h1
    have h4 := Prod.ext_iff.1 (Option.some.inj h1)
    have h5 : n = 1 := by have := h4.1; simp only at this; omega
    have h6 : (⟨1, 0, 3⟩ : Lk) = l := h4.2
    subst h5 h6
    exact ⟨q, d, rfl, h3, h2⟩
end Go.Proofs.Ytjabdhmkibahlaa
