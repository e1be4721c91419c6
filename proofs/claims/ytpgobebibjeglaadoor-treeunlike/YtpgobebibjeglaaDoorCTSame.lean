import Derived.Test.YtpgobebibjeglaaDoorCTPrA
import Derived.Deep.RegionHeld
import Derived.Deep.QuietTactic
import Derived.BigQuiet
import Derived.Test.YtpgobebibjeglaaDoorCPG
namespace Go.Proofs.YtpgobebibjeglaaDoor
open Go.RowKit
set_option linter.unusedVariables false
set_option linter.unusedSimpArgs false

theorem ints_len {w : World} {B : Nat} {v : Value} {xs : List Int} (h : IntsV w B v xs) : xs.length ≤ maxLen := by
  obtain ⟨_, _, _, _, h2, _⟩ := h.ex
  exact h2
theorem ints_cells {w : World} {B : Nat} {a : Option Addr} {n c : Nat} {xs : List Int} (h : IntsV w B (.slice a n c) xs) (h0 : 0 < xs.length) : ∃ b o, a = some ⟨b, o, none⟩ ∧ b < B ∧ n ≤ c ∧ ∀ i (hi : i < xs.length), w.cell? ⟨b, o + i, none⟩ = some (.int .i64 xs[i]) := by
  obtain ⟨a', c', e, h1, h2, h3⟩ := h.ex
  simp only [Value.slice.injEq] at e
  obtain ⟨rfl, rfl, rfl⟩ := e
  obtain ⟨b, o, e, hb, hc⟩ := h3 h0
  exact ⟨b, o, e, hb, h1, hc⟩
theorem take_eq {α : Type} {xs ys : List α} {p : Nat} (h : xs.take p = ys.take p) (h1 : p < xs.length) (h2 : p < ys.length) (he : xs[p] = ys[p]) : xs.take (p + 1) = ys.take (p + 1) := by
  rw [List.take_succ_eq_append_getElem h1, List.take_succ_eq_append_getElem h2, h, he]
set_option maxRecDepth 100000 in
set_option maxHeartbeats 2000000 in
theorem sameInts_any (w : World) (B : Nat) (a1 a2 : Option Addr) (c1 c2 : Nat) (xs ys : List Int) (h1 : IntsV w B (.slice a1 xs.length c1) xs) (h2 : IntsV w B (.slice a2 ys.length c2) ys) :
    Calls Tryd.prog 17 #[.slice a1 xs.length c1, .slice a2 ys.length c2] w fun e w' => e = .returned (.bool (decide (xs = ys))) ∧ ∃ k, w' = w.drewN k := by
  have hl1 := ints_len h1
  have hl2 := ints_len h2
  unfold maxLen at hl1 hl2
  by_cases hlen : xs.length = ys.length
  · have HX : Bx _ := ⟨h1⟩
    have HY : Bx _ := ⟨h2⟩
    clear h1 h2
    generalize hn : xs.length = n at *
    have HN : Bx (xs.length = n ∧ ys.length = n) := ⟨hn, hlen.symm⟩
    rw [← hlen] at HY
    rw [← hlen] at hl2
    rw [← hlen]
    clear hn hlen
    go_enter Tryd.func17, Tryd.ntmps17
    go_wp2
    go_loopw [5] (fun x wr => ∃ p k : Nat, p ≤ n ∧ x = .int .i64 p ∧ wr = w.drewN k ∧ Bx (xs.take p = ys.take p)) (fun x _ => n - (intOf x).toNat)
    case atStart => exact ⟨0, 0, Nat.zero_le _, rfl, rfl, ⟨rfl⟩⟩
    case round =>
      obtain ⟨p, k, hp, rfl, rfl, HR⟩ := hrel
      by_cases hlt : p < n
      · have hp1 : p < xs.length := by rw [HN.out.1]; exact hlt
        have hp2 : p < ys.length := by rw [HN.out.2]; exact hlt
        obtain ⟨b1, o1, rfl, hb1, hc1, hcell1⟩ := ints_cells HX.out (by omega)
        obtain ⟨b2, o2, rfl, hb2, hc2, hcell2⟩ := ints_cells HY.out (by omega)
        have k1 := hcell1 p hp1
        have k2 := hcell2 p hp2
        by_cases he : xs[p] = ys[p]
        · have HT : Bx _ := ⟨take_eq HR.out hp1 hp2 he⟩
          rw [← he] at k2
          generalize xs[p] = z at *
          clear hcell1 hcell2 HR HX HY
          go_wp2
          go_quiet (fail)
          go_wp2
          go_roundw
          case rel => exact ⟨p + 1, k + nq, by omega, by go_num, by first | rfl | rw [World.drewN_drewN], HT⟩
          case measure => simp [intOf]; omega
        · have hf : Bx (decide (xs = ys) = false) := ⟨decide_eq_false (fun e => he (by subst e; rfl))⟩
          have hz : (xs[p] != ys[p]) = true := by simpa using he
          generalize xs[p] = z at *
          generalize ys[p] = z2 at *
          clear hcell1 hcell2 HR HX HY
          go_wp2
          go_quiet (fail)
          go_wp2
          go_ret
          exact ⟨ret_bool hf.out.symm, k + nq, by first | rfl | rw [World.drewN_drewN]⟩
      · have hf : Bx (decide (xs = ys) = true) := ⟨decide_eq_true (by
          have := HR.out
          rw [List.take_of_length_le (by rw [HN.out.1]; omega), List.take_of_length_le (by rw [HN.out.2]; omega)] at this
          exact this)⟩
        clear HR HX HY HN
        go_wp2
        go_ret
        exact ⟨ret_bool hf.out.symm, k, rfl⟩
  · have hne : decide (xs = ys) = false := decide_eq_false (fun e => hlen (by rw [e]))
    rw [hne]
    have hne2 : ((xs.length : Int) != (ys.length : Int)) = true := by simp; omega
    clear h1 h2 hlen hne
    generalize xs.length = n1 at *
    generalize ys.length = n2 at *
    go_enter Tryd.func17, Tryd.ntmps17
    go_wp2
    go_ret
    exact ⟨rfl, 0, rfl⟩
end Go.Proofs.YtpgobebibjeglaaDoor
namespace Go.Proofs.YtpgobebibjeglaaDoor
open Go.RowKit
set_option linter.unusedVariables false
set_option linter.unusedSimpArgs false

theorem er_take {l m : List Nd} {p : Nat} (h : (l.map er).take p = (m.map er).take p) (h1 : p < l.length) (h2 : p < m.length) (he : er (ndN l p) = er (ndN m p)) : (l.map er).take (p + 1) = (m.map er).take (p + 1) := by
  refine take_eq h (by simpa using h1) (by simpa using h2) ?_
  simp only [List.getElem_map]
  simpa [ndN, List.getD, h1, h2] using he
theorem er_at {l m : List Nd} {p : Nat} (h : l.map er = m.map er) : er (ndN l p) = er (ndN m p) := by rw [← ndN_er, ← ndN_er, h]
set_option maxRecDepth 100000 in
set_option maxHeartbeats 4000000 in
theorem sameNodes_any (w : World) (B nb no nc mb mo mc : Nat) (l m : List Nd) (hl : Nodes w B nb no nc l) (hm : Nodes w B mb mo mc m) (r : Bool) (hr : r = true ↔ l.map er = m.map er) :
    Calls Tryd.prog 8 #[.slice (some ⟨nb, no, none⟩) l.length nc, .slice (some ⟨mb, mo, none⟩) m.length mc, .bool false] w fun e w' => e = .returned (.bool r) ∧ Below w.heap.size w w' := by
  have hl1 := hl.max
  have hl2 := hm.max
  have hc1 := hl.cap
  have hc2 := hm.cap
  unfold maxLen at hl1 hl2
  by_cases hlen : l.length = m.length
  · have HX : Bx _ := ⟨hl⟩
    have HY : Bx _ := ⟨hm⟩
    clear hl hm
    generalize hn : l.length = n at *
    have HN : Bx (l.length = n ∧ m.length = n) := ⟨hn, hlen.symm⟩
    have HRR : Bx _ := ⟨hr⟩
    rw [← hlen] at hl2 hc2
    rw [← hlen]
    clear hn hlen hr
    go_enter Tryd.func8, Tryd.ntmps8
    go_wp2
    go_loopw [7] (fun x wr => ∃ p : Nat, p ≤ n ∧ x = .int .i64 p ∧ Bx ((l.map er).take p = (m.map er).take p ∧ Below w.heap.size w wr)) (fun x _ => n - (intOf x).toNat)
    case atStart => exact ⟨0, Nat.zero_le _, rfl, ⟨rfl, Below.refl _ _⟩⟩
    case round =>
      obtain ⟨p, hp, rfl, HR⟩ := hrel
      by_cases hlt : p < n
      · have hp1 : p < l.length := by rw [HN.out.1]; exact hlt
        have hp2 : p < m.length := by rw [HN.out.2]; exact hlt
        have hb1 := HX.out.hi
        obtain ⟨ka, kc, hA⟩ := (HX.out.below (HR.out.2.mono hb1)).at_ p hp1
        obtain ⟨ka2, kc2, hA2⟩ := (HY.out.below (HR.out.2.mono hb1)).at_ p hp2
        have HI : Bx (∀ k, Calls Tryd.prog 17 #[.slice ka (ndN l p).kids.length kc, .slice ka2 (ndN m p).kids.length kc2] (wr.drewN k) fun e w' => e = .returned (.bool (decide ((ndN l p).kids = (ndN m p).kids))) ∧ ∃ n, w' = (wr.drewN k).drewN n) := ⟨fun k => sameInts_any _ B ka ka2 kc kc2 _ _ (hA.kids.below (below_drewN (Below.refl _ _) k)) (hA2.kids.below (below_drewN (Below.refl _ _) k))⟩
        have x0 := hA.c0
        have x2 := hA.c2
        have x3 := hA.c3
        have x4 := hA.c4
        have y0 := hA2.c0
        have y2 := hA2.c2
        have y3 := hA2.c3
        have y4 := hA2.c4
        have HD : Bx (∀ k, Below w.heap.size w (wr.drewN k)) := ⟨fun k => below_drewN HR.out.2 k⟩
        have HE : Bx (er (ndN l p) = er (ndN m p) → (l.map er).take (p + 1) = (m.map er).take (p + 1)) := ⟨er_take HR.out.1 hp1 hp2⟩
        have HF : Bx (¬ er (ndN l p) = er (ndN m p) → r = false) := ⟨fun hne => by
          cases r with
          | false => rfl
          | true => exact absurd (er_at (HRR.out.1 rfl)) hne⟩
        unfold er at HE HF
        generalize ndN l p = u at *
        generalize ndN m p = v at *
        obtain ⟨ukd, ups, uks, unm, unum⟩ := u
        obtain ⟨vkd, vps, vks, vnm, vnum⟩ := v
        simp only at x0 x2 x3 x4 y0 y2 y3 y4 HI
        simp only [Nd.mk.injEq, true_and] at HE HF
        have q1 : (p : Int) < (n : Int) := by omega
        clear hA hA2 HX HY HR HRR hp1 hp2
        by_cases e0 : ukd = vkd
        · subst e0
          by_cases e1 : unm = vnm
          · subst e1
            by_cases e2 : unum = vnum
            · subst e2
              have d0 : (ukd != ukd) = false := by simp
              have d2 : (unum != unum) = false := by simp
              by_cases e3 : uks = vks
              · subst e3
                have HT := HE.out ⟨rfl, rfl, rfl, rfl⟩
                have HT2 : Bx _ := ⟨HT⟩
                clear HT HE HF
                rw [decide_eq_true rfl] at HI
                generalize uks.length = nk at *
                go_wp2
                simp only [List.append_eq, List.cons_append, List.nil_append]
                go_quiet (first | (go_at_call 17; exact Calls.quiet_of (HI.out _)))
                go_wp2
                go_roundw
                case rel => exact ⟨p + 1, by omega, by go_num, ⟨HT2.out, HD.out _⟩⟩
                case measure => simp [intOf]; omega
              · have hf : r = false := HF.out (fun h => e3 h.2.1)
                subst hf
                rw [decide_eq_false e3] at HI
                clear HE HF
                generalize uks.length = nk at *
                generalize vks.length = nk2 at *
                go_wp2
                simp only [List.append_eq, List.cons_append, List.nil_append]
                go_quiet (first | (go_at_call 17; exact Calls.quiet_of (HI.out _)))
                go_wp2
                go_ret
                exact ⟨rfl, HD.out _⟩
            · have hf : r = false := HF.out (fun h => e2 h.2.2.2)
              subst hf
              have d0 : (ukd != ukd) = false := by simp
              have d2 : (unum != vnum) = true := by simpa using e2
              clear HE HF HI
              go_wp2
              simp only [List.append_eq, List.cons_append, List.nil_append]
              go_quiet (fail)
              go_wp2
              go_ret
              exact ⟨rfl, HD.out _⟩
          · have hf : r = false := HF.out (fun h => e1 h.2.2.1)
            subst hf
            have d0 : (ukd != ukd) = false := by simp
            have d1 : (unm.toList == vnm.toList) = false := by
              rw [beq_eq_false_iff_ne]
              intro h
              rw [ByteArray.toList_eq, ByteArray.toList_eq] at h
              exact e1 (Go.WideShapes.bytes_inj h)
            clear HE HF HI
            go_wp2
            simp only [List.append_eq, List.cons_append, List.nil_append]
            go_quiet (fail)
            go_wp2
            go_ret
            exact ⟨rfl, HD.out _⟩
        · have hf : r = false := HF.out (fun h => e0 h.1)
          subst hf
          have d0 : (ukd != vkd) = true := by simpa using e0
          clear HE HF HI
          go_wp2
          simp only [List.append_eq, List.cons_append, List.nil_append]
          go_quiet (fail)
          go_wp2
          go_ret
          exact ⟨rfl, HD.out _⟩
      · have hf : r = true := HRR.out.2 (by
          have := HR.out.1
          rw [List.take_of_length_le (by simp [HN.out.1]; omega), List.take_of_length_le (by simp [HN.out.2]; omega)] at this
          exact this)
        subst hf
        have HB2 : Bx _ := ⟨HR.out.2⟩
        clear HR HX HY HN HRR
        go_wp2
        go_ret
        exact ⟨rfl, HB2.out⟩
  · have hne : r = false := by
      cases r with
      | false => rfl
      | true => exact absurd (by simpa using congrArg List.length (hr.1 rfl)) hlen
    subst hne
    have hne2 : ((l.length : Int) != (m.length : Int)) = true := by simp; omega
    clear hl hm hlen hr
    generalize l.length = n1 at *
    generalize m.length = n2 at *
    go_enter Tryd.func8, Tryd.ntmps8
    go_wp2
    go_ret
    exact ⟨rfl, Below.refl _ _⟩
end Go.Proofs.YtpgobebibjeglaaDoor
