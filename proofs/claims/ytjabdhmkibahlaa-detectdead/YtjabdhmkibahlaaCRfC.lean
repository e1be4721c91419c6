import Derived.Test.YtjabdhmkibahlaaCRfB
import Derived.Test.YtjabdhmkibahlaaCHG
namespace Go.Proofs.Ytjabdhmkibahlaa
open Go.RowKit
set_option linter.unusedVariables false
set_option linter.unusedSimpArgs false

def prevA (s : List Ag) (i : Nat) : Int := if h : 0 < i ∧ i ≤ s.length then (s[i - 1]'(by omega)).id else -1
theorem prevA_zero (s : List Ag) : prevA s 0 = -1 := by simp [prevA]
theorem prevA_succ (s : List Ag) (i : Nat) (h : i < s.length) : prevA s (i + 1) = s[i].id := by
  unfold prevA
  rw [dif_pos ⟨by omega, by omega⟩]
  rfl
set_option maxRecDepth 100000 in
set_option maxHeartbeats 3000000 in
theorem rcheck_any (w : World) (p : Option Addr) (c : Nat) (s : List Ag) (h : AgsR w p c s) :
    Calls Try.prog 13 #[.slice p s.length c] w fun e w' => e = .returned (.int .i64 (chkI s)) ∧ Below w.heap.size w w' := by
  have hlc := h.len
  have hcm := h.max
  unfold maxLen at hcm
  by_cases hm : 4096 < s.length
  · have HE : Bx (chkI s = 140) := ⟨by
      have : stOk s = false := by simp [stOk]; omega
      simp [chkI, this]⟩
    go_enter Try.func13, Try.ntmps13
    go_wp2
    go_ret
    exact ⟨by rw [HE.out]; rfl, Below.refl _ _⟩
  · have HE0 : Bx (chkI s = if agsF (-1) s then 0 else 140) := ⟨by
      have : stOk s = agsF (-1) s := by simp [stOk]; omega
      simp [chkI, this]⟩
    have HS : Bx (AgsR w p c s) := ⟨h⟩
    clear h
    go_enter Try.func13, Try.ntmps13
    go_wp2
    go_loopg [3] (s.length + 1) (fun g v3 wr => ∃ i : Nat, g = s.length + 1 - i ∧ i ≤ s.length ∧ v3 = .int .i64 (i : Nat) ∧ Bx (Below w.heap.size w wr ∧ agsF (prevA s i) (s.drop i) = agsF (-1) s ∧ (0 < i → 0 ≤ prevA s i)))
    case atStart => exact ⟨0, by simp, by omega, rfl, ⟨Below.refl _ _, by rw [prevA_zero]; rfl, fun h => by omega⟩⟩
    case round =>
      obtain ⟨i, hg, hil, rfl, HR⟩ := hrel
      by_cases hlt : i < s.length
      · obtain ⟨b, o, ap, ac, hp, hc, rfl, hA, hcl⟩ := HS.out.at_ i hlt
        have HB : Bx (Below w.heap.size w wr) := ⟨HR.out.1⟩
        have HCL : Bx (∀ V, Below w.heap.size w V → V.cell? ⟨b, o + i * 4, none⟩ = some (.int .i64 s[i].id) ∧ V.cell? ⟨b, o + i * 4 + 1, none⟩ = some (.bool s[i].awake) ∧ V.cell? ⟨b, o + i * 4 + 2, none⟩ = some (.slice ap s[i].arms.length ac) ∧ V.cell? ⟨b, o + i * 4 + 3, none⟩ = some (.slice hp s[i].held.length hc)) := ⟨hcl⟩
        obtain ⟨c0, c1, c2, c3⟩ := hcl wr.drew HR.out.1.drew
        have HAG : Bx (∀ Y, Below w.heap.size w Y → Calls Try.prog 45 #[.agg #[.int .i64 s[i].id, .bool s[i].awake, .slice ap s[i].arms.length ac, .slice hp s[i].held.length hc]] Y fun e w' => e = .returned (.bool (agI s[i])) ∧ Below Y.heap.size Y w') := ⟨fun Y hY => ragent_any Y s[i].id s[i].awake s[i].arms s[i].held ap hp ac hc (hA.later hY)⟩
        have HD : Bx (agsF (prevA s i) (s.drop i) = (decide (prevA s i < s[i].id) && agOk s[i] && agsF s[i].id (s.drop (i + 1)))) := ⟨by rw [List.drop_eq_getElem_cons hlt, agsF]⟩
        have HP : Bx (prevA s (i + 1) = s[i].id) := ⟨prevA_succ s i hlt⟩
        have HAI : Bx (agI s[i] = (decide (0 ≤ s[i].id) && agOk s[i])) := ⟨rfl⟩
        clear hcl hA
        cases hai : agI s[i] with
        | false =>
          have HF : Bx (chkI s = 140) := ⟨by
            rw [HE0.out, ← HR.out.2.1, HD.out, if_neg]
            rw [hai] at HAI
            have h1 := HAI.out
            intro h2
            rw [Bool.and_eq_true, Bool.and_eq_true, decide_eq_true_eq] at h2
            rw [h2.1.2, Bool.and_true] at h1
            have h3 : ¬ (0 ≤ s[i].id) := by simpa using h1.symm
            have h4 : -1 ≤ prevA s i := by
              by_cases h5 : 0 < i
              · have := HR.out.2.2 h5; omega
              · have : i = 0 := by omega
                subst this; rw [prevA_zero]; omega
            omega⟩
          rw [hai] at HAG
          clear HD HP HAI HE0 HR hai
          generalize s[i] = a at *
          have HSS : Bx (∀ V, Below w.heap.size w V → (V.cell? ⟨b, o + i * 4, none⟩ = some (.int .i64 a.id) ∧ V.cell? ⟨b, o + i * 4 + 1, none⟩ = some (.bool a.awake) ∧ V.cell? ⟨b, o + i * 4 + 2, none⟩ = some (.slice ap a.arms.length ac) ∧ V.cell? ⟨b, o + i * 4 + 3, none⟩ = some (.slice hp a.held.length hc))) := HCL
          go_wp2
          refine region_flowL [?g1x0, ?g1x1, ?g1x2, ?g1x3, .bool false, ?g1x5, ?g1x6, undef, undef, undef, undef, undef, undef, undef, undef, undef, undef, undef, undef, undef, undef, undef, undef, ?g1x23] (fun Y => Below w.heap.size w Y) (by kernel_rfl) (by decide +kernel) HB.out.drew (by simp only [flowEnd, Act.put, List.setIfInBounds_toArray, List.set_cons_zero, List.set_cons_succ]; rfl) ?g1st ?g1en
          case g1st =>
            refine flow_cons (flow_pure (by rfl) (fun Y hY => ?_)) ?_
            · obtain ⟨s0, s1, s2, s3⟩ := HSS.out Y hY; go_simp; try rfl
            refine flow_cons (flow_pure (by rfl) (fun Y hY => ?_)) ?_
            · obtain ⟨s0, s1, s2, s3⟩ := HSS.out Y hY; go_simp; try rfl
            refine flow_cons (flow_pure (by rfl) (fun Y hY => ?_)) ?_
            · obtain ⟨s0, s1, s2, s3⟩ := HSS.out Y hY; go_simp; try rfl
            refine flow_cons (flow_pure (by rfl) (fun Y hY => ?_)) ?_
            · obtain ⟨s0, s1, s2, s3⟩ := HSS.out Y hY; go_simp; try rfl
            refine flow_cons (flow_call 45 #[.agg #[.int .i64 a.id, .bool a.awake, .slice ap a.arms.length ac, .slice hp a.held.length hc]] (by rfl) (fun Y hY => ?_) (fun Y hY => ?_)) ?_
            · simp only [execOp]; go_simp
            · refine Calls.mono (HAG.out Y hY) ?_; rintro e w5 ⟨rfl, hb5⟩; exact ⟨rfl, hY.trans (hb5.mono hY.size)⟩
            refine flow_cons (flow_pure (by rfl) (fun Y hY => ?_)) ?_
            · obtain ⟨s0, s1, s2, s3⟩ := HSS.out Y hY; go_simp; try rfl
            refine flow_cons (flow_pure (by rfl) (fun Y hY => ?_)) ?_
            · obtain ⟨s0, s1, s2, s3⟩ := HSS.out Y hY; go_simp; try rfl
            refine flow_cons (flow_not (by rfl)) ?_
            refine flow_cons (flow_not (by rfl)) ?_
            refine flow_cons (flow_not (by rfl)) ?_
            refine flow_cons (flow_not (by rfl)) ?_
            refine flow_cons (flow_not (by rfl)) ?_
            refine flow_cons (flow_not (by rfl)) ?_
            refine flow_cons (flow_not (by rfl)) ?_
            refine flow_cons (flow_not (by rfl)) ?_
            refine flow_cons (flow_not (by rfl)) ?_
            refine flow_cons (flow_not (by rfl)) ?_
            refine flow_cons (flow_not (by rfl)) ?_
            refine flow_cons (flow_not (by rfl)) ?_
            refine flow_cons (flow_not (by rfl)) ?_
            refine flow_cons (flow_not (by rfl)) ?_
            refine flow_cons (flow_not (by rfl)) ?_
            refine flow_cons (flow_not (by rfl)) ?_
            refine flow_cons (flow_pure (by rfl) (fun Y hY => ?_)) ?_
            · obtain ⟨s0, s1, s2, s3⟩ := HSS.out Y hY; go_simp; try rfl
            exact flow_nil
          intro w5 hz5
          have HZ5 : Bx _ := ⟨hz5⟩
          clear c0 c1 c2 c3 HAG HCL HSS HB hz5
          go_wp2
          go_ret
          exact ⟨by rw [HF.out]; rfl, HZ5.out⟩
        | true =>
          have HO : Bx (agOk s[i] = true ∧ 0 ≤ s[i].id) := ⟨by
            rw [hai] at HAI
            have h1 := HAI.out
            have h2 : (decide (0 ≤ s[i].id) && agOk s[i]) = true := h1.symm
            rw [Bool.and_eq_true, decide_eq_true_eq] at h2
            exact ⟨h2.2, h2.1⟩⟩
          rw [hai] at HAG
          by_cases hi0 : i = 0
          · subst hi0
            have HF : Bx (agsF (prevA s (0 + 1)) (s.drop (0 + 1)) = agsF (-1) s ∧ (0 < 0 + 1 → 0 ≤ prevA s (0 + 1))) := ⟨by
              refine ⟨?_, fun _ => ?_⟩
              · rw [← HR.out.2.1, HD.out, HP.out, HO.out.1, prevA_zero]
                have : (-1 : Int) < s[0].id := by have := HO.out.2; omega
                simp [this]
              · rw [HP.out]; exact HO.out.2⟩
            clear HD HP HAI HE0 HR hai HO
            generalize s[0] = a at *
            have HSS : Bx (∀ V, Below w.heap.size w V → (V.cell? ⟨b, o, none⟩ = some (.int .i64 a.id) ∧ V.cell? ⟨b, o + 1, none⟩ = some (.bool a.awake) ∧ V.cell? ⟨b, o + 2, none⟩ = some (.slice ap a.arms.length ac) ∧ V.cell? ⟨b, o + 3, none⟩ = some (.slice hp a.held.length hc))) := ⟨fun V hV => by simpa using HCL.out V hV⟩
            go_wp2
            refine region_flowL [?g2x0, ?g2x1, ?g2x2, ?g2x3, .bool true, ?g2x5, ?g2x6, ?g2x7, ?g2x8, ?g2x9, undef, undef, undef, undef, undef, undef, undef, undef, undef, undef, undef, undef, ?g2x22, ?g2x23] (fun Y => Below w.heap.size w Y) (by kernel_rfl) (by decide +kernel) HB.out.drew (by simp only [flowEnd, Act.put, List.setIfInBounds_toArray, List.set_cons_zero, List.set_cons_succ]; rfl) ?g2st ?g2en
            case g2st =>
              refine flow_cons (flow_pure (by rfl) (fun Y hY => ?_)) ?_
              · obtain ⟨s0, s1, s2, s3⟩ := HSS.out Y hY; go_simp; try rfl
              refine flow_cons (flow_pure (by rfl) (fun Y hY => ?_)) ?_
              · obtain ⟨s0, s1, s2, s3⟩ := HSS.out Y hY; go_simp; try rfl
              refine flow_cons (flow_pure (by rfl) (fun Y hY => ?_)) ?_
              · obtain ⟨s0, s1, s2, s3⟩ := HSS.out Y hY; go_simp; try rfl
              refine flow_cons (flow_pure (by rfl) (fun Y hY => ?_)) ?_
              · obtain ⟨s0, s1, s2, s3⟩ := HSS.out Y hY; go_simp; try rfl
              refine flow_cons (flow_call 45 #[.agg #[.int .i64 a.id, .bool a.awake, .slice ap a.arms.length ac, .slice hp a.held.length hc]] (by rfl) (fun Y hY => ?_) (fun Y hY => ?_)) ?_
              · simp only [execOp]; go_simp
              · refine Calls.mono (HAG.out Y hY) ?_; rintro e w5 ⟨rfl, hb5⟩; exact ⟨rfl, hY.trans (hb5.mono hY.size)⟩
              refine flow_cons (flow_pure (by rfl) (fun Y hY => ?_)) ?_
              · obtain ⟨s0, s1, s2, s3⟩ := HSS.out Y hY; go_simp; try rfl
              refine flow_cons (flow_pure (by rfl) (fun Y hY => ?_)) ?_
              · obtain ⟨s0, s1, s2, s3⟩ := HSS.out Y hY; go_simp; try rfl
              refine flow_cons (flow_pure (by rfl) (fun Y hY => ?_)) ?_
              · obtain ⟨s0, s1, s2, s3⟩ := HSS.out Y hY; go_simp; try rfl
              refine flow_cons (flow_pure (by rfl) (fun Y hY => ?_)) ?_
              · obtain ⟨s0, s1, s2, s3⟩ := HSS.out Y hY; go_simp; try rfl
              refine flow_cons (flow_pure (by rfl) (fun Y hY => ?_)) ?_
              · obtain ⟨s0, s1, s2, s3⟩ := HSS.out Y hY; go_simp; try rfl
              refine flow_cons (flow_not (by rfl)) ?_
              refine flow_cons (flow_not (by rfl)) ?_
              refine flow_cons (flow_not (by rfl)) ?_
              refine flow_cons (flow_not (by rfl)) ?_
              refine flow_cons (flow_not (by rfl)) ?_
              refine flow_cons (flow_not (by rfl)) ?_
              refine flow_cons (flow_not (by rfl)) ?_
              refine flow_cons (flow_not (by rfl)) ?_
              refine flow_cons (flow_not (by rfl)) ?_
              refine flow_cons (flow_not (by rfl)) ?_
              refine flow_cons (flow_not (by rfl)) ?_
              refine flow_cons (flow_not (by rfl)) ?_
              refine flow_cons (flow_pure (by rfl) (fun Y hY => ?_)) ?_
              · obtain ⟨s0, s1, s2, s3⟩ := HSS.out Y hY; go_simp; try rfl
              refine flow_cons (flow_pure (by rfl) (fun Y hY => ?_)) ?_
              · obtain ⟨s0, s1, s2, s3⟩ := HSS.out Y hY; go_simp; try rfl
              exact flow_nil
            intro w5 hz5
            have HZ5 : Bx _ := ⟨hz5⟩
            clear c0 c1 c2 c3 HAG HCL HSS HB hz5
            go_wp2
            go_roundg (s.length + 1 - (0 + 1))
            case measure => omega
            case rel => exact ⟨0 + 1, rfl, by omega, by simp, ⟨HZ5.out, HF.out.1, HF.out.2⟩⟩
          · obtain ⟨m, rfl⟩ : ∃ m, i = m + 1 := ⟨i - 1, by omega⟩
            have HP2 : Bx (prevA s (m + 1) = s[m].id) := ⟨prevA_succ s m (by omega)⟩
            obtain ⟨b', o', ap', ac', hp', hc', hbb, hA', hcl'⟩ := HS.out.at_ m (by omega)
            obtain ⟨rfl, rfl⟩ : b' = b ∧ o' = o := by
              have := Option.some.inj hbb
              injection this with h1 h2
              exact ⟨h1.symm, h2.symm⟩
            have HCM : Bx (∀ V, Below w.heap.size w V → V.cell? ⟨b', o' + m * 4, none⟩ = some (.int .i64 s[m].id)) := ⟨fun V hV => (hcl' V hV).1⟩
            clear hA' hcl' hbb
            have hwr : IntKind.i64.wrap (m : Int) = m := IntWalk.i64_in _ ⟨by omega, by omega⟩
            have hm1 : (0 : Int) ≤ (m : Int) := by omega
            have hm2 : (m : Int) < (s.length : Int) := by omega
            by_cases hle : s[m + 1].id ≤ s[m].id
            · have HF : Bx (chkI s = 140) := ⟨by
                rw [HE0.out, ← HR.out.2.1, HD.out, HP2.out, if_neg]
                have : decide (s[m].id < s[m + 1].id) = false := by simp; omega
                rw [this]; simp⟩
              have hge : decide (s[m].id ≥ s[m + 1].id) = true := by simpa using hle
              clear HD HP HAI HE0 HR hai HO HP2
              generalize s[m + 1] = a at *
              generalize s[m].id = y at *
              have HSS : Bx (∀ V, Below w.heap.size w V → (V.cell? ⟨b', o' + (m + 1) * 4, none⟩ = some (.int .i64 a.id) ∧ V.cell? ⟨b', o' + (m + 1) * 4 + 1, none⟩ = some (.bool a.awake) ∧ V.cell? ⟨b', o' + (m + 1) * 4 + 2, none⟩ = some (.slice ap a.arms.length ac) ∧ V.cell? ⟨b', o' + (m + 1) * 4 + 3, none⟩ = some (.slice hp a.held.length hc))) := HCL
              go_wp2
              refine region_flowL [?g3x0, ?g3x1, ?g3x2, ?g3x3, .bool true, ?g3x5, ?g3x6, ?g3x7, ?g3x8, ?g3x9, ?g3x10, ?g3x11, ?g3x12, ?g3x13, ?g3x14, ?g3x15, ?g3x16, ?g3x17, ?g3x18, ?g3x19, ?g3x20, ?g3x21, ?g3x22, ?g3x23] (fun Y => Below w.heap.size w Y) (by kernel_rfl) (by decide +kernel) HB.out.drew (by simp only [flowEnd, Act.put, List.setIfInBounds_toArray, List.set_cons_zero, List.set_cons_succ]; rfl) ?g3st ?g3en
              case g3st =>
                refine flow_cons (flow_pure (by rfl) (fun Y hY => ?_)) ?_
                · obtain ⟨s0, s1, s2, s3⟩ := HSS.out Y hY; go_simp; try rfl
                refine flow_cons (flow_pure (by rfl) (fun Y hY => ?_)) ?_
                · obtain ⟨s0, s1, s2, s3⟩ := HSS.out Y hY; go_simp; try rfl
                refine flow_cons (flow_pure (by rfl) (fun Y hY => ?_)) ?_
                · obtain ⟨s0, s1, s2, s3⟩ := HSS.out Y hY; go_simp; try rfl
                refine flow_cons (flow_pure (by rfl) (fun Y hY => ?_)) ?_
                · obtain ⟨s0, s1, s2, s3⟩ := HSS.out Y hY; go_simp; try rfl
                refine flow_cons (flow_call 45 #[.agg #[.int .i64 a.id, .bool a.awake, .slice ap a.arms.length ac, .slice hp a.held.length hc]] (by rfl) (fun Y hY => ?_) (fun Y hY => ?_)) ?_
                · simp only [execOp]; go_simp
                · refine Calls.mono (HAG.out Y hY) ?_; rintro e w5 ⟨rfl, hb5⟩; exact ⟨rfl, hY.trans (hb5.mono hY.size)⟩
                refine flow_cons (flow_pure (by rfl) (fun Y hY => ?_)) ?_
                · obtain ⟨s0, s1, s2, s3⟩ := HSS.out Y hY; go_simp; try rfl
                refine flow_cons (flow_pure (by rfl) (fun Y hY => ?_)) ?_
                · obtain ⟨s0, s1, s2, s3⟩ := HSS.out Y hY; go_simp; try rfl
                refine flow_cons (flow_pure (by rfl) (fun Y hY => ?_)) ?_
                · obtain ⟨s0, s1, s2, s3⟩ := HSS.out Y hY; go_simp; try rfl
                refine flow_cons (flow_pure (by rfl) (fun Y hY => ?_)) ?_
                · obtain ⟨s0, s1, s2, s3⟩ := HSS.out Y hY; go_simp; try rfl
                refine flow_cons (flow_pure (by rfl) (fun Y hY => ?_)) ?_
                · obtain ⟨s0, s1, s2, s3⟩ := HSS.out Y hY; go_simp; try rfl
                refine flow_cons (flow_pure (by rfl) (fun Y hY => ?_)) ?_
                · obtain ⟨s0, s1, s2, s3⟩ := HSS.out Y hY; go_simp; try rfl
                refine flow_cons (flow_pure (by rfl) (fun Y hY => ?_)) ?_
                · obtain ⟨s0, s1, s2, s3⟩ := HSS.out Y hY; go_simp; try rfl
                refine flow_cons (flow_pure (by rfl) (fun Y hY => ?_)) ?_
                · obtain ⟨s0, s1, s2, s3⟩ := HSS.out Y hY; go_simp; try rfl
                refine flow_cons (flow_pure (by rfl) (fun Y hY => ?_)) ?_
                · obtain ⟨s0, s1, s2, s3⟩ := HSS.out Y hY; go_simp; try rfl
                refine flow_cons (flow_pure (by rfl) (fun Y hY => ?_)) ?_
                · have s4 := HCM.out Y hY; go_simp; try rfl
                refine flow_cons (flow_pure (by rfl) (fun Y hY => ?_)) ?_
                · have s4 := HCM.out Y hY; go_simp; try rfl
                refine flow_cons (flow_pure (by rfl) (fun Y hY => ?_)) ?_
                · obtain ⟨s0, s1, s2, s3⟩ := HSS.out Y hY; go_simp; try rfl
                refine flow_cons (flow_pure (by rfl) (fun Y hY => ?_)) ?_
                · obtain ⟨s0, s1, s2, s3⟩ := HSS.out Y hY; go_simp; try rfl
                refine flow_cons (flow_pure (by rfl) (fun Y hY => ?_)) ?_
                · obtain ⟨s0, s1, s2, s3⟩ := HSS.out Y hY; go_simp; try rfl
                refine flow_cons (flow_pure (by rfl) (fun Y hY => ?_)) ?_
                · obtain ⟨s0, s1, s2, s3⟩ := HSS.out Y hY; go_simp; try rfl
                refine flow_cons (flow_pure (by rfl) (fun Y hY => ?_)) ?_
                · obtain ⟨s0, s1, s2, s3⟩ := HSS.out Y hY; go_simp; try rfl
                refine flow_cons (flow_pure (by rfl) (fun Y hY => ?_)) ?_
                · obtain ⟨s0, s1, s2, s3⟩ := HSS.out Y hY; go_simp; try rfl
                refine flow_cons (flow_pure (by rfl) (fun Y hY => ?_)) ?_
                · obtain ⟨s0, s1, s2, s3⟩ := HSS.out Y hY; go_simp; try rfl
                refine flow_cons (flow_pure (by rfl) (fun Y hY => ?_)) ?_
                · obtain ⟨s0, s1, s2, s3⟩ := HSS.out Y hY; go_simp; try rfl
                exact flow_nil
              intro w5 hz5
              have HZ5 : Bx _ := ⟨hz5⟩
              clear c0 c1 c2 c3 HAG HCL HSS HB hz5 HCM
              go_wp2
              go_ret
              exact ⟨by rw [HF.out]; rfl, HZ5.out⟩
            · have HF : Bx (agsF (prevA s (m + 1 + 1)) (s.drop (m + 1 + 1)) = agsF (-1) s ∧ (0 < m + 1 + 1 → 0 ≤ prevA s (m + 1 + 1))) := ⟨by
                refine ⟨?_, fun _ => ?_⟩
                · rw [← HR.out.2.1, HD.out, HP.out, HO.out.1, HP2.out]
                  have : decide (s[m].id < s[m + 1].id) = true := by simp; omega
                  rw [this]; simp
                · rw [HP.out]; exact HO.out.2⟩
              have hge : decide (s[m].id ≥ s[m + 1].id) = false := by simpa using hle
              clear HD HP HAI HE0 HR hai HO HP2
              generalize s[m + 1] = a at *
              generalize s[m].id = y at *
              have HSS : Bx (∀ V, Below w.heap.size w V → (V.cell? ⟨b', o' + (m + 1) * 4, none⟩ = some (.int .i64 a.id) ∧ V.cell? ⟨b', o' + (m + 1) * 4 + 1, none⟩ = some (.bool a.awake) ∧ V.cell? ⟨b', o' + (m + 1) * 4 + 2, none⟩ = some (.slice ap a.arms.length ac) ∧ V.cell? ⟨b', o' + (m + 1) * 4 + 3, none⟩ = some (.slice hp a.held.length hc))) := HCL
              go_wp2
              refine region_flowL [?g4x0, ?g4x1, ?g4x2, ?g4x3, .bool true, ?g4x5, ?g4x6, ?g4x7, ?g4x8, ?g4x9, ?g4x10, ?g4x11, ?g4x12, ?g4x13, ?g4x14, ?g4x15, ?g4x16, ?g4x17, ?g4x18, ?g4x19, ?g4x20, ?g4x21, ?g4x22, ?g4x23] (fun Y => Below w.heap.size w Y) (by kernel_rfl) (by decide +kernel) HB.out.drew (by simp only [flowEnd, Act.put, List.setIfInBounds_toArray, List.set_cons_zero, List.set_cons_succ]; rfl) ?g4st ?g4en
              case g4st =>
                refine flow_cons (flow_pure (by rfl) (fun Y hY => ?_)) ?_
                · obtain ⟨s0, s1, s2, s3⟩ := HSS.out Y hY; go_simp; try rfl
                refine flow_cons (flow_pure (by rfl) (fun Y hY => ?_)) ?_
                · obtain ⟨s0, s1, s2, s3⟩ := HSS.out Y hY; go_simp; try rfl
                refine flow_cons (flow_pure (by rfl) (fun Y hY => ?_)) ?_
                · obtain ⟨s0, s1, s2, s3⟩ := HSS.out Y hY; go_simp; try rfl
                refine flow_cons (flow_pure (by rfl) (fun Y hY => ?_)) ?_
                · obtain ⟨s0, s1, s2, s3⟩ := HSS.out Y hY; go_simp; try rfl
                refine flow_cons (flow_call 45 #[.agg #[.int .i64 a.id, .bool a.awake, .slice ap a.arms.length ac, .slice hp a.held.length hc]] (by rfl) (fun Y hY => ?_) (fun Y hY => ?_)) ?_
                · simp only [execOp]; go_simp
                · refine Calls.mono (HAG.out Y hY) ?_; rintro e w5 ⟨rfl, hb5⟩; exact ⟨rfl, hY.trans (hb5.mono hY.size)⟩
                refine flow_cons (flow_pure (by rfl) (fun Y hY => ?_)) ?_
                · obtain ⟨s0, s1, s2, s3⟩ := HSS.out Y hY; go_simp; try rfl
                refine flow_cons (flow_pure (by rfl) (fun Y hY => ?_)) ?_
                · obtain ⟨s0, s1, s2, s3⟩ := HSS.out Y hY; go_simp; try rfl
                refine flow_cons (flow_pure (by rfl) (fun Y hY => ?_)) ?_
                · obtain ⟨s0, s1, s2, s3⟩ := HSS.out Y hY; go_simp; try rfl
                refine flow_cons (flow_pure (by rfl) (fun Y hY => ?_)) ?_
                · obtain ⟨s0, s1, s2, s3⟩ := HSS.out Y hY; go_simp; try rfl
                refine flow_cons (flow_pure (by rfl) (fun Y hY => ?_)) ?_
                · obtain ⟨s0, s1, s2, s3⟩ := HSS.out Y hY; go_simp; try rfl
                refine flow_cons (flow_pure (by rfl) (fun Y hY => ?_)) ?_
                · obtain ⟨s0, s1, s2, s3⟩ := HSS.out Y hY; go_simp; try rfl
                refine flow_cons (flow_pure (by rfl) (fun Y hY => ?_)) ?_
                · obtain ⟨s0, s1, s2, s3⟩ := HSS.out Y hY; go_simp; try rfl
                refine flow_cons (flow_pure (by rfl) (fun Y hY => ?_)) ?_
                · obtain ⟨s0, s1, s2, s3⟩ := HSS.out Y hY; go_simp; try rfl
                refine flow_cons (flow_pure (by rfl) (fun Y hY => ?_)) ?_
                · obtain ⟨s0, s1, s2, s3⟩ := HSS.out Y hY; go_simp; try rfl
                refine flow_cons (flow_pure (by rfl) (fun Y hY => ?_)) ?_
                · have s4 := HCM.out Y hY; go_simp; try rfl
                refine flow_cons (flow_pure (by rfl) (fun Y hY => ?_)) ?_
                · have s4 := HCM.out Y hY; go_simp; try rfl
                refine flow_cons (flow_pure (by rfl) (fun Y hY => ?_)) ?_
                · obtain ⟨s0, s1, s2, s3⟩ := HSS.out Y hY; go_simp; try rfl
                refine flow_cons (flow_pure (by rfl) (fun Y hY => ?_)) ?_
                · obtain ⟨s0, s1, s2, s3⟩ := HSS.out Y hY; go_simp; try rfl
                refine flow_cons (flow_pure (by rfl) (fun Y hY => ?_)) ?_
                · obtain ⟨s0, s1, s2, s3⟩ := HSS.out Y hY; go_simp; try rfl
                refine flow_cons (flow_pure (by rfl) (fun Y hY => ?_)) ?_
                · obtain ⟨s0, s1, s2, s3⟩ := HSS.out Y hY; go_simp; try rfl
                refine flow_cons (flow_pure (by rfl) (fun Y hY => ?_)) ?_
                · obtain ⟨s0, s1, s2, s3⟩ := HSS.out Y hY; go_simp; try rfl
                refine flow_cons (flow_pure (by rfl) (fun Y hY => ?_)) ?_
                · obtain ⟨s0, s1, s2, s3⟩ := HSS.out Y hY; go_simp; try rfl
                refine flow_cons (flow_pure (by rfl) (fun Y hY => ?_)) ?_
                · obtain ⟨s0, s1, s2, s3⟩ := HSS.out Y hY; go_simp; try rfl
                refine flow_cons (flow_pure (by rfl) (fun Y hY => ?_)) ?_
                · obtain ⟨s0, s1, s2, s3⟩ := HSS.out Y hY; go_simp; try rfl
                exact flow_nil
              intro w5 hz5
              have HZ5 : Bx _ := ⟨hz5⟩
              clear c0 c1 c2 c3 HAG HCL HSS HB hz5 HCM
              go_wp2
              go_roundg (s.length + 1 - (m + 1 + 1))
              case measure => omega
              case rel => exact ⟨m + 1 + 1, rfl, by omega, by simp, ⟨HZ5.out, HF.out.1, HF.out.2⟩⟩
      · have hie : i = s.length := by omega
        subst hie
        have HF : Bx (chkI s = 0) := ⟨by rw [HE0.out, ← HR.out.2.1, List.drop_length]; rfl⟩
        go_wp2
        go_ret
        exact ⟨by rw [HF.out]; rfl, HR.out.1⟩
end Go.Proofs.Ytjabdhmkibahlaa
