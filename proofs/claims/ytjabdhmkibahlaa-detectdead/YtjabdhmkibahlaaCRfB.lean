import Derived.Test.YtjabdhmkibahlaaCGC
namespace Go.Proofs.Ytjabdhmkibahlaa
open Go.RowKit
set_option linter.unusedVariables false
set_option linter.unusedSimpArgs false

def agI (a : Ag) : Bool := decide (0 ≤ a.id) && agOk a
/-- how far the channels have been looked at -/
def prevI (l : List Int) (i : Nat) : Int := if h : 0 < i ∧ i ≤ l.length then l[i - 1]'(by omega) else 0
theorem prev_zero (l : List Int) : prevI l 0 = 0 := by simp [prevI]
theorem prev_succ (l : List Int) (i : Nat) (h : i < l.length) : prevI l (i + 1) = l[i] := by
  unfold prevI
  rw [dif_pos ⟨by omega, by omega⟩]
  rfl
theorem agOk_form (a : Ag) (h : (a.awake && decide (0 < a.arms.length)) = false) : agOk a = (risI a.held && a.arms.all (armOk a.held)) := by
  unfold agOk; rw [h]; simp
theorem blw' {a b c : World} (h1 : Below a.heap.size a b) (h2 : Below b.heap.size b c) : Below a.heap.size a c := h1.trans (h2.mono h1.size)
set_option maxRecDepth 100000 in
set_option maxHeartbeats 2000000 in
theorem ragent_any (w : World) (id : Int) (aw : Bool) (arms : List Hd) (held : List Int) (ap hp : Option Addr) (ac hc : Nat) (h : AgR w ⟨id, aw, arms, held⟩ ap ac hp hc) :
    Calls Try.prog 45 #[.agg #[.int .i64 id, .bool aw, .slice ap arms.length ac, .slice hp held.length hc]] w fun e w' => e = .returned (.bool (agI ⟨id, aw, arms, held⟩)) ∧ Below w.heap.size w w' := by
  have HA : Bx _ := ⟨h⟩
  have k1 := h.arms.len
  have k2 := h.arms.max
  have k3 := h.held.len
  have k4 := h.held.max
  have hid := h.id
  unfold maxLen at k2 k4
  unfold I64 at hid
  simp only at k1 k3 hid
  obtain ⟨X, hX⟩ : ∃ X, w.alloc (.cells #[.int .i64 id, .bool aw, .slice ap arms.length ac, .slice hp held.length hc] 53) = X := ⟨_, rfl⟩
  have hbX : Below w.heap.size w X := by rw [← hX]; exact below1 _ _
  have hkX : X.heap[w.heap.size]? = some (.cells #[.int .i64 id, .bool aw, .slice ap arms.length ac, .slice hp held.length hc] 53 (0, 0)) := by rw [← hX]; exact World.alloc_heap_new _ _
  have HCE : Bx (∀ V, Below X.heap.size X V → V.cell? ⟨w.heap.size, 0, none⟩ = some (.int .i64 id) ∧ V.cell? ⟨w.heap.size, 1, none⟩ = some (.bool aw) ∧ V.cell? ⟨w.heap.size, 2, none⟩ = some (.slice ap arms.length ac) ∧ V.cell? ⟨w.heap.size, 3, none⟩ = some (.slice hp held.length hc)) := ⟨fun V hV => by
    have e := (hV.block _ (Array.getElem?_eq_some_iff.1 hkX).1).trans hkX
    exact ⟨cell_of e rfl, cell_of e rfl, cell_of e rfl, cell_of e rfl⟩⟩
  obtain ⟨d0, d1, d2, d3⟩ := HCE.out X (Below.refl _ _)
  have HXE : Bx (_ = X) := ⟨hX⟩
  have BX : Bx (Below w.heap.size w X) := ⟨hbX⟩
  rw [← hX] at d0 d1 d2 d3
  clear hX hbX hkX h
  by_cases h0 : id < 0
  · have HF : Bx (agI ⟨id, aw, arms, held⟩ = false) := ⟨by unfold agI; rw [decide_eq_false (by simp only; omega), Bool.false_and]⟩
    go_enter Try.func45, Try.ntmps45
    go_wp2
    rw [HXE.out]
    go_ret
    exact ⟨by rw [HF.out]; rfl, BX.out⟩
  · cases aw with
    | true =>
      by_cases h1 : 0 < arms.length
      · have HF : Bx (agI ⟨id, true, arms, held⟩ = false) := ⟨by unfold agI agOk; simp [h1]⟩
        go_enter Try.func45, Try.ntmps45
        go_wp2
        rw [HXE.out]
        go_ret
        exact ⟨by rw [HF.out]; rfl, BX.out⟩
      · have HI : Bx (agI ⟨id, true, arms, held⟩ = (risI held && arms.all (armOk held))) := ⟨by unfold agI; rw [decide_eq_true (by simp only; omega), Bool.true_and, agOk_form _ (by simp [h1])]⟩
        go_enter Try.func45, Try.ntmps45
        go_wp2
        rw [HXE.out]
        clear d0 d1 d2 d3
        go_loopg [3] (held.length + 1) (fun g v3 wr => ∃ i : Nat, g = held.length + 1 - i ∧ i ≤ held.length ∧ v3 = .int .i64 (i : Nat) ∧ Bx (Below X.heap.size X wr ∧ risF (prevI held i) (held.drop i) = risI held ∧ (0 < i → 1 ≤ prevI held i)))
        case atStart => exact ⟨0, by simp, by omega, rfl, ⟨Below.refl _ _, by rw [prev_zero]; rfl, fun h => by omega⟩⟩
        case round =>
          obtain ⟨i, hg, hil, rfl, HR⟩ := hrel
          obtain ⟨d0, d1, d2, d3⟩ := HCE.out wr HR.out.1
          by_cases hlt : i < held.length
          · obtain ⟨b, o, rfl, _, hcl⟩ := HA.out.held.at_ i hlt
            have c0 := hcl wr (blw' BX.out HR.out.1)
            have HD : Bx (risF (prevI held i) (held.drop i) = (decide (prevI held i < held[i]) && risF held[i] (held.drop (i + 1)))) := ⟨by rw [List.drop_eq_getElem_cons hlt, risF]⟩
            have HP : Bx (prevI held (i + 1) = held[i]) := ⟨prev_succ held i hlt⟩
            clear hcl
            by_cases hi0 : i = 0
            · subst hi0
              have HZ : Bx (prevI held 0 = 0) := ⟨prev_zero held⟩
              generalize hz : held[0] = z at *
              rw [Nat.add_zero] at c0
              by_cases hz1 : z < 1
              · have HF : Bx (agI ⟨id, true, arms, held⟩ = false) := ⟨by
                  rw [HI.out, ← HR.out.2.1, HD.out, HZ.out, decide_eq_false (by omega)]; simp⟩
                have gz : decide (z < 1) = true := by simp; omega
                clear HD HP HZ HI
                go_wp2
                go_quiet (fail)
                go_wp2
                go_ret
                exact ⟨by rw [HF.out]; rfl, below_drewN (blw' BX.out HR.out.1) _⟩
              · have HN : Bx (risF (prevI held 1) (held.drop 1) = risI held ∧ 1 ≤ prevI held 1) := ⟨by
                  rw [HP.out, ← HR.out.2.1, HD.out, HZ.out, decide_eq_true (by omega), Bool.true_and]
                  exact ⟨rfl, by omega⟩⟩
                have gz : decide (z < 1) = false := by simp; omega
                clear HD HP HZ
                go_wp2
                go_quiet (fail)
                go_wp2
                go_roundg (held.length + 1 - (0 + 1))
                case measure => omega
                case rel => exact ⟨1, rfl, by omega, by simp, ⟨below_drewN HR.out.1 _, HN.out.1, fun _ => HN.out.2⟩⟩
            · obtain ⟨b', o', e', _, hcl'⟩ := HA.out.held.at_ (i - 1) (show i - 1 < held.length by omega)
              cases e'
              have c1 := hcl' wr (blw' BX.out HR.out.1)
              have HQ : Bx (prevI held i = held[i - 1]) := ⟨by have := prev_succ held (i - 1) (by omega); rw [show i - 1 + 1 = i by omega] at this; exact this⟩
              have hi1 : 0 < i := by omega
              have g1 : decide ((0 : Int) < (i : Int)) = true := by simp; omega
              have g2 : ((i : Int) - 1) = ((i - 1 : Nat) : Int) := by omega
              have HQ1 : Bx (1 ≤ prevI held i) := ⟨HR.out.2.2 hi1⟩
              clear hcl'
              generalize held[i] = z at *
              generalize held[i - 1] = y at *
              generalize hm : i - 1 = m at *
              clear hm
              by_cases hzy : z ≤ y
              · have HF : Bx (agI ⟨id, true, arms, held⟩ = false) := ⟨by
                  rw [HI.out, ← HR.out.2.1, HD.out, HQ.out, decide_eq_false (by omega)]; simp⟩
                have gy : decide (z ≤ y) = true := by simp; omega
                clear HD HP HQ HQ1 HI
                by_cases hz1 : z < 1
                · have gz : decide (z < 1) = true := by simp; omega
                  go_wp2
                  go_quiet (fail)
                  go_wp2
                  go_ret
                  exact ⟨by rw [HF.out]; rfl, below_drewN (blw' BX.out HR.out.1) _⟩
                · have gz : decide (z < 1) = false := by simp; omega
                  go_wp2
                  go_quiet (fail)
                  go_wp2
                  go_ret
                  exact ⟨by rw [HF.out]; rfl, below_drewN (blw' BX.out HR.out.1) _⟩
              · have hz1 : ¬ z < 1 := by have := HQ1.out; rw [HQ.out] at this; omega
                have HN : Bx (risF (prevI held (i + 1)) (held.drop (i + 1)) = risI held ∧ 1 ≤ prevI held (i + 1)) := ⟨by
                  rw [HP.out, ← HR.out.2.1, HD.out, HQ.out, decide_eq_true (by omega), Bool.true_and]
                  exact ⟨rfl, by omega⟩⟩
                have gz : decide (z < 1) = false := by simp; omega
                have gy : decide (z ≤ y) = false := by simp; omega
                clear HD HP HQ HQ1
                go_wp2
                go_quiet (fail)
                go_wp2
                go_roundg (held.length + 1 - (i + 1))
                case measure => omega
                case rel => exact ⟨i + 1, rfl, by omega, by simp, ⟨below_drewN HR.out.1 _, HN.out.1, fun _ => HN.out.2⟩⟩
          · have hie : i = held.length := by omega
            subst hie
            have HRI : Bx (risI held = true) := ⟨by rw [← HR.out.2.1, List.drop_length]; rfl⟩
            obtain ⟨V, hV⟩ : ∃ V, V = wr := ⟨_, rfl⟩
            have BV : Bx (Below X.heap.size X V) := ⟨by rw [hV]; exact HR.out.1⟩
            rw [← hV] at d0 d1 d2 d3 ⊢
            clear hV HR
            go_wp2
            go_loopg [4] (arms.length + 1) (fun g v4 wr => ∃ i : Nat, g = arms.length + 1 - i ∧ i ≤ arms.length ∧ v4 = .int .i64 (i : Nat) ∧ Bx (Below X.heap.size X wr ∧ (arms.drop i).all (armOk held) = arms.all (armOk held)))
            case atStart => exact ⟨0, by simp, by omega, rfl, ⟨BV.out, by simp⟩⟩
            case round =>
              obtain ⟨i, hg2, hil2, rfl, HR⟩ := hrel
              obtain ⟨d0, d1, d2, d3⟩ := HCE.out wr HR.out.1
              by_cases hlt : i < arms.length
              · exact absurd hlt (by omega)
              · have hie : i = arms.length := by omega
                subst hie
                have HF : Bx (agI ⟨id, true, arms, held⟩ = true) := ⟨by rw [HI.out, HRI.out, ← HR.out.2, List.drop_length]; rfl⟩
                go_wp2
                go_ret
                exact ⟨by rw [HF.out]; rfl, blw' BX.out HR.out.1⟩
    | false =>
      have HI : Bx (agI ⟨id, false, arms, held⟩ = (risI held && arms.all (armOk held))) := ⟨by unfold agI; rw [decide_eq_true (by simp only; omega), Bool.true_and, agOk_form _ (by simp)]⟩
      go_enter Try.func45, Try.ntmps45
      go_wp2
      rw [HXE.out]
      clear d0 d1 d2 d3
      go_loopg [3] (held.length + 1) (fun g v3 wr => ∃ i : Nat, g = held.length + 1 - i ∧ i ≤ held.length ∧ v3 = .int .i64 (i : Nat) ∧ Bx (Below X.heap.size X wr ∧ risF (prevI held i) (held.drop i) = risI held ∧ (0 < i → 1 ≤ prevI held i)))
      case atStart => exact ⟨0, by simp, by omega, rfl, ⟨Below.refl _ _, by rw [prev_zero]; rfl, fun h => by omega⟩⟩
      case round =>
        obtain ⟨i, hg, hil, rfl, HR⟩ := hrel
        obtain ⟨d0, d1, d2, d3⟩ := HCE.out wr HR.out.1
        by_cases hlt : i < held.length
        · obtain ⟨b, o, rfl, _, hcl⟩ := HA.out.held.at_ i hlt
          have c0 := hcl wr (blw' BX.out HR.out.1)
          have HD : Bx (risF (prevI held i) (held.drop i) = (decide (prevI held i < held[i]) && risF held[i] (held.drop (i + 1)))) := ⟨by rw [List.drop_eq_getElem_cons hlt, risF]⟩
          have HP : Bx (prevI held (i + 1) = held[i]) := ⟨prev_succ held i hlt⟩
          clear hcl
          by_cases hi0 : i = 0
          · subst hi0
            have HZ : Bx (prevI held 0 = 0) := ⟨prev_zero held⟩
            generalize hz : held[0] = z at *
            rw [Nat.add_zero] at c0
            by_cases hz1 : z < 1
            · have HF : Bx (agI ⟨id, false, arms, held⟩ = false) := ⟨by
                rw [HI.out, ← HR.out.2.1, HD.out, HZ.out, decide_eq_false (by omega)]; simp⟩
              have gz : decide (z < 1) = true := by simp; omega
              clear HD HP HZ HI
              go_wp2
              go_quiet (fail)
              go_wp2
              go_ret
              exact ⟨by rw [HF.out]; rfl, below_drewN (blw' BX.out HR.out.1) _⟩
            · have HN : Bx (risF (prevI held 1) (held.drop 1) = risI held ∧ 1 ≤ prevI held 1) := ⟨by
                rw [HP.out, ← HR.out.2.1, HD.out, HZ.out, decide_eq_true (by omega), Bool.true_and]
                exact ⟨rfl, by omega⟩⟩
              have gz : decide (z < 1) = false := by simp; omega
              clear HD HP HZ
              go_wp2
              go_quiet (fail)
              go_wp2
              go_roundg (held.length + 1 - (0 + 1))
              case measure => omega
              case rel => exact ⟨1, rfl, by omega, by simp, ⟨below_drewN HR.out.1 _, HN.out.1, fun _ => HN.out.2⟩⟩
          · obtain ⟨b', o', e', _, hcl'⟩ := HA.out.held.at_ (i - 1) (show i - 1 < held.length by omega)
            cases e'
            have c1 := hcl' wr (blw' BX.out HR.out.1)
            have HQ : Bx (prevI held i = held[i - 1]) := ⟨by have := prev_succ held (i - 1) (by omega); rw [show i - 1 + 1 = i by omega] at this; exact this⟩
            have hi1 : 0 < i := by omega
            have g1 : decide ((0 : Int) < (i : Int)) = true := by simp; omega
            have g2 : ((i : Int) - 1) = ((i - 1 : Nat) : Int) := by omega
            have HQ1 : Bx (1 ≤ prevI held i) := ⟨HR.out.2.2 hi1⟩
            clear hcl'
            generalize held[i] = z at *
            generalize held[i - 1] = y at *
            generalize hm : i - 1 = m at *
            clear hm
            by_cases hzy : z ≤ y
            · have HF : Bx (agI ⟨id, false, arms, held⟩ = false) := ⟨by
                rw [HI.out, ← HR.out.2.1, HD.out, HQ.out, decide_eq_false (by omega)]; simp⟩
              have gy : decide (z ≤ y) = true := by simp; omega
              clear HD HP HQ HQ1 HI
              by_cases hz1 : z < 1
              · have gz : decide (z < 1) = true := by simp; omega
                go_wp2
                go_quiet (fail)
                go_wp2
                go_ret
                exact ⟨by rw [HF.out]; rfl, below_drewN (blw' BX.out HR.out.1) _⟩
              · have gz : decide (z < 1) = false := by simp; omega
                go_wp2
                go_quiet (fail)
                go_wp2
                go_ret
                exact ⟨by rw [HF.out]; rfl, below_drewN (blw' BX.out HR.out.1) _⟩
            · have hz1 : ¬ z < 1 := by have := HQ1.out; rw [HQ.out] at this; omega
              have HN : Bx (risF (prevI held (i + 1)) (held.drop (i + 1)) = risI held ∧ 1 ≤ prevI held (i + 1)) := ⟨by
                rw [HP.out, ← HR.out.2.1, HD.out, HQ.out, decide_eq_true (by omega), Bool.true_and]
                exact ⟨rfl, by omega⟩⟩
              have gz : decide (z < 1) = false := by simp; omega
              have gy : decide (z ≤ y) = false := by simp; omega
              clear HD HP HQ HQ1
              go_wp2
              go_quiet (fail)
              go_wp2
              go_roundg (held.length + 1 - (i + 1))
              case measure => omega
              case rel => exact ⟨i + 1, rfl, by omega, by simp, ⟨below_drewN HR.out.1 _, HN.out.1, fun _ => HN.out.2⟩⟩
        · have hie : i = held.length := by omega
          subst hie
          have HRI : Bx (risI held = true) := ⟨by rw [← HR.out.2.1, List.drop_length]; rfl⟩
          obtain ⟨V, hV⟩ : ∃ V, V = wr := ⟨_, rfl⟩
          have BV : Bx (Below X.heap.size X V) := ⟨by rw [hV]; exact HR.out.1⟩
          rw [← hV] at d0 d1 d2 d3 ⊢
          clear hV HR
          go_wp2
          go_loopg [4] (arms.length + 1) (fun g v4 wr => ∃ i : Nat, g = arms.length + 1 - i ∧ i ≤ arms.length ∧ v4 = .int .i64 (i : Nat) ∧ Bx (Below X.heap.size X wr ∧ (arms.drop i).all (armOk held) = arms.all (armOk held)))
          case atStart => exact ⟨0, by simp, by omega, rfl, ⟨BV.out, by simp⟩⟩
          case round =>
            obtain ⟨i, hg2, hil2, rfl, HR⟩ := hrel
            obtain ⟨d0, d1, d2, d3⟩ := HCE.out wr HR.out.1
            by_cases hlt : i < arms.length
            · obtain ⟨b, o, rfl, h64, hcl⟩ := HA.out.arms.at_ i hlt
              have c0 := (hcl wr (blw' BX.out HR.out.1)).1
              have HD : Bx ((arms.drop i).all (armOk held) = (armOk held arms[i] && (arms.drop (i + 1)).all (armOk held))) := ⟨by rw [List.drop_eq_getElem_cons hlt, List.all_cons]⟩
              have HHS : Bx (∀ n, Calls Try.prog 62 #[.slice hp held.length hc, .int .i64 arms[i].chan] (wr.drewN n) fun e w' => e = .returned (.bool (held.contains arms[i].chan)) ∧ w' = wr.drewN n) := ⟨fun n => rhas_any _ hp hc held _ (HA.out.held.later (below_drewN (blw' BX.out HR.out.1) n)) h64⟩
              clear hcl h64
              simp only at c0
              generalize hx : arms[i] = x at *
              obtain ⟨xc, xs⟩ := x
              simp only at c0 HHS
              have HK : Bx (armOk held ⟨xc, xs⟩ = (xc == 0 || held.contains xc)) := ⟨rfl⟩
              cases hx0 : (xc == 0) with
              | true =>
                have gx : (xc != 0) = false := by simp only [bne, hx0]; rfl
                have HN : Bx ((arms.drop (i + 1)).all (armOk held) = arms.all (armOk held)) := ⟨by rw [← HR.out.2, HD.out, HK.out, hx0, Bool.true_or, Bool.true_and]⟩
                clear HD hx HHS HK
                go_wp2
                go_quiet (fail)
                go_wp2
                go_roundg (arms.length + 1 - (i + 1))
                case measure => omega
                case rel => exact ⟨i + 1, rfl, by omega, by simp, ⟨below_drewN HR.out.1 _, HN.out⟩⟩
              | false =>
                have gx : (xc != 0) = true := by simp only [bne, hx0]; rfl
                cases hh : held.contains xc with
                | true =>
                  have HN : Bx ((arms.drop (i + 1)).all (armOk held) = arms.all (armOk held)) := ⟨by rw [← HR.out.2, HD.out, HK.out, hx0, hh, Bool.or_true, Bool.true_and]⟩
                  rw [hh] at HHS
                  clear HD hx HK
                  go_wp2
                  go_quiet (first | (go_at_call 62; exact Calls.quiet_of_same (HHS.out _)))
                  go_wp2
                  go_roundg (arms.length + 1 - (i + 1))
                  case measure => omega
                  case rel => exact ⟨i + 1, rfl, by omega, by simp, ⟨below_drewN HR.out.1 _, HN.out⟩⟩
                | false =>
                  have HF : Bx (agI ⟨id, false, arms, held⟩ = false) := ⟨by
                    rw [HI.out, ← HR.out.2, HD.out, HK.out, hx0, hh]; simp⟩
                  rw [hh] at HHS
                  clear HD hx HI HK
                  go_wp2
                  go_quiet (first | (go_at_call 62; exact Calls.quiet_of_same (HHS.out _)))
                  go_wp2
                  go_ret
                  exact ⟨by rw [HF.out]; rfl, below_drewN (blw' BX.out HR.out.1) _⟩
            · have hie : i = arms.length := by omega
              subst hie
              have HF : Bx (agI ⟨id, false, arms, held⟩ = true) := ⟨by rw [HI.out, HRI.out, ← HR.out.2, List.drop_length]; rfl⟩
              go_wp2
              go_ret
              exact ⟨by rw [HF.out]; rfl, blw' BX.out HR.out.1⟩
end Go.Proofs.Ytjabdhmkibahlaa
