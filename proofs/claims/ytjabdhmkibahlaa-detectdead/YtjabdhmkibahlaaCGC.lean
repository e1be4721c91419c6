import Derived.Test.YtjabdhmkibahlaaCGP
import Derived.BigQuiet
namespace Go.Proofs.Ytjabdhmkibahlaa
open Go.RowKit
set_option linter.unusedVariables false
set_option linter.unusedSimpArgs false

theorem search_any (w : World) (p : Option Addr) (c : Nat) (l : List Int) (x : Int) (h : IntsR w p c l) (hs : l.Pairwise (· ≤ ·)) (hz : l.length ≤ 4611686018427387903) :
    Calls Try.prog 54 #[.slice p l.length c, .int .i64 x] w fun e w' => (∃ k : Int, e = .returned (.tuple #[.int .i64 k, .bool (l.contains x)])) ∧ Below w.heap.size w w' := by
  by_cases h0 : l.length = 0
  · obtain rfl : l = [] := List.eq_nil_of_length_eq_zero h0
    refine (Go.Proofs.Try.slices_BinarySearch_int_empty p c x w).mono ?_
    rintro e w' ⟨rfl, rfl⟩
    exact ⟨⟨0, rfl⟩, Below.refl _ _⟩
  · obtain ⟨b, o, rfl, _, _⟩ := h.at_ 0 (by omega)
    refine (Go.Proofs.Try.slices_BinarySearch_int b o l.length c l x w (Nat.le_refl _) (by omega) (fun j hj => ?_) (by rw [List.take_length]; exact hs)).mono ?_
    · obtain ⟨b', o', e, _, h1⟩ := h.at_ j hj
      cases e
      rw [h1 w (Below.refl _ _), List.getD_eq_getElem?_getD, List.getElem?_eq_getElem hj]
      rfl
    · rintro e w' ⟨rfl, q, rfl⟩
      rw [List.take_length]
      exact ⟨⟨_, rfl⟩, below_drewN (Below.refl _ _) q⟩

set_option maxRecDepth 100000 in
set_option maxHeartbeats 4000000 in
theorem right_any (w : World) (a : Ag) (ap hp : Option Addr) (ac hc : Nat) (h : AgR w a ap ac hp hc) (hz : a.held.length ≤ 4611686018427387903) :
    Calls Try.prog 35 #[agV a ap ac hp hc] w fun e w' => e = .returned (.bool (agOk a)) ∧ Below w.heap.size w w' := by
  obtain ⟨id, aw, arms, held⟩ := a
  have hA := h.arms
  have hH := h.held
  simp only at hA hH hz
  have h1 := hA.len
  have h2 := hA.max
  have h3 := hH.len
  have h4 := hH.max
  unfold maxLen at h2 h4
  simp only [agV]
  obtain ⟨W, hW⟩ : ∃ W, w.alloc (.cells #[.int .i64 id, .bool aw, .slice ap arms.length ac, .slice hp held.length hc] 53) = W := ⟨_, rfl⟩
  have hb : Below w.heap.size w W := by rw [← hW]; exact below1 _ _
  have hbk : W.heap[w.heap.size]? = some (.cells #[.int .i64 id, .bool aw, .slice ap arms.length ac, .slice hp held.length hc] 53 (0, 0)) := by rw [← hW]; exact World.alloc_heap_new _ _
  have HC : Bx (∀ X, Below W.heap.size W X → X.cell? ⟨w.heap.size, 1, none⟩ = some (.bool aw) ∧ X.cell? ⟨w.heap.size, 2, none⟩ = some (.slice ap arms.length ac) ∧ X.cell? ⟨w.heap.size, 3, none⟩ = some (.slice hp held.length hc)) := ⟨fun X hX => by
    have e := (hX.block w.heap.size (Array.getElem?_eq_some_iff.1 hbk).1).trans hbk
    exact ⟨cell_of e rfl, cell_of e rfl, cell_of e rfl⟩⟩
  have HRI : Bx (∀ X, Below w.heap.size w X → Calls Try.prog 53 #[.slice hp held.length hc] X fun e w' => e = .returned (.bool (risI held)) ∧ w' = X) := ⟨fun X hX => rising_any X hp hc held (hH.later hX)⟩
  have HB : Bx (Below w.heap.size w W) := ⟨hb⟩
  have hc1 := (HC.out W (Below.refl _ _)).1
  have hc2 := (HC.out W (Below.refl _ _)).2.1
  have hc3 := (HC.out W (Below.refl _ _)).2.2
  have HW : Bx (_ = W) := ⟨hW⟩
  have HA : Bx (HdsR w ap ac arms) := ⟨hA⟩
  have HH : Bx (IntsR w hp hc held) := ⟨hH⟩
  clear h hA hH hbk hb
  rw [← hW] at hc1 hc2 hc3
  by_cases hbad : aw = true ∧ 0 < arms.length
  · obtain ⟨rfl, h0⟩ := hbad
    have HE : Bx (agOk ⟨id, true, arms, held⟩ = false) := ⟨by simp [agOk, h0]⟩
    have g0 : decide ((0 : Int) < ↑arms.length) = true := by simp; omega
    have g1 : decide (0 < arms.length) = true := by simp; omega
    clear hW
    go_enter Try.func35, Try.ntmps35
    go_wp2
    go_ret
    exact ⟨by rw [HE.out]; rfl, by rw [HW.out]; exact HB.out⟩
  · have HE0 : Bx (agOk ⟨id, aw, arms, held⟩ = (risI held && arms.all (armOk held))) := ⟨by
      unfold agOk
      have : (aw && decide (0 < arms.length)) = false := by
        cases aw
        · rfl
        · simp at hbad ⊢; exact hbad
      simp [this]⟩
    clear hW
    have hrr : risI held = true ∨ risI held = false := by cases risI held <;> simp
    rcases hrr with hr | hr
    · rw [hr] at HRI
      have hs := ris_le hr
      have HSR : Bx (∀ X x, Below w.heap.size w X → Calls Try.prog 54 #[.slice hp held.length hc, .int .i64 x] X fun e w' => (∃ k : Int, e = .returned (.tuple #[.int .i64 k, .bool (held.contains x)])) ∧ Below X.heap.size X w') := ⟨fun X x hX => search_any X hp hc held x (HH.out.later hX) hs hz⟩
      have HEA : Bx (agOk ⟨id, aw, arms, held⟩ = arms.all (armOk held)) := ⟨by rw [HE0.out, hr, Bool.true_and]⟩
      clear HE0 hs HH
      cases aw with
      | true =>
        have hn : arms.length = 0 := by
          cases arms with
          | nil => rfl
          | cons x r => simp at hbad
        rw [hn] at HW hc1 hc2 hc3 HC h1
        rw [hn]
        have HE : Bx (agOk ⟨id, true, arms, held⟩ = true) := ⟨by rw [HEA.out, List.eq_nil_of_length_eq_zero hn]; rfl⟩
        clear hn hbad
        go_enter Try.func35, Try.ntmps35
        go_wp2_with (first | (go_at_call 53; rw [HW.out]; refine Calls.mono (HRI.out W HB.out) ?_; rintro e w1 ⟨rfl, rfl⟩; rw [HW.out] at hc1 hc2 hc3))
        go_loopg [24] 1 (fun k v wr => k = 1 ∧ v = .int .i64 0 ∧ wr = w1)
        case atStart => exact ⟨rfl, rfl, rfl⟩
        case round =>
          obtain ⟨_, rfl, rfl⟩ := hrel
          go_wp2
          go_ret
          exact ⟨by rw [HE.out]; rfl, HB.out⟩
      | false =>
        clear hbad
        go_enter Try.func35, Try.ntmps35
        go_wp2_with (first | (go_at_call 53; rw [HW.out]; refine Calls.mono (HRI.out W HB.out) ?_; rintro e w1 ⟨rfl, rfl⟩; rw [HW.out] at hc1 hc2 hc3))
        go_loopg [24] (arms.length + 1) (fun k v wr => ∃ i : Nat, k = arms.length + 1 - i ∧ i ≤ arms.length ∧ v = .int .i64 i ∧ Bx ((arms.drop i).all (armOk held) = arms.all (armOk held) ∧ Below w1.heap.size w1 wr))
        case atStart => exact ⟨0, by simp, by omega, rfl, ⟨by simp, Below.refl _ _⟩⟩
        case round =>
          obtain ⟨i, hk, hil, rfl, HR⟩ := hrel
          clear hc1 hc2 hc3
          by_cases hlt : i < arms.length
          · obtain ⟨b, o, rfl, _, hcl⟩ := HA.out.at_ i hlt
            have hbr := HR.out.2
            have hwr : Below w.heap.size w wr := HB.out.trans (hbr.mono HB.out.size)
            have c0 := (hcl wr hwr).1
            have c1 := (hcl wr hwr).2
            have hd : arms.drop i = arms[i] :: arms.drop (i + 1) := List.drop_eq_getElem_cons hlt
            have HE : Bx ((armOk held arms[i] && (arms.drop (i + 1)).all (armOk held)) = arms.all (armOk held)) := ⟨by have := HR.out.1; rw [hd, List.all_cons] at this; exact this⟩
            clear hd HR hcl HA HRI
            generalize arms[i] = am at *
            obtain ⟨mc, ms⟩ := am
            simp only at c0 c1
            obtain ⟨Y, hY⟩ : ∃ Y, wr.alloc (.cells #[.int .i64 mc, .bool ms] 58) = Y := ⟨_, rfl⟩
            have hbY : Below wr.heap.size wr Y := by rw [← hY]; exact below1 _ _
            have hbW : Below w1.heap.size w1 Y := hbr.trans (hbY.mono hbr.size)
            have hbw : Below w.heap.size w Y := hwr.trans (hbY.mono hwr.size)
            have hkY : Y.heap[wr.heap.size]? = some (.cells #[.int .i64 mc, .bool ms] 58 (0, 0)) := by rw [← hY]; exact World.alloc_heap_new _ _
            have HCY : Bx (∀ X, Below Y.heap.size Y X → X.cell? ⟨wr.heap.size, 0, none⟩ = some (.int .i64 mc)) := ⟨fun X hX => by
              have e := (hX.block wr.heap.size (Array.getElem?_eq_some_iff.1 hkY).1).trans hkY
              exact cell_of e rfl⟩
            have d3 := (HC.out Y hbW).2.2
            have d0 := HCY.out Y (Below.refl _ _)
            have HYE : Bx (_ = Y) := ⟨hY⟩
            rw [← hY] at d0 d3
            clear hY hkY
            have HBW : Bx (Below w1.heap.size w1 Y ∧ Below w.heap.size w Y) := ⟨hbW, hbw⟩
            clear hbW hbw hbY hwr hbr
            by_cases hin : held.contains mc = true
            · have HEN : Bx ((arms.drop (i + 1)).all (armOk held) = arms.all (armOk held)) := ⟨by rw [← HE.out]; simp only [armOk, hin, Bool.or_true, Bool.true_and]⟩
              go_wp2_with (first | (go_at_call 54; rw [HYE.out]; refine Calls.mono (HSR.out Y mc HBW.out.2) ?_; rintro e w2 ⟨⟨k2, rfl⟩, hb2⟩; rw [hin]; have HB2 : Bx (Below w1.heap.size w1 w2) := ⟨HBW.out.1.trans (hb2.mono HBW.out.1.size)⟩; clear hb2))
              go_roundg (arms.length + 1 - (i + 1))
              case measure => omega
              case rel => exact ⟨i + 1, rfl, by omega, by simp, ⟨HEN.out, HB2.out⟩⟩
            · have hin' : held.contains mc = false := by simpa using hin
              by_cases h0 : mc = 0
              · subst h0
                have HEN : Bx ((arms.drop (i + 1)).all (armOk held) = arms.all (armOk held)) := ⟨by rw [← HE.out]; simp [armOk]⟩
                go_wp2_with (first | (go_at_call 54; rw [HYE.out]; refine Calls.mono (HSR.out Y 0 HBW.out.2) ?_; rintro e w2 ⟨⟨k2, rfl⟩, hb2⟩; rw [hin']; have HB2 : Bx (Below w1.heap.size w1 w2) := ⟨HBW.out.1.trans (hb2.mono HBW.out.1.size)⟩; have e0 := HCY.out w2 hb2; clear hb2))
                go_roundg (arms.length + 1 - (i + 1))
                case measure => omega
                case rel => exact ⟨i + 1, rfl, by omega, by simp, ⟨HEN.out, HB2.out⟩⟩
              · have g0 : (mc != 0) = true := by simpa using h0
                have HEN : Bx (arms.all (armOk held) = false) := ⟨by
                  have : armOk held ⟨mc, ms⟩ = false := by simp only [armOk, hin', Bool.or_false]; simpa using h0
                  rw [← HE.out, this, Bool.false_and]⟩
                clear h0
                go_wp2_with (first | (go_at_call 54; rw [HYE.out]; refine Calls.mono (HSR.out Y mc HBW.out.2) ?_; rintro e w2 ⟨⟨k2, rfl⟩, hb2⟩; rw [hin']; have HB2 : Bx (Below w.heap.size w w2) := ⟨HBW.out.2.trans (hb2.mono HBW.out.2.size)⟩; have e0 := HCY.out w2 hb2; clear hb2))
                go_ret
                exact ⟨by rw [HEA.out, HEN.out]; rfl, HB2.out⟩
          · have hie : i = arms.length := by omega
            subst hie
            have HF : Bx (arms.all (armOk held) = true ∧ Below w.heap.size w wr) := ⟨by rw [← HR.out.1]; simp, HB.out.trans (HR.out.2.mono HB.out.size)⟩
            clear HR
            go_wp2
            go_ret
            exact ⟨by rw [HEA.out, HF.out.1]; rfl, HF.out.2⟩
    · rw [hr] at HRI
      have HE : Bx (agOk ⟨id, aw, arms, held⟩ = false) := ⟨by rw [HE0.out, hr, Bool.false_and]⟩
      clear HE0
      cases aw with
      | true =>
        have hn : arms.length = 0 := by
          cases arms with
          | nil => rfl
          | cons x r => simp at hbad
        rw [hn] at HW hc1 hc2 hc3 HC h1
        rw [hn]
        go_enter Try.func35, Try.ntmps35
        go_wp2_with (first | (go_at_call 53; rw [HW.out]; refine Calls.mono (HRI.out W HB.out) ?_; rintro e w1 ⟨rfl, rfl⟩))
        go_ret
        exact ⟨by rw [HE.out]; rfl, HB.out⟩
      | false =>
        go_enter Try.func35, Try.ntmps35
        go_wp2_with (first | (go_at_call 53; rw [HW.out]; refine Calls.mono (HRI.out W HB.out) ?_; rintro e w1 ⟨rfl, rfl⟩))
        go_ret
        exact ⟨by rw [HE.out]; rfl, HB.out⟩
end Go.Proofs.Ytjabdhmkibahlaa
namespace Go.Proofs.Ytjabdhmkibahlaa
open Go.RowKit
set_option linter.unusedVariables false
set_option linter.unusedSimpArgs false

/-! ### the reference's Check -/
set_option maxRecDepth 100000 in
set_option maxHeartbeats 1000000 in
theorem rhas_any (w : World) (p : Option Addr) (c : Nat) (l : List Int) (n : Int) (h : IntsR w p c l) (hn : I64 n) :
    Calls Try.prog 62 #[.slice p l.length c, .int .i64 n] w fun e w' => e = .returned (.bool (l.contains n)) ∧ w' = w := by
  have hlc := h.len
  have hcm := h.max
  unfold maxLen at hcm
  have HS : Bx _ := ⟨h⟩
  clear h
  go_enter Try.func62, Try.ntmps62
  go_wp2
  go_loopg [5] (l.length + 1) (fun k v5 wr => ∃ i : Nat, k = l.length + 1 - i ∧ i ≤ l.length ∧ v5 = .int .i64 i ∧ Bx ((l.drop i).contains n = l.contains n ∧ wr = w))
  case atStart => exact ⟨0, by simp, by omega, rfl, ⟨by simp, rfl⟩⟩
  case round =>
    obtain ⟨i, hk, hil, rfl, HR⟩ := hrel
    by_cases hlt : i < l.length
    · obtain ⟨b, o, rfl, _, hc⟩ := HS.out.at_ i hlt
      have c0 := hc wr (by rw [HR.out.2]; exact Below.refl _ _)
      have HD : Bx ((l.drop i).contains n = (n == l[i] || (l.drop (i + 1)).contains n)) := ⟨by rw [List.drop_eq_getElem_cons hlt, List.contains_cons]⟩
      clear hc HS
      generalize l[i] = z at *
      by_cases hz : z = n
      · subst hz
        have HF : Bx (l.contains z = true) := ⟨by rw [← HR.out.1, HD.out]; simp⟩
        go_wp2
        go_ret
        exact ⟨by rw [HF.out]; rfl, HR.out.2⟩
      · have HF : Bx ((l.drop (i + 1)).contains n = l.contains n) := ⟨by
          rw [← HR.out.1, HD.out]
          have : (n == z) = false := beq_eq_false_iff_ne.2 (fun e => hz e.symm)
          rw [this, Bool.false_or]⟩
        go_wp2
        go_roundg (l.length + 1 - (i + 1))
        case measure => omega
        case rel => exact ⟨i + 1, rfl, by omega, by simp, ⟨HF.out, HR.out.2⟩⟩
    · have hie : i = l.length := by omega
      subst hie
      have HF : Bx (l.contains n = false) := ⟨by rw [← HR.out.1, List.drop_length]; rfl⟩
      go_wp2
      go_ret
      exact ⟨by rw [HF.out]; rfl, HR.out.2⟩
end Go.Proofs.Ytjabdhmkibahlaa
