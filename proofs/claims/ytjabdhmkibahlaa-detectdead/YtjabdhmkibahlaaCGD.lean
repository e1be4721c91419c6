import Derived.Test.YtjabdhmkibahlaaCGC
namespace Go.Proofs.Ytjabdhmkibahlaa
open Go.RowKit
set_option linter.unusedVariables false
set_option linter.unusedSimpArgs false

def Few (s : List Ag) : Prop := ∀ a ∈ s, a.held.length ≤ 2147483647 ∧ a.arms.length ≤ 2147483647
set_option maxRecDepth 100000 in
set_option maxHeartbeats 4000000 in
theorem Check_any (w : World) (p : Option Addr) (c : Nat) (s : List Ag) (h : AgsR w p c s) (hz : Few s) :
    Calls Try.prog 9 #[.slice p s.length c] w fun e w' => e = .returned (.int .i64 (chkI s)) ∧ Below w.heap.size w w' := by
  have hlc := h.len
  have hcm := h.max
  unfold maxLen at hcm
  by_cases hm : 4096 < s.length
  · have HE : Bx (chkI s = 140) := ⟨by
      have : stOk s = false := by simp [stOk]; omega
      simp [chkI, this]⟩
    go_enter Try.func9, Try.ntmps9
    go_wp2
    go_ret
    exact ⟨by rw [HE.out]; rfl, Below.refl _ _⟩
  · have HE0 : Bx (chkI s = if agsF (-1) s then 0 else 140) := ⟨by
      have : stOk s = agsF (-1) s := by simp [stOk]; omega
      simp [chkI, this]⟩
    have HS : Bx (AgsR w p c s) := ⟨h⟩
    have HZ : Bx (Few s) := ⟨hz⟩
    clear h hz
    go_enter Try.func9, Try.ntmps9
    go_wp2
    go_loopg [3, 11] (s.length + 1) (fun k v3 v11 wr => ∃ (i : Nat) (x : Int), k = s.length + 1 - i ∧ i ≤ s.length ∧ v3 = .int .i64 x ∧ v11 = .int .i64 i ∧ Bx (agsF x (s.drop i) = agsF (-1) s ∧ Below w.heap.size w wr))
    case atStart => exact ⟨0, -1, by simp, by omega, rfl, rfl, ⟨by simp, Below.refl _ _⟩⟩
    case round =>
      obtain ⟨i, x, hk, hil, rfl, rfl, HR⟩ := hrel
      by_cases hlt : i < s.length
      · obtain ⟨b, o, ap, ac, hp, hc, rfl, hA, hcl⟩ := HS.out.at_ i hlt
        have hbr := HR.out.2
        have hzi := HZ.out s[i] (List.getElem_mem hlt)
        obtain ⟨c0, c1, c2, c3⟩ := hcl wr hbr
        have hd : s.drop i = s[i] :: s.drop (i + 1) := List.drop_eq_getElem_cons hlt
        have HE : Bx ((decide (x < s[i].id) && agOk s[i] && agsF s[i].id (s.drop (i + 1))) = agsF (-1) s) := ⟨by have := HR.out.1; rw [hd, agsF] at this; exact this⟩
        have hA2 := (hA.later hbr)
        clear hd HR hcl hA HS HZ
        generalize s[i] = a at *
        obtain ⟨id, aw, arms, held⟩ := a
        simp only at c0 c1 c2 c3 hzi
        obtain ⟨Y, hY⟩ : ∃ Y, wr.alloc (.cells #[.int .i64 id, .bool aw, .slice ap arms.length ac, .slice hp held.length hc] 53) = Y := ⟨_, rfl⟩
        have hbY : Below wr.heap.size wr Y := by rw [← hY]; exact below1 _ _
        have hbw : Below w.heap.size w Y := hbr.trans (hbY.mono hbr.size)
        have hkY : Y.heap[wr.heap.size]? = some (.cells #[.int .i64 id, .bool aw, .slice ap arms.length ac, .slice hp held.length hc] 53 (0, 0)) := by rw [← hY]; exact World.alloc_heap_new _ _
        have HCY : Bx (∀ X, Below Y.heap.size Y X → X.cell? ⟨wr.heap.size, 0, none⟩ = some (.int .i64 id)) := ⟨fun X hX => by
          have e := (hX.block wr.heap.size (Array.getElem?_eq_some_iff.1 hkY).1).trans hkY
          exact cell_of e rfl⟩
        have d0 : Y.cell? ⟨wr.heap.size, 0, none⟩ = some (.int .i64 id) := cell_of hkY rfl
        have d1 : Y.cell? ⟨wr.heap.size, 1, none⟩ = some (.bool aw) := cell_of hkY rfl
        have d2 : Y.cell? ⟨wr.heap.size, 2, none⟩ = some (.slice ap arms.length ac) := cell_of hkY rfl
        have d3 : Y.cell? ⟨wr.heap.size, 3, none⟩ = some (.slice hp held.length hc) := cell_of hkY rfl
        have HRT : Bx (Calls Try.prog 35 #[.agg #[.int .i64 id, .bool aw, .slice ap arms.length ac, .slice hp held.length hc]] Y fun e w' => e = .returned (.bool (agOk ⟨id, aw, arms, held⟩)) ∧ Below Y.heap.size Y w') := ⟨right_any Y ⟨id, aw, arms, held⟩ ap hp ac hc (hA2.later hbY) (by simp only; omega)⟩
        have HYE : Bx (_ = Y) := ⟨hY⟩
        have HBW : Bx (Below w.heap.size w Y) := ⟨hbw⟩
        rw [← hY] at d0 d1 d2 d3
        clear hY hkY hbY hbw hbr hA2
        by_cases hx : id ≤ x
        · have HF : Bx (chkI s = 140) := ⟨by rw [HE0.out, ← HE.out, decide_eq_false (by simp only; omega)]; simp⟩
          go_wp2
          go_ret
          exact ⟨by rw [HF.out]; rfl, by rw [HYE.out]; exact HBW.out⟩
        · have hxd : decide (x < id) = true := by simp; omega
          by_cases hok : agOk ⟨id, aw, arms, held⟩ = true
          · have HEN : Bx (agsF id (s.drop (i + 1)) = agsF (-1) s) := ⟨by rw [← HE.out]; simp only [hxd, hok, Bool.true_and]⟩
            rw [hok] at HRT
            clear hxd
            go_wp2_with (first | (go_at_call 35; rw [HYE.out]; refine Calls.mono HRT.out ?_; rintro e w2 ⟨rfl, hb2⟩; have HB2 : Bx (Below w.heap.size w w2) := ⟨HBW.out.trans (hb2.mono HBW.out.size)⟩; have e0 := HCY.out w2 hb2; clear hb2))
            go_roundg (s.length + 1 - (i + 1))
            case measure => omega
            case rel => exact ⟨i + 1, id, rfl, by omega, by simp, by simp, ⟨HEN.out, HB2.out⟩⟩
          · have hok' : agOk ⟨id, aw, arms, held⟩ = false := by simpa using hok
            have HF : Bx (chkI s = 140) := ⟨by rw [HE0.out, ← HE.out, hok']; simp⟩
            rw [hok'] at HRT
            clear hxd
            go_wp2_with (first | (go_at_call 35; rw [HYE.out]; refine Calls.mono HRT.out ?_; rintro e w2 ⟨rfl, hb2⟩; have HB2 : Bx (Below w.heap.size w w2) := ⟨HBW.out.trans (hb2.mono HBW.out.size)⟩; have e0 := HCY.out w2 hb2; clear hb2))
            go_ret
            exact ⟨by rw [HF.out]; rfl, HB2.out⟩
      · have hie : i = s.length := by omega
        subst hie
        have HF : Bx (chkI s = 0 ∧ Below w.heap.size w wr) := ⟨by rw [HE0.out, ← HR.out.1]; simp [agsF], HR.out.2⟩
        clear HR
        go_wp2
        go_ret
        exact ⟨by rw [HF.out.1]; rfl, HF.out.2⟩
end Go.Proofs.Ytjabdhmkibahlaa
