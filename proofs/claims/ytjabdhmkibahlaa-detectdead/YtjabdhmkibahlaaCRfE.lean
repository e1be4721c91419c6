import Derived.Test.YtjabdhmkibahlaaCRfD
namespace Go.Proofs.Ytjabdhmkibahlaa
open Go.RowKit
set_option linter.unusedVariables false
set_option linter.unusedSimpArgs false

/-! ### the reference's place and partner -/
def plF (n : Int) : Nat → List Ag → Int
  | _, [] => -1
  | i, a :: r => if a.id = n then (i : Int) else plF n (i + 1) r
def plI (s : List Ag) (n : Int) : Int := plF n 0 s
set_option maxRecDepth 100000 in
set_option maxHeartbeats 1000000 in
theorem rplace_any (w : World) (p : Option Addr) (c : Nat) (s : List Ag) (n : Int) (h : AgsR w p c s) (hn : I64 n) :
    Calls Try.prog 52 #[.slice p s.length c, .int .i64 n] w fun e w' => e = .returned (.int .i64 (plI s n)) ∧ Below w.heap.size w w' := by
  have hlc := h.len
  have hcm := h.max
  unfold maxLen at hcm
  have HS : Bx _ := ⟨h⟩
  clear h
  go_enter Try.func52, Try.ntmps52
  go_wp2
  go_loopg [9] (s.length + 1) (fun k v9 wr => ∃ i : Nat, k = s.length + 1 - i ∧ i ≤ s.length ∧ v9 = .int .i64 i ∧ Bx (plF n i (s.drop i) = plI s n ∧ Below w.heap.size w wr))
  case atStart => exact ⟨0, by simp, by omega, rfl, ⟨by simp [plI], Below.refl _ _⟩⟩
  case round =>
    obtain ⟨i, hk, hil, rfl, HR⟩ := hrel
    by_cases hlt : i < s.length
    · obtain ⟨b, o, ap, ac, hp, hc, rfl, hA, hcl⟩ := HS.out.at_ i hlt
      obtain ⟨c0, c1, c2, c3⟩ := hcl wr HR.out.2
      have HD : Bx (plF n i (s.drop i) = if s[i].id = n then (i : Int) else plF n (i + 1) (s.drop (i + 1))) := ⟨by rw [List.drop_eq_getElem_cons hlt, plF]⟩
      clear hcl hA HS
      generalize s[i] = a at *
      obtain ⟨id, aw, arms, held⟩ := a
      simp only at c0 c1 c2 c3 HD
      obtain ⟨X, hX⟩ : ∃ X, wr.alloc (.cells #[.int .i64 id, .bool aw, .slice ap arms.length ac, .slice hp held.length hc] 53) = X := ⟨_, rfl⟩
      have HB : Bx (Below w.heap.size w X) := ⟨by rw [← hX]; exact blz HR.out.2 (below1 _ _)⟩
      have hkX : X.heap[wr.heap.size]? = some (.cells #[.int .i64 id, .bool aw, .slice ap arms.length ac, .slice hp held.length hc] 53 (0, 0)) := by rw [← hX]; exact World.alloc_heap_new _ _
      have d0 : X.cell? ⟨wr.heap.size, 0, none⟩ = some (.int .i64 id) := cell_of hkX rfl
      have HXE : Bx (_ = X) := ⟨hX⟩
      rw [← hX] at d0
      clear hX hkX
      by_cases hz : id = n
      · subst hz
        have HF : Bx (plI s id = (i : Int)) := ⟨by rw [← HR.out.1, HD.out, if_pos rfl]⟩
        go_wp2
        rw [HXE.out]
        go_ret
        exact ⟨by rw [HF.out]; rfl, HB.out⟩
      · have HF : Bx (plF n (i + 1) (s.drop (i + 1)) = plI s n) := ⟨by rw [← HR.out.1, HD.out, if_neg hz]⟩
        go_wp2
        rw [HXE.out]
        go_roundg (s.length + 1 - (i + 1))
        case measure => omega
        case rel => exact ⟨i + 1, rfl, by omega, by simp, ⟨HF.out, HB.out⟩⟩
    · have hie : i = s.length := by omega
      subst hie
      have HF : Bx (plI s n = -1) := ⟨by rw [← HR.out.1, List.drop_length]; rfl⟩
      go_wp2
      go_ret
      exact ⟨by rw [HF.out]; rfl, HR.out.2⟩
/-- an arm that fits a hand -/
def fitH (x g : Hd) : Bool := g.chan == x.chan && (g.send != x.send)
def ptF (me : Nat) (x : Hd) : Nat → List Ag → Option Int
  | _, [] => none
  | i, a :: r => if i ≠ me ∧ a.awake = false ∧ x.chan ≠ 0 ∧ a.arms.any (fitH x) = true then some a.id else ptF me x (i + 1) r
def ptI (s : List Ag) (me : Nat) (x : Hd) : Option Int := ptF me x 0 s
set_option maxRecDepth 100000 in
set_option maxHeartbeats 2000000 in
theorem rpartner_any (w : World) (p : Option Addr) (c : Nat) (s : List Ag) (h : AgsR w p c s) (me : Nat) (hme : me ≤ 4096) (xc : Int) (xs : Bool) (hx64 : I64 xc) :
    Calls Try.prog 96 #[.slice p s.length c, .int .i64 (me : Int), .agg #[.int .i64 xc, .bool xs]] w fun e w' => e = .returned (.tuple #[.int .i64 ((ptI s me ⟨xc, xs⟩).getD 0), .bool (ptI s me ⟨xc, xs⟩).isSome]) ∧ Below w.heap.size w w' := by
  have hlc := h.len
  have hcm := h.max
  unfold maxLen at hcm
  have HS : Bx _ := ⟨h⟩
  obtain ⟨W, hW⟩ : ∃ W, w.alloc (.cells #[.int .i64 xc, .bool xs] 58) = W := ⟨_, rfl⟩
  have hbW : Below w.heap.size w W := by rw [← hW]; exact below1 _ _
  have hkW : W.heap[w.heap.size]? = some (.cells #[.int .i64 xc, .bool xs] 58 (0, 0)) := by rw [← hW]; exact World.alloc_heap_new _ _
  have HX : Bx (∀ V, Below W.heap.size W V → V.cell? ⟨w.heap.size, 0, none⟩ = some (.int .i64 xc) ∧ V.cell? ⟨w.heap.size, 1, none⟩ = some (.bool xs)) := ⟨fun V hV => by
    have e := (hV.block _ (Array.getElem?_eq_some_iff.1 hkW).1).trans hkW
    exact ⟨cell_of e rfl, cell_of e rfl⟩⟩
  have HWE : Bx (_ = W) := ⟨hW⟩
  have BW : Bx (Below w.heap.size w W) := ⟨hbW⟩
  clear hW hbW hkW h
  go_enter Try.func96, Try.ntmps96
  go_wp2
  rw [HWE.out]
  go_loopg [14] (s.length + 1) (fun g v14 wr => ∃ i : Nat, g = s.length + 1 - i ∧ i ≤ s.length ∧ v14 = .int .i64 (i : Nat) ∧ Bx (Below W.heap.size W wr ∧ ptF me ⟨xc, xs⟩ i (s.drop i) = ptI s me ⟨xc, xs⟩))
  case atStart => exact ⟨0, by simp, by omega, rfl, ⟨Below.refl _ _, by simp [ptI]⟩⟩
  case round =>
    obtain ⟨i, hg, hil, rfl, HR⟩ := hrel
    by_cases hlt : i < s.length
    · obtain ⟨b, o, ap, ac, hp, hc, rfl, hA, hcl⟩ := HS.out.at_ i hlt
      obtain ⟨c0, c1, c2, c3⟩ := hcl wr (blz BW.out HR.out.1)
      have HD : Bx (ptF me ⟨xc, xs⟩ i (s.drop i) = if i ≠ me ∧ s[i].awake = false ∧ xc ≠ 0 ∧ s[i].arms.any (fitH ⟨xc, xs⟩) = true then some s[i].id else ptF me ⟨xc, xs⟩ (i + 1) (s.drop (i + 1))) := ⟨by rw [List.drop_eq_getElem_cons hlt, ptF]⟩
      have HAR : Bx (HdsR w ap ac s[i].arms) := ⟨hA.arms⟩
      have al := hA.arms.len
      have am := hA.arms.max
      unfold maxLen at am
      clear hcl hA
      generalize s[i] = a at *
      obtain ⟨id, aw, arms, held⟩ := a
      simp only at c0 c1 c2 c3 HD HAR al
      obtain ⟨X, hX⟩ : ∃ X, wr.alloc (.cells #[.int .i64 id, .bool aw, .slice ap arms.length ac, .slice hp held.length hc] 53) = X := ⟨_, rfl⟩
      have hbX : Below wr.heap.size wr X := by rw [← hX]; exact below1 _ _
      have hkX : X.heap[wr.heap.size]? = some (.cells #[.int .i64 id, .bool aw, .slice ap arms.length ac, .slice hp held.length hc] 53 (0, 0)) := by rw [← hX]; exact World.alloc_heap_new _ _
      have HCE : Bx (∀ V, Below X.heap.size X V → V.cell? ⟨wr.heap.size, 0, none⟩ = some (.int .i64 id) ∧ V.cell? ⟨wr.heap.size, 1, none⟩ = some (.bool aw) ∧ V.cell? ⟨wr.heap.size, 2, none⟩ = some (.slice ap arms.length ac)) := ⟨fun V hV => by
        have e := (hV.block _ (Array.getElem?_eq_some_iff.1 hkX).1).trans hkX
        exact ⟨cell_of e rfl, cell_of e rfl, cell_of e rfl⟩⟩
      obtain ⟨d0, d1, d2⟩ := HCE.out X (Below.refl _ _)
      have BX : Bx (Below W.heap.size W X) := ⟨blz HR.out.1 hbX⟩
      obtain ⟨x0, x1⟩ := HX.out X BX.out
      have HXE : Bx (_ = X) := ⟨hX⟩
      rw [← hX] at d0 d1 d2 x0 x1
      clear hX hbX hkX
      by_cases h1 : i = me
      · subst h1
        have HN : Bx (ptF i ⟨xc, xs⟩ (i + 1) (s.drop (i + 1)) = ptI s i ⟨xc, xs⟩) := ⟨by rw [← HR.out.2, HD.out, if_neg (fun h => h.1 rfl)]⟩
        go_wp2
        rw [HXE.out]
        go_roundg (s.length + 1 - (i + 1))
        case measure => omega
        case rel => exact ⟨i + 1, rfl, by omega, by simp, ⟨BX.out, HN.out⟩⟩
      · have g1 : ((i : Int) == (me : Int)) = false := beq_eq_false_iff_ne.2 (by omega)
        cases aw with
        | true =>
          have HN : Bx (ptF me ⟨xc, xs⟩ (i + 1) (s.drop (i + 1)) = ptI s me ⟨xc, xs⟩) := ⟨by rw [← HR.out.2, HD.out, if_neg (fun h => by cases h.2.1)]⟩
          go_wp2
          rw [HXE.out]
          go_roundg (s.length + 1 - (i + 1))
          case measure => omega
          case rel => exact ⟨i + 1, rfl, by omega, by simp, ⟨BX.out, HN.out⟩⟩
        | false =>
          by_cases h3 : xc = 0
          · subst h3
            have HN : Bx (ptF me ⟨0, xs⟩ (i + 1) (s.drop (i + 1)) = ptI s me ⟨0, xs⟩) := ⟨by rw [← HR.out.2, HD.out, if_neg (fun h => h.2.2.1 rfl)]⟩
            go_wp2
            rw [HXE.out]
            go_roundg (s.length + 1 - (i + 1))
            case measure => omega
            case rel => exact ⟨i + 1, rfl, by omega, by simp, ⟨BX.out, HN.out⟩⟩
          · have g3 : (xc == 0) = false := beq_eq_false_iff_ne.2 h3
            go_wp2
            rw [HXE.out]
            obtain ⟨R, hR⟩ : ∃ R, R = wr.heap.size := ⟨_, rfl⟩
            rw [← hR] at HCE ⊢
            have HRR : Bx (ptF me ⟨xc, xs⟩ i (s.drop i) = ptI s me ⟨xc, xs⟩) := ⟨HR.out.2⟩
            clear d0 d1 d2 x0 x1 HXE HR c0 c1 c2 c3 hR
            go_loopg [34] (arms.length + 1) (fun g v34 wr => ∃ j : Nat, g = arms.length + 1 - j ∧ j ≤ arms.length ∧ v34 = .int .i64 (j : Nat) ∧ Bx (Below X.heap.size X wr ∧ (arms.drop j).any (fitH ⟨xc, xs⟩) = arms.any (fitH ⟨xc, xs⟩)))
            case atStart => exact ⟨0, by simp, by omega, rfl, ⟨Below.refl _ _, by simp⟩⟩
            case round =>
              obtain ⟨j, hgj, hjl, rfl, HJ⟩ := hrel
              by_cases hjt : j < arms.length
              · obtain ⟨ab, ao, rfl, _, hac⟩ := HAR.out.at_ j hjt
                obtain ⟨y0, y1⟩ := hac wr (blz BW.out (blz BX.out HJ.out.1))
                have HE : Bx ((arms.drop j).any (fitH ⟨xc, xs⟩) = (fitH ⟨xc, xs⟩ arms[j] || (arms.drop (j + 1)).any (fitH ⟨xc, xs⟩))) := ⟨by rw [List.drop_eq_getElem_cons hjt, List.any_cons]⟩
                clear hac
                generalize arms[j] = y at *
                obtain ⟨yc, ys⟩ := y
                simp only at y0 y1
                obtain ⟨V, hV⟩ : ∃ V, wr.alloc (.cells #[.int .i64 yc, .bool ys] 58) = V := ⟨_, rfl⟩
                have hbV : Below wr.heap.size wr V := by rw [← hV]; exact below1 _ _
                have hkV : V.heap[wr.heap.size]? = some (.cells #[.int .i64 yc, .bool ys] 58 (0, 0)) := by rw [← hV]; exact World.alloc_heap_new _ _
                have m0 : V.cell? ⟨wr.heap.size, 0, none⟩ = some (.int .i64 yc) := cell_of hkV rfl
                have m1 : V.cell? ⟨wr.heap.size, 1, none⟩ = some (.bool ys) := cell_of hkV rfl
                have BV : Bx (Below X.heap.size X V) := ⟨blz HJ.out.1 hbV⟩
                obtain ⟨n0, n1⟩ := HX.out V (blz BX.out BV.out)
                obtain ⟨d0, d1, d2⟩ := HCE.out V BV.out
                have HVE : Bx (_ = V) := ⟨hV⟩
                rw [← hV] at m0 m1 n0 n1 d0
                have HK : Bx (fitH ⟨xc, xs⟩ ⟨yc, ys⟩ = (yc == xc && (ys != xs))) := ⟨rfl⟩
                clear hV hbV hkV d1 d2
                cases hc1 : (yc == xc) with
                | false =>
                  have HN : Bx ((arms.drop (j + 1)).any (fitH ⟨xc, xs⟩) = arms.any (fitH ⟨xc, xs⟩)) := ⟨by rw [← HJ.out.2, HE.out, HK.out, hc1, Bool.false_and, Bool.false_or]⟩
                  go_wp2
                  rw [HVE.out]
                  go_roundg (arms.length + 1 - (j + 1))
                  case measure => omega
                  case rel => exact ⟨j + 1, rfl, by omega, by simp, ⟨BV.out, HN.out⟩⟩
                | true =>
                  cases ys <;> cases xs
                  all_goals first
                    | (have HN : Bx ((arms.drop (j + 1)).any (fitH ⟨xc, _⟩) = arms.any (fitH ⟨xc, _⟩)) := ⟨by rw [← HJ.out.2, HE.out, HK.out, hc1]; rfl⟩
                       go_wp2
                       rw [HVE.out]
                       go_roundg (arms.length + 1 - (j + 1))
                       case measure => omega
                       case rel => exact ⟨j + 1, rfl, by omega, by simp, ⟨BV.out, HN.out⟩⟩)
                    | (have HF : Bx (ptI s me ⟨xc, _⟩ = some id) := ⟨by rw [← HRR.out, HD.out, if_pos ⟨h1, by trivial, h3, by rw [← HJ.out.2, HE.out, HK.out, hc1]; rfl⟩]⟩
                       go_wp2
                       rw [HVE.out]
                       exact bodyPost_ret (v := .tuple #[.int .i64 id, .bool true]) (by simp [results, Try.results96, go_sem]) rfl ⟨by rw [HF.out]; rfl, blz BW.out (blz BX.out BV.out)⟩)
              · have hje : j = arms.length := by omega
                subst hje
                have HN : Bx (ptF me ⟨xc, xs⟩ (i + 1) (s.drop (i + 1)) = ptI s me ⟨xc, xs⟩) := ⟨by
                  rw [← HRR.out, HD.out, if_neg (fun h => ?_)]
                  have h5 := h.2.2.2
                  rw [← HJ.out.2, List.drop_length] at h5
                  cases h5⟩
                go_wp2
                go_roundg (s.length + 1 - (i + 1))
                case measure => omega
                case rel => exact ⟨i + 1, rfl, by omega, by simp, ⟨blz BX.out HJ.out.1, HN.out⟩⟩
    · have hie : i = s.length := by omega
      subst hie
      have HF : Bx (ptI s me ⟨xc, xs⟩ = none) := ⟨by rw [← HR.out.2, List.drop_length]; rfl⟩
      go_wp2
      exact bodyPost_ret (v := .tuple #[.int .i64 0, .bool false]) (by simp [results, Try.results96, go_sem]) rfl ⟨by rw [HF.out]; rfl, blz BW.out HR.out.1⟩
end Go.Proofs.Ytjabdhmkibahlaa
