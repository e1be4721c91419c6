import Derived.Test.YtjabdhmkibahlaaCEFa
namespace Go.Proofs.Ytjabdhmkibahlaa
open Go.RowKit Go.MapKept Go.ChangeMaps Go.WideShapes
set_option linter.unusedVariables false
set_option linter.unusedSimpArgs false

theorem ha_prep {w Y YN Z : World} {m ab kb : Nat} {V : Hd → Value} {A : Hd → List Int} {own : Nat → Option Hd} {id ch : Int} {sd : Bool} {v1 v2 v3 : Value} (h : HaW w.heap.size Y w.heap.size m V A own ∧ Y.heap[kb]? = some (.cells #[.int .i64 ch, .bool sd] 58 (0, 0)) ∧ Y.heap[ab]? = some (.cells #[.int .i64 id, v1, v2, v3] 53 (0, 0)) ∧ Below w.heap.size w Y) (hb : Below Y.heap.size Y YN) (hZ : (YN.alloc (.cells #[.int .i64 id] 3)).drew = Z) :
    Bx (HaW w.heap.size Z w.heap.size m V A own ∧ Z.heap[YN.heap.size]? = some (.cells #[.int .i64 id] 3 (0, 0)) ∧ Below w.heap.size w Z ∧ Z.heap[ab]? = some (.cells #[.int .i64 id, v1, v2, v3] 53 (0, 0)) ∧ Z.heap[kb]? = some (.cells #[.int .i64 ch, .bool sd] 58 (0, 0))) ∧
    YN.cell? ⟨kb, 0, none⟩ = some (.int .i64 ch) ∧ YN.cell? ⟨kb, 1, none⟩ = some (.bool sd) ∧ YN.cell? ⟨ab, 0, none⟩ = some (.int .i64 id) ∧
    (YN.alloc (.cells #[.int .i64 id] 3)).cell? ⟨kb, 0, none⟩ = some (.int .i64 ch) ∧ (YN.alloc (.cells #[.int .i64 id] 3)).cell? ⟨kb, 1, none⟩ = some (.bool sd) ∧ (YN.alloc (.cells #[.int .i64 id] 3)).cell? ⟨ab, 0, none⟩ = some (.int .i64 id) := by
  obtain ⟨h1, h2, h3, h4⟩ := h
  have k2 := (hb.block kb (Array.getElem?_eq_some_iff.1 h2).1).trans h2
  have k3 := (hb.block ab (Array.getElem?_eq_some_iff.1 h3).1).trans h3
  have hbA : Below YN.heap.size YN (YN.alloc (.cells #[.int .i64 id] 3)) := below1 _ _
  have j2 := (hbA.block kb (Array.getElem?_eq_some_iff.1 k2).1).trans k2
  have j3 := (hbA.block ab (Array.getElem?_eq_some_iff.1 k3).1).trans k3
  have hbZ : Below YN.heap.size YN Z := by rw [← hZ]; exact hbA.drew
  have hbYZ := hb.trans (hbZ.mono hb.size)
  refine ⟨⟨h1.below hbYZ, by rw [← hZ]; exact World.alloc_heap_new _ _, h4.trans (hbYZ.mono h4.size), (hbZ.block ab (Array.getElem?_eq_some_iff.1 k3).1).trans k3, (hbZ.block kb (Array.getElem?_eq_some_iff.1 k2).1).trans k2⟩, cell_of k2 rfl, cell_of k2 rfl, cell_of k3 rfl, cell_of j2 rfl, cell_of j2 rfl, cell_of j3 rfl⟩
theorem HaI.more {w W : World} {n : Nat} {A : Hd → List Int} (h : HaI w W n A) : HaI w W (n + 1) A := by
  obtain ⟨m, V, own, h1, h2, h3, h4⟩ := h
  exact ⟨m, V, own, by omega, h2, fun c => Nat.le_succ_of_le (h3 c), h4⟩
set_option maxRecDepth 100000 in
set_option maxHeartbeats 4000000 in
theorem byHand_any (w : World) (p : Option Addr) (c : Nat) (s : List Ag) (h : AgsR w p c s) (ht : totA s ≤ 8589934592) : Calls Try.prog 76 #[.slice p s.length c] w fun e w' => ∃ n, n ≤ 8589934592 ∧ e = .returned (.map (some w.heap.size)) ∧ HaI w w' n (haD s) := by
  obtain ⟨i0, hi, iz0, iz1, iz2⟩ := info_parts infoI
  have hlc := h.len
  have hcm := h.max
  unfold maxLen at hcm
  have HS : Bx (AgsR w p c s) := ⟨h⟩
  have HT : Bx (totA s ≤ 8589934592) := ⟨ht⟩
  have hmm := @run_makeMap Try.prog
  obtain ⟨W, hW⟩ : ∃ W, w.alloc (.map #[] 0) = W := ⟨_, rfl⟩
  have HM : Bx (HaI w W 0 (haD [])) := ⟨0, fun _ => nV, fun _ => none, Nat.le_refl _, by rw [← hW]; exact HaW.new w _, fun c => Nat.le_refl _, (fun c x hx => by cases hx), by rw [← hW]; exact below1 _ _⟩
  have HWE : Bx (_ = W) := ⟨hW⟩
  clear h hW ht
  go_enter Try.func76, Try.ntmps76
  go_wp2
  rw [HWE.out]
  clear hmm
  go_loopg [13] (s.length + 1) (fun g v wr => ∃ i n, g = s.length + 1 - i ∧ i ≤ s.length ∧ v = .int .i64 (i : Nat) ∧ Bx (n ≤ totA (s.take i) ∧ HaI w wr n (haD (s.take i))))
  case atStart => exact ⟨0, 0, by simp, by omega, rfl, ⟨Nat.zero_le _, HM.out⟩⟩
  case round =>
    obtain ⟨i, n, hk, hil, rfl, HR⟩ := hrel
    clear HM HWE
    by_cases hlt : i < s.length
    · obtain ⟨b, o, ap, ac, hp, hc, rfl, hA, hcl⟩ := HS.out.at_ i hlt
      obtain ⟨hn0, m, V, own, hm0, hat, hlen, hel, hbr⟩ := HR.out
      obtain ⟨c0, c1, c2, c3⟩ := hcl wr hbr
      have HTK : Bx (s.take (i + 1) = s.take i ++ [s[i]]) := ⟨List.take_succ_eq_append_getElem hlt⟩
      have HAr : Bx (HdsR w ap ac s[i].arms ∧ I64 s[i].id) := ⟨hA.arms, hA.id⟩
      have a1 := hA.arms.len
      have a2 := hA.arms.max
      unfold maxLen at a2
      have hbd : n + s[i].arms.length ≤ 8589934591 := by
        have h1 := totA_take s i hlt
        have h2 : totA (s.take (i + 1)) ≤ totA s := by
          have := totA_app (s.take (i + 1)) (s.drop (i + 1))
          rw [List.take_append_drop] at this
          omega
        have := HT.out
        omega
      have htt : totA (s.take (i + 1)) = totA (s.take i) + (s[i].arms.length + s[i].held.length + 1) := totA_take s i hlt
      clear hcl hA HS HT
      generalize s[i] = a at *
      obtain ⟨id, aw, arms, held⟩ := a
      simp only at c0 c1 c2 c3 a1 hbd htt HAr
      obtain ⟨X, hX⟩ : ∃ X, wr.alloc (.cells #[.int .i64 id, .bool aw, .slice ap arms.length ac, .slice hp held.length hc] 53) = X := ⟨_, rfl⟩
      have hbX : Below wr.heap.size wr X := by rw [← hX]; exact below1 _ _
      have hkX : X.heap[wr.heap.size]? = some (.cells #[.int .i64 id, .bool aw, .slice ap arms.length ac, .slice hp held.length hc] 53 (0, 0)) := by rw [← hX]; exact World.alloc_heap_new _ _
      have d2 : X.cell? ⟨wr.heap.size, 2, none⟩ = some (.slice ap arms.length ac) := cell_of hkX rfl
      have HI : Bx (HaI w X n (haD (s.take i)) ∧ X.heap[wr.heap.size]? = some (.cells #[.int .i64 id, .bool aw, .slice ap arms.length ac, .slice hp held.length hc] 53 (0, 0))) := ⟨⟨m, V, own, hm0, hat.below hbX, hlen, hel, hbr.trans (hbX.mono hbr.size)⟩, hkX⟩
      have HXE : Bx (_ = X) := ⟨hX⟩
      have HN0 : Bx (n ≤ totA (s.take i)) := ⟨hn0⟩
      rw [← hX] at d2
      obtain ⟨ab, hab⟩ : ∃ ab, wr.heap.size = ab := ⟨_, rfl⟩
      have HAB : Bx (wr.heap.size = ab) := ⟨hab⟩
      rw [hab] at HI
      clear hX hbX hkX HR hbr hat hlen hel hm0 hn0 hab
      go_wp2
      rw [HXE.out, HAB.out]
      go_loopg [20] (arms.length + 1) (fun g v wr => ∃ j : Nat, g = arms.length + 1 - j ∧ j ≤ arms.length ∧ v = .int .i64 (j : Nat) ∧ Bx (HaI w wr (n + j) (haArms (haD (s.take i)) id (arms.take j)) ∧ wr.heap[ab]? = some (.cells #[.int .i64 id, .bool aw, .slice ap arms.length ac, .slice hp held.length hc] 53 (0, 0))))
      case atStart => exact ⟨0, by simp, by omega, rfl, HI⟩
      case round =>
        obtain ⟨j, hgj, hjl, rfl, HR⟩ := hrel
        clear HI
        by_cases hltj : j < arms.length
        · obtain ⟨hb, ho, rfl, h64, hcl⟩ := HAr.out.1.at_ j hltj
          obtain ⟨⟨m, V, own, hm0, hat, hlen, hel, hbr⟩, hkA⟩ := HR.out
          obtain ⟨q0, q1⟩ := hcl wr hbr
          have HTJ : Bx (haArms (haD (s.take i)) id (arms.take (j + 1)) = haStep id (haArms (haD (s.take i)) id (arms.take j)) arms[j]) := ⟨by rw [List.take_succ_eq_append_getElem hltj, haArms_snoc]⟩
          clear hcl
          generalize arms[j] = h at *
          obtain ⟨ch, sd⟩ := h
          simp only at q0 q1 h64
          generalize haArms (haD (s.take i)) id (arms.take j) = A at *
          obtain ⟨Y, hY⟩ : ∃ Y, wr.alloc (.cells #[.int .i64 ch, .bool sd] 58) = Y := ⟨_, rfl⟩
          have hbY : Below wr.heap.size wr Y := by rw [← hY]; exact below1 _ _
          have hkY : Y.heap[wr.heap.size]? = some (.cells #[.int .i64 ch, .bool sd] 58 (0, 0)) := by rw [← hY]; exact World.alloc_heap_new _ _
          have hkA2 := (hbY.block ab (Array.getElem?_eq_some_iff.1 hkA).1).trans hkA
          have r0 : Y.cell? ⟨wr.heap.size, 0, none⟩ = some (.int .i64 ch) := cell_of hkY rfl
          have r0' : Y.cell? ⟨wr.heap.size, 1, none⟩ = some (.bool sd) := cell_of hkY rfl
          have r1 : Y.cell? ⟨ab, 0, none⟩ = some (.int .i64 id) := cell_of hkA2 rfl
          have hatY := hat.below hbY
          have hlk := hatY.map.look ⟨ch, sd⟩ h64
          have HRow : Bx (Y.ownsRow w.heap.size 3 1 (V ⟨ch, sd⟩) (A ⟨ch, sd⟩).length (rowC (A ⟨ch, sd⟩))) := ⟨hatY.row ⟨ch, sd⟩⟩
          have hEl := hel ⟨ch, sd⟩
          have hbwY : Below w.heap.size w Y := hbr.trans (hbY.mono hbr.size)
          have HYI : Bx (HaI w Y (n + j) A ∧ Y.heap[ab]? = some (.cells #[.int .i64 id, .bool aw, .slice (some ⟨hb, ho, none⟩) arms.length ac, .slice hp held.length hc] 53 (0, 0))) := ⟨⟨m, V, own, hm0, hatY, hlen, hel, hbwY⟩, hkA2⟩
          have HYI2 : ∀ k, Bx (HaI w (Y.drewN k) (n + j) A ∧ (Y.drewN k).heap[ab]? = some (.cells #[.int .i64 id, .bool aw, .slice (some ⟨hb, ho, none⟩) arms.length ac, .slice hp held.length hc] 53 (0, 0))) := fun k => ⟨⟨m, V, own, hm0, hatY.below (below_drewN (Below.refl _ _) k), hlen, hel, below_drewN hbwY k⟩, hkA2⟩
          have HYE : Bx (_ = Y) := ⟨hY⟩
          have HLen : Bx (m ≤ n + j ∧ (∀ c, (A c).length ≤ n + j) ∧ ∀ c, ∀ x ∈ A c, I64 x) := ⟨hm0, hlen, hel⟩
          have HAT : Bx (HaW w.heap.size Y w.heap.size m V A own ∧ Y.heap[wr.heap.size]? = some (.cells #[.int .i64 ch, .bool sd] 58 (0, 0)) ∧ Y.heap[ab]? = some (.cells #[.int .i64 id, .bool aw, .slice (some ⟨hb, ho, none⟩) arms.length ac, .slice hp held.length hc] 53 (0, 0)) ∧ Below w.heap.size w Y) := ⟨hatY, hkY, hkA2, hbwY⟩
          have HVS : Bx (∃ vp vd, V ⟨ch, sd⟩ = .slice vp (A ⟨ch, sd⟩).length vd ∧ IntsR Y vp vd (A ⟨ch, sd⟩)) := ⟨by
            rcases HRow.out.2 with ⟨x1, x2⟩ | ⟨g, cap, cur, x1, _⟩
            · exact ⟨none, 0, by rw [x1, x2], by omega, by simp [maxLen], fun i hi => by omega⟩
            · have h1 := HRow.out
              rw [x1] at h1
              exact ⟨_, _, x1, ints_own h1 hEl⟩⟩
          obtain ⟨vp, vd, hVe, hVr⟩ := HVS.out
          have HVE : Bx (V ⟨ch, sd⟩ = .slice vp (A ⟨ch, sd⟩).length vd) := ⟨hVe⟩
          rw [hVe] at hlk
          simp only at hlk
          have v1 := hVr.len
          have v2 := hVr.max
          unfold maxLen at v2
          clear hkA hkA2 hatY hat hlen hel hbr hbY hkY HR hm0 hbwY HRow HVS hVe hEl
          by_cases hc0 : ch = 0
          · subst hc0
            have HE : Bx (haStep id A ⟨0, sd⟩ = A) := ⟨if_neg (fun h => h.1 rfl)⟩
            go_wp2
            go_quiet (fail)
            go_wp2
            go_roundg (arms.length + 1 - (j + 1))
            case measure => omega
            case rel => exact ⟨j + 1, rfl, by omega, by simp, ⟨by rw [HTJ.out, HE.out]; exact ((HYI2 nq).out.1).more, (HYI2 nq).out.2⟩⟩
          · have hc0' : (ch != 0) = true := by simpa using hc0
            have hA0 : A ⟨ch, sd⟩ = [] ∨ ∃ pre x, A ⟨ch, sd⟩ = pre ++ [x] := by
              rcases List.eq_nil_or_concat (A ⟨ch, sd⟩) with h | ⟨pre, x, h⟩
              · exact .inl h
              · exact .inr ⟨pre, x, by simpa using h⟩
            obtain ⟨L, hL⟩ : ∃ L, (A ⟨ch, sd⟩).length = L := ⟨_, rfl⟩
            have HLE : Bx ((A ⟨ch, sd⟩).length = L) := ⟨hL⟩
            rw [hL] at hlk v1
            rcases hA0 with hA0 | ⟨pre, x, hA0⟩
            · have HE : Bx (haStep id A ⟨ch, sd⟩ = updH A ⟨ch, sd⟩ (A ⟨ch, sd⟩ ++ [id])) := ⟨if_pos ⟨hc0, by rw [hA0]; simp⟩⟩
              obtain rfl : L = 0 := by rw [← hL, hA0]; rfl
              clear hL hA0 hc0 hVr
              go_wp2
              go_quiet (fail)
              go_wp2
              obtain ⟨YN, hYN⟩ : ∃ X, X = Y.drewN nq := ⟨_, rfl⟩
              rw [← hYN]
              have hbN : Below Y.heap.size Y YN := by rw [hYN]; exact below_drewN (Below.refl _ _) _
              obtain ⟨Z, hZ⟩ : ∃ Z, (YN.alloc (.cells #[.int .i64 id] 3)).drew = Z := ⟨_, rfl⟩
              obtain ⟨HZ, r0, r0', r1, r2, r2', r3⟩ := ha_prep HAT.out hbN hZ
              have HZE : Bx (_ = Z) := ⟨hZ⟩
              have hZs : w.heap.size ≤ Z.heap.size := HZ.out.2.2.1.size
              have hlA := HLen.out.2.1 ⟨ch, sd⟩
              rw [HLE.out] at hlA
              clear hZ hbN hYN hlk
              go_region_law (first
                | (rw [HZE.out]; refine step_app rfl (.tmp 48) (.tmp 51) 45 rfl w.heap.size 3 i0 (.int .i64 0) 1 8 Try.underlying45 hi iz0 iz1 iz2 rfl (by decide) (.slice vp (0) vd) (0) (rowC (A ⟨ch, sd⟩)) rfl (by have := HZ.out.1.row ⟨ch, sd⟩; rw [HVE.out, HLE.out] at this; exact this) (some ⟨YN.heap.size, 0, none⟩) 1 1 [.int .i64 id] rfl rfl (fun _ => ⟨_, rfl, block_cells _ _ _ 3 HZ.out.2.1⟩) (by simp [Value.oneCell']) (by unfold maxLen; omega) (by omega) hZs ?_; intro v9 w9 hown9 hgrow9 hv9; obtain ⟨⟨r4, r5⟩, w10, hput, HF⟩ := ha_put (c := ⟨ch, sd⟩) HZ.out.1 HLen.out h64 HAr.out.2 (by omega) HZ.out.2.2.1 HZ.out.2.2.2.1 rfl HZ.out.2.2.2.2 (by rw [HLE.out]; exact hown9) (by rw [HVE.out, HLE.out]; exact hgrow9) (by rw [HVE.out, HLE.out]; exact hv9); simp only at r4 r5 hput; clear hown9 hgrow9 hv9))
              all_goals
                go_wp2
                go_roundg (arms.length + 1 - (j + 1))
                case measure => omega
                case rel => exact ⟨j + 1, rfl, by omega, by simp, ⟨by rw [HTJ.out, HE.out]; exact HF.out.1, HF.out.2⟩⟩
            · obtain rfl : L = pre.length + 1 := by rw [← hL, hA0]; simp
              have hlast : ∃ lb lo, vp = some ⟨lb, lo, none⟩ ∧ Y.cell? ⟨lb, lo + pre.length, none⟩ = some (.int .i64 x) := by
                obtain ⟨lb, lo, e, _, h2⟩ := hVr.at_ pre.length (by rw [hA0]; simp)
                refine ⟨lb, lo, e, ?_⟩
                have := h2 Y (Below.refl _ _)
                rw [this]
                simp [hA0]
              obtain ⟨lb, lo, rfl, hlc⟩ := hlast
              have hp0 : ((pre.length : Int) + 1 == 0) = false := by rw [beq_eq_false_iff_ne]; omega
              have hp1 : (pre.length : Int) < ↑pre.length + 1 := by omega
              by_cases hx : x = id
              · have HE : Bx (haStep id A ⟨ch, sd⟩ = A) := ⟨if_neg (fun h => h.2 (by rw [hA0, ← hx]; simp))⟩
                subst hx
                clear hL hA0 hc0 hVr
                go_wp2
                go_quiet (fail)
                go_wp2
                go_roundg (arms.length + 1 - (j + 1))
                case measure => omega
                case rel => exact ⟨j + 1, rfl, by omega, by simp, ⟨by rw [HTJ.out, HE.out]; exact ((HYI2 nq).out.1).more, (HYI2 nq).out.2⟩⟩
              · have hx' : (x != id) = true := by simpa using hx
                have HE : Bx (haStep id A ⟨ch, sd⟩ = updH A ⟨ch, sd⟩ (A ⟨ch, sd⟩ ++ [id])) := ⟨if_pos ⟨hc0, by rw [hA0]; simpa using hx⟩⟩
                clear hL hA0 hc0 hVr hx
                go_wp2
                go_quiet (fail)
                go_wp2
                obtain ⟨YN, hYN⟩ : ∃ X, X = Y.drewN nq := ⟨_, rfl⟩
                rw [← hYN]
                have hbN : Below Y.heap.size Y YN := by rw [hYN]; exact below_drewN (Below.refl _ _) _
                obtain ⟨Z, hZ⟩ : ∃ Z, (YN.alloc (.cells #[.int .i64 id] 3)).drew = Z := ⟨_, rfl⟩
                obtain ⟨HZ, r0, r0', r1, r2, r2', r3⟩ := ha_prep HAT.out hbN hZ
                have HZE : Bx (_ = Z) := ⟨hZ⟩
                have hZs : w.heap.size ≤ Z.heap.size := HZ.out.2.2.1.size
                have hlA := HLen.out.2.1 ⟨ch, sd⟩
                rw [HLE.out] at hlA
                clear hZ hbN hYN hlk
                go_region_law (first
                  | (rw [HZE.out]; refine step_app rfl (.tmp 48) (.tmp 51) 45 rfl w.heap.size 3 i0 (.int .i64 0) 1 8 Try.underlying45 hi iz0 iz1 iz2 rfl (by decide) (.slice (some ⟨lb, lo, none⟩) (pre.length + 1) vd) (pre.length + 1) (rowC (A ⟨ch, sd⟩)) rfl (by have := HZ.out.1.row ⟨ch, sd⟩; rw [HVE.out, HLE.out] at this; exact this) (some ⟨YN.heap.size, 0, none⟩) 1 1 [.int .i64 id] rfl rfl (fun _ => ⟨_, rfl, block_cells _ _ _ 3 HZ.out.2.1⟩) (by simp [Value.oneCell']) (by unfold maxLen; omega) (by omega) hZs ?_; intro v9 w9 hown9 hgrow9 hv9; obtain ⟨⟨r4, r5⟩, w10, hput, HF⟩ := ha_put (c := ⟨ch, sd⟩) HZ.out.1 HLen.out h64 HAr.out.2 (by omega) HZ.out.2.2.1 HZ.out.2.2.2.1 rfl HZ.out.2.2.2.2 (by rw [HLE.out]; exact hown9) (by rw [HVE.out, HLE.out]; exact hgrow9) (by rw [HVE.out, HLE.out]; exact hv9); simp only at r4 r5 hput; clear hown9 hgrow9 hv9))
                all_goals
                  go_wp2
                  go_roundg (arms.length + 1 - (j + 1))
                  case measure => omega
                  case rel => exact ⟨j + 1, rfl, by omega, by simp, ⟨by rw [HTJ.out, HE.out]; exact HF.out.1, HF.out.2⟩⟩
        · have hje : j = arms.length := by omega
          subst hje
          rw [List.take_length] at HR
          have HF : Bx (n + arms.length ≤ totA (s.take (i + 1)) ∧ HaI w wr (n + arms.length) (haD (s.take (i + 1)))) := ⟨by have := HN0.out; omega, by rw [HTK.out, haD, haF_snoc]; exact HR.out.1⟩
          clear HR
          go_wp2
          go_roundg (s.length + 1 - (i + 1))
          case measure => omega
          case rel => exact ⟨i + 1, _, rfl, by omega, by simp, HF⟩
    · have hie : i = s.length := by omega
      subst hie
      rw [List.take_length] at HR
      have HT2 := HT.out
      have hn := HR.out.1
      go_wp2
      go_ret
      exact ⟨n, by omega, rfl, HR.out.2⟩
end Go.Proofs.Ytjabdhmkibahlaa
