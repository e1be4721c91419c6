import Derived.Test.YtjabdhmkibahlaaCHG
namespace Go.Proofs.Ytjabdhmkibahlaa
open Go.RowKit
set_option linter.unusedVariables false
set_option linter.unusedSimpArgs false

set_option maxRecDepth 100000 in
set_option maxHeartbeats 16000000 in
/-- spoils, of agents of one's own: their lists alone are turned -/
theorem spoils_any (W : World) (H T : Nat) (v : Value) (gs : List Ag) (cs : List Value) (ho : W.ownsRow H 53 4 v gs.length cs) (hA : AgC W H gs cs) (hN : (blks cs).Nodup) (hT : ∀ g ∈ blks cs, g < T) (hTW : T ≤ W.heap.size) (hHW : H ≤ W.heap.size) (hgl : gs.length ≤ 2147483647) (hll : ∀ i, i < gs.length → (gs[i]?.getD zA).arms.length ≤ 2147483647 ∧ (gs[i]?.getD zA).held.length ≤ 2147483647) :
    Calls Try.prog 21 #[v] W fun e w' => e = .returned (.bool true) ∧ Below H W w' ∧ ∀ y, T ≤ y → y < W.heap.size → w'.heap[y]? = W.heap[y]? := by
  obtain ⟨pv, cv, b, cur, pa, ph, rfl, hpv, hcv, hS⟩ := SpA.of ho hA hN hT hTW hHW
  obtain ⟨al, hal⟩ : ∃ al : Nat → Nat, al = fun i => (gs[i]?.getD zA).arms.length := ⟨_, rfl⟩
  obtain ⟨dl, hdl⟩ : ∃ dl : Nat → Nat, dl = fun i => (gs[i]?.getD zA).held.length := ⟨_, rfl⟩
  have HPV : Bx (0 < gs.length → pv = some ⟨b, 0, none⟩) := ⟨hpv⟩
  have HLL : Bx (∀ i, i < gs.length → al i ≤ 2147483647 ∧ dl i ≤ 2147483647) := ⟨fun i hi => by rw [hal, hdl]; exact hll i hi⟩
  have HPA : Bx (∀ i, i < gs.length → (∃ a c, pa i = .slice a (al i) c) ∧ ∃ a c, ph i = .slice a (dl i) c) := ⟨fun i hi => by
    obtain ⟨a, c, e⟩ := owns_slice (hS.arms i hi)
    obtain ⟨a', c', e'⟩ := owns_slice (hS.held i hi)
    rw [hal, hdl]
    exact ⟨⟨a, c, e⟩, a', c', e'⟩⟩
  have H0 : Bx (∃ A D, SpA W W H T gs.length b cur A D pa ph ∧ LnD A D al dl gs.length ∧ ∀ j, j < 0 → MkD A D al dl j) := ⟨_, _, hS, fun j hj => by rw [hal, hdl]; exact ⟨rfl, rfl⟩, fun j hj => by omega⟩
  clear ho hA hN hT hpv hll hS hal hdl
  generalize gs.length = n at *
  clear gs
  obtain ⟨i0, hi0, iz0, iz1, iz2⟩ := info_parts infoI
  obtain ⟨j0, hj0, jz0, jz1, jz2⟩ := info_parts infoH
  go_enter Try.func21, Try.ntmps21
  go_wp2
  go_loopg [3] (n + 1) (fun g v3 wr => ∃ i : Nat, g = n + 1 - i ∧ i ≤ n ∧ v3 = .int .i64 i ∧ Bx (∃ A D, SpA W wr H T n b cur A D pa ph ∧ LnD A D al dl n ∧ ∀ j, j < i → MkD A D al dl j))
  case atStart => exact ⟨0, by simp, by omega, rfl, H0⟩
  case round =>
    obtain ⟨i, hg, hin, rfl, HI⟩ := hrel
    clear H0
    by_cases hlt : i < n
    · obtain rfl := HPV.out (by omega)
      obtain ⟨⟨ap, ac, ea⟩, hp, hc, eh⟩ := HPA.out i hlt
      have hlen := HLL.out i hlt
      have HEA : Bx (pa i = .slice ap (al i) ac) := ⟨ea⟩
      have HEH : Bx (ph i = .slice hp (dl i) hc) := ⟨eh⟩
      have hiI : (i : Int) < (n : Int) := by omega
      have hi0' : (0 : Int) ≤ (i : Int) := by omega
      obtain ⟨na, hna⟩ : ∃ na, na = al i := ⟨_, rfl⟩
      obtain ⟨nh, hnh⟩ : ∃ nh, nh = dl i := ⟨_, rfl⟩
      rw [← hna] at HEA
      rw [← hnh] at HEH
      rw [← hna, ← hnh] at hlen
      obtain ⟨hl1, hl2⟩ := hlen
      have HNA : Bx (na = al i ∧ nh = dl i) := ⟨hna, hnh⟩
      clear ea eh hna hnh
      have HI2 : Bx (∃ A D, SpA W wr H T n b cur A D pa ph ∧ LnD A D al dl n ∧ (∀ j, j < i → MkD A D al dl j) ∧ ∀ t, t < 0 → (D i)[t]? = some (-10 - (i : Int))) := (by
        obtain ⟨A, D, h1, h2, h3⟩ := HI.out
        exact ⟨A, D, h1, h2, h3, fun t ht => by omega⟩)
      clear HI
      go_wp2
      go_loopg [4] (nh + 1) (fun g v4 wr => ∃ k : Nat, g = nh + 1 - k ∧ k ≤ nh ∧ v4 = .int .i64 k ∧ Bx (∃ A D, SpA W wr H T n b cur A D pa ph ∧ LnD A D al dl n ∧ (∀ j, j < i → MkD A D al dl j) ∧ ∀ t, t < k → (D i)[t]? = some (-10 - (i : Int))))
      case atStart => exact ⟨0, by simp, by omega, rfl, HI2⟩
      case round =>
        obtain ⟨k, hg2, hkn, rfl, HK⟩ := hrel
        clear HI2
        obtain ⟨A, D, hS, hL, hM, hD⟩ := HK.out
        clear HK
        obtain ⟨e1, e2, ch, hkk⟩ := hS.gH hlt HEH.out
        by_cases hkl : k < nh
        · obtain ⟨g, rfl, hfz, x, hx, cx⟩ := hkk k hkl
          obtain ⟨W', hW'⟩ : ∃ W', wr.setCell ⟨g, k, none⟩ (.int .i64 (-10 - (i : Int))) = W' := ⟨_, rfl⟩
          have HN : Bx (∃ A D, SpA W W' H T n b cur A D pa ph ∧ LnD A D al dl n ∧ (∀ j, j < i → MkD A D al dl j) ∧ ∀ t, t < k + 1 → (D i)[t]? = some (-10 - (i : Int))) := ⟨A, _, hS.markH hlt HEH.out k _ hW', hL.setD i k _, fun j hj => (hM j hj).other rfl (updF_ne _ _ (by omega)), by rw [updF_self]; exact set_get (by omega) hD⟩
          have hkI : (k : Int) < (nh : Int) := by omega
          have hk0 : (0 : Int) ≤ (k : Int) := by omega
          clear hS hL hM hD hkk hx e1
          go_wp2
          go_roundg (nh + 1 - (k + 1))
          case measure => omega
          case rel => exact ⟨k + 1, rfl, by omega, by simp, HN⟩
        · have hke : k = nh := by omega
          subst hke
          have HI3 : Bx (∃ A D, SpA W wr H T n b cur A D pa ph ∧ LnD A D al dl n ∧ (∀ j, j < i → MkD A D al dl j) ∧ (∀ t, t < dl i → (D i)[t]? = some (-10 - (i : Int))) ∧ ∀ t, t < 0 → (A i)[t]? = some ⟨-10 - (i : Int), false⟩) := ⟨A, D, hS, hL, hM, by rw [← HNA.out.2]; exact hD, fun t ht => by omega⟩
          clear hS hL hM hD hkk e1
          go_wp2
          clear ch
          go_loopg [5] (na + 1) (fun g v5 wr => ∃ k : Nat, g = na + 1 - k ∧ k ≤ na ∧ v5 = .int .i64 k ∧ Bx (∃ A D, SpA W wr H T n b cur A D pa ph ∧ LnD A D al dl n ∧ (∀ j, j < i → MkD A D al dl j) ∧ (∀ t, t < dl i → (D i)[t]? = some (-10 - (i : Int))) ∧ ∀ t, t < k → (A i)[t]? = some ⟨-10 - (i : Int), false⟩))
          case atStart => exact ⟨0, by simp, by omega, rfl, HI3⟩
          case round =>
            obtain ⟨k2, hg3, hkn2, rfl, HK⟩ := hrel
            clear HI3
            obtain ⟨A, D, hS, hL, hM, hD, hAm⟩ := HK.out
            clear HK
            obtain ⟨e1, e2', ch, hkk⟩ := hS.gA hlt HEA.out
            by_cases hkl2 : k2 < na
            · obtain ⟨g, rfl, hth, x, hx, cx⟩ := hkk k2 hkl2
              obtain ⟨W', hW'⟩ : ∃ W', wr.setCells g (k2 * 2) [.int .i64 (-10 - (i : Int)), .bool false] = W' := ⟨_, rfl⟩
              have HN : Bx (∃ A D, SpA W W' H T n b cur A D pa ph ∧ LnD A D al dl n ∧ (∀ j, j < i → MkD A D al dl j) ∧ (∀ t, t < dl i → (D i)[t]? = some (-10 - (i : Int))) ∧ ∀ t, t < k2 + 1 → (A i)[t]? = some ⟨-10 - (i : Int), false⟩) := ⟨_, D, hS.markA hlt HEA.out (by omega) _ hW', hL.setA i k2 _, fun j hj => (hM j hj).other (updF_ne _ _ (by omega)) rfl, hD, by rw [updF_self]; exact set_get (by omega) hAm⟩
              have hkI : (k2 : Int) < (na : Int) := by omega
              have hk0 : (0 : Int) ≤ (k2 : Int) := by omega
              clear hS hL hM hD hAm hkk hx e1 cx
              go_wp2_with (refine wpList_put2x rfl (.tmp 57) (.tmp 56) rfl g (k2 * 2) (-10 - (i : Int)) rfl rfl hth hW' ?_)
              go_roundg (na + 1 - (k2 + 1))
              case measure => omega
              case rel => exact ⟨k2 + 1, rfl, by omega, by simp, HN⟩
            · have hke2 : k2 = na := by omega
              subst hke2
              have HN : Bx (∃ A D, SpA W wr H T n b cur A D pa ph ∧ LnD A D al dl n ∧ ∀ j, j < i + 1 → MkD A D al dl j) := ⟨A, D, hS, hL, fun j hj => by
                by_cases e : j = i
                · subst e; exact ⟨hD, by rw [← HNA.out.1]; exact hAm⟩
                · exact hM j (by omega)⟩
              clear hS hL hM hD hAm hkk e1
              go_wp2
              go_roundg (n + 1 - (i + 1))
              case measure => omega
              case rel => exact ⟨i + 1, rfl, by omega, by simp, HN⟩
    · have hie : i = n := by omega
      subst hie
      obtain ⟨A, D, hS, hL, hM⟩ := HI.out
      have HS2 : Bx (SpA W wr H T i b cur A D pa ph) := ⟨hS⟩
      have HLM : Bx (LnD A D al dl i ∧ ∀ j, j < i → MkD A D al dl j) := ⟨hL, hM⟩
      clear HI hS hL hM
      go_wp2
      go_loopg [6] (i + 1) (fun g v6 wr => ∃ t : Nat, g = i + 1 - t ∧ t ≤ i ∧ v6 = .int .i64 t ∧ Bx (SpA W wr H T i b cur A D pa ph))
      case atStart => exact ⟨0, by simp, by omega, rfl, HS2⟩
      case round =>
        obtain ⟨t, hg2, htn, rfl, HI⟩ := hrel
        clear HS2
        by_cases hlt2 : t < i
        · obtain rfl := HPV.out (by omega)
          obtain ⟨⟨ap, ac, ea⟩, hp, hc, eh⟩ := HPA.out t hlt2
          have hlen := HLL.out t hlt2
          obtain ⟨-, -, ca0, -⟩ := HI.out.gA hlt2 ea
          obtain ⟨-, -, ch0, -⟩ := HI.out.gH hlt2 eh
          have hLt := HLM.out.1 t hlt2
          have htI : (t : Int) < (i : Int) := by omega
          have ht0 : (0 : Int) ≤ (t : Int) := by omega
          have GH0 : Bx (Grn 3 1 H (ph t) (D t).length (rowC (D t)) W.heap.size 0 (.slice hp (dl t) hc) wr) := ⟨by rw [← eh]; exact Grn.start (HI.out.held t hlt2) fun g hgg => by have := HI.out.loH t hlt2 g hgg; omega⟩
          have GA0 : Bx (Grn 58 2 H (pa t) (A t).length (hdsC (A t)) W.heap.size 0 (.slice ap (al t) ac) wr) := ⟨by rw [← ea]; exact Grn.start (HI.out.arms t hlt2) fun g hgg => by have := HI.out.loA t hlt2 g hgg; omega⟩
          have HLB : Bx ((A t).length ≤ 2147483647 ∧ (D t).length ≤ 2147483647) := ⟨by omega, by omega⟩
          clear ea eh hLt hlen
          go_wp2
          clear ca0 ch0
          go_loopg [7, 8, 9] 10 (fun g v7 v8 v9 wr => ∃ (k : Nat) (vh va : Value), g = 10 - k ∧ k ≤ 9 ∧ v9 = .int .i64 k ∧ vh = v7 ∧ va = v8 ∧ Bx (SpA W wr H T i b cur A D pa ph ∧ Grn 3 1 H (ph t) (D t).length (rowC (D t)) W.heap.size k vh wr ∧ Grn 58 2 H (pa t) (A t).length (hdsC (A t)) W.heap.size k va wr))
          case atStart => exact ⟨0, _, _, rfl, by omega, rfl, rfl, rfl, ⟨HI.out, GH0.out, GA0.out⟩⟩
          case round =>
            obtain ⟨k, vh, va, hg3, hk9, rfl, rfl, rfl, HQ⟩ := hrel
            clear HI GH0 GA0
            by_cases hkl : k < 9
            · obtain ⟨hS, hGH, hGA⟩ := HQ.out
              have hz := hS.bel.size
              have hb1 := HLB.out
              obtain ⟨g1, c1, W3, r1, hG1, gr1⟩ := Grn.step Try.underlying45 hi0 iz0 iz1 iz2 rfl (by decide) hGH #[.int .i64 (-9000)] rfl (by simp [Value.oneCell']) (by unfold maxLen; omega) (by omega) (by omega) hz
              have hS3 := hS.grewH hlt2 hGH hG1 gr1
              obtain ⟨zs, hown⟩ := hGH.own
              have hGA3 := hGA.other gr1 (by decide) (owns_kind hown)
              have hz3 := hS3.bel.size
              obtain ⟨g2, c2, W4, r2, hG2, gr2⟩ := Grn.step Try.underlying51 hj0 jz0 jz1 jz2 rfl (by decide) hGA3 #[.int .i64 (-9000), .bool false] rfl (by simp [Value.oneCell']) (by unfold maxLen; omega) (by omega) (by omega) hz3
              have hS4 := hS3.grewA hlt2 hGA3 hG2 gr2
              obtain ⟨zs2, hown2⟩ := hGA3.own
              have hGH4 := hG1.other gr2 (by decide) (owns_kind hown2)
              obtain ⟨m1, hm1⟩ : ∃ m1, m1 = (D t).length + k + 1 := ⟨_, rfl⟩
              obtain ⟨m2, hm2⟩ : ∃ m2, m2 = (A t).length + k + 1 := ⟨_, rfl⟩
              have HN : Bx (SpA W W4 H T i b cur A D pa ph ∧ Grn 3 1 H (ph t) (D t).length (rowC (D t)) W.heap.size (k + 1) (.slice (some ⟨g1, 0, none⟩) m1 c1) W4 ∧ Grn 58 2 H (pa t) (A t).length (hdsC (A t)) W.heap.size (k + 1) (.slice (some ⟨g2, 0, none⟩) m2 c2) W4) := ⟨hS4, by rw [hm1]; exact hGH4, by rw [hm2]; exact hG2⟩
              rw [← hm1] at r1
              rw [← hm2] at r2
              have hkI : (k : Int) < 9 := by omega
              clear HQ hS hGH hGA hG1 gr1 hS3 hown hGA3 hG2 gr2 hS4 hown2 hGH4 hm1 hm2 hb1
              go_wp2_with (first
                | (at_builtin; refine wpList_appI rfl (.tmp 78) (.tmp 79) 45 rfl rfl rfl r1 ?_)
                | (at_builtin; refine wpList_appI rfl (.tmp 81) (.tmp 83) 51 rfl rfl rfl r2 ?_))
              go_roundg (10 - (k + 1))
              case measure => omega
              case rel => exact ⟨k + 1, _, _, rfl, by omega, by simp, rfl, rfl, HN⟩
            · have hke : k = 9 := by omega
              subst hke
              have HN : Bx (SpA W wr H T i b cur A D pa ph) := ⟨HQ.out.1⟩
              clear HQ
              go_wp2
              go_roundg (i + 1 - (t + 1))
              case measure => omega
              case rel => exact ⟨t + 1, rfl, by omega, by simp, HN⟩
        · have hte : t = i := by omega
          subst hte
          go_wp2
          obtain ⟨WF, hWF⟩ : ∃ WF, WF = wr := ⟨_, rfl⟩
          go_loopg [10] (t + 1) (fun g v10 wz => ∃ x : Nat, g = t + 1 - x ∧ x ≤ t ∧ v10 = .int .i64 x ∧ Bx (wz = WF))
          case atStart => exact ⟨0, by simp, by omega, rfl, ⟨hWF.symm⟩⟩
          case round =>
            obtain ⟨x, hg3, hxn, rfl, HQ⟩ := hrel
            rw [← hWF] at HI
            clear hWF
            rw [← HQ.out] at HI
            by_cases hlt3 : x < t
            · obtain rfl := HPV.out (by omega)
              obtain ⟨⟨ap, ac, ea⟩, hp, hc, eh⟩ := HPA.out x hlt3
              obtain ⟨hlA, hlD⟩ := HLL.out x hlt3
              obtain ⟨eA, eA2, ca0, kA⟩ := HI.out.gA hlt3 ea
              obtain ⟨eD, eD2, ch0, kD⟩ := HI.out.gH hlt3 eh
              obtain ⟨mD, mA⟩ := HLM.out.2 x hlt3
              have hxI : (x : Int) < (t : Int) := by omega
              have hx0 : (0 : Int) ≤ (x : Int) := by omega
              obtain ⟨na, hna⟩ : ∃ na, na = al x := ⟨_, rfl⟩
              obtain ⟨nh, hnh⟩ : ∃ nh, nh = dl x := ⟨_, rfl⟩
              rw [← hna] at ca0 kA eA eA2 mA hlA
              rw [← hnh] at ch0 kD eD eD2 mD hlD
              have HD : Bx (∀ k, k < nh → ∃ g, hp = some ⟨g, 0, none⟩ ∧ wr.cell? ⟨g, k, none⟩ = some (.int .i64 (-10 - (x : Int)))) := ⟨fun k hk => by
                obtain ⟨g, e, _, y, hy, cy⟩ := kD k hk
                rw [mD k hk] at hy
                cases hy
                exact ⟨g, e, cy⟩⟩
              have HAA : Bx (∀ k, k < na → ∃ g, ap = some ⟨g, 0, none⟩ ∧ wr.cell? ⟨g, k * 2, none⟩ = some (.int .i64 (-10 - (x : Int)))) := ⟨fun k hk => by
                obtain ⟨g, e, _, y, hy, cy⟩ := kA k hk
                rw [mA k hk] at hy
                cases hy
                exact ⟨g, e, cy⟩⟩
              have HCC : Bx (wr.cell? ⟨b, x * 4 + 3, none⟩ = some (.slice hp nh hc) ∧ wr.cell? ⟨b, x * 4 + 2, none⟩ = some (.slice ap na ac)) := ⟨ch0, ca0⟩
              clear ea eh eA eD kA kD mD mA hna hnh
              go_wp2
              obtain ⟨WG, hWG⟩ : ∃ WG, WG = wr := ⟨_, rfl⟩
              rw [← hWG] at HD HAA HCC
              go_loopg [11] (nh + 1) (fun g v11 wz => ∃ k : Nat, g = nh + 1 - k ∧ k ≤ nh ∧ v11 = .int .i64 k ∧ Bx (wz = WG))
              case atStart => exact ⟨0, by simp, by omega, rfl, ⟨hWG.symm⟩⟩
              case round =>
                obtain ⟨k, hg4, hkn, rfl, HV⟩ := hrel
                have HWW : Bx (WG = WF) := ⟨by rw [hWG]; exact HQ.out⟩
                clear hWG ca0 ch0
                obtain ⟨ch0, ca0⟩ := HCC.out
                rw [← HV.out] at ch0 ca0
                by_cases hkl : k < nh
                · obtain ⟨g, rfl, cz⟩ := HD.out k hkl
                  rw [← HV.out] at cz
                  have hkI : (k : Int) < (nh : Int) := by omega
                  have hk0 : (0 : Int) ≤ (k : Int) := by omega
                  clear HD HAA
                  go_wp2
                  go_roundg (nh + 1 - (k + 1))
                  case measure => omega
                  case rel => exact ⟨k + 1, rfl, by omega, by simp, HV⟩
                · have hke : k = nh := by omega
                  subst hke
                  go_wp2
                  obtain ⟨WJ, hWJ⟩ : ∃ WJ, WJ = wr := ⟨_, rfl⟩
                  go_loopg [12] (na + 1) (fun g v12 wz => ∃ k : Nat, g = na + 1 - k ∧ k ≤ na ∧ v12 = .int .i64 k ∧ Bx (wz = WJ))
                  case atStart => exact ⟨0, by simp, by omega, rfl, ⟨hWJ.symm⟩⟩
                  case round =>
                    obtain ⟨k2, hg5, hkn2, rfl, HU⟩ := hrel
                    have HWJ : Bx (wr = WG) := ⟨by rw [HU.out, hWJ]; exact HV.out⟩
                    clear hWJ ca0 ch0
                    obtain ⟨ch0, ca0⟩ := HCC.out
                    rw [← HWJ.out] at ch0 ca0
                    by_cases hkl2 : k2 < na
                    · obtain ⟨g, rfl, cz⟩ := HAA.out k2 hkl2
                      rw [← HWJ.out] at cz
                      have hkI : (k2 : Int) < (na : Int) := by omega
                      have hk0 : (0 : Int) ≤ (k2 : Int) := by omega
                      clear HD HAA
                      go_wp2
                      go_roundg (na + 1 - (k2 + 1))
                      case measure => omega
                      case rel => exact ⟨k2 + 1, rfl, by omega, by simp, HU⟩
                    · have hke2 : k2 = na := by omega
                      subst hke2
                      have HN : Bx (wr = WF) := ⟨by rw [HWJ.out]; exact HWW.out⟩
                      go_wp2
                      go_roundg (t + 1 - (x + 1))
                      case measure => omega
                      case rel => exact ⟨x + 1, rfl, by omega, by simp, HN⟩
            · have hxe : x = t := by omega
              subst hxe
              have HE : Bx (Below H W wr ∧ ∀ y, T ≤ y → y < W.heap.size → wr.heap[y]? = W.heap[y]?) := ⟨HI.out.bel, HI.out.far⟩
              go_wp2
              go_ret
              exact ⟨rfl, HE.out.1, HE.out.2⟩
end Go.Proofs.Ytjabdhmkibahlaa
