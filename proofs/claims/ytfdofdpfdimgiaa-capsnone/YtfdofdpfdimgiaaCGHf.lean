import Derived.Test.YtfdofdpfdimgiaaCGHe
namespace Go.Proofs.Ytfdofdpfdimgiaa
open Go.RowKit
set_option linter.unusedVariables false
set_option linter.unusedSimpArgs false

def AnyG (s : List Ag) : Prop := ∃ j, Good s j
def AllN (s : List Ag) (i : Nat) : Prop := ∀ j, j < i → ¬ Good s j
def ArmN (s : List Ag) (i : Nat) (l : List Hd) (a : Nat) : Prop := AllN s i ∧ ∀ j (h : j < l.length), j < a → ¬ GoodA s i l[j]
def KN (s : List Ag) (i : Nat) (h : Hd) (P : Prop) (k : Nat) : Prop := P ∧ ∀ j, j < k → ¬ Meets s i h j
set_option maxRecDepth 100000 in
set_option maxHeartbeats 4000000 in
theorem none_walk (w : World) (p : Option Addr) (c : Nat) (s : List Ag) (h : AgsR w p c s) (N : Nat) (hN1 : AnyG s → 0 < N) (hN2 : 0 < N → AnyG s) (hOK : chkI s = 0 → ∀ k (hk : k < s.length), s[k].awake = true → s[k].arms.length = 0)
    (HSH : Bx (∀ W, Calls Try.prog 10 #[] W fun e w' => e = .returned (.bool true) ∧ Below W.heap.size W w'))
    (HCK : Bx (totA s ≤ 2147483647 → ∀ W, Below w.heap.size w W → Calls Try.prog 12 #[.slice p s.length c] W fun e w' => e = .returned (.int .i64 (chkI s)) ∧ Below W.heap.size W w'))
    (HLK : Bx (totA s ≤ 2147483647 → chkI s = 0 → ∀ W, Below w.heap.size w W → Calls Try.prog 14 #[.slice p s.length c] W fun e w' => ∃ sp sc, e = .returned (.slice sp N sc) ∧ N ≤ 9000000000000 ∧ Below W.heap.size W w')) :
    Calls Try.prog 6 #[.slice p s.length c] w fun e w' => e = .returned (.bool true) ∧ Below w.heap.size w w' := by
  have hlc := h.len
  have hcm := h.max
  unfold maxLen at hcm
  have HS : Bx (AgsR w p c s) := ⟨h⟩
  have HN1 : Bx (AnyG s → 0 < N) := ⟨hN1⟩
  have HN2 : Bx (0 < N → AnyG s) := ⟨hN2⟩
  have HOK : Bx (chkI s = 0 → ∀ k (hk : k < s.length), s[k].awake = true → s[k].arms.length = 0) := ⟨hOK⟩
  clear h hN1 hN2 hOK
  have HBY : Bx (Calls Try.prog 9 #[.slice p s.length c] w fun e w' => BeyG s e ∧ w' = w) := ⟨beyond_any w p c s HS.out⟩
  go_enter Try.func6, Try.ntmps6
  have hch : chkI s = 0 ∨ chkI s = 140 := by unfold chkI; split; exact .inl rfl; exact .inr rfl
  have HC0 : Bx (chkI s = chkI s) := ⟨rfl⟩
  obtain ⟨q, hq⟩ : ∃ q, chkI s = q := ⟨_, rfl⟩
  rw [hq] at HCK HLK hch HOK
  clear hq HC0
  rcases hch with rfl | rfl
  · go_wp2_with (first
      | (go_at_call 9; refine Calls.mono HBY.out ?_; clear HBY; rintro e w1 ⟨⟨b1, rfl, hb1⟩, rfl⟩; have HT : Bx (b1 = false → totA s ≤ 2147483647) := ⟨hb1⟩; clear hb1; cases b1)
      | (go_at_call 10; refine Calls.mono (HSH.out _) ?_; rintro e w2 ⟨rfl, hb2⟩)
      | (go_at_call 12; refine Calls.mono (HCK.out (HT.out (by trivial)) w2 hb2) ?_; rintro e w3 ⟨rfl, hb3⟩; have B3 : Bx (Below w1.heap.size w1 w3) := ⟨hb2.trans (hb3.mono hb2.size)⟩; clear hb2 hb3))
    · have HL2 : Bx (∀ W, Below w1.heap.size w1 W → Calls Try.prog 14 #[.slice p s.length c] W fun e w' => ∃ sp sc, e = .returned (.slice sp N sc) ∧ N ≤ 9000000000000 ∧ Below W.heap.size W w') := ⟨HLK.out (HT.out (by trivial)) (by trivial)⟩
      replace HOK : Bx (∀ k (hk : k < s.length), s[k].awake = true → s[k].arms.length = 0) := ⟨HOK.out (by trivial)⟩
      clear HLK HCK HSH HT
      go_loopg [3, 4] (s.length + 1) (fun g v3 v4 wr => ∃ (i : Nat) (x : Bool), g = s.length + 1 - i ∧ i ≤ s.length ∧ i ≤ 300 ∧ v3 = .bool x ∧ v4 = .int .i64 i ∧ Bx (AnyI (AnyG s) (AllN s i) x ∧ Below w1.heap.size w1 wr))
      case atStart => exact ⟨0, false, by simp, by omega, by omega, rfl, rfl, ⟨⟨(fun h => by cases h), (fun _ j hj => by omega)⟩, B3.out⟩⟩
      case round =>
        obtain ⟨i, x, hg, hil, hi3, rfl, rfl, HX⟩ := hrel
        clear B3
        by_cases hlt : i < s.length
        · by_cases hlt3 : i < 300
          · obtain ⟨b, o, ap, ac, hp, hc, rfl, hA, hcl⟩ := HS.out.at_ i hlt
            have HCL : Bx (∀ X, Below w1.heap.size w1 X → X.cell? ⟨b, o + i * 4 + 2, none⟩ = some (.slice ap s[i].arms.length ac)) := ⟨fun X hX => (hcl X hX).2.2.1⟩
            have HAR : Bx (HdsR w1 ap ac s[i].arms) := ⟨hA.arms⟩
            have HGI : Bx (∀ j (hj : j < s[i].arms.length), GoodA s i s[i].arms[j] → Good s i) := ⟨fun j hj hq => ⟨hlt, _, List.getElem_mem hj, hq⟩⟩
            have HGN : Bx ((∀ j (hj : j < s[i].arms.length), ¬ GoodA s i s[i].arms[j]) → ¬ Good s i) := ⟨fun hn ⟨_, y, hy, hq⟩ => by
              obtain ⟨j, hj, rfl⟩ := List.mem_iff_getElem.1 hy
              exact hn j hj hq⟩
            have a1 := hA.arms.len
            have a2 := hA.arms.max
            unfold maxLen at a2
            have g3 : decide ((i : Int) < 300) = true := by simp; omega
            clear hcl hA
            generalize s[i].arms = am at *
            go_wp2
            try simp only [g3]
            go_loopg [3, 5] (am.length + 1) (fun g v3 v5 wr => ∃ (a : Nat) (x : Bool), g = am.length + 1 - a ∧ a ≤ am.length ∧ v3 = .bool x ∧ v5 = .int .i64 a ∧ Bx (AnyI (AnyG s) (ArmN s i am a) x ∧ Below w1.heap.size w1 wr))
            case atStart => exact ⟨0, x, by simp, by omega, rfl, rfl, ⟨HX.out.1.to (fun hn => ⟨hn, fun j _ hj => by omega⟩), HX.out.2⟩⟩
            case round =>
              clear HX x
              obtain ⟨a, x, hga, hal, rfl, rfl, HX⟩ := hrel
              have cA := HCL.out wr HX.out.2
              by_cases hlta : a < am.length
              · obtain ⟨ab, ao, rfl, _, hcl⟩ := HAR.out.at_ a hlta
                obtain ⟨d0, d1⟩ := hcl wr HX.out.2
                have HGA : Bx (GoodA s i am[a] → AnyG s) := ⟨fun hq => ⟨i, HGI.out a hlta hq⟩⟩
                have HSTEP : Bx (ArmN s i am a → ¬ GoodA s i am[a] → ArmN s i am (a + 1)) := ⟨fun hn hq => ⟨hn.1, fun j hj hja => by
                  by_cases e : j = a
                  · subst e; exact hq
                  · exact hn.2 j hj (by omega)⟩⟩
                clear hcl
                generalize am[a] = h at *
                obtain ⟨ch, sd⟩ := h
                simp only at d0 d1
                obtain ⟨Y, hY⟩ : ∃ Y, wr.alloc (.cells #[.int .i64 ch, .bool sd] 53) = Y := ⟨_, rfl⟩
                have hbY : Below wr.heap.size wr Y := by rw [← hY]; exact below1 _ _
                have hkY : Y.heap[wr.heap.size]? = some (.cells #[.int .i64 ch, .bool sd] 53 (0, 0)) := by rw [← hY]; exact World.alloc_heap_new _ _
                have HH : Bx (∀ X, Below Y.heap.size Y X → X.cell? ⟨wr.heap.size, 0, none⟩ = some (.int .i64 ch) ∧ X.cell? ⟨wr.heap.size, 1, none⟩ = some (.bool sd)) := ⟨fun X hX => by
                  have e := (hX.block wr.heap.size (Array.getElem?_eq_some_iff.1 hkY).1).trans hkY
                  exact ⟨cell_of e rfl, cell_of e rfl⟩⟩
                have e0 : Y.cell? ⟨wr.heap.size, 0, none⟩ = some (.int .i64 ch) := cell_of hkY rfl
                have e1 : Y.cell? ⟨wr.heap.size, 1, none⟩ = some (.bool sd) := cell_of hkY rfl
                have BY : Bx (Below w1.heap.size w1 Y) := ⟨HX.out.2.trans (hbY.mono HX.out.2.size)⟩
                have HXP : Bx (AnyI (AnyG s) (ArmN s i am a) x) := ⟨HX.out.1⟩
                have HYE : Bx (_ = Y) := ⟨hY⟩
                rw [← hY] at e0 e1
                clear hkY hbY HX hY
                by_cases hc0 : ch = 0
                · subst hc0
                  have HF : Bx (AnyI (AnyG s) (ArmN s i am (a + 1)) x) := ⟨HXP.out.to (fun hn => HSTEP.out hn (fun hq => hq.1 rfl))⟩
                  go_wp2
                  rw [HYE.out]
                  go_roundg (am.length + 1 - (a + 1))
                  case measure => omega
                  case rel => exact ⟨a + 1, x, rfl, by omega, rfl, by simp, ⟨HF.out, BY.out⟩⟩
                · have hc0' : (ch == 0) = false := by simpa using hc0
                  cases x with
                  | true =>
                    have HG : Bx (AnyG s) := ⟨HXP.out.yes rfl⟩
                    clear hc0
                    go_wp2
                    rw [HYE.out]
                    go_loopg [3, 7] 1 (fun g v3 v7 wr => g = 1 ∧ v3 = .bool true ∧ v7 = .int .i64 0 ∧ Bx (wr = Y))
                    case atStart => exact ⟨rfl, rfl, rfl, ⟨rfl⟩⟩
                    case round =>
                      obtain ⟨_, rfl, rfl, HW⟩ := hrel
                      have BZ : Bx (Below w1.heap.size w1 wr) := ⟨by rw [HW.out]; exact BY.out⟩
                      clear HYE BY HW e0 e1
                      go_wp2
                      go_roundg (am.length + 1 - (a + 1))
                      case measure => omega
                      case rel => exact ⟨a + 1, true, rfl, by omega, rfl, by simp, ⟨⟨fun _ => HG.out, fun h => by cases h⟩, BZ.out⟩⟩
                  | false =>
                    have HPN : Bx (ArmN s i am a) := ⟨HXP.out.no rfl⟩
                    clear HXP
                    have hw : (wldI ⟨ch, sd⟩ = true ∧ (ch = 1 ∧ sd = false ∨ ch = 2 ∧ sd = true)) ∨ (wldI ⟨ch, sd⟩ = false ∧ (ch = 1 ∧ sd = true ∨ ch = 2 ∧ sd = false ∨ (ch == 1) = false ∧ (ch == 2) = false)) := by
                      by_cases h1 : ch = 1
                      · subst h1; rw [wld_1]; cases sd <;> simp
                      · by_cases h2 : ch = 2
                        · subst h2; rw [wld_2]; cases sd <;> simp
                        · have h1' : (ch == 1) = false := by simpa using h1
                          have h2' : (ch == 2) = false := by simpa using h2
                          exact .inr ⟨wld_no h1' h2' sd, .inr (.inr ⟨h1', h2'⟩)⟩
                    have HCN : Bx (ch ≠ 0) := ⟨hc0⟩
                    clear hc0
                    rcases hw with ⟨hw, hw2⟩ | ⟨hw, hw2⟩
                    · have HG : Bx (AnyG s) := ⟨HGA.out ⟨HCN.out, .inl hw⟩⟩
                      clear hw HCN
                      rcases hw2 with ⟨rfl, rfl⟩ | ⟨rfl, rfl⟩
                      · go_wp2
                        rw [HYE.out]
                        go_loopg [3, 7] 1 (fun g v3 v7 wr => g = 1 ∧ v3 = .bool true ∧ v7 = .int .i64 0 ∧ Bx (wr = Y))
                        case atStart => exact ⟨rfl, rfl, rfl, ⟨rfl⟩⟩
                        case round =>
                          obtain ⟨_, rfl, rfl, HW⟩ := hrel
                          have BZ : Bx (Below w1.heap.size w1 wr) := ⟨by rw [HW.out]; exact BY.out⟩
                          clear HYE BY HW e0 e1
                          go_wp2
                          go_roundg (am.length + 1 - (a + 1))
                          case measure => omega
                          case rel => exact ⟨a + 1, true, rfl, by omega, rfl, by simp, ⟨⟨fun _ => HG.out, fun h => by cases h⟩, BZ.out⟩⟩
                      · go_wp2
                        rw [HYE.out]
                        go_loopg [3, 7] 1 (fun g v3 v7 wr => g = 1 ∧ v3 = .bool true ∧ v7 = .int .i64 0 ∧ Bx (wr = Y))
                        case atStart => exact ⟨rfl, rfl, rfl, ⟨rfl⟩⟩
                        case round =>
                          obtain ⟨_, rfl, rfl, HW⟩ := hrel
                          have BZ : Bx (Below w1.heap.size w1 wr) := ⟨by rw [HW.out]; exact BY.out⟩
                          clear HYE BY HW e0 e1
                          go_wp2
                          go_roundg (am.length + 1 - (a + 1))
                          case measure => omega
                          case rel => exact ⟨a + 1, true, rfl, by omega, rfl, by simp, ⟨⟨fun _ => HG.out, fun h => by cases h⟩, BZ.out⟩⟩
                    · have HWN : Bx (wldI ⟨ch, sd⟩ = false) := ⟨hw⟩
                      clear hw
                      rcases hw2 with ⟨rfl, rfl⟩ | ⟨rfl, rfl⟩ | ⟨h1', h2'⟩
                      · as_aux_lemma =>
                          go_wp2
                          rw [HYE.out]
                          go_loopg [3, 7] (s.length + 1) (fun g v3 v7 wr => ∃ (k : Nat) (x : Bool), g = s.length + 1 - k ∧ k ≤ s.length ∧ v3 = .bool x ∧ v7 = .int .i64 k ∧ Bx (AnyI (AnyG s) (∀ j, j < k → ¬ Meets s i ⟨1, true⟩ j) x ∧ Below Y.heap.size Y wr))
                          case atStart => exact ⟨0, false, by simp, by omega, rfl, rfl, ⟨⟨fun h => (by cases h), fun _ j hj => (by omega)⟩, Below.refl _ _⟩⟩
                          case round =>
                            obtain ⟨k, x, hgk, hkl, rfl, rfl, HX⟩ := hrel
                            clear HYE
                            by_cases hltk : k < s.length
                            · cases x with
                              | true =>
                                have HG : Bx (AnyG s) := ⟨HX.out.1.yes rfl⟩
                                have BZ : Bx (Below w1.heap.size w1 wr) := ⟨BY.out.trans (HX.out.2.mono BY.out.size)⟩
                                clear BY HX
                                go_wp2
                                go_roundg (am.length + 1 - (a + 1))
                                case measure => omega
                                case rel => exact ⟨a + 1, true, rfl, by omega, rfl, by simp, ⟨⟨fun _ => HG.out, fun h => by cases h⟩, BZ.out⟩⟩
                              | false =>
                                have HKS : Bx (¬ Meets s i ⟨1, true⟩ k → ∀ j, j < k + 1 → ¬ Meets s i ⟨1, true⟩ j) := ⟨fun hn j hj => by
                                  by_cases e : j = k
                                  · subst e; exact hn
                                  · exact HX.out.1.no rfl j (by omega)⟩
                                have BWK : Bx (Below Y.heap.size Y wr) := ⟨HX.out.2⟩
                                clear HX
                                by_cases hki : k = i
                                · have HFK : Bx (AnyI (AnyG s) (∀ j, j < k + 1 → ¬ Meets s i ⟨1, true⟩ j) false) := ⟨⟨(fun h => by cases h), (fun _ => HKS.out (fun ⟨_, h2, _⟩ => h2 hki))⟩⟩
                                  subst hki
                                  clear HKS
                                  go_wp2
                                  go_roundg (s.length + 1 - (k + 1))
                                  case measure => omega
                                  case rel => exact ⟨k + 1, false, rfl, by omega, rfl, by simp, ⟨HFK.out, BWK.out⟩⟩
                                · have hki' : ((k : Int) == (i : Int)) = false := by simp; omega
                                  obtain ⟨kb, ko, kap, kac, khp, khc, ke, hKA, hkc⟩ := HS.out.at_ k hltk
                                  have HKC : Bx (∀ X, Below Y.heap.size Y X → X.cell? ⟨b, o + k * 4 + 1, none⟩ = some (.bool s[k].awake) ∧ X.cell? ⟨b, o + k * 4 + 2, none⟩ = some (.slice kap s[k].arms.length kac) ∧ X.cell? ⟨b, o + k * 4 + 3, none⟩ = some (.slice khp s[k].held.length khc)) := ⟨fun X hX => by
                                    cases ke
                                    exact (hkc X (BY.out.trans (hX.mono BY.out.size))).2⟩
                                  have HKA : Bx (HdsR Y kap kac s[k].arms) := ⟨hKA.arms.later BY.out⟩
                                  have HKH : Bx (IntsR Y khp khc s[k].held) := ⟨hKA.held.later BY.out⟩
                                  have HMH : Bx (s[k].awake = true → 1 ∈ s[k].held → AnyG s) := ⟨fun e1 e2 => HGA.out ⟨HCN.out, .inr ⟨k, hltk, hki, .inl ⟨e1, e2⟩⟩⟩⟩
                                  have HMB : Bx (∀ y ∈ s[k].arms, (y.chan = 1 ∧ y.send = !true) → AnyG s) := ⟨fun y hy e => HGA.out ⟨HCN.out, .inr ⟨k, hltk, hki, .inr ⟨y, hy, e.1, e.2⟩⟩⟩⟩
                                  have HNM : Bx ((s[k].awake = true → ∀ j (hj : j < s[k].held.length), s[k].held[j] ≠ 1) → (∀ j (hj : j < s[k].arms.length), ¬ (s[k].arms[j].chan = 1 ∧ s[k].arms[j].send = !true)) → ¬ Meets s i ⟨1, true⟩ k) := ⟨fun n1 n2 ⟨_, _, hm⟩ => by
                                    rcases hm with ⟨m1, m2⟩ | ⟨y, hy, y1, y2⟩
                                    · obtain ⟨j, hj, e⟩ := List.mem_iff_getElem.1 m2
                                      exact n1 m1 j hj e
                                    · obtain ⟨j, hj, rfl⟩ := List.mem_iff_getElem.1 hy
                                      exact n2 j hj ⟨y1, y2⟩⟩
                                  have HAO : Bx (s[k].awake = true → s[k].arms.length = 0) := ⟨HOK.out k hltk⟩
                                  have k1 := hKA.arms.len
                                  have k2 := hKA.arms.max
                                  have k3 := hKA.held.len
                                  have k4 := hKA.held.max
                                  unfold maxLen at k2 k4
                                  obtain ⟨f1, f2, f3⟩ := HKC.out wr BWK.out
                                  clear hkc ke hKA hki
                                  generalize s[k] = ak at *
                                  obtain ⟨aid, aw, am2, hl⟩ := ak
                                  simp only at HKC HKA HKH HMH HMB HNM HAO k1 k2 k3 k4 f1 f2 f3
                                  cases aw with
                                  | true =>
                                    have hae := HAO.out rfl
                                    have HNA : Bx ((∀ j (hj : j < hl.length), hl[j] ≠ 1) → ¬ Meets s i ⟨1, true⟩ k) := ⟨fun n1 => HNM.out (fun _ => n1) (fun j hj => by omega)⟩
                                    replace HMH : Bx (1 ∈ hl → AnyG s) := ⟨HMH.out rfl⟩
                                    rw [hae] at f2 HKC k1
                                    clear HNM HMB HKA HAO hae
                                    go_wp2
                                    go_loopg [3, 8] (hl.length + 1) (fun g v3 v8 wr => ∃ (cc : Nat) (x : Bool), g = hl.length + 1 - cc ∧ cc ≤ hl.length ∧ v3 = .bool x ∧ v8 = .int .i64 cc ∧ Bx (AnyI (AnyG s) (∀ j (hj : j < hl.length), j < cc → hl[j] ≠ 1) x ∧ Below Y.heap.size Y wr))
                                    case atStart => exact ⟨0, false, by simp, by omega, rfl, rfl, ⟨⟨(fun h => by cases h), (fun _ j hj hjb => by omega)⟩, BWK.out⟩⟩
                                    case round =>
                                      obtain ⟨cc, x, hgc, hcl, rfl, rfl, HX⟩ := hrel
                                      obtain ⟨f1, f2, f3⟩ := HKC.out wr HX.out.2
                                      by_cases hltc : cc < hl.length
                                      · obtain ⟨xb, xo, rfl, _, hcl⟩ := HKH.out.at_ cc hltc
                                        have q0 := hcl wr HX.out.2
                                        obtain ⟨g0, g1⟩ := HH.out wr HX.out.2
                                        have HMM : Bx (hl[cc] = 1 → AnyG s) := ⟨fun e => HMH.out (e ▸ List.getElem_mem hltc)⟩
                                        have BXW : Bx (Below Y.heap.size Y wr) := ⟨HX.out.2⟩
                                        have HXP : Bx _ := ⟨HX.out.1⟩
                                        clear hcl HX
                                        cases x with
                                        | true =>
                                          have HY1 : Bx (AnyG s) := ⟨HXP.out.yes rfl⟩
                                          clear HXP HMM
                                          go_wp2
                                          go_quiet (fail)
                                          go_wp2
                                          go_roundg (hl.length + 1 - (cc + 1))
                                          case measure => omega
                                          case rel => exact ⟨cc + 1, true, rfl, by omega, rfl, by simp, ⟨⟨(fun _ => HY1.out), (fun h => by cases h)⟩, below_drewN BXW.out _⟩⟩
                                        | false =>
                                          have HST : Bx (hl[cc] ≠ 1 → ∀ j (hj : j < hl.length), j < cc + 1 → hl[j] ≠ 1) := ⟨fun hn => fun j hj hjb => by
                                            by_cases e : j = cc
                                            · subst e; exact hn
                                            · exact HXP.out.no rfl j hj (by omega)⟩
                                          clear HXP
                                          generalize hl[cc] = xc at *
                                          by_cases he : xc = 1
                                          · have HY1 : Bx (AnyG s) := ⟨HMM.out he⟩
                                            subst he
                                            clear HMM HST
                                            go_wp2
                                            go_quiet (fail)
                                            go_wp2
                                            go_roundg (hl.length + 1 - (cc + 1))
                                            case measure => omega
                                            case rel => exact ⟨cc + 1, true, rfl, by omega, by simp, by simp, ⟨⟨(fun _ => HY1.out), (fun h => by cases h)⟩, below_drewN BXW.out _⟩⟩
                                          · have he' : (xc == 1) = false := by simpa using he
                                            have HY2 : Bx _ := ⟨HST.out he⟩
                                            clear HMM HST he
                                            go_wp2
                                            go_quiet (fail)
                                            go_wp2
                                            go_roundg (hl.length + 1 - (cc + 1))
                                            case measure => omega
                                            case rel => exact ⟨cc + 1, false, rfl, by omega, by simp, by simp, ⟨⟨(fun h => by cases h), (fun _ => HY2.out)⟩, below_drewN BXW.out _⟩⟩
                                      · have HFK0 : Bx (AnyI (AnyG s) (∀ j, j < k + 1 → ¬ Meets s i ⟨1, true⟩ j) x ∧ Below Y.heap.size Y wr) := ⟨HX.out.1.to (fun hn => HKS.out (HNA.out (fun j hj => hn j hj (by omega)))), HX.out.2⟩
                                        clear HX
                                        go_wp2
                                        go_loopg [3, 9] 1 (fun g v3 v9 wr => ∃ x : Bool, g = 1 ∧ v3 = .bool x ∧ v9 = .int .i64 0 ∧ Bx (AnyI (AnyG s) (∀ j, j < k + 1 → ¬ Meets s i ⟨1, true⟩ j) x ∧ Below Y.heap.size Y wr))
                                        case atStart => exact ⟨x, rfl, rfl, rfl, HFK0⟩
                                        case round =>
                                          obtain ⟨x, _, rfl, rfl, HX⟩ := hrel
                                          obtain ⟨f1, f2, f3⟩ := HKC.out wr HX.out.2
                                          have HFK : Bx _ := ⟨HX.out.1⟩
                                          have BXK : Bx _ := ⟨HX.out.2⟩
                                          clear HX
                                          go_wp2
                                          go_roundg (s.length + 1 - (k + 1))
                                          case measure => omega
                                          case rel => exact ⟨k + 1, x, rfl, by omega, rfl, by simp, ⟨HFK.out, BXK.out⟩⟩
                                  | false =>
                                    have HNB : Bx ((∀ j (hj : j < am2.length), ¬ (am2[j].chan = 1 ∧ am2[j].send = !true)) → ¬ Meets s i ⟨1, true⟩ k) := ⟨fun n2 => HNM.out (fun h => by cases h) n2⟩
                                    clear HNM HMH HKH HAO
                                    go_wp2
                                    go_loopg [3, 8] 1 (fun g v3 v8 wr => g = 1 ∧ v3 = .bool false ∧ v8 = .int .i64 0 ∧ Bx (Below Y.heap.size Y wr))
                                    case atStart => exact ⟨rfl, rfl, rfl, ⟨BWK.out⟩⟩
                                    case round =>
                                      clear BWK
                                      obtain ⟨_, rfl, rfl, BWK⟩ := hrel
                                      obtain ⟨f1, f2, f3⟩ := HKC.out wr BWK.out
                                      by_cases hl0 : 0 < hl.length
                                      · have g0 : decide ((0 : Int) < ↑hl.length) = true := by simp; omega
                                        have g1 : decide (0 < hl.length) = true := by simp; omega
                                        go_wp2
                                        go_loopg [3, 9] (am2.length + 1) (fun g v3 v9 wr => ∃ (bb : Nat) (x : Bool), g = am2.length + 1 - bb ∧ bb ≤ am2.length ∧ v3 = .bool x ∧ v9 = .int .i64 bb ∧ Bx (AnyI (AnyG s) (∀ j (hj : j < am2.length), j < bb → ¬ (am2[j].chan = 1 ∧ am2[j].send = !true)) x ∧ Below Y.heap.size Y wr))
                                        case atStart => exact ⟨0, false, by simp, by omega, rfl, rfl, ⟨⟨(fun h => by cases h), (fun _ j hj hjb => by omega)⟩, BWK.out⟩⟩
                                        case round =>
                                          obtain ⟨bb, x, hgb, hbl, rfl, rfl, HX⟩ := hrel
                                          obtain ⟨f1, f2, f3⟩ := HKC.out wr HX.out.2
                                          by_cases hltb : bb < am2.length
                                          · obtain ⟨xb, xo, rfl, _, hcl⟩ := HKA.out.at_ bb hltb
                                            obtain ⟨q0, q1⟩ := hcl wr HX.out.2
                                            obtain ⟨g0, g1⟩ := HH.out wr HX.out.2
                                            have HMM : Bx ((am2[bb].chan = 1 ∧ am2[bb].send = !true) → AnyG s) := ⟨fun e => HMB.out _ (List.getElem_mem hltb) e⟩
                                            have BXW : Bx (Below Y.heap.size Y wr) := ⟨HX.out.2⟩
                                            have HXP : Bx _ := ⟨HX.out.1⟩
                                            clear hcl HX
                                            cases x with
                                            | true =>
                                              have HY1 : Bx (AnyG s) := ⟨HXP.out.yes rfl⟩
                                              clear HXP HMM
                                              go_wp2
                                              go_quiet (fail)
                                              go_wp2
                                              go_roundg (am2.length + 1 - (bb + 1))
                                              case measure => omega
                                              case rel => exact ⟨bb + 1, true, rfl, by omega, rfl, by simp, ⟨⟨(fun _ => HY1.out), (fun h => by cases h)⟩, below_drewN BXW.out _⟩⟩
                                            | false =>
                                              have HST : Bx (¬ (am2[bb].chan = 1 ∧ am2[bb].send = !true) → ∀ j (hj : j < am2.length), j < bb + 1 → ¬ (am2[j].chan = 1 ∧ am2[j].send = !true)) := ⟨fun hn => fun j hj hjb => by
                                                by_cases e : j = bb
                                                · subst e; exact hn
                                                · exact HXP.out.no rfl j hj (by omega)⟩
                                              clear HXP
                                              generalize am2[bb] = hx at *
                                              obtain ⟨xc, xs⟩ := hx
                                              simp only at q0 q1 HMM HST
                                              by_cases he : xc = 1
                                              · subst he
                                                have hxs : xs = !true ∨ xs = true := by cases xs <;> simp
                                                rcases hxs with rfl | rfl
                                                · have HY1 : Bx (AnyG s) := ⟨HMM.out ⟨rfl, rfl⟩⟩
                                                  clear HMM HST
                                                  go_wp2
                                                  go_quiet (fail)
                                                  go_wp2
                                                  go_roundg (am2.length + 1 - (bb + 1))
                                                  case measure => omega
                                                  case rel => exact ⟨bb + 1, true, rfl, by omega, by simp, by simp, ⟨⟨(fun _ => HY1.out), (fun h => by cases h)⟩, below_drewN BXW.out _⟩⟩
                                                · have HY2 : Bx _ := ⟨HST.out (fun e => by have := e.2; cases this)⟩
                                                  have hne : (true == !true) = false := by rfl
                                                  clear HMM HST
                                                  go_wp2
                                                  go_quiet (fail)
                                                  go_wp2
                                                  go_roundg (am2.length + 1 - (bb + 1))
                                                  case measure => omega
                                                  case rel => exact ⟨bb + 1, false, rfl, by omega, by simp, by simp, ⟨⟨(fun h => by cases h), (fun _ => HY2.out)⟩, below_drewN BXW.out _⟩⟩
                                              · have he' : (xc == 1) = false := by simpa using he
                                                have HY2 : Bx _ := ⟨HST.out (fun e => he e.1)⟩
                                                clear HMM HST he
                                                go_wp2
                                                go_quiet (fail)
                                                go_wp2
                                                go_roundg (am2.length + 1 - (bb + 1))
                                                case measure => omega
                                                case rel => exact ⟨bb + 1, false, rfl, by omega, by simp, by simp, ⟨⟨(fun h => by cases h), (fun _ => HY2.out)⟩, below_drewN BXW.out _⟩⟩
                                          · have HFK : Bx (AnyI (AnyG s) (∀ j, j < k + 1 → ¬ Meets s i ⟨1, true⟩ j) x) := ⟨HX.out.1.to (fun hn => HKS.out (HNB.out (fun j hj => hn j hj (by omega))))⟩
                                            have BXK : Bx (Below Y.heap.size Y wr) := ⟨HX.out.2⟩
                                            clear HX
                                            go_wp2
                                            go_roundg (s.length + 1 - (k + 1))
                                            case measure => omega
                                            case rel => exact ⟨k + 1, x, rfl, by omega, rfl, by simp, ⟨HFK.out, BXK.out⟩⟩
                                      · have hle : hl.length = 0 := by omega
                                        rw [hle] at f3
                                        go_wp2
                                        go_loopg [3, 9] (am2.length + 1) (fun g v3 v9 wr => ∃ (bb : Nat) (x : Bool), g = am2.length + 1 - bb ∧ bb ≤ am2.length ∧ v3 = .bool x ∧ v9 = .int .i64 bb ∧ Bx (AnyI (AnyG s) (∀ j (hj : j < am2.length), j < bb → ¬ (am2[j].chan = 1 ∧ am2[j].send = !true)) x ∧ Below Y.heap.size Y wr))
                                        case atStart => exact ⟨0, false, by simp, by omega, rfl, rfl, ⟨⟨(fun h => by cases h), (fun _ j hj hjb => by omega)⟩, BWK.out⟩⟩
                                        case round =>
                                          obtain ⟨bb, x, hgb, hbl, rfl, rfl, HX⟩ := hrel
                                          obtain ⟨f1, f2, f3⟩ := HKC.out wr HX.out.2
                                          by_cases hltb : bb < am2.length
                                          · obtain ⟨xb, xo, rfl, _, hcl⟩ := HKA.out.at_ bb hltb
                                            obtain ⟨q0, q1⟩ := hcl wr HX.out.2
                                            obtain ⟨g0, g1⟩ := HH.out wr HX.out.2
                                            have HMM : Bx ((am2[bb].chan = 1 ∧ am2[bb].send = !true) → AnyG s) := ⟨fun e => HMB.out _ (List.getElem_mem hltb) e⟩
                                            have BXW : Bx (Below Y.heap.size Y wr) := ⟨HX.out.2⟩
                                            have HXP : Bx _ := ⟨HX.out.1⟩
                                            clear hcl HX
                                            cases x with
                                            | true =>
                                              have HY1 : Bx (AnyG s) := ⟨HXP.out.yes rfl⟩
                                              clear HXP HMM
                                              go_wp2
                                              go_quiet (fail)
                                              go_wp2
                                              go_roundg (am2.length + 1 - (bb + 1))
                                              case measure => omega
                                              case rel => exact ⟨bb + 1, true, rfl, by omega, rfl, by simp, ⟨⟨(fun _ => HY1.out), (fun h => by cases h)⟩, below_drewN BXW.out _⟩⟩
                                            | false =>
                                              have HST : Bx (¬ (am2[bb].chan = 1 ∧ am2[bb].send = !true) → ∀ j (hj : j < am2.length), j < bb + 1 → ¬ (am2[j].chan = 1 ∧ am2[j].send = !true)) := ⟨fun hn => fun j hj hjb => by
                                                by_cases e : j = bb
                                                · subst e; exact hn
                                                · exact HXP.out.no rfl j hj (by omega)⟩
                                              clear HXP
                                              generalize am2[bb] = hx at *
                                              obtain ⟨xc, xs⟩ := hx
                                              simp only at q0 q1 HMM HST
                                              by_cases he : xc = 1
                                              · subst he
                                                have hxs : xs = !true ∨ xs = true := by cases xs <;> simp
                                                rcases hxs with rfl | rfl
                                                · have HY1 : Bx (AnyG s) := ⟨HMM.out ⟨rfl, rfl⟩⟩
                                                  clear HMM HST
                                                  go_wp2
                                                  go_quiet (fail)
                                                  go_wp2
                                                  go_roundg (am2.length + 1 - (bb + 1))
                                                  case measure => omega
                                                  case rel => exact ⟨bb + 1, true, rfl, by omega, by simp, by simp, ⟨⟨(fun _ => HY1.out), (fun h => by cases h)⟩, below_drewN BXW.out _⟩⟩
                                                · have HY2 : Bx _ := ⟨HST.out (fun e => by have := e.2; cases this)⟩
                                                  have hne : (true == !true) = false := by rfl
                                                  clear HMM HST
                                                  go_wp2
                                                  go_quiet (fail)
                                                  go_wp2
                                                  go_roundg (am2.length + 1 - (bb + 1))
                                                  case measure => omega
                                                  case rel => exact ⟨bb + 1, false, rfl, by omega, by simp, by simp, ⟨⟨(fun h => by cases h), (fun _ => HY2.out)⟩, below_drewN BXW.out _⟩⟩
                                              · have he' : (xc == 1) = false := by simpa using he
                                                have HY2 : Bx _ := ⟨HST.out (fun e => he e.1)⟩
                                                clear HMM HST he
                                                go_wp2
                                                go_quiet (fail)
                                                go_wp2
                                                go_roundg (am2.length + 1 - (bb + 1))
                                                case measure => omega
                                                case rel => exact ⟨bb + 1, false, rfl, by omega, by simp, by simp, ⟨⟨(fun h => by cases h), (fun _ => HY2.out)⟩, below_drewN BXW.out _⟩⟩
                                          · have HFK : Bx (AnyI (AnyG s) (∀ j, j < k + 1 → ¬ Meets s i ⟨1, true⟩ j) x) := ⟨HX.out.1.to (fun hn => HKS.out (HNB.out (fun j hj => hn j hj (by omega))))⟩
                                            have BXK : Bx (Below Y.heap.size Y wr) := ⟨HX.out.2⟩
                                            clear HX
                                            go_wp2
                                            go_roundg (s.length + 1 - (k + 1))
                                            case measure => omega
                                            case rel => exact ⟨k + 1, x, rfl, by omega, rfl, by simp, ⟨HFK.out, BXK.out⟩⟩
                            · have hke : k = s.length := by omega
                              have HF : Bx (AnyI (AnyG s) (ArmN s i am (a + 1)) x ∧ Below w1.heap.size w1 wr) := ⟨HX.out.1.to (fun hn => HSTEP.out HPN.out (fun hq => by
                                rcases hq.2 with h | ⟨j, hm⟩
                                · rw [HWN.out] at h; cases h
                                · exact hn j (by obtain ⟨hj, _⟩ := hm; omega) hm)), BY.out.trans (HX.out.2.mono BY.out.size)⟩
                              subst hke
                              clear HX BY
                              go_wp2
                              go_roundg (am.length + 1 - (a + 1))
                              case measure => omega
                              case rel => exact ⟨a + 1, x, rfl, by omega, rfl, by simp, HF⟩
                      · as_aux_lemma =>
                          go_wp2
                          rw [HYE.out]
                          go_loopg [3, 7] (s.length + 1) (fun g v3 v7 wr => ∃ (k : Nat) (x : Bool), g = s.length + 1 - k ∧ k ≤ s.length ∧ v3 = .bool x ∧ v7 = .int .i64 k ∧ Bx (AnyI (AnyG s) (∀ j, j < k → ¬ Meets s i ⟨2, false⟩ j) x ∧ Below Y.heap.size Y wr))
                          case atStart => exact ⟨0, false, by simp, by omega, rfl, rfl, ⟨⟨fun h => (by cases h), fun _ j hj => (by omega)⟩, Below.refl _ _⟩⟩
                          case round =>
                            obtain ⟨k, x, hgk, hkl, rfl, rfl, HX⟩ := hrel
                            clear HYE
                            by_cases hltk : k < s.length
                            · cases x with
                              | true =>
                                have HG : Bx (AnyG s) := ⟨HX.out.1.yes rfl⟩
                                have BZ : Bx (Below w1.heap.size w1 wr) := ⟨BY.out.trans (HX.out.2.mono BY.out.size)⟩
                                clear BY HX
                                go_wp2
                                go_roundg (am.length + 1 - (a + 1))
                                case measure => omega
                                case rel => exact ⟨a + 1, true, rfl, by omega, rfl, by simp, ⟨⟨fun _ => HG.out, fun h => by cases h⟩, BZ.out⟩⟩
                              | false =>
                                have HKS : Bx (¬ Meets s i ⟨2, false⟩ k → ∀ j, j < k + 1 → ¬ Meets s i ⟨2, false⟩ j) := ⟨fun hn j hj => by
                                  by_cases e : j = k
                                  · subst e; exact hn
                                  · exact HX.out.1.no rfl j (by omega)⟩
                                have BWK : Bx (Below Y.heap.size Y wr) := ⟨HX.out.2⟩
                                clear HX
                                by_cases hki : k = i
                                · have HFK : Bx (AnyI (AnyG s) (∀ j, j < k + 1 → ¬ Meets s i ⟨2, false⟩ j) false) := ⟨⟨(fun h => by cases h), (fun _ => HKS.out (fun ⟨_, h2, _⟩ => h2 hki))⟩⟩
                                  subst hki
                                  clear HKS
                                  go_wp2
                                  go_roundg (s.length + 1 - (k + 1))
                                  case measure => omega
                                  case rel => exact ⟨k + 1, false, rfl, by omega, rfl, by simp, ⟨HFK.out, BWK.out⟩⟩
                                · have hki' : ((k : Int) == (i : Int)) = false := by simp; omega
                                  obtain ⟨kb, ko, kap, kac, khp, khc, ke, hKA, hkc⟩ := HS.out.at_ k hltk
                                  have HKC : Bx (∀ X, Below Y.heap.size Y X → X.cell? ⟨b, o + k * 4 + 1, none⟩ = some (.bool s[k].awake) ∧ X.cell? ⟨b, o + k * 4 + 2, none⟩ = some (.slice kap s[k].arms.length kac) ∧ X.cell? ⟨b, o + k * 4 + 3, none⟩ = some (.slice khp s[k].held.length khc)) := ⟨fun X hX => by
                                    cases ke
                                    exact (hkc X (BY.out.trans (hX.mono BY.out.size))).2⟩
                                  have HKA : Bx (HdsR Y kap kac s[k].arms) := ⟨hKA.arms.later BY.out⟩
                                  have HKH : Bx (IntsR Y khp khc s[k].held) := ⟨hKA.held.later BY.out⟩
                                  have HMH : Bx (s[k].awake = true → 2 ∈ s[k].held → AnyG s) := ⟨fun e1 e2 => HGA.out ⟨HCN.out, .inr ⟨k, hltk, hki, .inl ⟨e1, e2⟩⟩⟩⟩
                                  have HMB : Bx (∀ y ∈ s[k].arms, (y.chan = 2 ∧ y.send = !false) → AnyG s) := ⟨fun y hy e => HGA.out ⟨HCN.out, .inr ⟨k, hltk, hki, .inr ⟨y, hy, e.1, e.2⟩⟩⟩⟩
                                  have HNM : Bx ((s[k].awake = true → ∀ j (hj : j < s[k].held.length), s[k].held[j] ≠ 2) → (∀ j (hj : j < s[k].arms.length), ¬ (s[k].arms[j].chan = 2 ∧ s[k].arms[j].send = !false)) → ¬ Meets s i ⟨2, false⟩ k) := ⟨fun n1 n2 ⟨_, _, hm⟩ => by
                                    rcases hm with ⟨m1, m2⟩ | ⟨y, hy, y1, y2⟩
                                    · obtain ⟨j, hj, e⟩ := List.mem_iff_getElem.1 m2
                                      exact n1 m1 j hj e
                                    · obtain ⟨j, hj, rfl⟩ := List.mem_iff_getElem.1 hy
                                      exact n2 j hj ⟨y1, y2⟩⟩
                                  have HAO : Bx (s[k].awake = true → s[k].arms.length = 0) := ⟨HOK.out k hltk⟩
                                  have k1 := hKA.arms.len
                                  have k2 := hKA.arms.max
                                  have k3 := hKA.held.len
                                  have k4 := hKA.held.max
                                  unfold maxLen at k2 k4
                                  obtain ⟨f1, f2, f3⟩ := HKC.out wr BWK.out
                                  clear hkc ke hKA hki
                                  generalize s[k] = ak at *
                                  obtain ⟨aid, aw, am2, hl⟩ := ak
                                  simp only at HKC HKA HKH HMH HMB HNM HAO k1 k2 k3 k4 f1 f2 f3
                                  cases aw with
                                  | true =>
                                    have hae := HAO.out rfl
                                    have HNA : Bx ((∀ j (hj : j < hl.length), hl[j] ≠ 2) → ¬ Meets s i ⟨2, false⟩ k) := ⟨fun n1 => HNM.out (fun _ => n1) (fun j hj => by omega)⟩
                                    replace HMH : Bx (2 ∈ hl → AnyG s) := ⟨HMH.out rfl⟩
                                    rw [hae] at f2 HKC k1
                                    clear HNM HMB HKA HAO hae
                                    go_wp2
                                    go_loopg [3, 8] (hl.length + 1) (fun g v3 v8 wr => ∃ (cc : Nat) (x : Bool), g = hl.length + 1 - cc ∧ cc ≤ hl.length ∧ v3 = .bool x ∧ v8 = .int .i64 cc ∧ Bx (AnyI (AnyG s) (∀ j (hj : j < hl.length), j < cc → hl[j] ≠ 2) x ∧ Below Y.heap.size Y wr))
                                    case atStart => exact ⟨0, false, by simp, by omega, rfl, rfl, ⟨⟨(fun h => by cases h), (fun _ j hj hjb => by omega)⟩, BWK.out⟩⟩
                                    case round =>
                                      obtain ⟨cc, x, hgc, hcl, rfl, rfl, HX⟩ := hrel
                                      obtain ⟨f1, f2, f3⟩ := HKC.out wr HX.out.2
                                      by_cases hltc : cc < hl.length
                                      · obtain ⟨xb, xo, rfl, _, hcl⟩ := HKH.out.at_ cc hltc
                                        have q0 := hcl wr HX.out.2
                                        obtain ⟨g0, g1⟩ := HH.out wr HX.out.2
                                        have HMM : Bx (hl[cc] = 2 → AnyG s) := ⟨fun e => HMH.out (e ▸ List.getElem_mem hltc)⟩
                                        have BXW : Bx (Below Y.heap.size Y wr) := ⟨HX.out.2⟩
                                        have HXP : Bx _ := ⟨HX.out.1⟩
                                        clear hcl HX
                                        cases x with
                                        | true =>
                                          have HY1 : Bx (AnyG s) := ⟨HXP.out.yes rfl⟩
                                          clear HXP HMM
                                          go_wp2
                                          go_quiet (fail)
                                          go_wp2
                                          go_roundg (hl.length + 1 - (cc + 1))
                                          case measure => omega
                                          case rel => exact ⟨cc + 1, true, rfl, by omega, rfl, by simp, ⟨⟨(fun _ => HY1.out), (fun h => by cases h)⟩, below_drewN BXW.out _⟩⟩
                                        | false =>
                                          have HST : Bx (hl[cc] ≠ 2 → ∀ j (hj : j < hl.length), j < cc + 1 → hl[j] ≠ 2) := ⟨fun hn => fun j hj hjb => by
                                            by_cases e : j = cc
                                            · subst e; exact hn
                                            · exact HXP.out.no rfl j hj (by omega)⟩
                                          clear HXP
                                          generalize hl[cc] = xc at *
                                          by_cases he : xc = 2
                                          · have HY1 : Bx (AnyG s) := ⟨HMM.out he⟩
                                            subst he
                                            clear HMM HST
                                            go_wp2
                                            go_quiet (fail)
                                            go_wp2
                                            go_roundg (hl.length + 1 - (cc + 1))
                                            case measure => omega
                                            case rel => exact ⟨cc + 1, true, rfl, by omega, by simp, by simp, ⟨⟨(fun _ => HY1.out), (fun h => by cases h)⟩, below_drewN BXW.out _⟩⟩
                                          · have he' : (xc == 2) = false := by simpa using he
                                            have HY2 : Bx _ := ⟨HST.out he⟩
                                            clear HMM HST he
                                            go_wp2
                                            go_quiet (fail)
                                            go_wp2
                                            go_roundg (hl.length + 1 - (cc + 1))
                                            case measure => omega
                                            case rel => exact ⟨cc + 1, false, rfl, by omega, by simp, by simp, ⟨⟨(fun h => by cases h), (fun _ => HY2.out)⟩, below_drewN BXW.out _⟩⟩
                                      · have HFK0 : Bx (AnyI (AnyG s) (∀ j, j < k + 1 → ¬ Meets s i ⟨2, false⟩ j) x ∧ Below Y.heap.size Y wr) := ⟨HX.out.1.to (fun hn => HKS.out (HNA.out (fun j hj => hn j hj (by omega)))), HX.out.2⟩
                                        clear HX
                                        go_wp2
                                        go_loopg [3, 9] 1 (fun g v3 v9 wr => ∃ x : Bool, g = 1 ∧ v3 = .bool x ∧ v9 = .int .i64 0 ∧ Bx (AnyI (AnyG s) (∀ j, j < k + 1 → ¬ Meets s i ⟨2, false⟩ j) x ∧ Below Y.heap.size Y wr))
                                        case atStart => exact ⟨x, rfl, rfl, rfl, HFK0⟩
                                        case round =>
                                          obtain ⟨x, _, rfl, rfl, HX⟩ := hrel
                                          obtain ⟨f1, f2, f3⟩ := HKC.out wr HX.out.2
                                          have HFK : Bx _ := ⟨HX.out.1⟩
                                          have BXK : Bx _ := ⟨HX.out.2⟩
                                          clear HX
                                          go_wp2
                                          go_roundg (s.length + 1 - (k + 1))
                                          case measure => omega
                                          case rel => exact ⟨k + 1, x, rfl, by omega, rfl, by simp, ⟨HFK.out, BXK.out⟩⟩
                                  | false =>
                                    have HNB : Bx ((∀ j (hj : j < am2.length), ¬ (am2[j].chan = 2 ∧ am2[j].send = !false)) → ¬ Meets s i ⟨2, false⟩ k) := ⟨fun n2 => HNM.out (fun h => by cases h) n2⟩
                                    clear HNM HMH HKH HAO
                                    go_wp2
                                    go_loopg [3, 8] 1 (fun g v3 v8 wr => g = 1 ∧ v3 = .bool false ∧ v8 = .int .i64 0 ∧ Bx (Below Y.heap.size Y wr))
                                    case atStart => exact ⟨rfl, rfl, rfl, ⟨BWK.out⟩⟩
                                    case round =>
                                      clear BWK
                                      obtain ⟨_, rfl, rfl, BWK⟩ := hrel
                                      obtain ⟨f1, f2, f3⟩ := HKC.out wr BWK.out
                                      by_cases hl0 : 0 < hl.length
                                      · have g0 : decide ((0 : Int) < ↑hl.length) = true := by simp; omega
                                        have g1 : decide (0 < hl.length) = true := by simp; omega
                                        go_wp2
                                        go_loopg [3, 9] (am2.length + 1) (fun g v3 v9 wr => ∃ (bb : Nat) (x : Bool), g = am2.length + 1 - bb ∧ bb ≤ am2.length ∧ v3 = .bool x ∧ v9 = .int .i64 bb ∧ Bx (AnyI (AnyG s) (∀ j (hj : j < am2.length), j < bb → ¬ (am2[j].chan = 2 ∧ am2[j].send = !false)) x ∧ Below Y.heap.size Y wr))
                                        case atStart => exact ⟨0, false, by simp, by omega, rfl, rfl, ⟨⟨(fun h => by cases h), (fun _ j hj hjb => by omega)⟩, BWK.out⟩⟩
                                        case round =>
                                          obtain ⟨bb, x, hgb, hbl, rfl, rfl, HX⟩ := hrel
                                          obtain ⟨f1, f2, f3⟩ := HKC.out wr HX.out.2
                                          by_cases hltb : bb < am2.length
                                          · obtain ⟨xb, xo, rfl, _, hcl⟩ := HKA.out.at_ bb hltb
                                            obtain ⟨q0, q1⟩ := hcl wr HX.out.2
                                            obtain ⟨g0, g1⟩ := HH.out wr HX.out.2
                                            have HMM : Bx ((am2[bb].chan = 2 ∧ am2[bb].send = !false) → AnyG s) := ⟨fun e => HMB.out _ (List.getElem_mem hltb) e⟩
                                            have BXW : Bx (Below Y.heap.size Y wr) := ⟨HX.out.2⟩
                                            have HXP : Bx _ := ⟨HX.out.1⟩
                                            clear hcl HX
                                            cases x with
                                            | true =>
                                              have HY1 : Bx (AnyG s) := ⟨HXP.out.yes rfl⟩
                                              clear HXP HMM
                                              go_wp2
                                              go_quiet (fail)
                                              go_wp2
                                              go_roundg (am2.length + 1 - (bb + 1))
                                              case measure => omega
                                              case rel => exact ⟨bb + 1, true, rfl, by omega, rfl, by simp, ⟨⟨(fun _ => HY1.out), (fun h => by cases h)⟩, below_drewN BXW.out _⟩⟩
                                            | false =>
                                              have HST : Bx (¬ (am2[bb].chan = 2 ∧ am2[bb].send = !false) → ∀ j (hj : j < am2.length), j < bb + 1 → ¬ (am2[j].chan = 2 ∧ am2[j].send = !false)) := ⟨fun hn => fun j hj hjb => by
                                                by_cases e : j = bb
                                                · subst e; exact hn
                                                · exact HXP.out.no rfl j hj (by omega)⟩
                                              clear HXP
                                              generalize am2[bb] = hx at *
                                              obtain ⟨xc, xs⟩ := hx
                                              simp only at q0 q1 HMM HST
                                              by_cases he : xc = 2
                                              · subst he
                                                have hxs : xs = !false ∨ xs = false := by cases xs <;> simp
                                                rcases hxs with rfl | rfl
                                                · have HY1 : Bx (AnyG s) := ⟨HMM.out ⟨rfl, rfl⟩⟩
                                                  clear HMM HST
                                                  go_wp2
                                                  go_quiet (fail)
                                                  go_wp2
                                                  go_roundg (am2.length + 1 - (bb + 1))
                                                  case measure => omega
                                                  case rel => exact ⟨bb + 1, true, rfl, by omega, by simp, by simp, ⟨⟨(fun _ => HY1.out), (fun h => by cases h)⟩, below_drewN BXW.out _⟩⟩
                                                · have HY2 : Bx _ := ⟨HST.out (fun e => by have := e.2; cases this)⟩
                                                  have hne : (false == !false) = false := by rfl
                                                  clear HMM HST
                                                  go_wp2
                                                  go_quiet (fail)
                                                  go_wp2
                                                  go_roundg (am2.length + 1 - (bb + 1))
                                                  case measure => omega
                                                  case rel => exact ⟨bb + 1, false, rfl, by omega, by simp, by simp, ⟨⟨(fun h => by cases h), (fun _ => HY2.out)⟩, below_drewN BXW.out _⟩⟩
                                              · have he' : (xc == 2) = false := by simpa using he
                                                have HY2 : Bx _ := ⟨HST.out (fun e => he e.1)⟩
                                                clear HMM HST he
                                                go_wp2
                                                go_quiet (fail)
                                                go_wp2
                                                go_roundg (am2.length + 1 - (bb + 1))
                                                case measure => omega
                                                case rel => exact ⟨bb + 1, false, rfl, by omega, by simp, by simp, ⟨⟨(fun h => by cases h), (fun _ => HY2.out)⟩, below_drewN BXW.out _⟩⟩
                                          · have HFK : Bx (AnyI (AnyG s) (∀ j, j < k + 1 → ¬ Meets s i ⟨2, false⟩ j) x) := ⟨HX.out.1.to (fun hn => HKS.out (HNB.out (fun j hj => hn j hj (by omega))))⟩
                                            have BXK : Bx (Below Y.heap.size Y wr) := ⟨HX.out.2⟩
                                            clear HX
                                            go_wp2
                                            go_roundg (s.length + 1 - (k + 1))
                                            case measure => omega
                                            case rel => exact ⟨k + 1, x, rfl, by omega, rfl, by simp, ⟨HFK.out, BXK.out⟩⟩
                                      · have hle : hl.length = 0 := by omega
                                        rw [hle] at f3
                                        go_wp2
                                        go_loopg [3, 9] (am2.length + 1) (fun g v3 v9 wr => ∃ (bb : Nat) (x : Bool), g = am2.length + 1 - bb ∧ bb ≤ am2.length ∧ v3 = .bool x ∧ v9 = .int .i64 bb ∧ Bx (AnyI (AnyG s) (∀ j (hj : j < am2.length), j < bb → ¬ (am2[j].chan = 2 ∧ am2[j].send = !false)) x ∧ Below Y.heap.size Y wr))
                                        case atStart => exact ⟨0, false, by simp, by omega, rfl, rfl, ⟨⟨(fun h => by cases h), (fun _ j hj hjb => by omega)⟩, BWK.out⟩⟩
                                        case round =>
                                          obtain ⟨bb, x, hgb, hbl, rfl, rfl, HX⟩ := hrel
                                          obtain ⟨f1, f2, f3⟩ := HKC.out wr HX.out.2
                                          by_cases hltb : bb < am2.length
                                          · obtain ⟨xb, xo, rfl, _, hcl⟩ := HKA.out.at_ bb hltb
                                            obtain ⟨q0, q1⟩ := hcl wr HX.out.2
                                            obtain ⟨g0, g1⟩ := HH.out wr HX.out.2
                                            have HMM : Bx ((am2[bb].chan = 2 ∧ am2[bb].send = !false) → AnyG s) := ⟨fun e => HMB.out _ (List.getElem_mem hltb) e⟩
                                            have BXW : Bx (Below Y.heap.size Y wr) := ⟨HX.out.2⟩
                                            have HXP : Bx _ := ⟨HX.out.1⟩
                                            clear hcl HX
                                            cases x with
                                            | true =>
                                              have HY1 : Bx (AnyG s) := ⟨HXP.out.yes rfl⟩
                                              clear HXP HMM
                                              go_wp2
                                              go_quiet (fail)
                                              go_wp2
                                              go_roundg (am2.length + 1 - (bb + 1))
                                              case measure => omega
                                              case rel => exact ⟨bb + 1, true, rfl, by omega, rfl, by simp, ⟨⟨(fun _ => HY1.out), (fun h => by cases h)⟩, below_drewN BXW.out _⟩⟩
                                            | false =>
                                              have HST : Bx (¬ (am2[bb].chan = 2 ∧ am2[bb].send = !false) → ∀ j (hj : j < am2.length), j < bb + 1 → ¬ (am2[j].chan = 2 ∧ am2[j].send = !false)) := ⟨fun hn => fun j hj hjb => by
                                                by_cases e : j = bb
                                                · subst e; exact hn
                                                · exact HXP.out.no rfl j hj (by omega)⟩
                                              clear HXP
                                              generalize am2[bb] = hx at *
                                              obtain ⟨xc, xs⟩ := hx
                                              simp only at q0 q1 HMM HST
                                              by_cases he : xc = 2
                                              · subst he
                                                have hxs : xs = !false ∨ xs = false := by cases xs <;> simp
                                                rcases hxs with rfl | rfl
                                                · have HY1 : Bx (AnyG s) := ⟨HMM.out ⟨rfl, rfl⟩⟩
                                                  clear HMM HST
                                                  go_wp2
                                                  go_quiet (fail)
                                                  go_wp2
                                                  go_roundg (am2.length + 1 - (bb + 1))
                                                  case measure => omega
                                                  case rel => exact ⟨bb + 1, true, rfl, by omega, by simp, by simp, ⟨⟨(fun _ => HY1.out), (fun h => by cases h)⟩, below_drewN BXW.out _⟩⟩
                                                · have HY2 : Bx _ := ⟨HST.out (fun e => by have := e.2; cases this)⟩
                                                  have hne : (false == !false) = false := by rfl
                                                  clear HMM HST
                                                  go_wp2
                                                  go_quiet (fail)
                                                  go_wp2
                                                  go_roundg (am2.length + 1 - (bb + 1))
                                                  case measure => omega
                                                  case rel => exact ⟨bb + 1, false, rfl, by omega, by simp, by simp, ⟨⟨(fun h => by cases h), (fun _ => HY2.out)⟩, below_drewN BXW.out _⟩⟩
                                              · have he' : (xc == 2) = false := by simpa using he
                                                have HY2 : Bx _ := ⟨HST.out (fun e => he e.1)⟩
                                                clear HMM HST he
                                                go_wp2
                                                go_quiet (fail)
                                                go_wp2
                                                go_roundg (am2.length + 1 - (bb + 1))
                                                case measure => omega
                                                case rel => exact ⟨bb + 1, false, rfl, by omega, by simp, by simp, ⟨⟨(fun h => by cases h), (fun _ => HY2.out)⟩, below_drewN BXW.out _⟩⟩
                                          · have HFK : Bx (AnyI (AnyG s) (∀ j, j < k + 1 → ¬ Meets s i ⟨2, false⟩ j) x) := ⟨HX.out.1.to (fun hn => HKS.out (HNB.out (fun j hj => hn j hj (by omega))))⟩
                                            have BXK : Bx (Below Y.heap.size Y wr) := ⟨HX.out.2⟩
                                            clear HX
                                            go_wp2
                                            go_roundg (s.length + 1 - (k + 1))
                                            case measure => omega
                                            case rel => exact ⟨k + 1, x, rfl, by omega, rfl, by simp, ⟨HFK.out, BXK.out⟩⟩
                            · have hke : k = s.length := by omega
                              have HF : Bx (AnyI (AnyG s) (ArmN s i am (a + 1)) x ∧ Below w1.heap.size w1 wr) := ⟨HX.out.1.to (fun hn => HSTEP.out HPN.out (fun hq => by
                                rcases hq.2 with h | ⟨j, hm⟩
                                · rw [HWN.out] at h; cases h
                                · exact hn j (by obtain ⟨hj, _⟩ := hm; omega) hm)), BY.out.trans (HX.out.2.mono BY.out.size)⟩
                              subst hke
                              clear HX BY
                              go_wp2
                              go_roundg (am.length + 1 - (a + 1))
                              case measure => omega
                              case rel => exact ⟨a + 1, x, rfl, by omega, rfl, by simp, HF⟩
                      · as_aux_lemma =>
                          go_wp2
                          rw [HYE.out]
                          go_loopg [3, 7] (s.length + 1) (fun g v3 v7 wr => ∃ (k : Nat) (x : Bool), g = s.length + 1 - k ∧ k ≤ s.length ∧ v3 = .bool x ∧ v7 = .int .i64 k ∧ Bx (AnyI (AnyG s) (∀ j, j < k → ¬ Meets s i ⟨ch, sd⟩ j) x ∧ Below Y.heap.size Y wr))
                          case atStart => exact ⟨0, false, by simp, by omega, rfl, rfl, ⟨⟨fun h => (by cases h), fun _ j hj => (by omega)⟩, Below.refl _ _⟩⟩
                          case round =>
                            obtain ⟨k, x, hgk, hkl, rfl, rfl, HX⟩ := hrel
                            clear HYE
                            by_cases hltk : k < s.length
                            · cases x with
                              | true =>
                                have HG : Bx (AnyG s) := ⟨HX.out.1.yes rfl⟩
                                have BZ : Bx (Below w1.heap.size w1 wr) := ⟨BY.out.trans (HX.out.2.mono BY.out.size)⟩
                                clear BY HX
                                go_wp2
                                go_roundg (am.length + 1 - (a + 1))
                                case measure => omega
                                case rel => exact ⟨a + 1, true, rfl, by omega, rfl, by simp, ⟨⟨fun _ => HG.out, fun h => by cases h⟩, BZ.out⟩⟩
                              | false =>
                                have HKS : Bx (¬ Meets s i ⟨ch, sd⟩ k → ∀ j, j < k + 1 → ¬ Meets s i ⟨ch, sd⟩ j) := ⟨fun hn j hj => by
                                  by_cases e : j = k
                                  · subst e; exact hn
                                  · exact HX.out.1.no rfl j (by omega)⟩
                                have BWK : Bx (Below Y.heap.size Y wr) := ⟨HX.out.2⟩
                                clear HX
                                by_cases hki : k = i
                                · have HFK : Bx (AnyI (AnyG s) (∀ j, j < k + 1 → ¬ Meets s i ⟨ch, sd⟩ j) false) := ⟨⟨(fun h => by cases h), (fun _ => HKS.out (fun ⟨_, h2, _⟩ => h2 hki))⟩⟩
                                  subst hki
                                  clear HKS
                                  go_wp2
                                  go_roundg (s.length + 1 - (k + 1))
                                  case measure => omega
                                  case rel => exact ⟨k + 1, false, rfl, by omega, rfl, by simp, ⟨HFK.out, BWK.out⟩⟩
                                · have hki' : ((k : Int) == (i : Int)) = false := by simp; omega
                                  obtain ⟨kb, ko, kap, kac, khp, khc, ke, hKA, hkc⟩ := HS.out.at_ k hltk
                                  have HKC : Bx (∀ X, Below Y.heap.size Y X → X.cell? ⟨b, o + k * 4 + 1, none⟩ = some (.bool s[k].awake) ∧ X.cell? ⟨b, o + k * 4 + 2, none⟩ = some (.slice kap s[k].arms.length kac) ∧ X.cell? ⟨b, o + k * 4 + 3, none⟩ = some (.slice khp s[k].held.length khc)) := ⟨fun X hX => by
                                    cases ke
                                    exact (hkc X (BY.out.trans (hX.mono BY.out.size))).2⟩
                                  have HKA : Bx (HdsR Y kap kac s[k].arms) := ⟨hKA.arms.later BY.out⟩
                                  have HKH : Bx (IntsR Y khp khc s[k].held) := ⟨hKA.held.later BY.out⟩
                                  have HMH : Bx (s[k].awake = true → ch ∈ s[k].held → AnyG s) := ⟨fun e1 e2 => HGA.out ⟨HCN.out, .inr ⟨k, hltk, hki, .inl ⟨e1, e2⟩⟩⟩⟩
                                  have HMB : Bx (∀ y ∈ s[k].arms, (y.chan = ch ∧ y.send = !sd) → AnyG s) := ⟨fun y hy e => HGA.out ⟨HCN.out, .inr ⟨k, hltk, hki, .inr ⟨y, hy, e.1, e.2⟩⟩⟩⟩
                                  have HNM : Bx ((s[k].awake = true → ∀ j (hj : j < s[k].held.length), s[k].held[j] ≠ ch) → (∀ j (hj : j < s[k].arms.length), ¬ (s[k].arms[j].chan = ch ∧ s[k].arms[j].send = !sd)) → ¬ Meets s i ⟨ch, sd⟩ k) := ⟨fun n1 n2 ⟨_, _, hm⟩ => by
                                    rcases hm with ⟨m1, m2⟩ | ⟨y, hy, y1, y2⟩
                                    · obtain ⟨j, hj, e⟩ := List.mem_iff_getElem.1 m2
                                      exact n1 m1 j hj e
                                    · obtain ⟨j, hj, rfl⟩ := List.mem_iff_getElem.1 hy
                                      exact n2 j hj ⟨y1, y2⟩⟩
                                  have HAO : Bx (s[k].awake = true → s[k].arms.length = 0) := ⟨HOK.out k hltk⟩
                                  have k1 := hKA.arms.len
                                  have k2 := hKA.arms.max
                                  have k3 := hKA.held.len
                                  have k4 := hKA.held.max
                                  unfold maxLen at k2 k4
                                  obtain ⟨f1, f2, f3⟩ := HKC.out wr BWK.out
                                  clear hkc ke hKA hki
                                  generalize s[k] = ak at *
                                  obtain ⟨aid, aw, am2, hl⟩ := ak
                                  simp only at HKC HKA HKH HMH HMB HNM HAO k1 k2 k3 k4 f1 f2 f3
                                  cases aw with
                                  | true =>
                                    have hae := HAO.out rfl
                                    have HNA : Bx ((∀ j (hj : j < hl.length), hl[j] ≠ ch) → ¬ Meets s i ⟨ch, sd⟩ k) := ⟨fun n1 => HNM.out (fun _ => n1) (fun j hj => by omega)⟩
                                    replace HMH : Bx (ch ∈ hl → AnyG s) := ⟨HMH.out rfl⟩
                                    rw [hae] at f2 HKC k1
                                    clear HNM HMB HKA HAO hae
                                    go_wp2
                                    go_loopg [3, 8] (hl.length + 1) (fun g v3 v8 wr => ∃ (cc : Nat) (x : Bool), g = hl.length + 1 - cc ∧ cc ≤ hl.length ∧ v3 = .bool x ∧ v8 = .int .i64 cc ∧ Bx (AnyI (AnyG s) (∀ j (hj : j < hl.length), j < cc → hl[j] ≠ ch) x ∧ Below Y.heap.size Y wr))
                                    case atStart => exact ⟨0, false, by simp, by omega, rfl, rfl, ⟨⟨(fun h => by cases h), (fun _ j hj hjb => by omega)⟩, BWK.out⟩⟩
                                    case round =>
                                      obtain ⟨cc, x, hgc, hcl, rfl, rfl, HX⟩ := hrel
                                      obtain ⟨f1, f2, f3⟩ := HKC.out wr HX.out.2
                                      by_cases hltc : cc < hl.length
                                      · obtain ⟨xb, xo, rfl, _, hcl⟩ := HKH.out.at_ cc hltc
                                        have q0 := hcl wr HX.out.2
                                        obtain ⟨g0, g1⟩ := HH.out wr HX.out.2
                                        have HMM : Bx (hl[cc] = ch → AnyG s) := ⟨fun e => HMH.out (e ▸ List.getElem_mem hltc)⟩
                                        have BXW : Bx (Below Y.heap.size Y wr) := ⟨HX.out.2⟩
                                        have HXP : Bx _ := ⟨HX.out.1⟩
                                        clear hcl HX
                                        cases x with
                                        | true =>
                                          have HY1 : Bx (AnyG s) := ⟨HXP.out.yes rfl⟩
                                          clear HXP HMM
                                          go_wp2
                                          go_quiet (fail)
                                          go_wp2
                                          go_roundg (hl.length + 1 - (cc + 1))
                                          case measure => omega
                                          case rel => exact ⟨cc + 1, true, rfl, by omega, rfl, by simp, ⟨⟨(fun _ => HY1.out), (fun h => by cases h)⟩, below_drewN BXW.out _⟩⟩
                                        | false =>
                                          have HST : Bx (hl[cc] ≠ ch → ∀ j (hj : j < hl.length), j < cc + 1 → hl[j] ≠ ch) := ⟨fun hn => fun j hj hjb => by
                                            by_cases e : j = cc
                                            · subst e; exact hn
                                            · exact HXP.out.no rfl j hj (by omega)⟩
                                          clear HXP
                                          generalize hl[cc] = xc at *
                                          by_cases he : xc = ch
                                          · have HY1 : Bx (AnyG s) := ⟨HMM.out he⟩
                                            subst he
                                            clear HMM HST
                                            go_wp2
                                            go_quiet (fail)
                                            go_wp2
                                            go_roundg (hl.length + 1 - (cc + 1))
                                            case measure => omega
                                            case rel => exact ⟨cc + 1, true, rfl, by omega, by simp, by simp, ⟨⟨(fun _ => HY1.out), (fun h => by cases h)⟩, below_drewN BXW.out _⟩⟩
                                          · have he' : (xc == ch) = false := by simpa using he
                                            have HY2 : Bx _ := ⟨HST.out he⟩
                                            clear HMM HST he
                                            go_wp2
                                            go_quiet (fail)
                                            go_wp2
                                            go_roundg (hl.length + 1 - (cc + 1))
                                            case measure => omega
                                            case rel => exact ⟨cc + 1, false, rfl, by omega, by simp, by simp, ⟨⟨(fun h => by cases h), (fun _ => HY2.out)⟩, below_drewN BXW.out _⟩⟩
                                      · have HFK0 : Bx (AnyI (AnyG s) (∀ j, j < k + 1 → ¬ Meets s i ⟨ch, sd⟩ j) x ∧ Below Y.heap.size Y wr) := ⟨HX.out.1.to (fun hn => HKS.out (HNA.out (fun j hj => hn j hj (by omega)))), HX.out.2⟩
                                        clear HX
                                        go_wp2
                                        go_loopg [3, 9] 1 (fun g v3 v9 wr => ∃ x : Bool, g = 1 ∧ v3 = .bool x ∧ v9 = .int .i64 0 ∧ Bx (AnyI (AnyG s) (∀ j, j < k + 1 → ¬ Meets s i ⟨ch, sd⟩ j) x ∧ Below Y.heap.size Y wr))
                                        case atStart => exact ⟨x, rfl, rfl, rfl, HFK0⟩
                                        case round =>
                                          obtain ⟨x, _, rfl, rfl, HX⟩ := hrel
                                          obtain ⟨f1, f2, f3⟩ := HKC.out wr HX.out.2
                                          have HFK : Bx _ := ⟨HX.out.1⟩
                                          have BXK : Bx _ := ⟨HX.out.2⟩
                                          clear HX
                                          go_wp2
                                          go_roundg (s.length + 1 - (k + 1))
                                          case measure => omega
                                          case rel => exact ⟨k + 1, x, rfl, by omega, rfl, by simp, ⟨HFK.out, BXK.out⟩⟩
                                  | false =>
                                    have HNB : Bx ((∀ j (hj : j < am2.length), ¬ (am2[j].chan = ch ∧ am2[j].send = !sd)) → ¬ Meets s i ⟨ch, sd⟩ k) := ⟨fun n2 => HNM.out (fun h => by cases h) n2⟩
                                    clear HNM HMH HKH HAO
                                    go_wp2
                                    go_loopg [3, 8] 1 (fun g v3 v8 wr => g = 1 ∧ v3 = .bool false ∧ v8 = .int .i64 0 ∧ Bx (Below Y.heap.size Y wr))
                                    case atStart => exact ⟨rfl, rfl, rfl, ⟨BWK.out⟩⟩
                                    case round =>
                                      clear BWK
                                      obtain ⟨_, rfl, rfl, BWK⟩ := hrel
                                      obtain ⟨f1, f2, f3⟩ := HKC.out wr BWK.out
                                      by_cases hl0 : 0 < hl.length
                                      · have g0 : decide ((0 : Int) < ↑hl.length) = true := by simp; omega
                                        have g1 : decide (0 < hl.length) = true := by simp; omega
                                        go_wp2
                                        go_loopg [3, 9] (am2.length + 1) (fun g v3 v9 wr => ∃ (bb : Nat) (x : Bool), g = am2.length + 1 - bb ∧ bb ≤ am2.length ∧ v3 = .bool x ∧ v9 = .int .i64 bb ∧ Bx (AnyI (AnyG s) (∀ j (hj : j < am2.length), j < bb → ¬ (am2[j].chan = ch ∧ am2[j].send = !sd)) x ∧ Below Y.heap.size Y wr))
                                        case atStart => exact ⟨0, false, by simp, by omega, rfl, rfl, ⟨⟨(fun h => by cases h), (fun _ j hj hjb => by omega)⟩, BWK.out⟩⟩
                                        case round =>
                                          obtain ⟨bb, x, hgb, hbl, rfl, rfl, HX⟩ := hrel
                                          obtain ⟨f1, f2, f3⟩ := HKC.out wr HX.out.2
                                          by_cases hltb : bb < am2.length
                                          · obtain ⟨xb, xo, rfl, _, hcl⟩ := HKA.out.at_ bb hltb
                                            obtain ⟨q0, q1⟩ := hcl wr HX.out.2
                                            obtain ⟨g0, g1⟩ := HH.out wr HX.out.2
                                            have HMM : Bx ((am2[bb].chan = ch ∧ am2[bb].send = !sd) → AnyG s) := ⟨fun e => HMB.out _ (List.getElem_mem hltb) e⟩
                                            have BXW : Bx (Below Y.heap.size Y wr) := ⟨HX.out.2⟩
                                            have HXP : Bx _ := ⟨HX.out.1⟩
                                            clear hcl HX
                                            cases x with
                                            | true =>
                                              have HY1 : Bx (AnyG s) := ⟨HXP.out.yes rfl⟩
                                              clear HXP HMM
                                              go_wp2
                                              go_quiet (fail)
                                              go_wp2
                                              go_roundg (am2.length + 1 - (bb + 1))
                                              case measure => omega
                                              case rel => exact ⟨bb + 1, true, rfl, by omega, rfl, by simp, ⟨⟨(fun _ => HY1.out), (fun h => by cases h)⟩, below_drewN BXW.out _⟩⟩
                                            | false =>
                                              have HST : Bx (¬ (am2[bb].chan = ch ∧ am2[bb].send = !sd) → ∀ j (hj : j < am2.length), j < bb + 1 → ¬ (am2[j].chan = ch ∧ am2[j].send = !sd)) := ⟨fun hn => fun j hj hjb => by
                                                by_cases e : j = bb
                                                · subst e; exact hn
                                                · exact HXP.out.no rfl j hj (by omega)⟩
                                              clear HXP
                                              generalize am2[bb] = hx at *
                                              obtain ⟨xc, xs⟩ := hx
                                              simp only at q0 q1 HMM HST
                                              by_cases he : xc = ch
                                              · subst he
                                                have hxs : xs = !sd ∨ xs = sd := by cases xs <;> cases sd <;> simp
                                                rcases hxs with rfl | rfl
                                                · have HY1 : Bx (AnyG s) := ⟨HMM.out ⟨rfl, rfl⟩⟩
                                                  clear HMM HST
                                                  go_wp2
                                                  go_quiet (fail)
                                                  go_wp2
                                                  go_roundg (am2.length + 1 - (bb + 1))
                                                  case measure => omega
                                                  case rel => exact ⟨bb + 1, true, rfl, by omega, by simp, by simp, ⟨⟨(fun _ => HY1.out), (fun h => by cases h)⟩, below_drewN BXW.out _⟩⟩
                                                · have HY2 : Bx _ := ⟨HST.out (fun e => by have := e.2; cases xs <;> cases this)⟩
                                                  have hne : (xs == !xs) = false := by cases xs <;> rfl
                                                  clear HMM HST
                                                  go_wp2
                                                  go_quiet (fail)
                                                  go_wp2
                                                  go_roundg (am2.length + 1 - (bb + 1))
                                                  case measure => omega
                                                  case rel => exact ⟨bb + 1, false, rfl, by omega, by simp, by simp, ⟨⟨(fun h => by cases h), (fun _ => HY2.out)⟩, below_drewN BXW.out _⟩⟩
                                              · have he' : (xc == ch) = false := by simpa using he
                                                have HY2 : Bx _ := ⟨HST.out (fun e => he e.1)⟩
                                                clear HMM HST he
                                                go_wp2
                                                go_quiet (fail)
                                                go_wp2
                                                go_roundg (am2.length + 1 - (bb + 1))
                                                case measure => omega
                                                case rel => exact ⟨bb + 1, false, rfl, by omega, by simp, by simp, ⟨⟨(fun h => by cases h), (fun _ => HY2.out)⟩, below_drewN BXW.out _⟩⟩
                                          · have HFK : Bx (AnyI (AnyG s) (∀ j, j < k + 1 → ¬ Meets s i ⟨ch, sd⟩ j) x) := ⟨HX.out.1.to (fun hn => HKS.out (HNB.out (fun j hj => hn j hj (by omega))))⟩
                                            have BXK : Bx (Below Y.heap.size Y wr) := ⟨HX.out.2⟩
                                            clear HX
                                            go_wp2
                                            go_roundg (s.length + 1 - (k + 1))
                                            case measure => omega
                                            case rel => exact ⟨k + 1, x, rfl, by omega, rfl, by simp, ⟨HFK.out, BXK.out⟩⟩
                                      · have hle : hl.length = 0 := by omega
                                        rw [hle] at f3
                                        go_wp2
                                        go_loopg [3, 9] (am2.length + 1) (fun g v3 v9 wr => ∃ (bb : Nat) (x : Bool), g = am2.length + 1 - bb ∧ bb ≤ am2.length ∧ v3 = .bool x ∧ v9 = .int .i64 bb ∧ Bx (AnyI (AnyG s) (∀ j (hj : j < am2.length), j < bb → ¬ (am2[j].chan = ch ∧ am2[j].send = !sd)) x ∧ Below Y.heap.size Y wr))
                                        case atStart => exact ⟨0, false, by simp, by omega, rfl, rfl, ⟨⟨(fun h => by cases h), (fun _ j hj hjb => by omega)⟩, BWK.out⟩⟩
                                        case round =>
                                          obtain ⟨bb, x, hgb, hbl, rfl, rfl, HX⟩ := hrel
                                          obtain ⟨f1, f2, f3⟩ := HKC.out wr HX.out.2
                                          by_cases hltb : bb < am2.length
                                          · obtain ⟨xb, xo, rfl, _, hcl⟩ := HKA.out.at_ bb hltb
                                            obtain ⟨q0, q1⟩ := hcl wr HX.out.2
                                            obtain ⟨g0, g1⟩ := HH.out wr HX.out.2
                                            have HMM : Bx ((am2[bb].chan = ch ∧ am2[bb].send = !sd) → AnyG s) := ⟨fun e => HMB.out _ (List.getElem_mem hltb) e⟩
                                            have BXW : Bx (Below Y.heap.size Y wr) := ⟨HX.out.2⟩
                                            have HXP : Bx _ := ⟨HX.out.1⟩
                                            clear hcl HX
                                            cases x with
                                            | true =>
                                              have HY1 : Bx (AnyG s) := ⟨HXP.out.yes rfl⟩
                                              clear HXP HMM
                                              go_wp2
                                              go_quiet (fail)
                                              go_wp2
                                              go_roundg (am2.length + 1 - (bb + 1))
                                              case measure => omega
                                              case rel => exact ⟨bb + 1, true, rfl, by omega, rfl, by simp, ⟨⟨(fun _ => HY1.out), (fun h => by cases h)⟩, below_drewN BXW.out _⟩⟩
                                            | false =>
                                              have HST : Bx (¬ (am2[bb].chan = ch ∧ am2[bb].send = !sd) → ∀ j (hj : j < am2.length), j < bb + 1 → ¬ (am2[j].chan = ch ∧ am2[j].send = !sd)) := ⟨fun hn => fun j hj hjb => by
                                                by_cases e : j = bb
                                                · subst e; exact hn
                                                · exact HXP.out.no rfl j hj (by omega)⟩
                                              clear HXP
                                              generalize am2[bb] = hx at *
                                              obtain ⟨xc, xs⟩ := hx
                                              simp only at q0 q1 HMM HST
                                              by_cases he : xc = ch
                                              · subst he
                                                have hxs : xs = !sd ∨ xs = sd := by cases xs <;> cases sd <;> simp
                                                rcases hxs with rfl | rfl
                                                · have HY1 : Bx (AnyG s) := ⟨HMM.out ⟨rfl, rfl⟩⟩
                                                  clear HMM HST
                                                  go_wp2
                                                  go_quiet (fail)
                                                  go_wp2
                                                  go_roundg (am2.length + 1 - (bb + 1))
                                                  case measure => omega
                                                  case rel => exact ⟨bb + 1, true, rfl, by omega, by simp, by simp, ⟨⟨(fun _ => HY1.out), (fun h => by cases h)⟩, below_drewN BXW.out _⟩⟩
                                                · have HY2 : Bx _ := ⟨HST.out (fun e => by have := e.2; cases xs <;> cases this)⟩
                                                  have hne : (xs == !xs) = false := by cases xs <;> rfl
                                                  clear HMM HST
                                                  go_wp2
                                                  go_quiet (fail)
                                                  go_wp2
                                                  go_roundg (am2.length + 1 - (bb + 1))
                                                  case measure => omega
                                                  case rel => exact ⟨bb + 1, false, rfl, by omega, by simp, by simp, ⟨⟨(fun h => by cases h), (fun _ => HY2.out)⟩, below_drewN BXW.out _⟩⟩
                                              · have he' : (xc == ch) = false := by simpa using he
                                                have HY2 : Bx _ := ⟨HST.out (fun e => he e.1)⟩
                                                clear HMM HST he
                                                go_wp2
                                                go_quiet (fail)
                                                go_wp2
                                                go_roundg (am2.length + 1 - (bb + 1))
                                                case measure => omega
                                                case rel => exact ⟨bb + 1, false, rfl, by omega, by simp, by simp, ⟨⟨(fun h => by cases h), (fun _ => HY2.out)⟩, below_drewN BXW.out _⟩⟩
                                          · have HFK : Bx (AnyI (AnyG s) (∀ j, j < k + 1 → ¬ Meets s i ⟨ch, sd⟩ j) x) := ⟨HX.out.1.to (fun hn => HKS.out (HNB.out (fun j hj => hn j hj (by omega))))⟩
                                            have BXK : Bx (Below Y.heap.size Y wr) := ⟨HX.out.2⟩
                                            clear HX
                                            go_wp2
                                            go_roundg (s.length + 1 - (k + 1))
                                            case measure => omega
                                            case rel => exact ⟨k + 1, x, rfl, by omega, rfl, by simp, ⟨HFK.out, BXK.out⟩⟩
                            · have hke : k = s.length := by omega
                              have HF : Bx (AnyI (AnyG s) (ArmN s i am (a + 1)) x ∧ Below w1.heap.size w1 wr) := ⟨HX.out.1.to (fun hn => HSTEP.out HPN.out (fun hq => by
                                rcases hq.2 with h | ⟨j, hm⟩
                                · rw [HWN.out] at h; cases h
                                · exact hn j (by obtain ⟨hj, _⟩ := hm; omega) hm)), BY.out.trans (HX.out.2.mono BY.out.size)⟩
                              subst hke
                              clear HX BY
                              go_wp2
                              go_roundg (am.length + 1 - (a + 1))
                              case measure => omega
                              case rel => exact ⟨a + 1, x, rfl, by omega, rfl, by simp, HF⟩
              · have hae : a = am.length := by omega
                subst hae
                have HF : Bx (AnyI (AnyG s) (AllN s (i + 1)) x ∧ Below w1.heap.size w1 wr) := ⟨HX.out.1.to (fun hn j hj => by
                  by_cases e : j = i
                  · subst e; exact HGN.out (fun j hj => hn.2 j hj hj)
                  · exact hn.1 j (by omega)), HX.out.2⟩
                clear HX
                go_wp2
                go_roundg (s.length + 1 - (i + 1))
                case measure => omega
                case rel => exact ⟨i + 1, x, rfl, by omega, by omega, rfl, by simp, HF⟩
          · have g3 : decide ((i : Int) < 300) = false := by simp; omega
            have g4 : decide ((300 : Int) < ↑s.length) = true := by simp; omega
            have g5 : decide (300 < s.length) = true := by simp; omega
            have BXW : Bx (Below w1.heap.size w1 wr) := ⟨HX.out.2⟩
            cases x with
            | true =>
              have hN : 0 < N := HN1.out (HX.out.1.yes rfl)
              have g6 : decide ((0 : Int) < ↑N) = true := by simp; omega
              have g7 : decide (0 < N) = true := by simp; omega
              clear HX
              go_wp2_with (first | (go_at_call 14; refine Calls.mono (HL2.out wr BXW.out) ?_; rintro e w5 ⟨sp, sc, rfl, hNs, hb5⟩; have B5 : Bx (Below w1.heap.size w1 w5) := ⟨BXW.out.trans (hb5.mono BXW.out.size)⟩; clear hb5))
              go_ret
              exact ⟨by rfl, B5.out⟩
            | false =>
              clear HX
              go_wp2
              go_ret
              exact ⟨by rfl, BXW.out⟩
        · have hie : i = s.length := by omega
          have hs3 : s.length ≤ 300 := by omega
          have g4 : decide ((300 : Int) < ↑s.length) = false := by simp; omega
          have g5 : decide (300 < s.length) = false := by simp; omega
          have BXW : Bx (Below w1.heap.size w1 wr) := ⟨HX.out.2⟩
          cases x with
          | true =>
            have hN : 0 < N := HN1.out (HX.out.1.yes rfl)
            have g6 : decide ((0 : Int) < ↑N) = true := by simp; omega
            have g7 : decide (0 < N) = true := by simp; omega
            subst hie
            clear HX
            go_wp2_with (first | (go_at_call 14; refine Calls.mono (HL2.out wr BXW.out) ?_; rintro e w5 ⟨sp, sc, rfl, hNs, hb5⟩; have B5 : Bx (Below w1.heap.size w1 w5) := ⟨BXW.out.trans (hb5.mono BXW.out.size)⟩; clear hb5))
            go_ret
            exact ⟨by rfl, B5.out⟩
          | false =>
            have hN : N = 0 := by
              rcases Nat.eq_zero_or_pos N with h | h
              · exact h
              · obtain ⟨j, hj⟩ := HN2.out h
                exact absurd hj (HX.out.1.no rfl j (by obtain ⟨hj1, _⟩ := hj; omega))
            subst hie
            rw [hN] at HL2
            clear HX hN HN1 HN2
            go_wp2_with (first | (go_at_call 14; refine Calls.mono (HL2.out wr BXW.out) ?_; rintro e w5 ⟨sp, sc, rfl, hNs, hb5⟩; have B5 : Bx (Below w1.heap.size w1 w5) := ⟨BXW.out.trans (hb5.mono BXW.out.size)⟩; clear hb5))
            go_ret
            exact ⟨by rfl, B5.out⟩
    · go_ret
      exact ⟨by rfl, Below.refl _ _⟩
  · go_wp2_with (first
      | (go_at_call 9; refine Calls.mono HBY.out ?_; clear HBY; rintro e w1 ⟨⟨b1, rfl, hb1⟩, rfl⟩; have HT : Bx (b1 = false → totA s ≤ 2147483647) := ⟨hb1⟩; clear hb1; cases b1)
      | (go_at_call 10; refine Calls.mono (HSH.out _) ?_; rintro e w2 ⟨rfl, hb2⟩)
      | (go_at_call 12; refine Calls.mono (HCK.out (HT.out (by trivial)) w2 hb2) ?_; rintro e w3 ⟨rfl, hb3⟩; have B3 : Bx (Below w1.heap.size w1 w3) := ⟨hb2.trans (hb3.mono hb2.size)⟩; clear hb2 hb3))
    · go_ret
      exact ⟨by rfl, B3.out⟩
    · go_ret
      exact ⟨by rfl, Below.refl _ _⟩
end Go.Proofs.Ytfdofdpfdimgiaa
