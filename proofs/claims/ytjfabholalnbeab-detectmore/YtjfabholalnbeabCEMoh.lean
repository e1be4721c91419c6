import Derived.Test.YtjfabholalnbeabCEMor
namespace Go.Proofs.Ytjfabholalnbeab
open Go.RowKit
set_option linter.unusedVariables false
set_option linter.unusedSimpArgs false

set_option maxRecDepth 100000 in
set_option maxHeartbeats 1500000 in
theorem mor_hold (w : World) (p : Option Addr) (c : Nat) (s : List Ag) (hs : AgsR w p c s) (hz : Lists s) (hsl : s.length ≤ 1152921504606846976) (who : Int) (hwho : I64 who) (ch : Int) (hch : I64 ch) (ht : totA s ≤ 2147483647) (hok : stOk s = true) (hne : 0 < s.length) :
    Calls Try.prog 6 #[.slice p s.length c, .int .i64 who, .int .i64 ch, .bool false] w fun e w' => e = .returned (.bool true) ∧ Below w.heap.size w w' := by
  obtain ⟨i0, hi, iz0, iz1, iz2⟩ := info_parts infoG
  have hlc := hs.len
  have hcm := hs.max
  unfold maxLen at hcm
  have h4 := st_len hok
  have HH : Bx _ := ⟨heavy_no hs hz hsl ht⟩
  have HS : Bx (AgsR w p c s ∧ stOk s = true ∧ totA s ≤ 2147483647) := ⟨hs, hok, ht⟩
  have HAM : Bx (∀ W : World, Calls Try.prog 18 #[.int .i64 who, .int .i64 (s.length : Int)] W fun e w' => (∃ j : Nat, j < s.length ∧ e = .returned (.int .i64 (j : Int))) ∧ w' = W) := ⟨fun W => among_any W who s.length hwho (by omega) (by omega)⟩
  have HAC : Bx (∀ W : World, Calls Try.prog 18 #[.int .i64 ch, .int .i64 1099511627776] W fun e w' => (∃ j : Nat, j < 1099511627776 ∧ e = .returned (.int .i64 (j : Int))) ∧ w' = W) := ⟨fun W => among_any W ch 1099511627776 hch (by omega) (by omega)⟩
  have g0 : ((s.length : Int) == 0) = false := beq_eq_false_iff_ne.2 (by omega)
  clear hs hz hok
  go_enter Try.func6, Try.ntmps6
  go_wp2_with (first
    | (go_at_call 8; refine Calls.mono HH.out ?_; rintro e w1 ⟨rfl, hb1⟩; have B1 : Bx (Below w.heap.size w w1) := ⟨hb1⟩; clear hb1)
    | (go_at_call 9; refine Calls.mono (shown15_any _) ?_; rintro e w2 ⟨rfl, hb2⟩; have B2 : Bx (Below w.heap.size w w2) := ⟨blw B1.out hb2⟩; clear hb2)
    | (go_at_call 10; clear HH; refine Calls.mono (Dead_yes w2 p c s (HS.out.1.later B2.out) HS.out.2.2 HS.out.2.1) ?_; rintro e w30 ⟨Y, dq, dd, hY, rfl, hI, hb3⟩; have I3 : Bx (IntsR w30 dq dd (ddL Y s) ∧ Below w.heap.size w w30 ∧ Full s Y) := ⟨hI, blw B2.out hb3, hY⟩; have hDc := hI.len; have hDm := hI.max; unfold maxLen at hDm; clear hI hb3 hY)
    | (go_at_call 18; refine Calls.mono (HAM.out _) ?_; rintro e w3 ⟨⟨i, hil, rfl⟩, hw3⟩; subst hw3)
    | (at_builtin; refine wpList_copy w3 _ rfl (.tmp 44) rfl p c s (HS.out.1.later I3.out.2.1) (Below.refl _ _) (by omega) rfl ?_; intro tp tc w4 hT4 hb4; obtain ⟨tg, rfl⟩ := hT4.ptr hne; have I4 : Bx (TuI w3 w4 (some ⟨tg, 0, none⟩) tc s) := ⟨hT4⟩; have htc := hT4.cap; unfold maxLen at htc; obtain ⟨htc1, htc2⟩ := htc; have B4 : Bx _ := ⟨hb4⟩; clear hT4 hb4))
  have HTR : Bx (AgsR w4 (some ⟨tg, 0, none⟩) tc s) := ⟨I4.out.read.1⟩
  obtain ⟨cs4, ho4, hx4, hbx4⟩ := I4.out
  obtain ⟨ap4, ac4, hp4, hc4, _, _, hM4, _, _, _, q7⟩ := hx4.2 i hil
  have HM4 : Bx (IntsM w3 w4 w3.heap.size hp4 hc4 s[i].held ∧ risI s[i].held = true ∧ s[i].held.length ≤ 2147483647) := ⟨hM4, ag_ris (st_all HS.out.2.1 _ (List.getElem_mem hil)).1, Nat.le_trans (arm_tot s i hil).2 ht⟩
  have e4 : w4.cell? ⟨tg, i * 4 + 3, none⟩ = some (.slice hp4 s[i].held.length hc4) := (ho4.cellAt (i * 4 + 3) (by have := hx4.1; omega)).trans q7
  have e0 : w4.drew.cell? ⟨tg, i * 4 + 3, none⟩ = some (.slice hp4 s[i].held.length hc4) := e4
  have HPT : Bx (∀ j : Nat, j < 1099511627776 → Calls Try.prog 22 #[.slice hp4 s[i].held.length hc4, .int .i64 (1 + (j : Int))] w4.drew (PutG w3 w4.drew s[i].held)) := ⟨fun j hj => put_gen (W := w4.drew) hbx4.drew (HM4.out.1.keep (KA.below (Below.refl _ _).drew)) HM4.out.2.2 HM4.out.2.1 ⟨by omega, by omega⟩ (by omega)⟩
  have HNX : Bx (∀ (w5 : World) (q : Option Addr) (d : Nat) (m : List Int), risI m = true → (∀ x ∈ s[i].held, x ∈ m) → m.length ≤ s[i].held.length + 1 → IntsM w3 w5 w3.heap.size q d m → Below w4.drew.heap.size w4.drew w5 → ((∃ v, w5.cell? ⟨tg, i * 4 + 3, none⟩ = some v) ∧ w5.frozen? ⟨tg, i * 4 + 3, none⟩ = false) ∧ Calls Try.prog 10 #[.slice (some ⟨tg, 0, none⟩) s.length tc] (w5.setCell ⟨tg, i * 4 + 3, none⟩ (.slice q m.length d)) (MoD w3 (ddL Y s))) := ⟨fun w5 q d m h1 h2 h3 h4 hb => by
    have hb4 : Below w4.heap.size w4 w5 := (Below.refl w4.heap.size w4).drew.trans hb
    obtain ⟨_, _, s3, s4⟩ := (I4.out.later hb4).spot hil
    exact ⟨⟨s3, s4 _⟩, mo_dead (MoT.hold I4.out HS.out.2.1 ht hil hb4 h1 h2 h3 h4) HS.out.2.1 I3.out.2.2⟩⟩
  clear ho4 hx4 hM4 q7 hbx4 HM4 HTR
  generalize s[i].held = hd4 at *
  go_wp2
  go_region_law (first
    | (refine step_call rfl 18 #[.tmp 62, .const (.int .i64 1099511627776)] #[3, 3] rfl #[.int .i64 ch, .int .i64 1099511627776] (by simp only [execOp]; go_simp) (HAC.out _) ?_; rintro e wa ⟨⟨jc, hjc, rfl⟩, rfl⟩; have gj : IntKind.i64.wrap (1 + (jc : Int)) = 1 + (jc : Int) := IntWalk.i64_in _ ⟨by omega, by omega⟩; refine ⟨_, rfl, ?_⟩)
    | (refine step_call rfl 22 #[.tmp 61, .tmp 64] #[25, 3] rfl #[.slice hp4 hd4.length hc4, .int .i64 (1 + (jc : Int))] (by simp only [execOp]; go_simp) (HPT.out jc hjc) ?_; rintro e w5 ⟨q5, d5, m5, rfl, hr5, hm5, hl5, hM5, hb5⟩; obtain ⟨⟨⟨cv5, e5⟩, f5⟩, hD5⟩ := HNX.out w5 q5 d5 m5 hr5 hm5 hl5 hM5 hb5; have HDT : Bx _ := ⟨hD5⟩; clear hr5 hm5 hl5 hM5 hb5 hD5; refine ⟨_, rfl, ?_⟩))
  all_goals
    go_wp2_with (first
      | (go_at_call 10; refine Calls.mono HDT.out ?_; rintro e w6 ⟨D6, q6, d6, rfl, hI6, hD6, hb6⟩; have I6 : Bx (IntsR w6 q6 d6 D6 ∧ (∀ id ∈ D6, hasL (ddL Y s) id = true) ∧ Below w3.heap.size w3 w6) := ⟨hI6, hD6, hb6⟩; have h6c := hI6.len; have h6m := hI6.max; unfold maxLen at h6m; clear hI6 hD6 hb6 HDT))
    have HD3 : Bx (IntsR w3 dq dd (ddL Y s)) := ⟨I3.out.1⟩
    go_loopg [77] (D6.length + 1) (fun g v77 wr => ∃ j : Nat, g = D6.length + 1 - j ∧ j ≤ D6.length ∧ v77 = .int .i64 (j : Nat) ∧ Bx (wr = w6))
    case atStart => exact ⟨0, by simp, by omega, rfl, ⟨rfl⟩⟩
    case round =>
      obtain ⟨j, hgj, hjl, rfl, HW⟩ := hrel
      by_cases hjt : j < D6.length
      · obtain ⟨zb, zo, rfl, z64, hzc⟩ := I6.out.1.at_ j hjt
        have z0 := hzc wr (by rw [HW.out]; exact Below.refl _ _)
        have HHA : Bx (Calls Try.prog 13 #[.slice dq (ddL Y s).length dd, .int .i64 D6[j]] wr fun e w' => e = .returned (.bool true) ∧ w' = wr) := ⟨by
          have := has_any wr dq dd (ddL Y s) D6[j] (HD3.out.later (by rw [HW.out]; exact I6.out.2.2)) z64
          rw [I6.out.2.1 _ (List.getElem_mem hjt)] at this
          exact this⟩
        clear hzc
        generalize D6[j] = z at *
        go_wp2_with (first | (go_at_call 13; refine Calls.mono HHA.out ?_; rintro e w9 ⟨rfl, hw9⟩; have HW9 : Bx (w9 = w6) := ⟨hw9.trans HW.out⟩; clear hw9))
        go_roundg (D6.length + 1 - (j + 1))
        case measure => omega
        case rel => exact ⟨j + 1, rfl, by omega, by simp, HW9⟩
      · have hje : j = D6.length := by omega
        subst hje
        obtain ⟨l, hl⟩ : ∃ l, s.length = l + 1 := ⟨s.length - 1, by omega⟩
        have hll : l < s.length := by omega
        obtain ⟨b, o, ap, ac, hp, hc, rfl, hA, hcl⟩ := (HS.out.1.later I3.out.2.1).at_ l hll
        have BW : Bx (Below w3.heap.size w3 wr) := ⟨by rw [HW.out]; exact I6.out.2.2⟩
        have c0 := (hcl wr BW.out).1
        have hla := hA.id
        have HLA : Bx (s[l].id = (s[s.length - 1]'(Nat.sub_lt hne (by decide))).id) := ⟨by congr 2; omega⟩
        obtain ⟨b', o', ap', ac', hp', hc', e', hA', hcl'⟩ := (HS.out.1.later I3.out.2.1).at_ i hil
        cases e'
        have HCI : Bx (∀ W, Below w3.heap.size w3 W → W.cell? ⟨b, o + i * 4 + 3, none⟩ = some (.slice hp' s[i].held.length hc')) := ⟨fun W hW => (hcl' W hW).2.2.2⟩
        have HHL : Bx (IntsR w3 hp' hc' s[i].held ∧ risI s[i].held = true ∧ s[i].held.length ≤ 2147483647) := ⟨hA'.held, ag_ris (st_all HS.out.2.1 _ (List.getElem_mem hil)).1, Nat.le_trans (arm_tot s i hil).2 ht⟩
        obtain ⟨cs, hX, hXc, hX1⟩ := AgX.of (HS.out.1.later I3.out.2.1) w3.heap.size
        have HXX : Bx (AgX w3 w3 w3.heap.size s cs ∧ ∀ u ∈ cs, u.oneCell' = true) := ⟨hX, hX1⟩
        have HCS : Bx (∀ W, Below w3.heap.size w3 W → ∀ j u, cs[j]? = some u → W.cell? ((⟨b, o, none⟩ : Addr).add j) = some u) := ⟨fun W hW j u hj => by
          have h := hXc b o rfl j u hj
          rw [add_off] at h ⊢
          exact (hW.cell (p := ⟨b, o + j, none⟩) (World.block_lt_of_cell? w3 _ h)).trans h⟩
        have hcsl := hX.1
        have g1 : (s.length : Int) - 1 = (l : Int) := by omega
        clear hcl hA hcl' hA' hX hXc hX1 I6
        generalize s[l].id = la at *
        clear hl
        generalize s[i].held = hd at *
        by_cases hmx : la = 9223372036854775807
        · subst hmx
          go_wp2
          go_ret
          exact ⟨rfl, blw I3.out.2.1 BW.out⟩
        · have gm : (la == 9223372036854775807) = false := beq_eq_false_iff_ne.2 hmx
          by_cases h40 : 4096 ≤ s.length
          · go_wp2
            go_ret
            exact ⟨rfl, blw I3.out.2.1 BW.out⟩
          · have hla2 : la + 1 ≤ 9223372036854775807 := by unfold I64 at hla; omega
            have hla3 : -9223372036854775808 ≤ la + 1 := by unfold I64 at hla; omega
            have HMO : Bx (∀ (W : World) (p8 : Option Addr) (c8 : Nat), AgsR W p8 c8 (s ++ [⟨la + 1, false, [], hd⟩]) → Below w3.heap.size w3 W → Calls Try.prog 10 #[.slice p8 (s.length + 1) c8] W (MoE w3 (ddL Y s) (la + 1))) := ⟨mo_call HS.out.2.1 ht hne (by omega) HLA.out I3.out.2.2 HHL.out.2.1 HHL.out.2.2 false⟩
            have HRW : Bx (∀ (w8 : World) (v8 : Value), w8.ownsRow w3.heap.size 32 4 v8 (s.length + 1) (cs ++ [.int .i64 (la + 1), .bool false, .slice none 0 0, .slice hp' hd.length hc']) → Below w3.heap.size w3 w8 → ∃ p8 c8, v8 = .slice p8 (s.length + 1) c8 ∧ AgsR w8 p8 c8 (s ++ [⟨la + 1, false, [], hd⟩])) := ⟨fun w8 v8 ho hb => mo_row HXX.out.1 ho hb ⟨hla3, hla2⟩ HHL.out.1⟩
            have gw : IntKind.i64.wrap (la + 1) = la + 1 := IntWalk.i64_in _ ⟨hla3, hla2⟩
            have b0 : Below w3.heap.size w3 wr.drew := BW.out.drew
            have e0 := HCI.out wr.drew b0
            have b1 : Below w3.heap.size w3 (wr.drew.alloc (.cells #[.int .i64 (la + 1), .bool false, .slice none 0 0, .slice hp' hd.length hc'] 32)) := b0.alloc b0.size _
            go_wp2
            go_region_law (first
              | (refine step_app rfl (.const (.slice none 0 0)) (.tmp 101) 22 rfl w3.heap.size 32 i0 (.agg #[.int .i64 0, .bool false, .slice none 0 0, .slice none 0 0]) 4 64 Try.underlying22 hi iz0 iz1 iz2 rfl (by decide) (.slice none 0 0) 0 [] rfl ⟨rfl, .inl ⟨rfl, rfl⟩⟩ (some ⟨b, o, none⟩) s.length c cs (by simp [Act.eval, Act.put]) hcsl (fun _ => ⟨_, rfl, HCS.out _ (by first | exact b0 | exact b1)⟩) HXX.out.2 (by unfold maxLen; omega) (by omega) (by first | exact b0.size | exact b1.size) ?_; intro v7 w7 hown7 hgrow7 hv7; rw [List.nil_append, Nat.zero_add] at hown7; have b7 : Below w3.heap.size w3 w7 := (by first | exact b0.grown hgrow7 b0.size (fun r e => by cases e) | exact b1.grown hgrow7 b1.size (fun r e => by cases e)); have e7 := HCI.out w7 b7; have I7 : Bx (w7.ownsRow w3.heap.size 32 4 v7 s.length cs) := ⟨hown7⟩; have b9 : Below w3.heap.size w3 (w7.alloc (.cells #[.int .i64 (la + 1), .bool false, .slice none 0 0, .slice hp' hd.length hc'] 32)) := b7.alloc b7.size _; first | (have L7 : Bx (w7.heap[wr.heap.size]? = some (.cells #[.int .i64 (la + 1), .bool false, .slice none 0 0, .slice hp' hd.length hc'] 32 (0, 0))) := ⟨(hgrow7.block wr.heap.size (by simp) (by simp [Value.ownBlock])).trans (World.alloc_heap_new wr.drew _)⟩) | skip; clear hown7 hgrow7 hv7)
              | (refine step_app rfl (.tmp 102) (.tmp 112) 22 rfl w3.heap.size 32 i0 (.agg #[.int .i64 0, .bool false, .slice none 0 0, .slice none 0 0]) 4 64 Try.underlying22 hi iz0 iz1 iz2 rfl (by decide) v7 s.length cs (by simp [Act.eval, Act.put]) (own_new I7.out (below1 _ _)) (some ⟨w7.heap.size, 0, none⟩) 1 1 [.int .i64 (la + 1), .bool false, .slice none 0 0, .slice hp' hd.length hc'] (by simp [Act.eval, Act.put]) rfl (fun _ => ⟨_, rfl, block_cells _ _ _ 32 (World.alloc_heap_new _ _)⟩) (by simp [Value.oneCell']) (by unfold maxLen; omega) (by omega) b9.size ?_; intro v8 w8 hown8 hgrow8 hv8; have b8 : Below w3.heap.size w3 w8 := b9.grown hgrow8 b9.size (fun r e => own_base I7.out r e); obtain ⟨p8, c8, rfl, hA8⟩ := HRW.out w8 v8 hown8 b8; have I8 : Bx _ := ⟨hA8⟩; clear hown8 hgrow8 hv8 hA8)
              | (refine step_app rfl (.tmp 102) (.tmp 112) 22 rfl w3.heap.size 32 i0 (.agg #[.int .i64 0, .bool false, .slice none 0 0, .slice none 0 0]) 4 64 Try.underlying22 hi iz0 iz1 iz2 rfl (by decide) v7 s.length cs (by simp [Act.eval, Act.put]) I7.out (some ⟨wr.heap.size, 0, none⟩) 1 1 [.int .i64 (la + 1), .bool false, .slice none 0 0, .slice hp' hd.length hc'] (by simp [Act.eval, Act.put]) rfl (fun _ => ⟨_, rfl, block_cells _ _ _ 32 L7.out⟩) (by simp [Value.oneCell']) (by unfold maxLen; omega) (by omega) b7.size ?_; intro v8 w8 hown8 hgrow8 hv8; have b8 : Below w3.heap.size w3 w8 := b7.grown hgrow8 b7.size (fun r e => own_base I7.out r e); obtain ⟨p8, c8, rfl, hA8⟩ := HRW.out w8 v8 hown8 b8; have I8 : Bx _ := ⟨hA8⟩; clear hown8 hgrow8 hv8 hA8)
              | (refine step_call rfl 10 #[.tmp 113] #[22] rfl #[.slice p8 (s.length + 1) c8] (by simp only [execOp]; go_simp) (HMO.out w8 p8 c8 I8.out b8) ?_; rintro e wA ⟨DA, qA, dA, rfl, hIA, hDA, hbA⟩; have IA : Bx (IntsR wA qA dA DA ∧ (∀ id ∈ DA, hasL (ddL Y s) id = true ∨ id = la + 1) ∧ Below w3.heap.size w3 wA) := ⟨hIA, hDA, hbA⟩; have hAc := hIA.len; have hAm := hIA.max; unfold maxLen at hAm; clear hIA hDA hbA; refine ⟨_, rfl, ?_⟩))
            all_goals
              go_wp2
              go_loopg [121] (DA.length + 1) (fun g v121 wr => ∃ j : Nat, g = DA.length + 1 - j ∧ j ≤ DA.length ∧ v121 = .int .i64 (j : Nat) ∧ Bx (wr = wA))
              case atStart => exact ⟨0, by simp, by omega, rfl, ⟨rfl⟩⟩
              case round =>
                obtain ⟨j, hgj2, hjl2, rfl, HWA⟩ := hrel
                by_cases hjt2 : j < DA.length
                · obtain ⟨zb, zo, rfl, z64, hzc⟩ := IA.out.1.at_ j hjt2
                  have z0 := hzc wr (by rw [HWA.out]; exact Below.refl _ _)
                  have HHA : Bx (Calls Try.prog 13 #[.slice dq (ddL Y s).length dd, .int .i64 DA[j]] wr fun e w' => e = .returned (.bool (hasL (ddL Y s) DA[j])) ∧ w' = wr) := ⟨has_any wr dq dd (ddL Y s) DA[j] (HD3.out.later (by rw [HWA.out]; exact IA.out.2.2)) z64⟩
                  have hor := IA.out.2.1 _ (List.getElem_mem hjt2)
                  clear hzc
                  generalize DA[j] = z at *
                  cases hh : hasL (ddL Y s) z with
                  | true =>
                    rw [hh] at HHA
                    clear hor
                    go_wp2_with (first | (go_at_call 13; refine Calls.mono HHA.out ?_; rintro e w9 ⟨rfl, hw9⟩; have HW9 : Bx (w9 = wA) := ⟨hw9.trans HWA.out⟩; clear hw9))
                    go_roundg (DA.length + 1 - (j + 1))
                    case measure => omega
                    case rel => exact ⟨j + 1, rfl, by omega, by simp, HW9⟩
                  | false =>
                    rw [hh] at HHA
                    obtain rfl : z = la + 1 := by
                      rcases hor with g | g
                      · rw [hh] at g; cases g
                      · exact g
                    clear hor
                    go_wp2_with (first | (go_at_call 13; refine Calls.mono HHA.out ?_; rintro e w9 ⟨rfl, hw9⟩; have HW9 : Bx (w9 = wA) := ⟨hw9.trans HWA.out⟩; clear hw9))
                    go_roundg (DA.length + 1 - (j + 1))
                    case measure => omega
                    case rel => exact ⟨j + 1, rfl, by omega, by simp, HW9⟩
                · have hje2 : j = DA.length := by omega
                  subst hje2
                  go_wp2
                  go_ret
                  exact ⟨rfl, by rw [HWA.out]; exact blw I3.out.2.1 IA.out.2.2⟩
end Go.Proofs.Ytjfabholalnbeab
namespace Go.Proofs.Ytjfabholalnbeab
open Go.RowKit
set_option linter.unusedVariables false
set_option linter.unusedSimpArgs false

set_option maxRecDepth 100000 in
theorem mor_none (w : World) (p : Option Addr) (c : Nat) (s : List Ag) (hs : AgsR w p c s) (hz : Lists s) (hsl : s.length ≤ 1152921504606846976) (who ch : Int) (wakes : Bool) (ht : totA s ≤ 2147483647) (h0 : stOk s = false ∨ s = []) :
    Calls Try.prog 6 #[.slice p s.length c, .int .i64 who, .int .i64 ch, .bool wakes] w fun e w' => e = .returned (.bool true) ∧ Below w.heap.size w w' := by
  have HH : Bx _ := ⟨heavy_no hs hz hsl ht⟩
  have HD : Bx (∀ W, Below w.heap.size w W → Calls Try.prog 10 #[.slice p s.length c] W fun e w' => ∃ D q d, DeadIs s D ∧ e = .returned (.tuple #[.slice q D.length d, .int .i64 (chkI s)]) ∧ IntsR w' q d D ∧ Below W.heap.size W w') := ⟨fun W hW => Dead_gen W p c s (hs.later hW) ht⟩
  have HC : Bx (∀ W, Below w.heap.size w W → Calls Try.prog 11 #[.slice p s.length c] W fun e w' => e = .returned (.int .i64 (chkI s)) ∧ Below W.heap.size W w') := ⟨fun W hW => Check_any W p c s (hs.later hW) (few_of ht)⟩
  have h1 : chkI s = 140 ∨ (chkI s = 0 ∧ s.length = 0) := by
    rcases h0 with h0 | h0
    · left; simp [chkI, h0]
    · right; subst h0; exact ⟨rfl, rfl⟩
  clear hs hz ht h0
  generalize chkI s = ck at *
  rcases h1 with h1 | ⟨h1, h2⟩
  · subst h1
    go_enter Try.func6, Try.ntmps6
    go_wp2_with (first
      | (go_at_call 8; refine Calls.mono HH.out ?_; rintro e w1 ⟨rfl, hb1⟩; have B1 : Bx (Below w.heap.size w w1) := ⟨hb1⟩; clear hb1)
      | (go_at_call 9; refine Calls.mono (shown15_any _) ?_; rintro e w2 ⟨rfl, hb2⟩; have B2 : Bx (Below w.heap.size w w2) := ⟨blw B1.out hb2⟩; clear hb2)
      | (go_at_call 10; refine Calls.mono (HD.out w2 B2.out) ?_; rintro e w3 ⟨D, q, d, _, rfl, _, hb3⟩; have B3 : Bx (Below w.heap.size w w3) := ⟨blw B2.out hb3⟩; clear hb3)
      | (go_at_call 11; refine Calls.mono (HC.out w3 B3.out) ?_; rintro e w4 ⟨rfl, hb4⟩; have B4 : Bx (Below w.heap.size w w4) := ⟨blw B3.out hb4⟩; clear hb4))
    go_ret
    exact ⟨rfl, B4.out⟩
  · subst h1
    rw [h2] at HH HD HC ⊢
    go_enter Try.func6, Try.ntmps6
    go_wp2_with (first
      | (go_at_call 8; refine Calls.mono HH.out ?_; rintro e w1 ⟨rfl, hb1⟩; have B1 : Bx (Below w.heap.size w w1) := ⟨hb1⟩; clear hb1)
      | (go_at_call 9; refine Calls.mono (shown15_any _) ?_; rintro e w2 ⟨rfl, hb2⟩; have B2 : Bx (Below w.heap.size w w2) := ⟨blw B1.out hb2⟩; clear hb2)
      | (go_at_call 10; refine Calls.mono (HD.out w2 B2.out) ?_; rintro e w3 ⟨D, q, d, _, rfl, _, hb3⟩; have B3 : Bx (Below w.heap.size w w3) := ⟨blw B2.out hb3⟩; clear hb3)
      | (go_at_call 11; refine Calls.mono (HC.out w3 B3.out) ?_; rintro e w4 ⟨rfl, hb4⟩; have B4 : Bx (Below w.heap.size w w4) := ⟨blw B3.out hb4⟩; clear hb4))
    go_ret
    exact ⟨rfl, B4.out⟩
set_option maxRecDepth 100000 in
theorem mor_walk (w : World) (p : Option Addr) (c : Nat) (s : List Ag) (hs : AgsR w p c s) (hz : Lists s) (hsl : s.length ≤ 1152921504606846976) (who : Int) (hwho : I64 who) (ch : Int) (hch : I64 ch) (wakes : Bool) :
    Calls Try.prog 6 #[.slice p s.length c, .int .i64 who, .int .i64 ch, .bool wakes] w fun e w' => e = .returned (.bool true) ∧ Below w.heap.size w w' := by
  by_cases ht : totA s ≤ 2147483647
  · by_cases hne : 0 < s.length
    · cases hok : stOk s with
      | true =>
        cases wakes with
        | true => exact mor_wake w p c s hs hz hsl who hwho ch hch ht hok hne
        | false => exact mor_hold w p c s hs hz hsl who hwho ch hch ht hok hne
      | false => exact mor_none w p c s hs hz hsl who ch wakes ht (.inl hok)
    · exact mor_none w p c s hs hz hsl who ch wakes ht (.inr (List.eq_nil_of_length_eq_zero (by omega)))
  · have HH : Bx _ := ⟨heavy_yes hs hz hsl ht⟩
    clear hs hz ht
    go_enter Try.func6, Try.ntmps6
    go_wp2_with (first
      | (go_at_call 8; refine Calls.mono HH.out ?_; rintro e w1 ⟨rfl, hb1⟩; have B1 : Bx (Below w.heap.size w w1) := ⟨hb1⟩; clear hb1))
    go_ret
    exact ⟨rfl, B1.out⟩
end Go.Proofs.Ytjfabholalnbeab
