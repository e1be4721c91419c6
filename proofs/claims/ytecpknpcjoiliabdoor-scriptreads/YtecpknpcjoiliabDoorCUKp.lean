import Derived.Test.YtecpknpcjoiliabDoorCUKm
namespace Go.Proofs.YtecpknpcjoiliabDoor
open Go.RowKit
set_option linter.unusedVariables false
set_option linter.unusedSimpArgs false

theorem pk_new (W : World) (q : Pk) : ∀ j u, (pk1 q)[j]? = some u → (W.alloc (.cells #[.int .i64 q.kind, .int .i64 q.n, .int .i64 q.v] 39)).cell? ((⟨W.heap.size, 0, none⟩ : Addr).add j) = some u := by
  have h := heap_alloc_new W (.cells #[.int .i64 q.kind, .int .i64 q.n, .int .i64 q.v] 39)
  exact World.news_of_block (cs := #[.int .i64 q.kind, .int .i64 q.n, .int .i64 q.v]) h

set_option maxRecDepth 100000 in
set_option maxHeartbeats 4000000 in
theorem spoil_any (X : BRow) (hXe : X.e = 39) (B h n : Nat) (vo vw : Value) (es : List Ent) (w : World) (hB : Bk w B h vo vw 0 es) (hXo : X.ok w B) (hXa : ∀ e ∈ es, Apart e.x X.v ∧ Apart e.y X.v) (ha : Alone es) (hn : es.length = n) (hn4 : n ≤ 40) (hs : ∀ e ∈ es, e.l.length ≤ 20000000) :
    Calls Tryd.prog 9 #[.pointer (some ⟨h, 0, none⟩)] w fun e w' => e = .returned (.bool true) ∧ Sp w w' B ∧ X.ok w' B := by
  have HB : Bx (Bk w B h vo vw 0 es) := ⟨hB⟩
  have HA : Bx (Alone es) := ⟨ha⟩
  obtain ⟨hh, c0, c1, c2, hfz, hBh⟩ := book_cells hB.book
  have hlen : ∃ xo co, vo = .slice xo n co := by
    have ho : w.ownsRow B 29 1 vo es.length (es.map Ent.x) := hB.outs.own
    obtain ⟨xo, co, hvo, _⟩ := row1_of ho
    exact ⟨xo, co, by rw [← hn]; exact hvo⟩
  obtain ⟨xo, co, hvo⟩ := hlen
  rw [hvo] at c0
  have hzB : B ≤ w.heap.size := by omega
  clear hB ha hfz c1
  go_enter Tryd.func9, Tryd.ntmps9
  go_wp2_with (first | (go_at_call 16; refine Calls.mono (holds_any B h vo vw 0 es w HB.out) ?_; rintro e w' ⟨rfl, k0, rfl⟩))
  go_loopw [6] (fun i wr => ∃ (j : Nat) (cur : List Ent), j ≤ n ∧ i = .int .i64 j ∧ MarksB X w wr B h vo vw cur es) (fun i _ => n - (intOf i).toNat)
  case atStart => exact ⟨0, es, Nat.zero_le _, rfl, ⟨hXo.below (drawn_below w k0), HB.out.below (drawn_below w k0), Like.refl _, (Sp.refl w B).drewN hzB k0⟩⟩
  case round =>
    obtain ⟨j, cur, hj, rfl, HM⟩ := hrel
    clear c0 c2 hh
    by_cases hlt : j < n
    · have hjes : j < es.length := by omega
      obtain ⟨L, hL⟩ : ∃ L, es[j].l.length = L := ⟨_, rfl⟩
      have hLs : L ≤ 20000000 := by rw [← hL]; exact hs _ (List.getElem_mem hjes)
      go_wp2
      go_loopw [7] (fun k wr' => ∃ (p : Nat) (cur' : List Ent), p ≤ L ∧ k = .int .i64 p ∧ MarksB X w wr' B h vo vw cur' es) (fun k _ => L - (intOf k).toNat)
      case atStart => exact ⟨0, cur, Nat.zero_le _, rfl, HM⟩
      case round =>
        obtain ⟨p, cur', hp, rfl, HM'⟩ := hrel
        clear HM
        have hjc : j < cur'.length := by rw [HM'.like.1]; exact hjes
        have hLc : cur'[j].l.length = L := by rw [(HM'.like.2 j hjc hjes).2.2]; exact hL
        have hnc : cur'.length = n := HM'.like.1.trans hn
        obtain ⟨ro, co', rw', cw', x, y, ca, cb, hvo', hvw', hx, hy, A, qx, qy⟩ := bk_at HM'.bk n j L hnc hjc hLc
        have hca := qx.cap
        have hcb := qy.cap
        obtain ⟨d0, d1, d2, d3, d4, d5, d6, d7, d8⟩ := A
        by_cases hpl : p < L
        · obtain ⟨g, rfl, hg, qc⟩ := qx.at_ (by omega)
          obtain ⟨g', rfl, hg', qc'⟩ := qy.at_ (by omega)
          obtain ⟨x0, x1, x2⟩ := qc p (by omega)
          obtain ⟨y0, y1, y2⟩ := qc' p (by omega)
          have eg : cur'[j].x.ownBlock = some g := by rw [hx]; rfl
          have eg' : cur'[j].y.ownBlock = some g' := by rw [hy]; rfl
          obtain ⟨n1, n2, n3, n4, n5⟩ := bk_ne HM'.bk hvo' hvw' j hjc g (.inl eg)
          obtain ⟨m1, m2, m3, m4, m5⟩ := bk_ne HM'.bk hvo' hvw' j hjc g' (.inr eg')
          have hAl : Alone cur' := HA.out.like HM'.like
          have gg : g ≠ g' := fun e => (hAl j j hjc hjc).2 g eg (by rw [eg', e])
          have HMK := bk_marked (q := ⟨-1 - (j : Int), 0, 0⟩) HM'.bk hAl hjc (k := p) (by omega) (by rw [hLc]; exact hx) (by rw [hLc]; exact hy) HM'.okX (by rw [(HM'.like.2 j hjc hjes).1]; exact (hXa _ (List.getElem_mem hjes)).1) (by rw [(HM'.like.2 j hjc hjes).2.1]; exact (hXa _ (List.getElem_mem hjes)).2)
          have HM2 : Bx (MarksB X w (setQ (setQ wr g p ⟨-1 - (j : Int), 0, 0⟩) g' p ⟨-1 - (j : Int), 0, 0⟩) B h vo vw (cur'.set j ⟨cur'[j].x, cur'[j].y, cur'[j].l.set p ⟨-1 - (j : Int), 0, 0⟩⟩) es) :=
            ⟨⟨HMK.1, HMK.2.1, HM'.like.set j hjc _ (by simp), HM'.sp.trans HMK.2.2⟩⟩
          clear HMK hAl eg eg' qc qc' qx qy HM' hx hy hvo' hvw'
          go_wp2
          go_roundw
          case rel => exact ⟨p + 1, _, by omega, by go_num, HM2.out⟩
          case measure => simp [intOf]; omega
        · clear qx qy hx hy
          go_wp2
          go_roundw
          case rel => exact ⟨j + 1, cur', by omega, by go_num, HM'⟩
          case measure => simp [intOf]; omega
    · have hje : j = n := by omega
      subst hje
      have hzr : B ≤ wr.heap.size := by have := book_cells HM.bk.book; omega
      have HM0 : Bx (MarksB X w wr B h vo vw cur es) := ⟨HM⟩
      clear HM
      obtain ⟨i4, hi4, hz40, hz41, hz42⟩ := info_parts infoPk
      obtain ⟨i1, hi1, hz10, hz11, hz12⟩ := info_parts info31
      go_wp2_with (first | (go_at_call 16; refine Calls.mono (holds_any B h vo vw 0 cur wr HM0.out.bk) ?_; rintro e w' ⟨rfl, k1, rfl⟩))
      go_loopw [8] (fun i wr' => ∃ (q : Nat) (vo' vw' : Value) (cur' news : List Ent), q ≤ j ∧ i = .int .i64 q ∧ Third X w wr' B h j q vo' vw' cur' news) (fun i _ => j - (intOf i).toNat)
      case atStart => exact ⟨0, vo, vw, cur, [], Nat.zero_le _, rfl, HM0.out.third hXa HA.out hn hs k1 hzr⟩
      case round =>
        obtain ⟨q, vo', vw', cur', news, hq, rfl, HT⟩ := hrel
        clear HM0 hzr
        have hall : (cur' ++ news).length = j + q := by rw [List.length_append, HT.len, HT.nlen]
        by_cases hqn : q < j
        · have hql : q < (cur' ++ news).length := by omega
          have hsm : (cur' ++ news)[q].l.length ≤ 20000000 := by rw [List.getElem_append_left (by rw [HT.len]; exact hqn)]; exact HT.small _ (List.getElem_mem _)
          obtain ⟨L, hL⟩ : ∃ L, (cur' ++ news)[q].l.length = L := ⟨_, rfl⟩
          obtain ⟨ro, co', rw', cw', x, y, ca, cb, hvo', hvw', hx, hy, A, qx, qy⟩ := bk_at HT.bk (j + q) q L hall hql hL
          have hrow := (HT.bk.rows _ (List.getElem_mem hql)).2
          have hry : wr.ownsRow B 39 3 (.slice y L cb) L (pkC (cur' ++ news)[q].l) := by have h0 : wr.ownsRow B 39 3 (cur' ++ news)[q].y (cur' ++ news)[q].l.length (pkC (cur' ++ news)[q].l) := hrow.own; rw [hy, hL] at h0; exact h0
          obtain ⟨d0, d1, d2, d3, d4, d5, d6, d7, d8⟩ := A
          have hz3 : B ≤ wr.heap.size := by have := book_cells HT.bk.book; omega
          have HT0 : Bx (Third X w wr B h j q vo' vw' cur' news) := ⟨HT⟩
          have HY : Bx _ := ⟨hry⟩
          clear HT hry hrow qx qy
          go_wp2_with (first | (at_builtin; refine app_row rfl (.tmp 84) (.tmp 91) 29 rfl B 39 i4 (.agg #[.int .i64 0, .int .i64 0, .int .i64 0]) 3 24 Tryd.underlying29 hi4 hz40 hz41 hz42 rfl (by omega) _ 0 [] rfl (World.ownsRow_made wr #[] 0 hz3 (Nat.zero_le _) rfl) B _ L (pkC (cur' ++ news)[q].l) rfl (owns_below HY.out ((Below.refl _ _).alloc (Nat.le_refl _) _)) (pk3_cell _) (by unfold maxLen; omega) (by omega) (by simp; omega) ?_; intro m W2 hm0 hA2; have hm : W2.ownsRow B 39 3 m (cur' ++ news)[q].l.length (pkC (cur' ++ news)[q].l) := (by rw [hL]; simpa using hm0); have HF : Bx _ := ⟨HT0.out.fourth hqn hql ⟨-1000 - (q : Int), 0, 0⟩ hA2 hm⟩; clear hm0 hA2 hm))
          generalize hl0 : (cur' ++ news)[q].l = l0 at *
          go_loopw [9, 10, 11] (fun l m k w4 => ∃ p : Nat, p ≤ 20 ∧ k = .int .i64 p ∧ Fourth X w w4 B h q vo' vw' (cur' ++ news) l0 ⟨-1000 - (q : Int), 0, 0⟩ p p l m) (fun _ _ k _ => 20 - (intOf k).toNat)
          case atStart => exact ⟨0, Nat.zero_le _, rfl, by have := HF.out; rw [hx] at this; exact this⟩
          case round =>
            obtain ⟨p, hp, rfl, H4⟩ := hrel
            clear HF d0 d1 d2 d3 d4 d5 d6 d7 d8 HY hvo' hvw' hx hy
            have hz4 : B ≤ wr.heap.size := by have := book_cells H4.bk.book; omega
            by_cases hp20 : p < 20
            · go_wp2_with (first
                | (at_builtin; refine app_elt rfl (.tmp 97) (.tmp 101) 29 rfl B 39 i4 (.agg #[.int .i64 0, .int .i64 0, .int .i64 0]) 3 24 Tryd.underlying29 hi4 hz40 hz41 hz42 rfl (by omega) _ (l0.length + p) _ rfl (owns_below H4.rv ((Below.refl _ _).alloc (Nat.le_refl _) _)) wr.heap.size (pk1 ⟨-1000 - (q : Int), 0, 0⟩) rfl rfl (pk_new wr ⟨-1000 - (q : Int), 0, 0⟩) (pk1_cell _) (by unfold maxLen; omega) (by omega) (by simp; omega) ?_; intro v1 W1 hv1 hA1; have H5 := H4.stepV hA1 hv1; have hz5 : B ≤ W1.heap.size := (by have := hA1.old.size; simp at this; omega); clear hv1 hA1)
                | (at_builtin; refine app_elt rfl (.tmp 103) (.tmp 107) 29 rfl B 39 i4 (.agg #[.int .i64 0, .int .i64 0, .int .i64 0]) 3 24 Tryd.underlying29 hi4 hz40 hz41 hz42 rfl (by omega) _ (l0.length + p) _ rfl (owns_below H5.ru ((Below.refl _ _).alloc (Nat.le_refl _) _)) W1.heap.size (pk1 ⟨-1000 - (q : Int), 0, 0⟩) rfl rfl (pk_new W1 ⟨-1000 - (q : Int), 0, 0⟩) (pk1_cell _) (by unfold maxLen; omega) (by omega) (by simp; omega) ?_; intro u1 W3 hu1 hA3; have H6 := H5.stepU hA3 hu1; clear hu1 hA3))
              go_roundw
              case rel => exact ⟨p + 1, by omega, by go_num, H6⟩
              case measure => simp [intOf]; omega
            · have hpe : p = 20 := by omega
              subst hpe
              have hle : (cur' ++ news).length ≤ 90 := by omega
              clear hall
              generalize hal : cur' ++ news = all at *
              have rv : wr.ownsRow B 39 3 u9 (l0 ++ List.replicate 20 (⟨-1000 - (q : Int), 0, 0⟩ : Pk)).length (pkC (l0 ++ List.replicate 20 ⟨-1000 - (q : Int), 0, 0⟩)) := by rw [List.length_append, List.length_replicate]; exact H4.rv
              have ru : wr.ownsRow B 39 3 u10 (l0 ++ List.replicate 20 (⟨-1000 - (q : Int), 0, 0⟩ : Pk)).length (pkC (l0 ++ List.replicate 20 ⟨-1000 - (q : Int), 0, 0⟩)) := by rw [List.length_append, List.length_replicate]; exact H4.ru
              obtain ⟨xv, cv, hv, _⟩ := qx_of_owns rv
              obtain ⟨xu, cu, hu, _⟩ := qx_of_owns ru
              have hl20 : (l0 ++ List.replicate 20 (⟨-1000 - (q : Int), 0, 0⟩ : Pk)).length ≤ 30000000 := by rw [List.length_append, List.length_replicate]; omega
              obtain ⟨h20, h21, h22, h23, h24, h25⟩ := book_cells H4.bk.book
              subst hv
              subst hu
              generalize hL20 : (l0 ++ List.replicate 20 (⟨-1000 - (q : Int), 0, 0⟩ : Pk)).length = L20 at *
              have RV : Bx _ := ⟨rv⟩
              have RU : Bx _ := ⟨ru⟩
              clear rv ru
              go_wp2_with (first
                | (at_builtin; refine app_elt rfl (.tmp 113) (.tmp 115) 24 rfl B 29 i1 (.slice none 0 0) 1 24 Tryd.underlying24 hi1 hz10 hz11 hz12 rfl (by omega) _ all.length (all.map Ent.x) rfl (owns_below H4.bk.outs.own ((Below.refl _ _).alloc (Nat.le_refl _) _)) wr.heap.size _ rfl rfl (cell_one_new _ _ _) (one_slice _ _ _) (by unfold maxLen; omega) (by omega) (by simp; omega) ?_; intro vo2 W4 ho4 hA4; obtain ⟨xo2, co2, rfl, _⟩ := row1_of ho4; obtain ⟨s1, s2, s3, s4⟩ := stored0 H4.bk.book H4.bk.outs.own hA4 ho4; obtain ⟨t1, t2⟩ := s4 _ H4.bk.wants (show (29 : Nat) ≠ 26 by decide) H4.bk.apart; have HT1 : Bx _ := ⟨t1⟩; have HS2 : Bx _ := ⟨s2⟩; have HO4 : Bx _ := ⟨ho4⟩; have HA4 : Bx _ := ⟨hA4⟩; obtain ⟨h40, h41, h42, h43, h44, h45⟩ := book_cells s1; have hz6 : B ≤ W4.heap.size := (by omega); clear s1 s2 s3 s4 t1 t2 ho4 hA4)
                | (at_builtin; refine app_elt rfl (.tmp 123) (.tmp 125) 24 rfl B 29 i1 (.slice none 0 0) 1 24 Tryd.underlying24 hi1 hz10 hz11 hz12 rfl (by omega) _ all.length (all.map Ent.y) rfl (owns_below HT1.out.own ((Below.refl _ _).alloc (Nat.le_refl _) _)) W4.heap.size _ rfl rfl (cell_one_set _ _ _ _ _) (one_slice _ _ _) (by unfold maxLen; omega) (by omega) (by simp; omega) ?_; intro vw2 W7 hw7 hA7; obtain ⟨xw2, cw2, rfl, _⟩ := row1_of hw7; obtain ⟨p1, p2, p3, p4⟩ := stored1 HS2.out HT1.out.own hA7 hw7; obtain ⟨k5, k6⟩ := more (l := l0 ++ List.replicate 20 (⟨-1000 - (q : Int), 0, 0⟩ : Pk)) H4.bk (by omega) (by omega) (fun r hr => hr) (Below.refl _ _) (by rw [hL20]; exact RV.out) (by rw [hL20]; exact RU.out) HO4.out HA4.out hw7 hA7; have HK7 : Bx _ := ⟨HT0.out.fourthEnd hXe (by rw [hal]; exact H4) hqn (by rw [hal]; exact k5) k6⟩; obtain ⟨h70, h71, h72, h73, h74, h75⟩ := book_cells p1; clear p1 p2 p3 p4 k5 k6 hw7 hA7))
              go_roundw
              case rel => exact ⟨q + 1, _, _, _, _, by omega, by go_num, HK7.out⟩
              case measure => simp [intOf]; omega
        · have hqe : q = j := by omega
          subst hqe
          obtain ⟨h20, h21, h22, h23, h24, h25⟩ := book_cells HT.bk.book
          have ho : wr.ownsRow B 29 1 vo' (cur' ++ news).length ((cur' ++ news).map Ent.x) := HT.bk.outs.own
          rw [hall] at ho
          obtain ⟨xo', co', hvo', _⟩ := row1_of ho
          have HBF : Bx (∀ z : Int, Bk (wr.setCell ⟨h, 2, none⟩ (.int .i64 z)) B h vo' vw' z (cur' ++ news)) := ⟨fun z => HT.bk.fresh z⟩
          have HSF : Bx (∀ z : Int, Sp w (wr.setCell ⟨h, 2, none⟩ (.int .i64 z)) B) := ⟨fun z => HT.sp.fresh HT.bk _⟩
          have HXF : Bx (∀ z : Int, X.ok (wr.setCell ⟨h, 2, none⟩ (.int .i64 z)) B) := ⟨fun z => HT.okX.set (a := ⟨h, 2, none⟩) (fun e => apart_kind HT.okX.own HT.bk.book.own (show X.e ≠ (26 : Nat) by rw [hXe]; decide) _ e rfl) _⟩
          clear HT ho
          rw [hvo'] at h21
          go_wp2_with (first | (go_at_call 16; refine Calls.mono (holds_any B h vo' vw' _ (cur' ++ news) _ (HBF.out _)) ?_; rintro e w' ⟨rfl, k2, rfl⟩))
          go_ret
          exact ⟨rfl, (HSF.out _).drewN (by simp; omega) k2, (HXF.out _).below (drawn_below _ k2)⟩

end Go.Proofs.YtecpknpcjoiliabDoor
