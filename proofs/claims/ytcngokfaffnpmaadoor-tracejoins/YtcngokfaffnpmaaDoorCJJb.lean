import Derived.Test.YtcngokfaffnpmaaDoorCJJa
namespace Go.Proofs.YtcngokfaffnpmaaDoor
open Go.RowKit Go.Shelf
set_option linter.unusedVariables false
set_option linter.unusedSimpArgs false

theorem cat_bytes (a b : List UInt8) : (⟨(a ++ b).toArray⟩ : ByteArray) = (⟨a.toArray⟩ : ByteArray) ++ (⟨b.toArray⟩ : ByteArray) := by
  apply Go.WideShapes.bytes_inj
  simp [ByteArray.data_append]
set_option maxRecDepth 100000 in
set_option maxHeartbeats 8000000 in
theorem joins_walk (w : World) (a1 : Option Addr) (cap1 : Nat) (es1 : List Ev) (hp1 : EvsV w w.heap.size a1 es1) (hw1 : ∀ e ∈ es1, e.Wf) (a2 : Option Addr) (cap2 : Nat) (es2 : List Ev) (hp2 : EvsV w w.heap.size a2 es2) (hw2 : ∀ e ∈ es2, e.Wf) (hL : LW w) :
    Calls Tryd.prog 7 #[.slice a1 es1.length cap1, .slice a2 es2.length cap2] w fun e w' => e = .returned (.bool true) ∧ Below w.heap.size w w' := by
  obtain ⟨Q, hQ⟩ : ∃ Q : Ending → World → Prop, Q = fun e w' => e = .returned (.bool true) ∧ Below w.heap.size w w' := ⟨_, rfl⟩
  rw [← hQ]
  obtain ⟨H, hH⟩ : ∃ H, w.heap.size = H := ⟨_, rfl⟩
  have HQ : Bx (∀ W, Below H w W → Q (.returned (.bool true)) W) := ⟨fun W hb => by rw [hQ, hH]; exact ⟨rfl, hb⟩⟩
  have HB1 : Bx _ := ⟨beyond_any w a1 cap1 es1 hp1⟩
  have HB2 : Bx _ := ⟨beyond_any w a2 cap2 es2 hp2⟩
  by_cases hb1 : 2147483647 < totB es1
  · rw [decide_eq_true hb1] at HB1
    have HE := HQ.out w (Below.refl _ _)
    clear hQ hp1 hp2 hw1 hw2 hL HB2
    generalize es1.length = n1 at *
    generalize es2.length = n2 at *
    go_enter Tryd.func7, Tryd.ntmps7
    go_wp2_with (go_at_call 12; refine HB1.out.mono ?_; rintro e w1 ⟨rfl, rfl⟩)
    exact HE
  · rw [decide_eq_false hb1] at HB1
    by_cases hb2 : 2147483647 < totB es2
    · rw [decide_eq_true hb2] at HB2
      have HE : Bx _ := ⟨HQ.out w (Below.refl _ _)⟩
      clear hQ hp1 hp2 hw1 hw2 hL
      generalize es1.length = n1 at *
      generalize es2.length = n2 at *
      go_enter Tryd.func7, Tryd.ntmps7
      go_wp2_with (first
        | (go_at_call 12; refine HB1.out.mono ?_; rintro e w1 ⟨rfl, rfl⟩; clear HB1)
        | (go_at_call 12; refine HB2.out.mono ?_; rintro e w1 ⟨rfl, rfl⟩))
      exact HE.out
    · rw [decide_eq_false hb2] at HB2
      have hl1 := totB_len es1
      have hl2 := totB_len es2
      have t1 := totB_E es1
      have t2 := totB_E es2
      have t3 := totB_E (es1 ++ es2)
      have t4 := totB_app es1 es2
      obtain ⟨W1, hW1⟩ : ∃ W1, w.alloc (.cells #[] 24) = W1 := ⟨_, rfl⟩
      have hbe1 : Below H w W1 := by rw [← hW1, ← hH]; exact below1 _ _
      have hr1 : EvR W1 H (.slice (some ⟨H, 0, none⟩) 0 0) [] [] := by rw [← hW1]; exact evR_new w H hH
      have hs1 := hbe1.size
      rw [hH] at hp1 hp2
      have hq1 : EvsV W1 H a1 es1 := hp1.below hbe1
      obtain ⟨v2, W2, ls2, r2, hr2, hbe2⟩ := hr1.app (by omega) cap1 hq1 (by simp only [List.length_nil]; omega)
      have hs2 := hbe2.size
      rw [List.nil_append] at hr2
      have hb12 : Below H w W2 := hbe1.trans hbe2
      have hq2 : EvsV W2 H a2 es2 := hp2.below hb12
      obtain ⟨v3, W3, ls3, r3, hr3, hbe3⟩ := hr2.app (by omega) cap2 hq2 (by omega)
      have hs3 := hbe3.size
      have hb13 : Below H w W3 := hb12.trans hbe3
      obtain ⟨a3, n3, c3, rfl⟩ : ∃ a3 n3 c3, v3 = .slice a3 n3 c3 := by
        rcases hr3.row.2 with ⟨e1, _⟩ | ⟨g, cap, cur, e1, _⟩
        · exact ⟨_, _, _, e1⟩
        · exact ⟨_, _, _, e1⟩
      obtain ⟨hn3, hv3⟩ := hr3.view (by omega)
      have HB3 : Bx _ := ⟨beyond_any W3 a3 c3 (es1 ++ es2) hv3⟩
      rw [← hn3] at HB3
      by_cases hb3 : 2147483647 < totB (es1 ++ es2)
      · rw [decide_eq_true hb3] at HB3
        have HE : Bx _ := ⟨HQ.out W3 hb13⟩
        clear hQ hp1 hp2 hq1 hq2 hw1 hw2 hL hr1 hr2 hr3 hbe1 hbe2 hbe3 hb12 hb13 hv3 hn3 t1 t2 t3 t4 hl1 hl2
        generalize es1.length = n1 at *
        generalize es2.length = n2 at *
        go_enter Tryd.func7, Tryd.ntmps7
        go_wp2_with (first
          | (go_at_call 12; refine HB1.out.mono ?_; rintro e w1 ⟨rfl, rfl⟩; clear HB1)
          | (go_at_call 12; refine HB2.out.mono ?_; rintro e w1 ⟨rfl, rfl⟩; clear HB2)
          | (at_builtin; refine wpList_appI rfl (.tmp 19) (.tmp 20) 29 rfl rfl rfl r2 ?_)
          | (at_builtin; refine wpList_appI rfl (.tmp 22) (.tmp 23) 29 rfl rfl rfl r3 ?_)
          | (go_at_call 12; refine HB3.out.mono ?_; rintro e w1 ⟨rfl, rfl⟩))
        exact HE.out
      · rw [decide_eq_false hb3] at HB3
        have HSH : Bx (Calls Tryd.prog 9 #[] W3 fun e w' => e = .returned (.bool true) ∧ Below W3.heap.size W3 w') := ⟨(shown_any W3 (hL.below (by rw [hH]; exact hb13))).mono fun e w' h => ⟨h.1, h.2.out⟩⟩
        have HP1 : Bx (∀ W, Below W3.heap.size W3 W → Calls Tryd.prog 14 #[.slice a1 es1.length cap1] W fun e w' => e = .returned (.tuple #[strV (printE es1).1, .int .i64 (printE es1).2]) ∧ Below W3.heap.size W3 w') := ⟨fun W hb => by
          have hbw : Below H w W := hb13.trans (hb.mono (by omega))
          have hz := hbw.size
          exact (Print_any W (hL.below (by rw [hH]; exact hbw)) a1 cap1 es1 ((hp1.below hbw).up (by omega)) hw1 (by omega)).mono fun e w' h => ⟨h.1, hb.trans (h.2.out.mono hb.size)⟩⟩
        have HP2 : Bx (∀ W, Below W3.heap.size W3 W → Calls Tryd.prog 14 #[.slice a2 es2.length cap2] W fun e w' => e = .returned (.tuple #[strV (printE es2).1, .int .i64 (printE es2).2]) ∧ Below W3.heap.size W3 w') := ⟨fun W hb => by
          have hbw : Below H w W := hb13.trans (hb.mono (by omega))
          have hz := hbw.size
          exact (Print_any W (hL.below (by rw [hH]; exact hbw)) a2 cap2 es2 ((hp2.below hbw).up (by omega)) hw2 (by omega)).mono fun e w' h => ⟨h.1, hb.trans (h.2.out.mono hb.size)⟩⟩
        have HP3 : Bx (∀ W, Below W3.heap.size W3 W → Calls Tryd.prog 14 #[.slice a3 n3 c3] W fun e w' => e = .returned (.tuple #[strV (printE (es1 ++ es2)).1, .int .i64 (printE (es1 ++ es2)).2]) ∧ Below W3.heap.size W3 w') := ⟨fun W hb => by
          have hbw : Below H w W := hb13.trans (hb.mono (by omega))
          rw [hn3]
          exact (Print_any W (hL.below (by rw [hH]; exact hbw)) a3 c3 (es1 ++ es2) ((hv3.below hb).up hb.size) (fun e he => by
            rcases List.mem_append.1 he with he | he
            · exact hw1 e he
            · exact hw2 e he) (by omega)).mono fun e w' h => ⟨h.1, hb.trans (h.2.out.mono hb.size)⟩⟩
        have HE : Bx (∀ W, Below W3.heap.size W3 W → Q (.returned (.bool true)) W) := ⟨fun W hb => HQ.out W (hb13.trans (hb.mono (by omega)))⟩
        have hAll : (es1 ++ es2).all evOk = (es1.all evOk && es2.all evOk) := by rw [List.all_append]
        by_cases e1 : (printE es1).2 = 0
        · obtain ⟨o1, p1⟩ := print_ok e1
          by_cases e2 : (printE es2).2 = 0
          · obtain ⟨o2, p2⟩ := print_ok e2
            have p3 : printE (es1 ++ es2) = (evsT es1 ++ evsT es2, 0) := by unfold printE; rw [if_pos (by rw [hAll, o1, o2]; rfl), evs_two]
            rw [p1] at HP1
            rw [p2] at HP2
            rw [p3] at HP3
            have hcat := cat_bytes (evsT es1) (evsT es2)
            have hc1 := evs_len hw1
            have hc2 := evs_len hw2
            have hsz12 : (⟨(evsT es1).toArray⟩ : ByteArray).size + (⟨(evsT es2).toArray⟩ : ByteArray).size ≤ 9223372036854775807 := by rw [str_size, str_size]; omega
            have hsz13 : (⟨(evsT es1).toArray⟩ : ByteArray).size + (⟨(evsT es2).toArray⟩ : ByteArray).size ≤ maxLen := by unfold maxLen; omega
            clear hc1 hc2
            clear hQ hp1 hp2 hq1 hq2 hw1 hw2 hL hr1 hr2 hr3 hbe1 hbe2 hbe3 hb12 hb13 hv3 hn3 t1 t2 t3 t4 hl1 hl2 e1 e2 p1 p2 p3 o1 o2 hAll
            generalize es1.length = n1 at *
            generalize es2.length = n2 at *
            simp only [strV, hcat] at HP1 HP2 HP3
            generalize (⟨(evsT es1).toArray⟩ : ByteArray) = T1 at *
            generalize (⟨(evsT es2).toArray⟩ : ByteArray) = T2 at *
            clear hcat
            go_enter Tryd.func7, Tryd.ntmps7
            go_wp2_with (first
              | (go_at_call 12; refine HB1.out.mono ?_; rintro e w1 ⟨rfl, rfl⟩; clear HB1)
              | (go_at_call 12; refine HB2.out.mono ?_; rintro e w1 ⟨rfl, rfl⟩; clear HB2)
              | (at_builtin; refine wpList_appI rfl (.tmp 19) (.tmp 20) 29 rfl rfl rfl r2 ?_)
              | (at_builtin; refine wpList_appI rfl (.tmp 22) (.tmp 23) 29 rfl rfl rfl r3 ?_)
              | (go_at_call 12; refine HB3.out.mono ?_; rintro e w1 ⟨rfl, rfl⟩; clear HB3)
              | (go_at_call 9; refine HSH.out.mono ?_; rintro e w4 ⟨rfl, hb4⟩; have HB4 : Bx _ := ⟨hb4⟩; clear hb4)
              | (go_at_call 14; refine (HP1.out _ HB4.out).mono ?_; rintro e w5 ⟨rfl, hb5⟩; have HB5 : Bx _ := ⟨hb5⟩; clear hb5 HP1)
              | (go_at_call 14; refine (HP2.out _ HB5.out).mono ?_; rintro e w6 ⟨rfl, hb6⟩; have HB6 : Bx _ := ⟨hb6⟩; clear hb6 HP2)
              | (go_at_call 14; refine (HP3.out _ HB6.out).mono ?_; rintro e w7 ⟨rfl, hb7⟩; have HB7 : Bx _ := ⟨hb7⟩; clear hb7))
            exact HE.out _ HB7.out
          · obtain ⟨o2, p2⟩ := print_no e2
            have p3 : printE (es1 ++ es2) = ([], 180) := by unfold printE; rw [if_neg (by rw [hAll, o1, o2]; decide)]
            rw [p1] at HP1
            rw [p2] at HP2
            rw [p3] at HP3
            clear hQ hp1 hp2 hq1 hq2 hw1 hw2 hL hr1 hr2 hr3 hbe1 hbe2 hbe3 hb12 hb13 hv3 hn3 t1 t2 t3 t4 hl1 hl2 e1 e2 p1 p2 p3 o1 o2 hAll
            generalize es1.length = n1 at *
            generalize es2.length = n2 at *
            simp only [strV] at HP1
            generalize (⟨(evsT es1).toArray⟩ : ByteArray) = T1 at *
            go_enter Tryd.func7, Tryd.ntmps7
            go_wp2_with (first
              | (go_at_call 12; refine HB1.out.mono ?_; rintro e w1 ⟨rfl, rfl⟩; clear HB1)
              | (go_at_call 12; refine HB2.out.mono ?_; rintro e w1 ⟨rfl, rfl⟩; clear HB2)
              | (at_builtin; refine wpList_appI rfl (.tmp 19) (.tmp 20) 29 rfl rfl rfl r2 ?_)
              | (at_builtin; refine wpList_appI rfl (.tmp 22) (.tmp 23) 29 rfl rfl rfl r3 ?_)
              | (go_at_call 12; refine HB3.out.mono ?_; rintro e w1 ⟨rfl, rfl⟩; clear HB3)
              | (go_at_call 9; refine HSH.out.mono ?_; rintro e w4 ⟨rfl, hb4⟩; have HB4 : Bx _ := ⟨hb4⟩; clear hb4)
              | (go_at_call 14; refine (HP1.out _ HB4.out).mono ?_; rintro e w5 ⟨rfl, hb5⟩; have HB5 : Bx _ := ⟨hb5⟩; clear hb5 HP1)
              | (go_at_call 14; refine (HP2.out _ HB5.out).mono ?_; rintro e w6 ⟨rfl, hb6⟩; have HB6 : Bx _ := ⟨hb6⟩; clear hb6 HP2)
              | (go_at_call 14; refine (HP3.out _ HB6.out).mono ?_; rintro e w7 ⟨rfl, hb7⟩; have HB7 : Bx _ := ⟨hb7⟩; clear hb7))
            exact HE.out _ HB7.out
        · obtain ⟨o1, p1⟩ := print_no e1
          have p3 : printE (es1 ++ es2) = ([], 180) := by unfold printE; rw [if_neg (by rw [hAll, o1]; simp)]
          rw [p1] at HP1
          rw [p3] at HP3
          clear hQ hp1 hp2 hq1 hq2 hw1 hw2 hL hr1 hr2 hr3 hbe1 hbe2 hbe3 hb12 hb13 hv3 hn3 t1 t2 t3 t4 hl1 hl2 e1 p1 p3 o1 hAll
          generalize es1.length = n1 at *
          generalize es2.length = n2 at *
          generalize (printE es2).2 = E2 at *
          generalize strV (printE es2).1 = T2 at *
          go_enter Tryd.func7, Tryd.ntmps7
          go_wp2_with (first
            | (go_at_call 12; refine HB1.out.mono ?_; rintro e w1 ⟨rfl, rfl⟩; clear HB1)
            | (go_at_call 12; refine HB2.out.mono ?_; rintro e w1 ⟨rfl, rfl⟩; clear HB2)
            | (at_builtin; refine wpList_appI rfl (.tmp 19) (.tmp 20) 29 rfl rfl rfl r2 ?_)
            | (at_builtin; refine wpList_appI rfl (.tmp 22) (.tmp 23) 29 rfl rfl rfl r3 ?_)
            | (go_at_call 12; refine HB3.out.mono ?_; rintro e w1 ⟨rfl, rfl⟩; clear HB3)
            | (go_at_call 9; refine HSH.out.mono ?_; rintro e w4 ⟨rfl, hb4⟩; have HB4 : Bx _ := ⟨hb4⟩; clear hb4)
            | (go_at_call 14; refine (HP1.out _ HB4.out).mono ?_; rintro e w5 ⟨rfl, hb5⟩; have HB5 : Bx _ := ⟨hb5⟩; clear hb5 HP1)
            | (go_at_call 14; refine (HP2.out _ HB5.out).mono ?_; rintro e w6 ⟨rfl, hb6⟩; have HB6 : Bx _ := ⟨hb6⟩; clear hb6 HP2)
            | (go_at_call 14; refine (HP3.out _ HB6.out).mono ?_; rintro e w7 ⟨rfl, hb7⟩; have HB7 : Bx _ := ⟨hb7⟩; clear hb7))
          exact HE.out _ HB7.out
end Go.Proofs.YtcngokfaffnpmaaDoor
