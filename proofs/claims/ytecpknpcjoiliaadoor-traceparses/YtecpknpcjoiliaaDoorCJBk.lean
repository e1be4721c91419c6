import Derived.Test.YtecpknpcjoiliaaDoorCJSa
import Derived.Test.YtecpknpcjoiliaaDoorCJJa
namespace Go.Proofs.YtecpknpcjoiliaaDoor
open Go.RowKit Go.Shelf
set_option linter.unusedVariables false
set_option linter.unusedSimpArgs false

theorem flat_ge (ws : List (List UInt8)) : ws.length ≤ (ws.flatMap (32 :: ·)).length := by
  induction ws with
  | nil => simp
  | cons w r ih => rw [List.flatMap_cons, List.length_append, List.length_cons, List.length_cons]; omega
theorem evT_ge {e : Ev} (h : evOk e = true) : 1 + e.list.length ≤ (evT e).length := by
  obtain ⟨_, _, ht⟩ := ev_parts h
  have h1 : e.list.length ≤ (tlW (tsh e.kind).2.2 e.num e.list).length := by
    unfold tlOk at ht
    by_cases h4 : (tsh e.kind).2.2 = 4
    · unfold tlW
      rw [if_neg (by omega), if_neg (by omega), if_pos h4]
      simp
    · rw [if_neg h4] at ht
      simp only [Bool.and_eq_true, List.isEmpty_iff] at ht
      rw [ht.1]
      simp
  have h2 := flat_ge (moreW e)
  unfold evT evL joinW
  rw [List.length_append, List.length_append, List.length_singleton]
  unfold moreW at h2 ⊢
  rw [List.length_append] at h2
  omega
theorem totE_text {l : List Ev} (h : ∀ e ∈ l, evOk e = true) : totE l ≤ 161 * (evsT l).length := by
  induction l with
  | nil => simp [totE]
  | cons e r ih =>
    have h1 := evT_ge (h e List.mem_cons_self)
    have h2 := ih fun x hx => h x (List.mem_cons_of_mem _ hx)
    have e1 : evsT (e :: r) = evT e ++ evsT r := by simp [evsT]
    rw [totE, e1, List.length_append]
    omega
set_option maxRecDepth 100000 in
set_option maxHeartbeats 8000000 in
theorem back_walk (w : World) (a : Option Addr) (cap : Nat) (l : List Ev) (hp : EvsV w w.heap.size a l) (hw : ∀ e ∈ l, e.Wf) (hL : LW w) (tx : List UInt8) (hx : tx.length ≤ 1073741824) :
    Calls Tryd.prog 6 #[.slice a l.length cap, strV tx] w fun e w' => e = .returned (.bool true) ∧ Below w.heap.size w w' := by
  obtain ⟨Q, hQ⟩ : ∃ Q : Ending → World → Prop, Q = fun e w' => e = .returned (.bool true) ∧ Below w.heap.size w w' := ⟨_, rfl⟩
  rw [← hQ]
  obtain ⟨H, hH⟩ : ∃ H, w.heap.size = H := ⟨_, rfl⟩
  have HQ : Bx (∀ W, Below H w W → Q (.returned (.bool true)) W) := ⟨fun W hb => by rw [hQ, hH]; exact ⟨rfl, hb⟩⟩
  have HB1 : Bx _ := ⟨beyond_any w a cap l hp⟩
  by_cases hb1 : 2147483647 < totB l
  · rw [decide_eq_true hb1] at HB1
    have HE := HQ.out w (Below.refl _ _)
    clear hQ hp hw hL
    generalize l.length = n1 at *
    go_enter Tryd.func6, Tryd.ntmps6
    go_wp2_with (go_at_call 12; refine HB1.out.mono ?_; rintro e w1 ⟨rfl, rfl⟩)
    exact HE
  · rw [decide_eq_false hb1] at HB1
    have hl1 := totB_len l
    have t1 := totB_E l
    have ht1 := evs_len hw
    rw [hH] at hp
    have HL : Bx (∀ W, Below H w W → LW W) := ⟨fun W hb => hL.below (by rw [hH]; exact hb)⟩
    have HSH : Bx (∀ W, Below H w W → Calls Tryd.prog 9 #[] W fun e w' => e = .returned (.bool true) ∧ Below H w w') := ⟨fun W hb => (shown_any W (HL.out W hb)).mono fun e w' h => ⟨h.1, hb.trans (h.2.out.mono (by have := hb.size; omega))⟩⟩
    have HCK : Bx (∀ W i (hi : i < l.length), Below H w W → ∃ b o la lc, a = some ⟨b, o, none⟩ ∧ EvAt W H b (o + i * 8) l[i] la lc ∧ Calls Tryd.prog 10 #[evW8 l[i] (.slice la l[i].list.length lc)] W fun e w' => e = .returned (.int .i64 (chkE l[i])) ∧ Below H w w') := ⟨fun W i hi hb => by
      have hz := hb.size
      obtain ⟨b, o, e, hlt, hc⟩ := (hp.below hb).at_ (by omega)
      obtain ⟨la, lc, hev⟩ := hc i hi
      exact ⟨b, o, la, lc, e, hev, (Check_any l[i] la lc W (HL.out W hb).shp (hev.li.up (by omega))).mono fun e w' h => ⟨h.1, hb.trans (h.2.mono (by omega))⟩⟩⟩
    have HPR : Bx (∀ W, Below H w W → Calls Tryd.prog 14 #[.slice a l.length cap] W fun e w' => e = .returned (.tuple #[strV (printE l).1, .int .i64 (printE l).2]) ∧ Below H w w') := ⟨fun W hb => (Print_any W (HL.out W hb) a cap l ((hp.below hb).up (by have := hb.size; omega)) hw (by omega)).mono fun e w' h => ⟨h.1, hb.trans (h.2.out.mono (by have := hb.size; omega))⟩⟩
    have HPA : Bx (∀ W, Below H w W → l.all evOk = true → Calls Tryd.prog 18 #[strV (evsT l)] W fun e w' => ∃ a3 c3, e = .returned (.tuple #[.slice a3 l.length c3, .int .i64 0, .int .i64 0]) ∧ (Below H w w' ∧ EvsV w' w'.heap.size a3 l)) := ⟨fun W hb ho => by
      have := Parse_any (evsT l) W (HL.out W hb) (by omega)
      rw [readE_text (all_ok ho) hw] at this
      refine this.mono fun e w' h => ?_
      obtain ⟨h1, a3, n3, c3, ls, h2, h3⟩ := h
      obtain ⟨h4, h5⟩ := h3.out.view
      subst h4
      exact ⟨a3, c3, h2, hb.trans (h1.out.mono (by have := hb.size; omega)), h5⟩⟩
    have HSM : Bx (∀ W a3 c3, Below H w W → EvsV W W.heap.size a3 l → Calls Tryd.prog 20 #[.slice a3 l.length c3, .slice a l.length cap] W fun e w' => e = .returned (.bool true) ∧ Below H w w') := ⟨fun W a3 c3 hb h => (sameEvents_yes W l rfl a3 a c3 cap h ((hp.below hb).up (by have := hb.size; omega))).mono fun e w' h => ⟨h.1, hb.trans (h.2.mono (by have := hb.size; omega))⟩⟩
    have HSN : Bx (∀ k, k < l.length → (l.take (k + 1)).all evOk = ((l.take k).all evOk && evOk (l.getD k noEv))) := ⟨fun k hk => by
      rw [List.take_succ_eq_append_getElem hk, List.all_append]
      simp [List.getD, hk]⟩
    have HPX : Bx (∀ W, Below H w W → Calls Tryd.prog 18 #[strV tx] W fun e w' => ParP W (readE tx) e w') := ⟨fun W hb => Parse_any tx W (HL.out W hb) (by omega)⟩
    clear hQ hp hw hL
    go_enter Tryd.func6, Tryd.ntmps6
    go_wp2_with (first
      | (go_at_call 12; refine HB1.out.mono ?_; rintro e w1 ⟨rfl, hw1⟩; replace hw1 := hw1.symm; subst hw1; clear HB1)
      | (go_at_call 9; refine (HSH.out _ (Below.refl _ _)).mono ?_; rintro e w2 ⟨rfl, hb2⟩; have HB2 : Bx _ := ⟨hb2⟩; clear hb2))
    go_loopw [6, 5] (fun x y wr => ∃ (i : Nat) (r : Bool), i ≤ l.length ∧ x = .int .i64 i ∧ y = .bool r ∧ Bx (r = (l.take i).all evOk ∧ Below H w wr)) (fun x _ _ => l.length - (intOf x).toNat)
    case atStart => exact ⟨0, true, Nat.zero_le _, rfl, rfl, ⟨by simp, HB2.out⟩⟩
    case round =>
      obtain ⟨i, r, hi, rfl, rfl, HI⟩ := hrel
      clear HB2
      by_cases hlt : i < l.length
      · have hsn := HSN.out i hlt
        have hge : l.getD i noEv = l[i] := by simp [List.getD, hlt]
        rw [hge] at hsn
        have hiI : (i : Int) < (l.length : Int) := by omega
        cases r with
        | false =>
          have HN : Bx (false = (l.take (i + 1)).all evOk ∧ Below H w wr) := ⟨by rw [hsn, ← HI.out.1]; rfl, HI.out.2⟩
          clear HI hsn hge
          go_wp2
          go_roundw
          case rel => exact ⟨i + 1, false, hlt, by go_num, rfl, HN⟩
          case measure => simp [intOf]; omega
        | true =>
          obtain ⟨b, o, la, lc, rfl, hev, HC⟩ := HCK.out wr i hlt HI.out.2
          have HN : Bx ((chkE l[i] == 0) = (l.take (i + 1)).all evOk) := ⟨by rw [hsn, ← HI.out.1]; unfold chkE; cases evOk l[i] <;> rfl⟩
          obtain ⟨c0, c1, c2, c3, c4, c5, c6, c7, _⟩ := hev
          clear HI hsn hge
          generalize chkE l[i] = ck at *
          generalize l[i] = e at *
          go_wp2_with (go_at_call 10; refine HC.mono ?_; rintro e1 w3 ⟨rfl, hb3⟩; have HB3 : Bx _ := ⟨hb3⟩; clear hb3)
          go_roundw
          case rel => exact ⟨i + 1, _, hlt, by go_num, rfl, ⟨HN.out, HB3.out⟩⟩
          case measure => simp [intOf]; omega
      · have hie : i = l.length := by omega
        subst hie
        have HF := HI.out
        rw [List.take_of_length_le (Nat.le_refl _)] at HF
        have hr := HF.1
        have HB3 : Bx _ := ⟨HF.2⟩
        clear HI HF HSN HCK
        cases hR : readE tx with
        | no k =>
          have hk0 := readE_no hR
          have hk1 : (0 : Int) < (k : Int) := by omega
          have HPY : Bx (∀ W, Below H w W → Calls Tryd.prog 18 #[strV tx] W fun e w' => e = .returned (.tuple #[.slice none 0 0, .int .i64 (k : Nat), .int .i64 180]) ∧ Below H w w') := ⟨fun W hb => (HPX.out W hb).mono fun e w' h => by
            rw [hR] at h
            exact ⟨h.2, hb.trans (h.1.out.mono (by have := hb.size; omega))⟩⟩
          clear HPX hR
          cases r with
          | true =>
            have hpr : printE l = (evsT l, 0) := by unfold printE; rw [if_pos hr.symm]
            rw [hpr] at HPR
            have HPA2 : Bx _ := ⟨fun W hb => HPA.out W hb hr.symm⟩
            clear HPA hpr hr
            generalize strV (evsT l) = T1 at *
            generalize strV tx = T2 at *
            go_wp2_with (first
              | (go_at_call 14; refine (HPR.out _ HB3.out).mono ?_; rintro e w4 ⟨rfl, hb4⟩; have HB4 : Bx _ := ⟨hb4⟩; clear hb4)
              | (go_at_call 18; refine (HPA2.out _ HB4.out).mono ?_; rintro e w5 ⟨a5, c5', rfl, hb5, hv5⟩; have HB5 : Bx _ := ⟨hb5⟩; have HV5 : Bx _ := ⟨HSM.out w5 a5 c5' hb5 hv5⟩; clear hb5 hv5 HPA2)
              | (go_at_call 20; refine HV5.out.mono ?_; rintro e w6 ⟨rfl, hb6⟩; have HB6 : Bx _ := ⟨hb6⟩; clear hb6)
              | (go_at_call 18; refine (HPY.out _ HB6.out).mono ?_; rintro e w7 ⟨rfl, hb7⟩; have HB7 : Bx _ := ⟨hb7⟩; clear hb7))
            exact HQ.out _ HB7.out
          | false =>
            have hpr : printE l = ([], 180) := by unfold printE; rw [if_neg (by rw [← hr]; decide)]
            rw [hpr] at HPR
            clear HPA hpr hr HSM
            generalize strV tx = T2 at *
            go_wp2_with (first
              | (go_at_call 14; refine (HPR.out _ HB3.out).mono ?_; rintro e w4 ⟨rfl, hb4⟩; have HB4 : Bx _ := ⟨hb4⟩; clear hb4)
              | (go_at_call 18; refine (HPY.out _ HB4.out).mono ?_; rintro e w7 ⟨rfl, hb7⟩; have HB7 : Bx _ := ⟨hb7⟩; clear hb7))
            exact HQ.out _ HB7.out
        | yes es =>
          obtain ⟨y1, y2, y3⟩ := readE_yes hR
          have hty := totE_text y2
          rw [y1] at hty
          have hpe : printE es = (tx, 0) := by unfold printE; rw [if_pos (List.all_eq_true.2 y2), y1]
          have HPY : Bx (∀ W, Below H w W → Calls Tryd.prog 18 #[strV tx] W fun e w' => ∃ a3 c3, e = .returned (.tuple #[.slice a3 es.length c3, .int .i64 0, .int .i64 0]) ∧ (Below H w w' ∧ EvsV w' w'.heap.size a3 es)) := ⟨fun W hb => (HPX.out W hb).mono fun e w' h => by
            rw [hR] at h
            obtain ⟨h1, a3, n3, c3, ls, h2, h3⟩ := h
            obtain ⟨h4, h5⟩ := h3.out.view
            subst h4
            exact ⟨a3, c3, h2, hb.trans (h1.out.mono (by have := hb.size; omega)), h5⟩⟩
          have HPZ : Bx (∀ W a3 c3, Below H w W → EvsV W W.heap.size a3 es → Calls Tryd.prog 14 #[.slice a3 es.length c3] W fun e w' => e = .returned (.tuple #[strV tx, .int .i64 0]) ∧ Below H w w') := ⟨fun W a3 c3 hb h => by
            have := Print_any W (HL.out W hb) a3 c3 es h y3 (by omega)
            rw [hpe] at this
            exact this.mono fun e w' h => ⟨h.1, hb.trans (h.2.out.mono (by have := hb.size; omega))⟩⟩
          clear HPX hR y1 y2 y3 hty hpe
          generalize es.length = ne at *
          cases r with
          | true =>
            have hpr : printE l = (evsT l, 0) := by unfold printE; rw [if_pos hr.symm]
            rw [hpr] at HPR
            have HPA2 : Bx _ := ⟨fun W hb => HPA.out W hb hr.symm⟩
            clear HPA hpr hr
            generalize strV (evsT l) = T1 at *
            go_wp2_with (first
              | (go_at_call 14; refine (HPR.out _ HB3.out).mono ?_; rintro e w4 ⟨rfl, hb4⟩; have HB4 : Bx _ := ⟨hb4⟩; clear hb4 HPR)
              | (go_at_call 18; refine (HPA2.out _ HB4.out).mono ?_; rintro e w5 ⟨a5, c5', rfl, hb5, hv5⟩; have HB5 : Bx _ := ⟨hb5⟩; have HV5 : Bx _ := ⟨HSM.out w5 a5 c5' hb5 hv5⟩; clear hb5 hv5 HPA2)
              | (go_at_call 20; refine HV5.out.mono ?_; rintro e w6 ⟨rfl, hb6⟩; have HB6 : Bx _ := ⟨hb6⟩; clear hb6)
              | (go_at_call 18; refine (HPY.out _ HB6.out).mono ?_; rintro e w7 ⟨a7, c7', rfl, hb7, hv7⟩; have HB7 : Bx _ := ⟨HPZ.out w7 a7 c7' hb7 hv7⟩; clear hb7 hv7)
              | (go_at_call 14; refine HB7.out.mono ?_; rintro e w8 ⟨rfl, hb8⟩; have HB8 : Bx _ := ⟨hb8⟩; clear hb8))
            exact HQ.out _ HB8.out
          | false =>
            have hpr : printE l = ([], 180) := by unfold printE; rw [if_neg (by rw [← hr]; decide)]
            rw [hpr] at HPR
            clear HPA hpr hr HSM
            go_wp2_with (first
              | (go_at_call 14; refine (HPR.out _ HB3.out).mono ?_; rintro e w4 ⟨rfl, hb4⟩; have HB4 : Bx _ := ⟨hb4⟩; clear hb4 HPR)
              | (go_at_call 18; refine (HPY.out _ HB4.out).mono ?_; rintro e w7 ⟨a7, c7', rfl, hb7, hv7⟩; have HB7 : Bx _ := ⟨HPZ.out w7 a7 c7' hb7 hv7⟩; clear hb7 hv7)
              | (go_at_call 14; refine HB7.out.mono ?_; rintro e w8 ⟨rfl, hb8⟩; have HB8 : Bx _ := ⟨hb8⟩; clear hb8))
            exact HQ.out _ HB8.out
end Go.Proofs.YtecpknpcjoiliaaDoor
