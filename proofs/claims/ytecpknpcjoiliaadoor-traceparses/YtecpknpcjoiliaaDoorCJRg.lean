import Derived.Test.YtecpknpcjoiliaaDoorCJRf
import Derived.Test.YtecpknpcjoiliaaDoorCJQ
namespace Go.Proofs.YtecpknpcjoiliaaDoor
open Go.RowKit Go.Shelf
set_option linter.unusedVariables false
set_option linter.unusedSimpArgs false

theorem BO.mk0 (W : World) (H : Nat) (hH : W.heap.size = H) : BO (W.alloc (.cells #[] 5)) H (.slice (some ⟨H, 0, none⟩) 0 0) [] := by
  refine ⟨rfl, .inr ⟨H, 0, #[], rfl, Nat.le_refl _, heap_newH W _ H hH, Nat.le_refl _, by simp [maxLen], rfl, rfl⟩⟩
set_option maxRecDepth 100000 in
set_option maxHeartbeats 4000000 in
theorem rPrint_any (w : World) (a : Option Addr) (cap : Nat) (es : List Ev) (hp : EvsV w w.heap.size a es) (hw : ∀ e ∈ es, e.Wf) (ht : totE es ≤ 8796093022000) :
    Calls Tryd.prog 15 #[.slice a es.length cap] w fun e w' => e = .returned (.tuple #[strV (printE es).1, .int .i64 (printE es).2]) ∧ Bx (Below w.heap.size w w') := by
  obtain ⟨H, hH⟩ : ∃ H, w.heap.size = H := ⟨_, rfl⟩
  rw [hH] at hp ⊢
  obtain ⟨T, hT⟩ : ∃ T, T = printE es := ⟨_, rfl⟩
  rw [← hT]
  have HT : Bx (T = printE es) := ⟨hT⟩
  have HP : Bx _ := ⟨hp⟩
  have HW : Bx _ := ⟨hw⟩
  have hlen := totE_len es
  have HS : Bx (Prt w (w.alloc (.cells #[] 5)) H (.slice (some ⟨H, 0, none⟩) 0 0) []) := ⟨BO.mk0 w H hH, by rw [← hH]; exact below1 _ _⟩
  clear hT hp hw
  go_enter Tryd.func15, Tryd.ntmps15
  go_wp2
  go_loopw [5, 4] (fun x y wr => ∃ (k : Nat) (vv : Value), k ≤ es.length ∧ x = .int .i64 k ∧ vv = y ∧ Bx (Prt w wr H vv (evsT (es.take k)) ∧ ∀ e ∈ es.take k, evOk e = true)) (fun x _ _ => es.length - (intOf x).toNat)
  case atStart => exact ⟨0, _, Nat.zero_le _, rfl, rfl, ⟨HS.out, fun e he => by simp at he⟩⟩
  case round =>
    obtain ⟨k, vv, hk, rfl, rfl, HI⟩ := hrel
    clear HS
    by_cases hlt : k < es.length
    · obtain ⟨b, o, rfl, hb, hc⟩ := (HP.out.below HI.out.1.bel).at_ (by omega)
      obtain ⟨la, lc, hev⟩ := hc k hlt
      have hwf := HW.out es[k] (List.getElem_mem hlt)
      have htk := totE_at hlt
      have hlk := evs_len (l := es.take k) fun e he => HW.out e (List.mem_of_mem_take he)
      have hlT := evL_len hwf
      have hsn := evs_snoc hlt
      have htake : es.take (k + 1) = es.take k ++ [es[k]] := List.take_succ_eq_append_getElem hlt
      have hmem := List.getElem_mem hlt
      generalize es[k] = e at *
      have HEV : Bx _ := ⟨hev⟩
      have hwr := HI.out.1.sz hH
      obtain ⟨c0, c1, c2, c3, c4, c5, c6, c7, hli⟩ := hev
      obtain ⟨n, hn⟩ : ∃ n, n = e.list.length := ⟨_, rfl⟩
      have hli1 : IntsV wr wr.heap.size la lc e.list := hli.up hwr
      have HCK : Bx (Calls Tryd.prog 11 #[evW8 e (.slice la n lc)] wr fun e' w' => e' = .returned (.int .i64 (chkE e)) ∧ Below wr.heap.size wr w') := ⟨by rw [hn]; exact rCheck_any e la lc wr hli1⟩
      rw [← hn] at c7
      cases hok : evOk e
      · have hc180 := chk_no hok
        rw [hc180] at HCK
        have hTv : T = ([], 180) := by
          rw [HT.out]; unfold printE
          rw [if_neg]
          intro h
          have := (List.all_eq_true.1 h) e hmem
          rw [hok] at this
          cases this
        subst hTv
        have HFB : Bx (∀ w', Below wr.heap.size wr w' → Below H w w') := ⟨fun w' h => HI.out.1.bel.trans (h.mono hwr)⟩
        clear HI hc hc180 hli hli1 hsn htake hlT hlk htk hmem HT hwf hok hn HEV
        go_wp2_with (go_at_call 11; refine HCK.out.mono ?_; rintro e1 w2 ⟨rfl, hb2⟩; have HB2 : Bx _ := ⟨HFB.out _ hb2⟩; clear hb2)
        go_ret2
        exact ⟨rfl, HB2⟩
      · rw [chk_ok hok] at HCK
        have HWO : Bx (∀ W2, Below wr.heap.size wr W2 → Calls Tryd.prog 34 #[evW8 e (.slice la n lc)] W2 fun e' w' => ∃ g cp, e' = .returned (.slice (some ⟨g, 0, none⟩) (lineWs e).length cp) ∧ WdV w' g (lineWs e) ∧ Prt w w' H vv (evsT (es.take k))) := ⟨fun W2 hb2 => by
          rw [hn]
          refine (rwords_any e la lc W2 ((hli1.below hb2).up hb2.size) hwf hok (by omega)).mono ?_
          rintro e' w' ⟨v', rfl, h⟩
          obtain ⟨g, cp, rfl, h2⟩ := h.out.1.wd (by simp [lineWs])
          exact ⟨g, cp, rfl, h2, (HI.out.1.on hH hb2).on hH h.out.2⟩⟩
        have HCE : Bx (∀ W2, Below wr.heap.size wr W2 → EvAt W2 H b (o + k * 8) e la lc) := ⟨fun W2 h => HEV.out.below hb (h.mono hwr)⟩
        have HOK : Bx (∀ x ∈ es.take (k + 1), evOk x = true) := ⟨fun x hx => by
          rw [htake] at hx
          rcases List.mem_append.1 hx with hx | hx
          · exact HI.out.2 x hx
          · rw [List.mem_singleton] at hx; subst hx; exact hok⟩
        have hjl : (joinA (lineWs e)).length = (evL e).length := rfl
        have hll : (evsT (es.take k)).length + (joinA (lineWs e)).length ≤ 140737488355000 := by omega
        have hnn : (lineWs e).length ≤ 9223372036854775807 := by
          obtain ⟨_, h5⟩ := more_len hwf
          simp only [lineWs, List.length_cons]
          omega
        have HSN : Bx _ := ⟨hsn⟩
        have HNN : Bx _ := ⟨hn⟩
        clear HI hc hli hli1 hsn htake hlT hlk htk hmem HT hwf hok hjl HEV hn
        generalize lineWs e = ws at *
        generalize evsT (es.take k) = bs at *
        obtain ⟨nw, hnw⟩ : ∃ nw, nw = ws.length := ⟨_, rfl⟩
        rw [← hnw] at HWO
        go_wp2_with (first
          | (go_at_call 11; refine HCK.out.mono ?_; rintro e1 w2 ⟨rfl, hb2⟩; have HB2 : Bx _ := ⟨hb2⟩; obtain ⟨p0, p1, p2, p3, p4, p5, p6, p7, _⟩ := HCE.out w2 hb2; rw [← HNN.out] at p7; clear hb2)
          | (go_at_call 34; refine (HWO.out _ HB2.out).mono ?_; rintro e1 w3 ⟨g, cp3, rfl, hw3, hp3⟩; have HB3 : Bx _ := ⟨hw3⟩; have HP3 : Bx _ := ⟨hp3⟩; clear hw3 hp3))
        clear HCK HWO HCE HB2 c0 c1 c2 c3 c4 c5 c6 c7 p0 p1 p2 p3 p4 p5 p6 p7
        have hsz3 := HP3.out.sz hH
        obtain ⟨v0, hv0⟩ : ∃ v0, v0 = vv := ⟨vv, rfl⟩
        have HTX : Bx (Txt w3 w3 H g v0 vv bs ws) := ⟨⟨HP3.out.bo, by rw [hv0]; exact KV.refl _ _ _, HB3.out, hsz3⟩⟩
        have HFIN : Bx (∀ v' W', Txt w3 W' H g v0 v' (bs ++ joinA ws ++ [10]) ws → Prt w W' H v' (evsT (es.take (k + 1)))) := ⟨fun v' W' h => ⟨by rw [HSN.out]; exact h.bo, HP3.out.bel.trans h.kv.ku.bel⟩⟩
        clear HB3 HP3 hv0
        subst hnw
        go_loopw [7, 4] (fun x y wx => ∃ (j : Nat) (vj : Value), j ≤ ws.length ∧ x = .int .i64 j ∧ vj = y ∧ Bx (Txt w3 wx H g v0 vj (bs ++ joinA (ws.take j)) ws)) (fun x _ _ => ws.length - (intOf x).toNat)
        case atStart => exact ⟨0, _, Nat.zero_le _, rfl, rfl, ⟨by rw [List.take_zero]; show Txt w3 w3 H g v0 vv (bs ++ []) ws; rw [List.append_nil]; exact HTX.out⟩⟩
        case round =>
          obtain ⟨j, vj, hj, rfl, rfl, HI⟩ := hrel
          clear HTX
          by_cases hjl : j < ws.length
          · have c := HI.out.wd.cell hjl
            have hjj := joinA_len hjl
            have hts : ws.take (j + 1) = ws.take j ++ [ws[j]] := List.take_succ_eq_append_getElem hjl
            have hpl : (bs ++ joinA (ws.take j)).length + 1 + ws[j].length ≤ 140737488355328 := by rw [List.length_append]; omega
            by_cases h0 : j = 0
            · subst h0
              obtain ⟨v6, W6, r6, h6⟩ := HI.out.str ws[0] (by omega)
              have HN : Bx (Txt w3 W6 H g v0 v6 (bs ++ joinA (ws.take (0 + 1))) ws) := ⟨by
                have e : bs ++ joinA (ws.take (0 + 1)) = bs ++ joinA (ws.take 0) ++ ws[0] := by rw [hts]; simp [joinA, joinW]
                rw [e]; exact h6⟩
              clear HI h6 hts hjj hpl
              generalize ws[0] = x at *
              go_wp2_with (at_builtin; refine wpList_str rfl (.tmp 37) (.tmp 41) 55 9 rfl rfl rfl r6 ?_)
              go_roundw
              case rel => exact ⟨0 + 1, v6, hjl, by go_num, rfl, HN⟩
              case measure => simp [intOf]; omega
            · obtain ⟨v5, W5, r5, h5⟩ := HI.out.byte 32 32 rfl (by omega)
              obtain ⟨v6, W6, r6, h6⟩ := h5.str ws[j] (by rw [List.length_append]; simp only [List.length_cons, List.length_nil]; omega)
              have c5 := h5.wd.cell hjl
              have HN : Bx (Txt w3 W6 H g v0 v6 (bs ++ joinA (ws.take (j + 1))) ws) := ⟨by
                have e : bs ++ joinA (ws.take (j + 1)) = bs ++ joinA (ws.take j) ++ [32] ++ ws[j] := by
                  rw [hts, joinA_snoc _ _ (fun h => by have := congrArg List.length h; rw [List.length_take, List.length_nil] at this; omega)]
                  simp
                rw [e]; exact h6⟩
              have hk0 : (0 : Int) < (j : Int) := by omega
              clear HI h5 h6 hts hjj hpl
              generalize ws[j] = x at *
              go_wp2_with (first
                | (at_builtin; refine wpList_appI rfl (.tmp 34) (.tmp 35) 55 rfl rfl rfl r5 ?_)
                | (at_builtin; refine wpList_str rfl (.tmp 37) (.tmp 41) 55 9 rfl rfl rfl r6 ?_))
              go_roundw
              case rel => exact ⟨j + 1, v6, hjl, by go_num, rfl, HN⟩
              case measure => simp [intOf]; omega
          · have hje : j = ws.length := by omega
            subst hje
            have HF := HI.out
            rw [List.take_of_length_le (Nat.le_refl _)] at HF
            obtain ⟨v5, W5, r5, h5⟩ := HF.byte 10 10 rfl (by rw [List.length_append]; omega)
            have HN : Bx _ := ⟨HFIN.out _ _ h5⟩
            clear HI HF h5
            go_wp2_with (at_builtin; refine wpList_appI rfl (.tmp 43) (.tmp 44) 55 rfl rfl rfl r5 ?_)
            go_roundw
            case rel => exact ⟨k + 1, v5, hlt, by go_num, rfl, ⟨HN.out, HOK.out⟩⟩
            case measure => simp [intOf]; omega
    · have hke : k = es.length := by omega
      subst hke
      have HF := HI.out
      rw [List.take_of_length_le (Nat.le_refl _)] at HF
      have hTv : T = (evsT es, 0) := by
        rw [HT.out]; unfold printE
        rw [if_pos (List.all_eq_true.2 HF.2)]
      subst hTv
      have hcv := HF.1.bo.str
      have HB : Bx _ := ⟨HF.1.bel⟩
      clear HI HF HT
      go_wp2
      go_ret2
      exact ⟨rfl, HB⟩
end Go.Proofs.YtecpknpcjoiliaaDoor
