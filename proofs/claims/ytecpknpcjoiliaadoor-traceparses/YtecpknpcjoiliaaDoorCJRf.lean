import Derived.Test.YtecpknpcjoiliaaDoorCJRd
namespace Go.Proofs.YtecpknpcjoiliaaDoor
open Go.RowKit Go.Shelf
set_option linter.unusedVariables false
set_option linter.unusedSimpArgs false

theorem Rws.fld {w W : World} {H : Nat} {e : Ev} {v vv : Value} {ws : List (List UInt8)} (h : Rws w W H e v vv ws) (c : UInt8) : W.cell? ⟨H, fiL c, none⟩ = some (.int .i64 (fldE e c)) := by
  obtain ⟨q0, q1, q2, q3, q4, q5, q6, q7⟩ := evB_cells h.ev
  unfold fiL fldE
  split
  · exact q1
  · split
    · exact q2
    · split
      · exact q3
      · split
        · exact q4
        · split
          · exact q5
          · exact q6
theorem fldE_wf {e : Ev} (hw : e.Wf) (c : UInt8) : I64 (fldE e c) := by
  have hp := plL_wf hw
  unfold fldE
  split
  · exact hp _ (by simp [plL])
  · split
    · exact hp _ (by simp [plL])
    · split
      · exact hp _ (by simp [plL])
      · split
        · exact hp _ (by simp [plL])
        · split
          · exact hp _ (by simp [plL])
          · exact hw.num
set_option maxRecDepth 100000 in
set_option maxHeartbeats 4000000 in
theorem rwords_any (e : Ev) (a : Option Addr) (cap : Nat) (w : World) (hi : IntsV w w.heap.size a cap e.list) (hw : e.Wf) (hok : evOk e = true) (hll : e.list.length ≤ 8796093022000) :
    Calls Tryd.prog 34 #[evW8 e (.slice a e.list.length cap)] w fun e' w' => ∃ v', e' = .returned v' ∧ Bx (SRo w' w.heap.size v' (lineWs e) ∧ Below w.heap.size w w') := by
  obtain ⟨Q, hQ⟩ : ∃ Q : Ending → World → Prop, Q = fun e' w' => ∃ v', e' = .returned v' ∧ Bx (SRo w' w.heap.size v' (lineWs e) ∧ Below w.heap.size w w') := ⟨_, rfl⟩
  rw [← hQ]
  obtain ⟨H, hH⟩ : ∃ H, w.heap.size = H := ⟨_, rfl⟩
  rw [hH] at hi hQ
  obtain ⟨v, hv⟩ : ∃ v, v = Value.slice a e.list.length cap := ⟨_, rfl⟩
  obtain ⟨W1, hW1⟩ : ∃ W1, w.alloc (evB e v) = W1 := ⟨_, rfl⟩
  have hb1 : Below H w W1 := by rw [← hW1, ← hH]; exact below1 _ _
  have he1 : W1.heap[H]? = some (evB e v) := by rw [← hW1]; exact heap_newH w _ H hH
  have hz1 := heap_lt he1
  have q0 := (evB_cells he1).1
  obtain ⟨hk, _, _⟩ := ev_parts hok
  have hall : (shS e.kind).all (okC e) = true := by
    have h := ref_eq hk
    rw [hok] at h
    unfold refOk at h
    simp only [Bool.and_eq_true] at h
    exact h.1.1.1
  obtain ⟨cs, hcs⟩ : ∃ cs, cs = shS e.kind := ⟨_, rfl⟩
  obtain ⟨wd, hwd⟩ : ∃ wd, wd = (tsh e.kind).1 := ⟨_, rfl⟩
  have hln : lineWs e = wd :: rWs e cs := by rw [hwd, hcs]; exact (rWs_eq hk).symm
  have HALL : Bx (∀ c ∈ cs, okC e c = true) := ⟨by rw [hcs]; simpa [List.all_eq_true] using hall⟩
  have HLEN : Bx (∀ i, (wd :: rWs e (cs.take i)).length ≤ 8796093022100) := ⟨fun i => by
    have h1 := lineWs_len e
    have h2 := rWs_len e cs i
    rw [hln] at h1
    simp only [List.length_cons] at h1 ⊢
    omega⟩
  have hcl : cs.length ≤ 5 := by rw [hcs]; exact shS_len _
  have HWD : Bx (Calls Tryd.prog 26 #[.int .i64 e.kind] W1 fun e' w' => e' = .returned (strV wd) ∧ Rws w (w'.alloc (.cells #[strV wd] 9)) H e v (.slice (some ⟨w'.heap.size, 0, none⟩) 1 1) [wd]) := ⟨by rw [hwd]; exact (rword_yes e.kind W1 hk).mono fun e' w' h => ⟨h.1, Rws.start (hb1.trans (h.2.mono (by omega))) (below_heap h.2 he1) _⟩⟩
  have HSP : Bx (∀ W vv ws, Rws w W H e v vv ws → Calls Tryd.prog 27 #[.int .i64 e.kind] W fun e' w' => e' = .returned (strV cs) ∧ Rws w w' H e v vv ws) := ⟨fun W vv ws hx => by rw [hcs]; exact (rshape_yes e.kind W hk).mono fun e' w' h => ⟨h.1, hx.on h.2⟩⟩
  have HDG : Bx (∀ n W vv ws, I64 n → Rws w W H e v vv ws → Calls Tryd.prog 44 #[.int .i64 n] W fun e' w' => e' = .returned (strV (Lib.itoa n)) ∧ Rws w w' H e v vv ws) := ⟨fun n W vv ws hn hx => (rdigits_any n hn W).mono fun e' w' h => ⟨h.1, hx.on h.2⟩⟩
  have HFD : Bx (∀ W b (c : UInt8), Calls Tryd.prog 28 #[.pointer (some ⟨b, 0, none⟩), .int .u8 c.toNat] W fun e w' => e = .returned (.pointer (some ⟨b, fiL c, none⟩)) ∧ w' = W) := ⟨fun W b c => rfield_any W b c⟩
  have HSZ : Bx ((⟨cs.toArray⟩ : ByteArray).size = cs.length) := ⟨by simp [ByteArray.size]⟩
  have HIL : Bx (∀ W vv ws, Rws w W H e v vv ws → IntsV W W.heap.size a cap e.list) := ⟨fun W vv ws hx => (hi.below hx.bel).up (by have := hx.sz; omega)⟩
  have HWL : Bx (∀ n ∈ e.list, I64 n) := ⟨hw.list⟩
  have HFW : Bx (∀ c, I64 (fldE e c)) := ⟨fldE_wf hw⟩
  have hnum : I64 e.num := hw.num
  have HVV : Bx (v = Value.slice a e.list.length cap) := ⟨hv⟩
  have HEND : Bx (∀ W vv, Rws w W H e v vv (wd :: rWs e cs) → Q (.returned vv) W) := ⟨fun W vv hx => by
    rw [hQ, hln]
    refine ⟨vv, rfl, ⟨⟨hx.sr.1, ?_⟩, hx.bel⟩⟩
    rcases hx.sr.2 with h | ⟨g, cap, cur, h1, h2, h3⟩
    · exact .inl h
    · exact .inr ⟨g, cap, cur, h1, by omega, h3⟩⟩
  have hHv : Value.slice a e.list.length cap = v := hv.symm
  rw [hHv]
  clear hi he1 hb1 hv hHv hcs hwd hw hok hQ hall hln hk
  go_enter Tryd.func34, Tryd.ntmps34
  go_wp2_with (first
    | (go_at_call 26; refine HWD.out.mono ?_; rintro e1 w2 ⟨rfl, hb2⟩; have HB2 : Bx _ := ⟨hb2⟩; have p0 := (evB_cells hb2.ev).1; clear hb2 HWD)
    | (go_at_call 27; refine (HSP.out _ _ _ HB2.out).mono ?_; rintro e1 w3 ⟨rfl, hb3⟩; have HB3 : Bx _ := ⟨hb3⟩; clear hb3 HSP HB2 p0))
  clear q0 hW1 hz1
  generalize w2.heap.size = G at *
  go_loopw [5, 3] (fun x y wr => ∃ (i : Nat) (vv : Value), i ≤ cs.length ∧ x = .int .i64 i ∧ vv = y ∧ Bx (Rws w wr H e v vv (wd :: rWs e (cs.take i)))) (fun x _ _ => cs.length - (intOf x).toNat)
  case atStart => exact ⟨0, _, Nat.zero_le _, rfl, rfl, ⟨HB3.out⟩⟩
  case round =>
    obtain ⟨i, vv, hi, rfl, rfl, HI⟩ := hrel
    clear HB3
    by_cases hlt : i < cs.length
    · have hiI : (i : Int) < (cs.length : Int) := by omega
      have hsi : i < (⟨cs.toArray⟩ : ByteArray).size := by rw [HSZ.out]; exact hlt
      have HN2 : Bx (rWs e (cs.take (i + 1)) = rWs e (cs.take i) ++ rW e cs[i]) := ⟨by rw [List.take_succ_eq_append_getElem hlt, rWs_snoc]⟩
      have hokc := HALL.out cs[i] (List.getElem_mem hlt)
      have hlen := HLEN.out i
      have hlen2 := HLEN.out (i + 1)
      obtain ⟨c, hce⟩ : ∃ c, c = cs[i] := ⟨_, rfl⟩
      have hci : ∀ hi, (⟨cs.toArray⟩ : ByteArray)[i]'hi = c := fun hi => by rw [hce]; rfl
      rw [← hce] at HN2 hokc
      rw [HN2.out] at hlen2
      clear hce HALL HLEN
      generalize rWs e (cs.take i) = pw at *
      by_cases h76 : c = 76
      · subst h76
        have HN3 : Bx (wd :: rWs e (cs.take (i + 1)) = wd :: (pw ++ e.list.map Lib.itoa)) := ⟨by rw [HN2.out]; rfl⟩
        have hl2 : 1 + pw.length + e.list.length ≤ 8796093022100 := by
          have : rW e 76 = e.list.map Lib.itoa := rfl
          rw [this] at hlen2
          simp only [List.length_cons, List.length_append, List.length_map] at hlen2
          omega
        clear HN2 hokc hlen2 hlen HFD
        have q7 := (evB_cells HI.out.ev).2.2.2.2.2.2.2
        rw [HVV.out] at q7
        go_wp2
        go_loopw [6, 3] (fun x y wx => ∃ (k : Nat) (vk : Value), k ≤ e.list.length ∧ x = .int .i64 k ∧ vk = y ∧ Bx (Rws w wx H e v vk (wd :: (pw ++ (e.list.take k).map Lib.itoa)))) (fun x _ _ => e.list.length - (intOf x).toNat)
        case atStart => exact ⟨0, _, Nat.zero_le _, rfl, rfl, ⟨by rw [List.take_zero, List.map_nil, List.append_nil]; exact HI.out⟩⟩
        case round =>
          obtain ⟨k, vk, hk, rfl, rfl, HK⟩ := hrel
          clear HI q7
          have q7 := (evB_cells HK.out.ev).2.2.2.2.2.2.2
          rw [HVV.out] at q7
          by_cases hkl : k < e.list.length
          · obtain ⟨b, o, hab, hb, hc⟩ := (HIL.out _ _ _ HK.out).at_ (by omega)
            rw [hab] at q7
            have c := hc k hkl
            have hn := HWL.out e.list[k] (List.getElem_mem hkl)
            have HN4 : Bx (wd :: (pw ++ (e.list.take (k + 1)).map Lib.itoa) = (wd :: (pw ++ (e.list.take k).map Lib.itoa)) ++ [Lib.itoa e.list[k]]) := ⟨by rw [List.take_succ_eq_append_getElem hkl, List.map_append, List.map_singleton, ← List.append_assoc]; rfl⟩
            have hpl : (wd :: (pw ++ (e.list.take k).map Lib.itoa)).length ≤ 8796093022200 := by
              simp only [List.length_cons, List.length_append, List.length_map, List.length_take]
              omega
            have hkI : (k : Int) < (e.list.length : Int) := by omega
            clear hc hab
            generalize e.list[k] = n at *
            go_wp2_with (first
              | (go_at_call 44; refine (HDG.out _ _ _ _ hn HK.out).mono ?_; rintro e1 w6 ⟨rfl, hb5⟩; obtain ⟨v6, W6, r6, hb6⟩ := hb5.app (Lib.itoa n) hpl; have HB6 : Bx _ := ⟨hb6⟩; clear hb5 hb6)
              | (at_builtin; refine wpList_appI rfl (.tmp 42) (.tmp 49) 52 rfl rfl rfl r6 ?_))
            go_roundw
            case rel => exact ⟨k + 1, v6, hkl, by go_num, rfl, ⟨by rw [HN4.out]; exact HB6.out⟩⟩
            case measure => simp [intOf]; omega
          · have hke : k = e.list.length := by omega
            subst hke
            have HK2 := HK.out
            rw [List.take_of_length_le (Nat.le_refl _)] at HK2
            have HB6 : Bx _ := ⟨HK2⟩
            clear HK HK2
            go_wp2
            go_roundw
            case rel => exact ⟨i + 1, vk, hlt, by go_num, rfl, ⟨by rw [HN3.out]; exact HB6.out⟩⟩
            case measure => simp [intOf]; omega
      · have g76 : ((c.toNat : Int) == 76) = false := u8_ne h76
        have i76 : ¬ (c.toNat : Int) = 76 := by simpa using g76
        by_cases h84 : c = 84
        · subst h84
          obtain ⟨wl, hwl⟩ : ∃ wl, wl = trapW.getD (e.num.toNat - 1) [] := ⟨_, rfl⟩
          have HN3 : Bx (wd :: rWs e (cs.take (i + 1)) = (wd :: pw) ++ [wl]) := ⟨by rw [HN2.out, hwl]; rfl⟩
          have hrg : (decide (1 ≤ e.num) && decide (e.num ≤ 5)) = true := hokc
          simp only [Bool.and_eq_true, decide_eq_true_eq] at hrg
          obtain ⟨m, hm⟩ : ∃ m : Nat, e.num = (m : Int) + 1 := ⟨e.num.toNat - 1, by omega⟩
          have hml : m < trapW.length := by show m < 5; omega
          have HNW : Bx (Calls Tryd.prog 29 #[] (wr.drewN 1) fun e' w' => e' = .returned (.slice (some ⟨wr.heap.size, 0, none⟩) 5 5) ∧ w'.cell? ⟨wr.heap.size, m, none⟩ = some (strV wl) ∧ Rws w w' H e v vv (wd :: pw)) := ⟨(rtraps_at (wr.drewN 1)).mono fun e' w' ⟨a1, a2⟩ => by
            have e1 : e.num.toNat - 1 = m := by omega
            refine ⟨a1, ?_, (HI.out.on (below_drewN (Below.refl _ _) 1)).on (by rw [a2]; exact below1 _ _)⟩
            rw [hwl, e1]
            exact nw_cell (w := wr.drewN 1) hml a2⟩
          have HF : Bx (∀ W vk ws, Rws w W H e v vk ws → W.cell? ⟨H, 6, none⟩ = some (.int .i64 e.num)) := ⟨fun W vk ws hx => (evB_cells hx.ev).2.2.2.2.2.2.1⟩
          have c60 := HF.out _ _ _ HI.out
          have hwr : IntKind.i64.wrap (e.num - 1) = (m : Int) := by rw [IntKind.wrap_i64]; have := hnum.2; omega
          have hwm : IntKind.i64.wrap (m : Int) = (m : Int) := by rw [IntKind.wrap_i64]; have := hnum.2; omega
          have hm0 : (0 : Int) ≤ (m : Int) := by omega
          have hm1 : (m : Int) < 5 := by omega
          have hl6 : (wd :: pw).length ≤ 8796093022200 := by omega
          clear HN2 hokc hlen2 hrg hm hwl
          go_wp2_with fail
          go_region_law (first
              | (refine step_call rfl 29 #[] #[] rfl #[] (by simp only [execOp]; go_simp) HNW.out ?_; rintro e1 z5 ⟨rfl, hc5, hz⟩; obtain ⟨v6, W6, r6, hb6⟩ := hz.app wl hl6; have HB6 : Bx _ := ⟨hb6⟩; have c6 := HF.out _ _ _ hz; clear hz hb6; refine ⟨_, rfl, ?_⟩)
              | (refine step_appI rfl (.tmp 53) (.tmp 60) 52 rfl (by simp [Act.eval, Act.put]) (by simp [Act.eval, Act.put]) r6 ?_))
          all_goals
            go_wp2
            go_roundw
            case rel => exact ⟨i + 1, v6, hlt, by go_num, rfl, ⟨by rw [HN3.out]; exact HB6.out⟩⟩
            case measure => simp [intOf]; omega
        · have g84 : ((c.toNat : Int) == 84) = false := u8_ne h84
          have i84 : ¬ (c.toNat : Int) = 84 := by simpa using g84
          by_cases h83 : c = 83
          · subst h83
            obtain ⟨wl, hwl⟩ : ∃ wl, wl = spentW.getD (e.num.toNat - 1) [] := ⟨_, rfl⟩
            have HN3 : Bx (wd :: rWs e (cs.take (i + 1)) = (wd :: pw) ++ [wl]) := ⟨by rw [HN2.out, hwl]; rfl⟩
            have hrg : (decide (1 ≤ e.num) && decide (e.num ≤ 6)) = true := hokc
            simp only [Bool.and_eq_true, decide_eq_true_eq] at hrg
            obtain ⟨m, hm⟩ : ∃ m : Nat, e.num = (m : Int) + 1 := ⟨e.num.toNat - 1, by omega⟩
            have hml : m < spentW.length := by show m < 6; omega
            have HNW : Bx (Calls Tryd.prog 30 #[] (wr.drewN 1) fun e' w' => e' = .returned (.slice (some ⟨wr.heap.size, 0, none⟩) 6 6) ∧ w'.cell? ⟨wr.heap.size, m, none⟩ = some (strV wl) ∧ Rws w w' H e v vv (wd :: pw)) := ⟨(rcounters_at (wr.drewN 1)).mono fun e' w' ⟨a1, a2⟩ => by
              have e1 : e.num.toNat - 1 = m := by omega
              refine ⟨a1, ?_, (HI.out.on (below_drewN (Below.refl _ _) 1)).on (by rw [a2]; exact below1 _ _)⟩
              rw [hwl, e1]
              exact nw_cell (w := wr.drewN 1) hml a2⟩
            have HF : Bx (∀ W vk ws, Rws w W H e v vk ws → W.cell? ⟨H, 6, none⟩ = some (.int .i64 e.num)) := ⟨fun W vk ws hx => (evB_cells hx.ev).2.2.2.2.2.2.1⟩
            have c60 := HF.out _ _ _ HI.out
            have hwr : IntKind.i64.wrap (e.num - 1) = (m : Int) := by rw [IntKind.wrap_i64]; have := hnum.2; omega
            have hwm : IntKind.i64.wrap (m : Int) = (m : Int) := by rw [IntKind.wrap_i64]; have := hnum.2; omega
            have hm0 : (0 : Int) ≤ (m : Int) := by omega
            have hm1 : (m : Int) < 6 := by omega
            have hl6 : (wd :: pw).length ≤ 8796093022200 := by omega
            clear HN2 hokc hlen2 hrg hm hwl
            go_wp2_with fail
            go_region_law (first
                | (refine step_call rfl 30 #[] #[] rfl #[] (by simp only [execOp]; go_simp) HNW.out ?_; rintro e1 z5 ⟨rfl, hc5, hz⟩; obtain ⟨v6, W6, r6, hb6⟩ := hz.app wl hl6; have HB6 : Bx _ := ⟨hb6⟩; have c6 := HF.out _ _ _ hz; clear hz hb6; refine ⟨_, rfl, ?_⟩)
                | (refine step_appI rfl (.tmp 64) (.tmp 71) 52 rfl (by simp [Act.eval, Act.put]) (by simp [Act.eval, Act.put]) r6 ?_))
            all_goals
              go_wp2
              go_roundw
              case rel => exact ⟨i + 1, v6, hlt, by go_num, rfl, ⟨by rw [HN3.out]; exact HB6.out⟩⟩
              case measure => simp [intOf]; omega
          · have g83 : ((c.toNat : Int) == 83) = false := u8_ne h83
            have i83 : ¬ (c.toNat : Int) = 83 := by simpa using g83
            have HN3 : Bx (wd :: rWs e (cs.take (i + 1)) = (wd :: pw) ++ [Lib.itoa (fldE e c)]) := ⟨by rw [HN2.out]; unfold rW; rw [if_neg h76, if_neg h84, if_neg h83]; rfl⟩
            have hfc := HI.out.fld c
            have HFH := HFD.out wr H c
            have hn := HFW.out c
            clear HN2 hokc hlen2
            generalize fldE e c = m at *
            generalize fiL c = fi at *
            go_wp2_with (first
              | (go_at_call 28; refine HFH.mono ?_; rintro e1 w5 ⟨rfl, hw5⟩; replace hw5 := hw5.symm; subst hw5; clear HFH)
              | (go_at_call 44; refine (HDG.out _ _ _ _ hn HI.out).mono ?_; rintro e1 w6 ⟨rfl, hb5⟩; obtain ⟨v6, W6, r6, hb6⟩ := hb5.app (Lib.itoa m) (by omega); have HB6 : Bx _ := ⟨hb6⟩; clear hb5 hb6)
              | (at_builtin; refine wpList_appI rfl (.tmp 23) (.tmp 31) 52 rfl rfl rfl r6 ?_))
            go_roundw
            case rel => exact ⟨i + 1, v6, hlt, by go_num, rfl, ⟨by rw [HN3.out]; exact HB6.out⟩⟩
            case measure => simp [intOf]; omega
    · have hie : i = cs.length := by omega
      subst hie
      have HK2 := HI.out
      rw [List.take_of_length_le (Nat.le_refl _)] at HK2
      have HB6 : Bx _ := ⟨HEND.out _ _ HK2⟩
      clear HI HK2
      go_wp2
      exact HB6.out
end Go.Proofs.YtecpknpcjoiliaaDoor
