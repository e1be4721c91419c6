import Derived.Test.YtecpknpcjoiliaaDoorCJRa
import Derived.Test.YtecpknpcjoiliaaDoorCJO
import Derived.Deep.QuietTactic
import Derived.BigQuiet
namespace Go.Proofs.YtecpknpcjoiliaaDoor
open Go.RowKit
set_option linter.unusedVariables false
set_option linter.unusedSimpArgs false

/-- an event, and what is left of it -/
structure Rst (w W : World) (H G : Nat) (e r : Ev) (v : Value) : Prop where
  bel : Below H w W
  ev : W.heap[H]? = some (evB e v)
  gt : H < G
  re : W.heap[G]? = some (evB r v)
theorem Rst.on {w W W' : World} {H G : Nat} {e r : Ev} {v : Value} (h : Rst w W H G e r v) (hb : Below W.heap.size W W') : Rst w W' H G e r v :=
  ⟨h.bel.trans (hb.mono (by have := heap_lt h.ev; omega)), below_heap hb h.ev, h.gt, below_heap hb h.re⟩
theorem Rst.fld {w W : World} {H G : Nat} {e r : Ev} {v : Value} (h : Rst w W H G e r v) (c : UInt8) : W.cell? ⟨H, fiL c, none⟩ = some (.int .i64 (fldE e c)) := by
  obtain ⟨q0, q1, q2, q3, q4, q5, q6, q7⟩ := evB_cells h.ev
  unfold fiL fldE
  split
  · exact q1
  · split
    · exact q2
    · split
      · exact q3
      · split
        · exact q4
        · split
          · exact q5
          · exact q6
theorem Rst.has {w W : World} {H G : Nat} {e r : Ev} {v : Value} (h : Rst w W H G e r v) (c : UInt8) : (∃ x, W.cell? ⟨G, fiL c, none⟩ = some x) ∧ W.frozen? ⟨G, fiL c, none⟩ = false := by
  obtain ⟨q0, q1, q2, q3, q4, q5, q6, q7⟩ := evB_cells h.re
  refine ⟨?_, frz_blk h.re⟩
  unfold fiL
  split
  · exact ⟨_, q1⟩
  · split
    · exact ⟨_, q2⟩
    · split
      · exact ⟨_, q3⟩
      · split
        · exact ⟨_, q4⟩
        · split
          · exact ⟨_, q5⟩
          · exact ⟨_, q6⟩
theorem Rst.zer {w W : World} {H G : Nat} {e r : Ev} {v : Value} (h : Rst w W H G e r v) {c : UInt8} (hc : c ≠ 76) : Rst w (W.setCell ⟨G, fiL c, none⟩ (.int .i64 0)) H G e (zer1 r c) v := by
  have hk : Kx (fun y => y = G) W (W.setCell ⟨G, fiL c, none⟩ (.int .i64 0)) := Kx.set W _ _ rfl
  have hg := h.gt
  have hz := heap_lt h.ev
  refine ⟨h.bel.trans (hk.below (by omega) (fun y hy => by omega)), hk.at_ h.ev (by omega), hg, ?_⟩
  have g1 := Lib.heap_setCell_same (i := 1) h.re (.int .i64 0)
  have g2 := Lib.heap_setCell_same (i := 2) h.re (.int .i64 0)
  have g3 := Lib.heap_setCell_same (i := 3) h.re (.int .i64 0)
  have g4 := Lib.heap_setCell_same (i := 4) h.re (.int .i64 0)
  have g5 := Lib.heap_setCell_same (i := 5) h.re (.int .i64 0)
  have g6 := Lib.heap_setCell_same (i := 6) h.re (.int .i64 0)
  unfold fiL zer1
  rw [if_neg hc]
  split
  · simpa using g1
  · split
    · simpa using g2
    · split
      · simpa using g3
      · split
        · simpa using g4
        · split
          · simpa using g5
          · simpa using g6
theorem zer_snoc (e : Ev) (cs : List UInt8) (c : UInt8) : zer e (cs ++ [c]) = zer1 (zer e cs) c := by unfold zer; rw [List.foldl_append]; rfl
theorem zer_list (cs : List UInt8) : ∀ e : Ev, (zer e cs).list = e.list := by
  induction cs with
  | nil => intro e; rfl
  | cons c r ih =>
    intro e
    have : zer e (c :: r) = zer (zer1 e c) r := rfl
    rw [this, ih]
    unfold zer1
    repeat (split; · rfl)
    rfl
/-- the last number -/
def lastF : Int → List Int → Int
  | d, [] => d
  | _, x :: r => lastF x r
theorem ris_snoc : ∀ (l : List Int) (last x : Int), risF last (l ++ [x]) = (risF last l && decide (lastF last l < x))
  | [], last, x => by
    simp only [List.nil_append, risF, lastF, Bool.and_true, Bool.true_and]
    rfl
  | y :: r, last, x => by
    have := ris_snoc r y x
    rw [List.cons_append, risF, this, risF, Bool.and_assoc, lastF]
theorem lastF_take : ∀ (l : List Int) (d : Int) (i : Nat) (h : i < l.length), lastF d (l.take (i + 1)) = l[i]
  | [], _, i, h => by simp at h
  | x :: r, d, 0, _ => by simp [lastF]
  | x :: r, d, i + 1, h => by
    rw [List.take_succ_cons, lastF]
    exact lastF_take r x i (by simpa using h)
theorem ris_last : ∀ (l : List Int) (last : Int), risF last l = true → last ≤ lastF last l
  | [], last, _ => by simp [lastF]
  | y :: r, last, h => by
    rw [risF] at h
    simp only [Bool.and_eq_true, decide_eq_true_eq] at h
    have := ris_last r y h.2
    rw [lastF]
    omega
theorem ris_take {l : List Int} {last : Int} (k : Nat) (h : risF last l = true) : risF last (l.take k) = true := by
  induction l generalizing last k with
  | nil => simp [risF]
  | cons x r ih =>
    cases k with
    | zero => simp [risF]
    | succ k =>
      rw [risF] at h
      simp only [Bool.and_eq_true] at h
      rw [List.take_succ_cons, risF, h.1, ih k h.2]
      rfl
theorem shS_len (k : Int) : (shS k).length ≤ 5 := by
  unfold shS shpL'
  match k.toNat - 1 with
  | 0 => decide
  | 1 => decide
  | 2 => decide
  | 3 => decide
  | 4 => decide
  | 5 => decide
  | 6 => decide
  | 7 => decide
  | 8 => decide
  | 9 => decide
  | 10 => decide
  | n + 11 => simp
set_option maxRecDepth 100000 in
set_option maxHeartbeats 8000000 in
theorem rCheck_any (e : Ev) (a : Option Addr) (cap : Nat) (w : World) (hi : IntsV w w.heap.size a cap e.list) :
    Calls Tryd.prog 11 #[evW8 e (.slice a e.list.length cap)] w fun e' w' => e' = .returned (.int .i64 (chkE e)) ∧ Below w.heap.size w w' := by
  obtain ⟨Q, hQ⟩ : ∃ Q : Ending → World → Prop, Q = fun e' w' => e' = .returned (.int .i64 (chkE e)) ∧ Below w.heap.size w w' := ⟨_, rfl⟩
  rw [← hQ]
  obtain ⟨H, hH⟩ : ∃ H, w.heap.size = H := ⟨_, rfl⟩
  rw [hH] at hi
  obtain ⟨n, hn⟩ : ∃ n, n = e.list.length := ⟨_, rfl⟩
  rw [← hn]
  have HN : Bx (n = e.list.length) := ⟨hn⟩
  have hmax := hi.max
  rw [← hn] at hmax
  unfold maxLen at hmax
  have HQ : Bx (∀ c W, c = chkE e → Below H w W → Q (.returned (.int .i64 c)) W) := ⟨fun c W hc hb => by rw [hQ, hH, hc]; exact ⟨rfl, hb⟩⟩
  obtain ⟨W1, hW1⟩ : ∃ W1, w.alloc (evB e (.slice a n cap)) = W1 := ⟨_, rfl⟩
  have hb1 : Below H w W1 := by rw [← hW1, ← hH]; exact below1 _ _
  have he1 : W1.heap[H]? = some (evB e (.slice a n cap)) := by rw [← hW1]; exact heap_newH w _ H hH
  have hz1 := heap_lt he1
  obtain ⟨q0, q1, q2, q3, q4, q5, q6, q7⟩ := evB_cells he1
  by_cases hk : 1 ≤ e.kind ∧ e.kind ≤ 11
  · obtain ⟨cs, hcs⟩ : ∃ cs, cs = shS e.kind := ⟨_, rfl⟩
    obtain ⟨wd, hwd⟩ : ∃ wd, wd = (tsh e.kind).1 := ⟨_, rfl⟩
    have hwn : wd ≠ [] := by
      rw [hwd]
      rcases kind11 hk with h | h | h | h | h | h | h | h | h | h | h <;> rw [h] <;> decide
    have HWD : Bx (Calls Tryd.prog 26 #[.int .i64 e.kind] W1 fun e' w' => e' = .returned (strV wd) ∧ (Below H w w' ∧ w'.heap[H]? = some (evB e (.slice a n cap)))) := ⟨by rw [hwd]; exact (rword_yes e.kind W1 hk).mono fun e' w' h => ⟨h.1, hb1.trans (h.2.mono (by omega)), below_heap h.2 he1⟩⟩
    have HSP : Bx (∀ W, Below H w W → W.heap[H]? = some (evB e (.slice a n cap)) → Calls Tryd.prog 27 #[.int .i64 e.kind] W fun e' w' => e' = .returned (strV cs) ∧ (Below H w w' ∧ w'.heap[H]? = some (evB e (.slice a n cap)))) := ⟨fun W hb he => by rw [hcs]; exact (rshape_yes e.kind W hk).mono fun e' w' h => ⟨h.1, hb.trans (h.2.mono (by have := heap_lt he; omega)), below_heap h.2 he⟩⟩
    have HR0 : Bx (∀ W, Below H w W → W.heap[H]? = some (evB e (.slice a n cap)) → Rst w (W.alloc (evB e (.slice a n cap))) H W.heap.size e e (.slice a n cap)) := ⟨fun W hb he => ⟨hb.trans ((below1 W _).mono (by have := heap_lt he; omega)), below_heap (below1 W _) he, heap_lt he, heap_newH _ _ _ rfl⟩⟩
    have hRE : chkE e = if refOk e then 0 else 180 := by unfold chkE; rw [ref_eq hk]
    have hRF : refOk e = (cs.all (okC e) && zeroE (zer e cs) && (cs.any (· == 76) || e.list.isEmpty) && risF (-1) e.list) := by unfold refOk; rw [← hcs]
    have HRE : Bx (chkE e = if (cs.all (okC e) && zeroE (zer e cs) && (cs.any (· == 76) || e.list.isEmpty) && risF (-1) e.list) then 0 else 180) := ⟨by rw [hRE, hRF]⟩
    have hcl : cs.length ≤ 5 := by rw [hcs]; exact shS_len _
    have hwb : (wd == []) = false := by simpa using hwn
    have HI : Bx _ := ⟨hi⟩
    clear hQ hi hb1 he1 q1 q2 q3 q4 q5 q6 q7 hcs hwd hRE hRF hn hk
    go_enter Tryd.func11, Tryd.ntmps11
    go_wp2_with (first
      | (go_at_call 26; refine HWD.out.mono ?_; rintro e1 w2 ⟨rfl, hb2, he2⟩; have HB2 : Bx _ := ⟨hb2⟩; have HE2 : Bx _ := ⟨he2⟩; have p0 := (evB_cells he2).1; clear hb2 he2 HWD)
      | (go_at_call 27; refine (HSP.out _ HB2.out HE2.out).mono ?_; rintro e1 w3 ⟨rfl, hb3, he3⟩; have HR3 : Bx _ := ⟨HR0.out w3 hb3 he3⟩; obtain ⟨q0, q1, q2, q3, q4, q5, q6, q7⟩ := evB_cells he3; clear hb3 he3 HSP HB2 HE2))
    clear hwn hwb q0 q1 q2 q3 q4 q5 q6 q7 hW1 hz1
    obtain ⟨G, hG⟩ : ∃ G, G = w3.heap.size := ⟨_, rfl⟩
    rw [← hG] at HR3 ⊢
    clear hG HR0
    have HFD : Bx (∀ W b (c : UInt8), Calls Tryd.prog 28 #[.pointer (some ⟨b, 0, none⟩), .int .u8 c.toNat] W fun e w' => e = .returned (.pointer (some ⟨b, fiL c, none⟩)) ∧ w' = W) := ⟨fun W b c => rfield_any W b c⟩
    have HSZ : Bx ((⟨cs.toArray⟩ : ByteArray).size = cs.length) := ⟨by simp [ByteArray.size]⟩
    go_loopw [6, 5] (fun x y wr => ∃ (i : Nat) (b : Bool), i ≤ cs.length ∧ x = .int .i64 i ∧ y = .bool b ∧ Bx (b = (cs.take i).any (· == 76) ∧ Rst w wr H G e (zer e (cs.take i)) (.slice a n cap) ∧ (cs.take i).all (okC e) = true)) (fun x _ _ => cs.length - (intOf x).toNat)
    case atStart => exact ⟨0, false, Nat.zero_le _, rfl, rfl, ⟨by simp, HR3.out, by simp⟩⟩
    case round =>
      obtain ⟨i, b, hi, rfl, rfl, HL⟩ := hrel
      clear HR3
      by_cases hlt : i < cs.length
      · have hiI : (i : Int) < (cs.length : Int) := by omega
        have hsi : i < (⟨cs.toArray⟩ : ByteArray).size := by rw [HSZ.out]; exact hlt
        have hts : cs.take (i + 1) = cs.take i ++ [cs[i]] := List.take_succ_eq_append_getElem hlt
        have HZ : Bx (zer e (cs.take (i + 1)) = zer1 (zer e (cs.take i)) cs[i]) := ⟨by rw [hts, zer_snoc]⟩
        have HA : Bx ((cs.take (i + 1)).all (okC e) = okC e cs[i]) := ⟨by rw [hts, List.all_append, HL.out.2.2]; simp⟩
        have HC : Bx ((cs.take (i + 1)).any (· == 76) = (b || (cs[i] == 76))) := ⟨by rw [hts, List.any_append, HL.out.1]; simp⟩
        have HBAD : Bx (okC e cs[i] = false → chkE e = 180) := ⟨fun h => by
          have : cs.all (okC e) = false := by
            rw [List.all_eq_false]
            exact ⟨cs[i], List.getElem_mem hlt, by rw [h]; simp⟩
          rw [HRE.out, this]; rfl⟩
        clear hts
        obtain ⟨c, hce⟩ : ∃ c, c = cs[i] := ⟨_, rfl⟩
        have hci : ∀ hi, (⟨cs.toArray⟩ : ByteArray)[i]'hi = c := fun hi => by rw [hce]; rfl
        rw [← hce] at HZ HA HC HBAD
        clear hce
        by_cases h76 : c = 76
        · subst h76
          have HN2 : Bx (true = (cs.take (i + 1)).any (· == 76) ∧ Rst w wr H G e (zer e (cs.take (i + 1))) (.slice a n cap) ∧ (cs.take (i + 1)).all (okC e) = true) := ⟨by rw [HC.out]; simp, by rw [HZ.out]; exact HL.out.2.1, by rw [HA.out]; rfl⟩
          clear HL HZ HA HC HBAD
          go_wp2
          go_roundw
          case rel => exact ⟨i + 1, true, hlt, by go_num, rfl, HN2⟩
          case measure => simp [intOf]; omega
        · have g76 : ((c.toNat : Int) == 76) = false := u8_ne h76
          have i76 : ¬ (c.toNat : Int) = 76 := by simpa using g76
          have hfc := HL.out.2.1.fld c
          obtain ⟨⟨xG, hxG⟩, hfG⟩ := HL.out.2.1.has c
          have HNX : Bx (okL c (fldE e c) = true → b = (cs.take (i + 1)).any (· == 76) ∧ Rst w (wr.setCell ⟨G, fiL c, none⟩ (.int .i64 0)) H G e (zer e (cs.take (i + 1))) (.slice a n cap) ∧ (cs.take (i + 1)).all (okC e) = true) := ⟨fun hok => ⟨by
            rw [HC.out]
            have : (c == 76) = false := by simpa using h76
            rw [this]; simp, by rw [HZ.out]; exact HL.out.2.1.zer h76, by rw [HA.out]; unfold okC; rw [hok]; simp⟩⟩
          have HBX : Bx (okL c (fldE e c) = false → ∀ W, Below H w W → Q (.returned (.int .i64 180)) W) := ⟨fun hok W hb => HQ.out 180 W (HBAD.out (by unfold okC; rw [hok]; simp [h76])).symm hb⟩
          have HRW : Bx _ := ⟨HL.out.2.1⟩
          have HFH := HFD.out wr H c
          have HFG := HFD.out wr G c
          have hHG := HL.out.2.1.gt
          clear HL HA HC HBAD
          have HRB := HRW.out.bel
          generalize fldE e c = m at *
          generalize hfi : fiL c = fi at *
          by_cases h78 : c = 78
          · subst h78
            have HNN : Bx _ := ⟨HNX.out rfl⟩
            clear HNX HBX HRW HZ hfi
            go_wp2_with (first
              | (go_at_call 28; refine HFH.mono ?_; rintro e1 w5 ⟨rfl, hw5⟩; replace hw5 := hw5.symm; subst hw5; clear HFH)
              | (go_at_call 28; refine HFG.mono ?_; rintro e1 w6 ⟨rfl, hw6⟩; replace hw6 := hw6.symm; subst hw6; clear HFG))
            go_roundw
            case rel => exact ⟨i + 1, b, hlt, by go_num, rfl, HNN⟩
            case measure => simp [intOf]; omega
          · have g78 : ((c.toNat : Int) == 78) = false := u8_ne h78
            have i78 : ¬ (c.toNat : Int) = 78 := by simpa using g78
            by_cases h84 : c = 84
            · subst h84
              have hokv : okL 84 m = (decide (1 ≤ m) && decide (m ≤ 5)) := rfl
              rw [hokv] at HNX HBX
              have HTR : Bx (Calls Tryd.prog 29 #[] wr fun e' w' => ∃ a1 c1, e' = .returned (.slice a1 5 c1) ∧ Below wr.heap.size wr w') := ⟨rtraps_any wr⟩
              have HON : Bx (∀ W, Below wr.heap.size wr W → Below H w W ∧ (∃ x, W.cell? ⟨G, fi, none⟩ = some x) ∧ W.frozen? ⟨G, fi, none⟩ = false ∧ Calls Tryd.prog 28 #[.pointer (some ⟨G, 0, none⟩), .int .u8 84] W fun e' w' => e' = .returned (.pointer (some ⟨G, fi, none⟩)) ∧ w' = W) := ⟨fun W hb => by
                have h1 := HRW.out.on hb
                have h2 := h1.has 84
                have h3 := HFD.out W G 84
                rw [hfi] at h2 h3
                exact ⟨h1.bel, h2.1, h2.2, h3⟩⟩
              by_cases hm : 1 ≤ m
              · by_cases hm5 : m ≤ 5
                · have HNN : Bx (∀ W, Below wr.heap.size wr W → b = (cs.take (i + 1)).any (· == 76) ∧ Rst w (W.setCell ⟨G, fi, none⟩ (.int .i64 0)) H G e (zer e (cs.take (i + 1))) (.slice a n cap) ∧ (cs.take (i + 1)).all (okC e) = true) := ⟨fun W hb => by
                    obtain ⟨y1, y2, y3⟩ := HNX.out (by rw [decide_eq_true hm, decide_eq_true hm5]; rfl)
                    have y4 := (HRW.out.on hb).zer (c := 84) (by decide)
                    rw [hfi, ← HZ.out] at y4
                    exact ⟨y1, y4, y3⟩⟩
                  clear HNX HBX HRW hokv HFG HZ hfi
                  go_wp2_with (first
                    | (go_at_call 28; refine HFH.mono ?_; rintro e1 w5 ⟨rfl, hw5⟩; replace hw5 := hw5.symm; subst hw5; clear HFH)
                    | (go_at_call 29; refine HTR.out.mono ?_; rintro e1 w6 ⟨a6, c6, rfl, hb6⟩; obtain ⟨hbb6, ⟨x6, hx6⟩, hy6, hF6⟩ := HON.out w6 hb6; have HF6 : Bx _ := ⟨hF6⟩; have HN6 : Bx _ := ⟨HNN.out w6 hb6⟩; clear hF6 hb6 hbb6)
                    | (go_at_call 28; refine HF6.out.mono ?_; rintro e1 w7 ⟨rfl, hw7⟩; replace hw7 := hw7.symm; subst hw7; clear HF6))
                  go_roundw
                  case rel => exact ⟨i + 1, b, hlt, by go_num, rfl, HN6⟩
                  case measure => simp [intOf]; omega
                · have HE : Bx _ := ⟨HBX.out (by rw [decide_eq_true hm, decide_eq_false hm5]; rfl)⟩
                  have hm6 : 5 < m := by omega
                  have hd : decide (m ≤ 5) = false := decide_eq_false hm5
                  clear HNX HBX HRW hokv HFG HZ hfi hm5
                  go_wp2_with (first
                    | (go_at_call 28; refine HFH.mono ?_; rintro e1 w5 ⟨rfl, hw5⟩; replace hw5 := hw5.symm; subst hw5; clear HFH)
                    | (go_at_call 29; refine HTR.out.mono ?_; rintro e1 w6 ⟨a6, c6, rfl, hb6⟩; have HB6 : Bx _ := ⟨(HON.out w6 hb6).1⟩; clear hb6))
                  exact HE.out _ HB6.out
              · have HE : Bx _ := ⟨HBX.out (by rw [decide_eq_false hm]; rfl) wr HRB⟩
                have hm6 : m < 1 := by omega
                clear HNX HBX HRW hokv HFG HZ hfi hm
                go_wp2_with (go_at_call 28; refine HFH.mono ?_; rintro e1 w5 ⟨rfl, hw5⟩; replace hw5 := hw5.symm; subst hw5; clear HFH)
                exact HE.out
            · have g84 : ((c.toNat : Int) == 84) = false := u8_ne h84
              have i84 : ¬ (c.toNat : Int) = 84 := by simpa using g84
              by_cases h83 : c = 83
              · subst h83
                have hokv : okL 83 m = (decide (1 ≤ m) && decide (m ≤ 6)) := rfl
                rw [hokv] at HNX HBX
                have HTR : Bx (Calls Tryd.prog 30 #[] wr fun e' w' => ∃ a1 c1, e' = .returned (.slice a1 6 c1) ∧ Below wr.heap.size wr w') := ⟨rcounters_any wr⟩
                have HON : Bx (∀ W, Below wr.heap.size wr W → Below H w W ∧ (∃ x, W.cell? ⟨G, fi, none⟩ = some x) ∧ W.frozen? ⟨G, fi, none⟩ = false ∧ Calls Tryd.prog 28 #[.pointer (some ⟨G, 0, none⟩), .int .u8 83] W fun e' w' => e' = .returned (.pointer (some ⟨G, fi, none⟩)) ∧ w' = W) := ⟨fun W hb => by
                  have h1 := HRW.out.on hb
                  have h2 := h1.has 83
                  have h3 := HFD.out W G 83
                  rw [hfi] at h2 h3
                  exact ⟨h1.bel, h2.1, h2.2, h3⟩⟩
                by_cases hm : 1 ≤ m
                · by_cases hm5 : m ≤ 6
                  · have HNN : Bx (∀ W, Below wr.heap.size wr W → b = (cs.take (i + 1)).any (· == 76) ∧ Rst w (W.setCell ⟨G, fi, none⟩ (.int .i64 0)) H G e (zer e (cs.take (i + 1))) (.slice a n cap) ∧ (cs.take (i + 1)).all (okC e) = true) := ⟨fun W hb => by
                      obtain ⟨y1, y2, y3⟩ := HNX.out (by rw [decide_eq_true hm, decide_eq_true hm5]; rfl)
                      have y4 := (HRW.out.on hb).zer (c := 83) (by decide)
                      rw [hfi, ← HZ.out] at y4
                      exact ⟨y1, y4, y3⟩⟩
                    clear HNX HBX HRW hokv HFG HZ hfi
                    go_wp2_with (first
                      | (go_at_call 28; refine HFH.mono ?_; rintro e1 w5 ⟨rfl, hw5⟩; replace hw5 := hw5.symm; subst hw5; clear HFH)
                      | (go_at_call 30; refine HTR.out.mono ?_; rintro e1 w6 ⟨a6, c6, rfl, hb6⟩; obtain ⟨hbb6, ⟨x6, hx6⟩, hy6, hF6⟩ := HON.out w6 hb6; have HF6 : Bx _ := ⟨hF6⟩; have HN6 : Bx _ := ⟨HNN.out w6 hb6⟩; clear hF6 hb6 hbb6)
                      | (go_at_call 28; refine HF6.out.mono ?_; rintro e1 w7 ⟨rfl, hw7⟩; replace hw7 := hw7.symm; subst hw7; clear HF6))
                    go_roundw
                    case rel => exact ⟨i + 1, b, hlt, by go_num, rfl, HN6⟩
                    case measure => simp [intOf]; omega
                  · have HE : Bx _ := ⟨HBX.out (by rw [decide_eq_true hm, decide_eq_false hm5]; rfl)⟩
                    have hm6 : 6 < m := by omega
                    have hd : decide (m ≤ 6) = false := decide_eq_false hm5
                    clear HNX HBX HRW hokv HFG HZ hfi hm5
                    go_wp2_with (first
                      | (go_at_call 28; refine HFH.mono ?_; rintro e1 w5 ⟨rfl, hw5⟩; replace hw5 := hw5.symm; subst hw5; clear HFH)
                      | (go_at_call 30; refine HTR.out.mono ?_; rintro e1 w6 ⟨a6, c6, rfl, hb6⟩; have HB6 : Bx _ := ⟨(HON.out w6 hb6).1⟩; clear hb6))
                    exact HE.out _ HB6.out
                · have HE : Bx _ := ⟨HBX.out (by rw [decide_eq_false hm]; rfl) wr HRB⟩
                  have hm6 : m < 1 := by omega
                  clear HNX HBX HRW hokv HFG HZ hfi hm
                  go_wp2_with (go_at_call 28; refine HFH.mono ?_; rintro e1 w5 ⟨rfl, hw5⟩; replace hw5 := hw5.symm; subst hw5; clear HFH)
                  exact HE.out
              · have g83 : ((c.toNat : Int) == 83) = false := u8_ne h83
                have i83 : ¬ (c.toNat : Int) = 83 := by simpa using g83
                have hokv : okL c m = decide (0 ≤ m) := by unfold okL; rw [if_neg h78, if_neg h84, if_neg h83]
                rw [hokv] at HNX HBX
                by_cases hm : 0 ≤ m
                · have HNN : Bx _ := ⟨HNX.out (decide_eq_true hm)⟩
                  clear HNX HBX HRW hokv HZ hfi
                  go_wp2_with (first
                    | (go_at_call 28; refine HFH.mono ?_; rintro e1 w5 ⟨rfl, hw5⟩; replace hw5 := hw5.symm; subst hw5; clear HFH)
                    | (go_at_call 28; refine HFG.mono ?_; rintro e1 w6 ⟨rfl, hw6⟩; replace hw6 := hw6.symm; subst hw6; clear HFG))
                  go_roundw
                  case rel => exact ⟨i + 1, b, hlt, by go_num, rfl, HNN⟩
                  case measure => simp [intOf]; omega
                · have HE : Bx _ := ⟨HBX.out (decide_eq_false hm) wr HRB⟩
                  have hm2 : m < 0 := by omega
                  have hd : decide (0 ≤ m) = false := decide_eq_false hm
                  clear hm
                  clear HNX HBX HRW hokv HZ hfi
                  go_wp2_with (go_at_call 28; refine HFH.mono ?_; rintro e1 w5 ⟨rfl, hw5⟩; replace hw5 := hw5.symm; subst hw5; clear HFH)
                  exact HE.out
      · have hie : i = cs.length := by omega
        subst hie
        have HLF := HL.out
        rw [List.take_of_length_le (Nat.le_refl _)] at HLF
        obtain ⟨hbv, hrs, hok⟩ := HLF
        have HRB : Bx _ := ⟨hrs.bel⟩
        obtain ⟨q0, q1, q2, q3, q4, q5, q6, q7⟩ := evB_cells hrs.re
        have z7 := (evB_cells hrs.ev).2.2.2.2.2.2.2
        have HIW : Bx (IntsV wr H a cap e.list) := ⟨HI.out.below hrs.bel⟩
        have HRE2 : Bx (chkE e = if (zeroE (zer e cs) && (b || e.list.isEmpty) && risF (-1) e.list) then 0 else 180) := ⟨by rw [HRE.out, hok, ← hbv]; simp⟩
        clear HRE HL HI hrs hok hbv HFD
        generalize zer e cs = r at *
        obtain ⟨rk, rp, ri, rq, rj, rc, rn, rl⟩ := r
        simp only [] at q0 q1 q2 q3 q4 q5 q6
        have HBZ : Bx (zeroE ⟨rk, rp, ri, rq, rj, rc, rn, rl⟩ = false → ∀ W, Below H w W → Q (.returned (.int .i64 180)) W) := ⟨fun h W hb => HQ.out 180 W (by rw [HRE2.out, h]; rfl) hb⟩
        have HBL : Bx ((b || e.list.isEmpty) = false → ∀ W, Below H w W → Q (.returned (.int .i64 180)) W) := ⟨fun h W hb => HQ.out 180 W (by rw [HRE2.out, h]; simp) hb⟩
        have HGB : Bx (((b || e.list.isEmpty) && risF (-1) e.list) = false → ∀ W, Below H w W → Q (.returned (.int .i64 180)) W) := ⟨fun h W hb => HQ.out 180 W (by rw [HRE2.out, Bool.and_assoc, h]; simp) hb⟩
        have HG0 : Bx (rp = 0 → ri = 0 → rq = 0 → rj = 0 → rc = 0 → rn = 0 → ((b || e.list.isEmpty) && risF (-1) e.list) = true → ∀ W, Below H w W → Q (.returned (.int .i64 0)) W) := ⟨fun e1 e2 e3 e4 e5 e6 h W hb => HQ.out 0 W (by rw [HRE2.out, Bool.and_assoc, h, e1, e2, e3, e4, e5, e6]; rfl) hb⟩
        clear HQ HRE2
        by_cases h0 : rp = 0
        · subst h0
          by_cases h1 : ri = 0
          · subst h1
            by_cases h2 : rq = 0
            · subst h2
              by_cases h3 : rj = 0
              · subst h3
                by_cases h4 : rc = 0
                · subst h4
                  by_cases h5 : rn = 0
                  · subst h5
                    have HBB : Bx (risF (-1) e.list = false → ∀ W, Below H w W → Q (.returned (.int .i64 180)) W) := ⟨fun h W hb => HGB.out (by rw [h]; simp) W hb⟩
                    cases b with
                    | true =>
                      have HGG : Bx (risF (-1) e.list = true → ∀ W, Below H w W → Q (.returned (.int .i64 0)) W) := ⟨fun h W hb => HG0.out rfl rfl rfl rfl rfl rfl (by rw [h]; rfl) W hb⟩
                      clear HBZ HBL HGB HG0
                      go_wp2
                      go_loopw [10] (fun x wx => ∃ (i k : Nat), i ≤ n ∧ x = .int .i64 i ∧ wx = wr.drewN k ∧ Bx (risF (-1) (e.list.take i) = true)) (fun x _ => n - (intOf x).toNat)
                      case atStart => exact ⟨0, 0, Nat.zero_le _, rfl, rfl, ⟨by simp [risF]⟩⟩
                      case round =>
                        obtain ⟨i, k, hi, rfl, rfl, HK⟩ := hrel
                        by_cases hin : i < n
                        · have hil : i < e.list.length := by rw [← HN.out]; exact hin
                          have hinI : (i : Int) < (n : Int) := by omega
                          have hi0 : (0 : Int) ≤ (i : Int) := by omega
                          obtain ⟨b2, o2, rfl, hb2, hc2⟩ := HIW.out.at_ (by omega)
                          have hcx := hc2 i hil
                          have hsn : risF (-1) (e.list.take (i + 1)) = (risF (-1) (e.list.take i) && decide (lastF (-1) (e.list.take i) < e.list[i])) := by rw [List.take_succ_eq_append_getElem hil, ris_snoc]
                          have HBD : Bx (decide (lastF (-1) (e.list.take i) < e.list[i]) = false → ∀ W, Below H w W → Q (.returned (.int .i64 180)) W) := ⟨fun h W hb => HBB.out (by
                            cases hq : risF (-1) e.list with
                            | false => rfl
                            | true =>
                              have := ris_take (i + 1) hq
                              rw [hsn, h] at this
                              simp at this) W hb⟩
                          have hla := ris_last (e.list.take i) (-1) HK.out
                          have HEW : Bx (∀ j, Below H w (wr.drewN j)) := ⟨fun j => below_drewN HRB.out j⟩
                          by_cases hx : e.list[i] < 0
                          · have HE : Bx _ := ⟨HBD.out (decide_eq_false (by omega))⟩
                            clear hc2 hsn HBD HK hla
                            generalize e.list[i] = x at *
                            have hd : decide (x < 0) = true := decide_eq_true hx
                            go_wp2
                            go_quiet (fail)
                            go_wp2
                            exact HE.out _ (by first | exact HEW.out _ | (rw [World.drewN_drewN]; exact HEW.out _))
                          · have hd : decide (e.list[i] < 0) = false := decide_eq_false hx
                            have hx2 : 0 ≤ e.list[i] := by omega
                            by_cases hi1 : i = 0
                            · subst hi1
                              have HNX : Bx (risF (-1) (e.list.take (0 + 1)) = true) := ⟨by rw [hsn, HK.out]; simp [lastF]; omega⟩
                              rw [Nat.add_zero] at hcx
                              clear hc2 hsn HBD HK hla
                              generalize e.list[0] = x at *
                              go_wp2
                              go_quiet (fail)
                              go_wp2
                              go_roundw
                              case rel => exact ⟨0 + 1, k + nq, hin, by go_num, by first | rfl | rw [World.drewN_drewN], HNX⟩
                              case measure => simp [intOf]; omega
                            · obtain ⟨i', rfl⟩ : ∃ i', i = i' + 1 := ⟨i - 1, by omega⟩
                              have hil' : i' < e.list.length := by omega
                              have hlt' := lastF_take e.list (-1) i' hil'
                              rw [hlt'] at hsn HBD hla
                              have hcy := hc2 i' hil'
                              have hd2 : decide ((0 : Int) < ((i' + 1 : Nat) : Int)) = true := decide_eq_true (by omega)
                              have hsub : ((i' + 1 : Nat) : Int) - 1 = (i' : Int) := by omega
                              have hi2 : (0 : Int) ≤ (i' : Int) := by omega
                              have hi3 : (i' : Int) < (n : Int) := by omega
                              have hi4 : (0 : Int) < ((i' + 1 : Nat) : Int) := by omega
                              have hwr2 : IntKind.i64.wrap (((i' + 1 : Nat) : Int) - 1) = (i' : Int) := by rw [IntKind.wrap_i64]; omega
                              by_cases hxy : e.list[i'] < e.list[i' + 1]
                              · have HNX : Bx (risF (-1) (e.list.take (i' + 1 + 1)) = true) := ⟨by rw [hsn, HK.out, decide_eq_true hxy]; rfl⟩
                                have hd3 : decide (e.list[i' + 1] ≤ e.list[i']) = false := decide_eq_false (by omega)
                                clear hc2 hsn HBD HK hla hlt'
                                generalize e.list[i' + 1] = x at *
                                generalize e.list[i'] = y at *
                                go_wp2
                                go_quiet (fail)
                                go_wp2
                                go_roundw
                                case rel => exact ⟨i' + 1 + 1, k + nq, hin, by go_num, by first | rfl | rw [World.drewN_drewN], HNX⟩
                                case measure => simp [intOf]; omega
                              · have HE : Bx _ := ⟨HBD.out (decide_eq_false hxy)⟩
                                have hd3 : decide (e.list[i' + 1] ≤ e.list[i']) = true := decide_eq_true (by omega)
                                clear hc2 hsn HBD HK hla hlt'
                                generalize e.list[i' + 1] = x at *
                                generalize e.list[i'] = y at *
                                go_wp2
                                go_quiet (fail)
                                go_wp2
                                exact HE.out _ (by first | exact HEW.out _ | (rw [World.drewN_drewN]; exact HEW.out _))
                        · have hie : i = n := by omega
                          subst hie
                          have hall : risF (-1) e.list = true := by
                            have := HK.out
                            rwa [HN.out, List.take_of_length_le (Nat.le_refl _)] at this
                          have HE : Bx _ := ⟨HGG.out hall (wr.drewN k) (below_drewN HRB.out k)⟩
                          clear HK
                          go_wp2
                          exact HE.out
                    | false =>
                      by_cases hn0 : n = 0
                      · have hle : e.list = [] := List.eq_nil_of_length_eq_zero (by rw [← HN.out]; exact hn0)
                        have HE : Bx _ := ⟨HG0.out rfl rfl rfl rfl rfl rfl (by rw [hle]; rfl) wr HRB.out⟩
                        subst hn0
                        clear HBZ HBL HGB HG0 HBB hle
                        go_wp2
                        go_loopw [10] (fun x wx => x = .int .i64 0 ∧ wx = wr) (fun _ _ => 0)
                        case atStart => exact ⟨rfl, rfl⟩
                        case round =>
                          obtain ⟨rfl, rfl⟩ := hrel
                          go_wp2
                          exact HE.out
                      · have hne : e.list.isEmpty = false := by
                          cases hq : e.list with
                          | nil => exact absurd (by rw [HN.out, hq]; rfl) hn0
                          | cons x r => rfl
                        have HE : Bx _ := ⟨HBL.out (by rw [hne]; rfl) wr HRB.out⟩
                        have hnp : (0 : Int) < (n : Int) := by omega
                        clear HBZ HBL HGB HG0 HBB
                        go_wp2
                        exact HE.out
                  · have HE : Bx _ := ⟨HBZ.out (by unfold zeroE; simp [h5]) wr HRB.out⟩
                    have hd : (rn == 0) = false := by simpa using h5
                    have hd2 : (rn != 0) = true := by simpa using h5
                    clear HBZ HBL HGB
                    go_wp2
                    exact HE.out
                · have HE : Bx _ := ⟨HBZ.out (by unfold zeroE; simp [h4]) wr HRB.out⟩
                  have hd : (rc == 0) = false := by simpa using h4
                  have hd2 : (rc != 0) = true := by simpa using h4
                  clear HBZ HBL HGB
                  go_wp2
                  exact HE.out
              · have HE : Bx _ := ⟨HBZ.out (by unfold zeroE; simp [h3]) wr HRB.out⟩
                have hd : (rj == 0) = false := by simpa using h3
                have hd2 : (rj != 0) = true := by simpa using h3
                clear HBZ HBL HGB
                go_wp2
                exact HE.out
            · have HE : Bx _ := ⟨HBZ.out (by unfold zeroE; simp [h2]) wr HRB.out⟩
              have hd : (rq == 0) = false := by simpa using h2
              have hd2 : (rq != 0) = true := by simpa using h2
              clear HBZ HBL HGB
              go_wp2
              exact HE.out
          · have HE : Bx _ := ⟨HBZ.out (by unfold zeroE; simp [h1]) wr HRB.out⟩
            have hd : (ri == 0) = false := by simpa using h1
            have hd2 : (ri != 0) = true := by simpa using h1
            clear HBZ HBL HGB
            go_wp2
            exact HE.out
        · have HE : Bx _ := ⟨HBZ.out (by unfold zeroE; simp [h0]) wr HRB.out⟩
          have hd : (rp == 0) = false := by simpa using h0
          have hd2 : (rp != 0) = true := by simpa using h0
          clear HBZ HBL HGB
          go_wp2
          exact HE.out
  · have hC : chkE e = 180 := by
      unfold chkE evOk
      by_cases h1 : 1 ≤ e.kind
      · rw [decide_eq_false (show ¬ e.kind ≤ 11 by omega)]; simp
      · rw [decide_eq_false h1]; simp
    have HWD : Bx (Calls Tryd.prog 26 #[.int .i64 e.kind] W1 fun e' w' => e' = .returned (strV []) ∧ Below H w w') := ⟨(rword_no e.kind W1 (by omega)).mono fun e' w' h => ⟨h.1, hb1.trans (h.2.mono (by omega))⟩⟩
    have HE : Bx (∀ W, Below H w W → Q (.returned (.int .i64 180)) W) := ⟨fun W hb => HQ.out 180 W hC.symm hb⟩
    clear hQ hi hb1 he1 q1 q2 q3 q4 q5 q6 q7 hn hk hC
    go_enter Tryd.func11, Tryd.ntmps11
    go_wp2_with (go_at_call 26; refine HWD.out.mono ?_; rintro e1 w2 ⟨rfl, hb2⟩; have HB2 : Bx _ := ⟨hb2⟩; clear hb2)
    exact HE.out _ HB2.out
end Go.Proofs.YtecpknpcjoiliaaDoor
