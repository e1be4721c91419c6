import Derived.Test.YtadmpgegolmkgaaDoorCWfQ
import Derived.Test.YtadmpgegolmkgaaDoorCWmF
import Derived.Test.YtadmpgegolmkgaaDoorCWvP
namespace Go.Proofs.YtadmpgegolmkgaaDoor
open Go.RowKit
set_option linter.unusedVariables false
set_option linter.unusedSimpArgs false

def sumK (l : List CTy) : Nat := (l.map fun t => t.kids.length).sum
theorem sumK_at {l : List CTy} {k : Nat} (h : k < l.length) : sumK (l.drop k) = l[k].kids.length + sumK (l.drop (k + 1)) := by
  unfold sumK
  rw [List.drop_eq_getElem_cons h, List.map_cons, List.sum_cons]
set_option maxRecDepth 100000 in
set_option maxHeartbeats 16000000 in
/-- **DEFAULTS** -/
theorem defaults_any (w : World) (B : Nat) (hB : B ≤ w.heap.size) (ta : Option Addr) (tc : Nat) (ts : List CTy) (hr : Row (TyAt w B) B 3 ta tc ts) (hv : TsV ts) (hn : ts.length ≤ 2147483648) (hsum : sumK ts ≤ 4294967296) :
    Calls Tryd.prog 35 #[.slice ta ts.length tc] w fun e w' => ∃ da dc, e = .returned (.slice da (dfL ts).length dc) ∧ Bx (BoolsV w' da dc (dfL ts) ∧ Below w.heap.size w w') := by
  have hcap := hr.cap
  have HT : Bx (∀ k (hk : k < ts.length), _) := ⟨fun k hk => ty_cells hr hk⟩
  have m1 := fun W => make_bF W ts.length hn
  have m2 := fun W => make_iF W ts.length hn
  have m3 := fun W => make_sF W ts.length hn
  have HKB : Bx (∀ r, (tyA ts r).kids.length ≤ 4294967296) := ⟨fun r => by
    rcases Nat.lt_or_ge r ts.length with h | h
    · have := sumK_at (l := ts) h
      have h2 : sumK (ts.drop r) ≤ sumK ts := by
        unfold sumK
        rw [← List.take_append_drop r ts]
        simp only [List.map_append, List.sum_append, List.drop_append_of_le_length, List.drop_drop]
        simp
      rw [tyA_eq h]
      omega
    · unfold tyA
      rw [List.getD_eq_getElem?_getD, List.getElem?_eq_none h]
      simp [tyD]⟩
  have HZ : Bx (∀ W, _ → DfM w W w.heap.size (w.heap.size + 1) (w.heap.size + 1 + 1) (w.heap.size + 3) ts.length (fun _ => .slice none 0 0) df0) := ⟨fun W h => dfm_zero w ts.length (W := W) h⟩
  have HTS : Bx (TsV ts) := ⟨hv⟩
  have HS0 : Bx (∀ x, (df0.wh x).length + sumK (ts.drop 0) ≤ 4294967296) := ⟨fun x => by simpa [df0] using hsum⟩
  have hl : (dfL ts).length = ts.length := by simp [dfL]
  rw [hl]
  have HLL : Bx ((dfL ts).length = ts.length) := ⟨hl⟩
  clear hr hv hsum hl
  go_enter Tryd.func35, Tryd.ntmps35
  go_wp2
  obtain ⟨W0, hW0⟩ : ∃ W0, ((w.alloc (.cells (rowF ts.length fun _ => .bool false) 4)).alloc (.cells (rowF ts.length fun _ => .int .i64 0) 3)).alloc (.cells (rowF ts.length fun _ => .slice none 0 0) 32) = W0 := ⟨_, rfl⟩
  have HZ2 := HZ.out W0 hW0
  rw [hW0]
  clear m1 m2 m3 hW0 HZ
  generalize w.heap.size + 1 = mb at HZ2 ⊢
  generalize mb + 1 = ob at HZ2 ⊢
  generalize w.heap.size + 3 = base at HZ2
  have HZ : Bx _ := ⟨HZ2⟩
  clear HZ2
  obtain ⟨S1, hS1⟩ : ∃ S1, df1All ts 0 df0 = S1 := ⟨_, rfl⟩
  have HS1 : Bx (df1All (ts.drop 0) 0 df0 = S1) := ⟨by rw [List.drop_zero]; exact hS1⟩
  have HSX : Bx _ := ⟨hS1⟩
  clear hS1
  go_loopg [6, 25] (ts.length + 1) (fun f v6 v25 wr => ∃ (k : Nat) (va : Nat → Value) (s : DfS), f = ts.length + 1 - k ∧ k ≤ ts.length ∧ v25 = .int .i64 k ∧ v6 = va ts.length ∧ Bx (df1All (ts.drop k) k s = S1) ∧ Bx (DfM w wr w.heap.size mb ob base ts.length va s) ∧ Bx (D1 ts k s) ∧ Bx (∀ x, (s.wh x).length + sumK (ts.drop k) ≤ 4294967296))
  case atStart => exact ⟨0, _, df0, by simp, Nat.zero_le _, rfl, rfl, HS1, HZ, ⟨d1_zero ts⟩, HS0⟩
  case round =>
    obtain ⟨k, va, s, hf, hk, rfl, rfl, HW, HM, HD, HL⟩ := hrel
    by_cases hlt : k < ts.length
    · obtain ⟨b, o, ka, kc, rfl, hb, hks, HC⟩ := HT.out k hlt
      have hs := HM.out.bel.size
      obtain ⟨c0, c1, c2⟩ := HC.out wr (HM.out.bel.mono hB)
      have hbl : b < wr.heap.size := by omega
      have hkI : (k : Int) < (ts.length : Int) := by omega
      have HW2 : Bx _ := ⟨(df1All_at hlt s).symm.trans HW.out⟩
      have HD2 : Bx _ := ⟨HD.out.step HTS.out hlt⟩
      have HL2 : Bx (∀ x, (s.wh x).length + (ts[k].kids.length + sumK (ts.drop (k + 1))) ≤ 4294967296) := ⟨fun x => by rw [← sumK_at hlt]; exact HL.out x⟩
      obtain ⟨fa, fc, hfv⟩ := HM.out.fam.slice (r := ts.length) (by omega)
      rw [famS_n] at hfv
      have hfl : s.fd.length ≤ ts.length := nodup_len _ _ HD.out.fd.1 fun x hx => by have := HD.out.fd.2 x hx; omega
      unfold df1 at HW2 HD2
      obtain ⟨wA, hwA⟩ : ∃ wA, wr.alloc (.cells #[.int .i64 ts[k].kind, .slice ka ts[k].kids.length kc, .bool ts[k].res] 49) = wA := ⟨_, rfl⟩
      have bA : Below wr.heap.size wr wA := by rw [← hwA]; exact below1 wr _
      have HMA : Bx _ := ⟨HM.out.later bA⟩
      have qA : wA.heap[wr.heap.size]? = some (.cells #[.int .i64 ts[k].kind, .slice ka ts[k].kids.length kc, .bool ts[k].res] 49 (0, 0)) := by rw [← hwA]; exact heap_newH _ _ _ rfl
      have d0 : wA.cell? ⟨wr.heap.size, 0, none⟩ = some (.int .i64 ts[k].kind) := cell_blk qA rfl
      have d1 : wA.cell? ⟨wr.heap.size, 1, none⟩ = some (.slice ka ts[k].kids.length kc) := cell_blk qA rfl
      have HKS : Bx (IntsV w B ka kc ts[k].kids) := ⟨hks⟩
      have hPw : mb < wr.heap.size ∧ ob < wr.heap.size := by have := HM.out.lt; omega
      clear qA bA
      by_cases hkd : ts[k].kind = 4
      · have hkb : (ts[k].kind != 4) = false := by simp [hkd]
        simp only [if_pos hkd] at HW2 HD2
        have hkk : ∀ y ∈ ts[k].kids, 0 ≤ y ∧ y < (ts.length : Int) := fun y hy => HTS.out.kids k y (by rw [tyA_eq hlt]; exact hy)
        have HKK : Bx _ := ⟨hkk⟩
        have hkcp := HKS.out.cap
        have hk32 : ts[k].kids.length ≤ 4294967296 := by have := HL2.out 0; omega
        obtain ⟨_, e1, _, _, e4, _⟩ := HMA.out.cells hlt
        have HMB := HMA.out.setM hlt (ts[k].kids.length : Int)
        obtain ⟨wB, hwB⟩ : ∃ wB, wA.setCell ⟨mb, k, none⟩ (.int .i64 (ts[k].kids.length : Int)) = wB := ⟨_, rfl⟩
        rw [hwB] at HMB
        have d1B : wB.cell? ⟨wr.heap.size, 1, none⟩ = some (.slice ka ts[k].kids.length kc) := by
          rw [← hwB, ← d1]
          exact World.cell?_of_block (Below.heap_setCell wA ⟨mb, k, none⟩ _ wr.heap.size (by show wr.heap.size ≠ mb; omega))
        obtain ⟨WF, hWF⟩ : ∃ WF, whGo k ts[k].kids s.wh = WF := ⟨_, rfl⟩
        rw [hWF] at HW2 HD2
        have HWG : Bx (whGo k (ts[k].kids.drop 0) s.wh = WF) := ⟨by rw [List.drop_zero]; exact hWF⟩
        have HLG : Bx (∀ x, (s.wh x).length + ((ts[k].kids.length - 0) + sumK (ts.drop (k + 1))) ≤ 4294967296) := ⟨fun x => by have := HL2.out x; omega⟩
        have HMB2 : Bx _ := ⟨HMB⟩
        rw [hfv]
        clear HC HW HM HD HT hkd hks HL HMA hkk HMB hWF HL2
        generalize ts[k].kids = ks at *
        generalize ts[k].kind = kd at *
        generalize ts[k].res = rs at *
        go_wp2
        clear e1 e4 d0 d1 d1B hwA hwB c0 c1 c2 hkb
        obtain ⟨wA2, rfl⟩ : ∃ X, X = wr := ⟨_, rfl⟩
        go_loopg [46] (ks.length + 1) (fun f v46 wr => ∃ (i : Nat) (va' : Nat → Value) (W' : Nat → List Int), f = ks.length + 1 - i ∧ i ≤ ks.length ∧ v46 = .int .i64 i ∧ Bx (va' ts.length = va ts.length) ∧ Bx (whGo k (ks.drop i) W' = WF) ∧ Bx (DfM w wr w.heap.size mb ob base ts.length va' ⟨s.has, fup s.ms k (ks.length : Int), W', s.fd⟩) ∧ Bx (∀ x, (W' x).length + ((ks.length - i) + sumK (ts.drop (k + 1))) ≤ 4294967296))
        case atStart => exact ⟨0, va, s.wh, by simp, Nat.zero_le _, rfl, ⟨rfl⟩, HWG, HMB2, HLG⟩
        case round =>
          obtain ⟨i, va', W', hf2, hi, rfl, HV, HG, HM, HL⟩ := hrel
          clear HWG HLG HMB2
          by_cases hlt2 : i < ks.length
          · obtain ⟨b', o', rfl, hb', hc'⟩ := HKS.out.at_ (by omega)
            have f0 := (HM.out.bel.cell (p := ⟨b', o' + i, none⟩) (by show b' < w.heap.size; omega)).trans (hc' i hlt2)
            have hiI : (i : Int) < (ks.length : Int) := by omega
            obtain ⟨y0, y1⟩ := HKK.out _ (List.getElem_mem hlt2)
            obtain ⟨m, hm⟩ : ∃ m : Nat, ks[i] = m := ⟨(ks[i]).toNat, by omega⟩
            have hmn : m < ts.length := by omega
            have hmI : (m : Int) < (ts.length : Int) := by omega
            have HG2 : Bx _ := ⟨(whGo_at hlt2 W').symm.trans HG.out⟩
            rw [hm] at f0 HG2
            rw [show ((m : Int)).toNat = m by omega] at HG2
            obtain ⟨_, _, e3, _, _, e6⟩ := HM.out.cells hmn
            obtain ⟨ga, gc, hgv⟩ := HM.out.fam.slice (r := m) (by omega)
            rw [famS_k _ hmn] at hgv
            have hl1 := HL.out m
            obtain ⟨g, c, W3, run, x3, x4, HX⟩ := HM.out.pushW hmn (k : Int) (by show (W' m).length ≤ _; omega)
            have HV2 : Bx _ := ⟨HV.out⟩
            have HL3 : Bx (∀ x, (fup W' m (W' m ++ [(k : Int)]) x).length + ((ks.length - (i + 1)) + sumK (ts.drop (k + 1))) ≤ 4294967296) := ⟨fun x => by
              have := HL.out x
              by_cases e : x = m
              · subst e; rw [fup_same, List.length_append]; simp; omega
              · rw [fup_ne _ _ e]; omega⟩
            rw [hgv] at run e3 x3
            clear hc' HL HG HV HM hm y0 y1 hl1 HKS HKK
            go_wp2_with (first
              | (at_builtin; refine wpList_appI rfl (.tmp 55) (.tmp 57) 32 rfl rfl rfl run ?_; clear run))
            go_roundg (ks.length + 1 - (i + 1))
            case measure => omega
            case rel => exact ⟨i + 1, fup va' m _, _, rfl, by omega, by simp, ⟨by rw [fup_ne _ _ (by omega)]; exact HV2.out⟩, HG2, HX, HL3⟩
          · obtain rfl : i = ks.length := by omega
            have hr := HG.out
            rw [List.drop_length] at hr
            simp only [whGo] at hr
            subst hr
            have hv2 := HV.out
            have HL4 : Bx (∀ x, (W' x).length + sumK (ts.drop (k + 1)) ≤ 4294967296) := ⟨fun x => by have := HL.out x; omega⟩
            clear HG HL HV
            rw [hfv] at hv2
            go_wp2
            go_roundg (ts.length + 1 - (k + 1))
            case measure => omega
            case rel => exact ⟨k + 1, va', _, rfl, by omega, by simp, hv2.symm, HW2, HM, HD2, HL4⟩
      · have hkb : (ts[k].kind != 4) = true := by simp [hkd]
        simp only [if_neg hkd] at HW2 HD2
        obtain ⟨g, c, W3, run, HX⟩ := HMA.out.pushF (k : Int) (by omega)
        rw [hfv] at run ⊢
        clear HC HW HM HD HT hkd hks HL HMA
        generalize hrl : ts[k].kids = ks at *
        generalize ts[k].kind = kd at *
        generalize ts[k].res = rs at *
        clear hrl
        go_wp2_with (first
          | (at_builtin; refine wpList_appI rfl (.tmp 33) (.tmp 35) 32 rfl rfl rfl run ?_; clear run))
        go_roundg (ts.length + 1 - (k + 1))
        case measure => omega
        case rel => exact ⟨k + 1, fup va ts.length _, _, rfl, by omega, by simp, by rw [fup_same], HW2, HX, HD2, ⟨fun x => by have := HL2.out x; show (s.wh x).length + _ ≤ _; omega⟩⟩
    · obtain rfl : k = ts.length := by omega
      have hr := HW.out
      rw [List.drop_length] at hr
      simp only [df1All] at hr
      subst hr
      have HD2 : Bx (D2 ts s) := ⟨HD.out.two⟩
      have HSF : Bx (df2All (ts.length + 1) s = dfAll ts) := ⟨by unfold dfAll; rw [HSX.out]⟩
      have HWL : Bx (∀ x, (s.wh x).length ≤ 4294967296) := ⟨fun x => by have := HL.out x; omega⟩
      have HCH : Bx (cH ts.length s.has ≤ ts.length) := ⟨cH_le _ _⟩
      obtain ⟨SF, hSF⟩ : ∃ SF, dfAll ts = SF := ⟨_, rfl⟩
      rw [hSF] at HSF
      have HSE : Bx _ := ⟨hSF⟩
      clear hSF
      clear HW HD HT HL HS0 HSX
      go_wp2
      go_loopg [6] (ts.length) (fun f v6 wr => ∃ (va : Nat → Value) (s : DfS), Bx (cH ts.length s.has ≤ f) ∧ v6 = va ts.length ∧ Bx (df2All (f + 1) s = SF) ∧ Bx (DfM w wr w.heap.size mb ob base ts.length va s) ∧ Bx (D2 ts s) ∧ Bx (∀ x, (s.wh x).length ≤ 4294967296))
      case atStart => exact ⟨va, s, HCH, rfl, HSF, HM, HD2, HWL⟩
      case round =>
        clear HCH HSF HM HD2 HWL
        obtain ⟨va, s, HC, rfl, HF, HM, HD, HWL⟩ := hrel
        rcases List.eq_nil_or_concat s.fd with hfd | ⟨rest, x, hfd⟩
        · obtain ⟨fa, fc, hfv⟩ := HM.out.fam.slice (r := ts.length) (by omega)
          rw [famS_n, hfd] at hfv
          have hSF := HF.out
          rw [df2_done hfd] at hSF
          subst hSF
          have hM := HM.out
          have hbel := hM.bel
          have hl := HLL.out
          rw [hfv]
          simp only [List.length_nil]
          have HB : Bx (BoolsV wr (some ⟨w.heap.size, 0, none⟩) ts.length (dfL ts) ∧ Below w.heap.size w wr) := ⟨⟨by rw [hl]; exact Nat.le_refl _, by rw [hl]; exact hn, fun i hi => ?_⟩, hbel⟩
          · clear HF HM HD HWL HC hM hbel hl hfv hfd
            go_wp2
            go_ret
            exact ⟨_, _, rfl, HB⟩
          · rw [hl] at hi
            obtain ⟨q0, _⟩ := hM.cells hi
            refine ⟨w.heap.size, 0, rfl, (by have := hM.lt; omega), ?_⟩
            rw [Nat.zero_add, q0]
            simp [dfL, HSE.out]
        · rw [List.concat_eq_append] at hfd
          obtain ⟨g, c, hvn, hcc, cx, hgl, HM1⟩ := HM.out.popF hfd
          obtain ⟨a1, a2, a3, HD3⟩ := HD.out.pop HTS.out hfd
          obtain ⟨m, hm⟩ : ∃ m : Nat, x = m := ⟨x.toNat, by omega⟩
          subst hm
          rw [show ((m : Int)).toNat = m by omega] at a3 HD3
          have hmn : m < ts.length := by omega
          have hmI : (m : Int) < (ts.length : Int) := by omega
          have hnd := HD.out.d3.nd
          have hrl : rest.length + 1 ≤ ts.length := by
            have := nodup_len ts.length s.fd hnd fun x hx => by have := HD.out.d3.ef x hx; omega
            rw [hfd] at this
            simpa using this
          have hc1 : cH ts.length s.has = cH ts.length (fup s.has m true) + 1 := cH_pop hmn a3
          obtain ⟨gf, hgf⟩ : ∃ gf, gk = gf + 1 := ⟨gk - 1, by have := HC.out; omega⟩
          subst hgf
          have HC2 : Bx (cH ts.length (fup s.has m true) ≤ gf) := ⟨by have := HC.out; omega⟩
          have HF2 : Bx _ := ⟨(df2_step HTS.out HD.out hfd (gf + 1)).symm.trans HF.out⟩
          rw [show ((m : Int)).toNat = m by omega] at HF2
          unfold df2 at HF2
          have HW2 : Bx (∀ x, ∀ w ∈ s.wh x, 0 ≤ w ∧ w < (ts.length : Int) ∧ isTu ts w.toNat) := ⟨HD.out.whr⟩
          have HWC : Bx (∀ (x w : Nat), (s.wh x).count (w : Int) = if w < ts.length ∧ isTu ts w then kc ts w x else 0) := ⟨HD.out.whc⟩
          obtain ⟨b1, _, _, b4, _, _⟩ := HM1.out.cells hmn
          have HM2 : Bx _ := ⟨HM1.out.setH hmn true⟩
          obtain ⟨wB, hwB⟩ : ∃ wB, wr.setCell ⟨w.heap.size, m, none⟩ (.bool true) = wB := ⟨_, rfl⟩
          rw [hwB] at HM2
          obtain ⟨_, _, b3, _, _, _⟩ := HM2.out.cells hmn
          rw [fup_ne _ _ (Nat.ne_of_lt hmn)] at b3
          obtain ⟨wa, wc, hwv⟩ := HM2.out.fam.slice (r := m) (by omega)
          rw [famS_k _ hmn, fup_ne _ _ (Nat.ne_of_lt hmn)] at hwv
          simp only at hwv
          rw [hwv] at b3
          have hc0 : IntKind.i64.wrap ((rest.length : Int) + 1 - 1) = (rest.length : Int) := by rw [IntKind.wrap_i64]; omega
          obtain ⟨l, hl⟩ : ∃ l, s.wh m = l := ⟨_, rfl⟩
          have hl32 : l.length ≤ 4294967296 := by rw [← hl]; exact HWL.out m
          rw [hl] at b3 HF2 HD3 hwv
          obtain ⟨FIN, hFIN⟩ : ∃ FIN, msGo l (s.ms, rest) = FIN := ⟨_, rfl⟩
          rw [hFIN] at HF2
          have HG : Bx (msGo (l.drop 0) (s.ms, rest) = FIN) := ⟨by rw [List.drop_zero]; exact hFIN⟩
          have HD4 : Bx (D3 ts (fup s.has m true) (l.drop 0) s.ms rest) := ⟨by rw [List.drop_zero]; exact HD3⟩
          have HVM : Bx (fup va ts.length (.slice (some ⟨g, 0, none⟩) rest.length c) m = .slice wa l.length wc) := ⟨by rw [fup_ne _ _ (Nat.ne_of_lt hmn)]; exact hwv⟩
          have HL0 : Bx (s.wh m = l) := ⟨hl⟩
          rw [hvn]
          clear HC HF HM HD HM1 hnd hc1 HD3 hFIN a1 a2 a3 hwv hl hfd
          go_wp2
          clear b1 b4 b3 hc0 hwB hvn cx
          obtain ⟨wA3, rfl⟩ : ∃ X, X = wr := ⟨_, rfl⟩
          go_loopg [6, 84] (l.length + 1) (fun f v6 v84 wr => ∃ (i : Nat) (va' : Nat → Value) (ms : Nat → Int) (fd : List Int), f = l.length + 1 - i ∧ i ≤ l.length ∧ v84 = .int .i64 i ∧ v6 = va' ts.length ∧ Bx (va' m = .slice wa l.length wc) ∧ Bx (msGo (l.drop i) (ms, fd) = FIN) ∧ Bx (DfM w wr w.heap.size mb ob base ts.length va' ⟨fup s.has m true, ms, s.wh, fd⟩) ∧ Bx (D3 ts (fup s.has m true) (l.drop i) ms fd))
          case atStart => exact ⟨0, _, s.ms, rest, by simp, Nat.zero_le _, rfl, by rw [fup_same], HVM, HG, HM2, HD4⟩
          case round =>
            obtain ⟨i, va', ms, fd, hf2, hi, rfl, rfl, HV, HG, HM, HD⟩ := hrel
            clear HVM HM2 HD4
            by_cases hlt2 : i < l.length
            · obtain ⟨g2, c2, hv2, hc2, hgl2, f0⟩ := HM.out.fam.cell (r := m) (by omega) (i := i) (by rw [famS_k _ hmn]; show i < (s.wh m).length; rw [HL0.out]; exact hlt2)
              simp only [famS_k _ hmn, HL0.out] at f0 hv2 hc2
              rw [HV.out] at hv2
              simp only [Value.slice.injEq, true_and] at hv2
              obtain ⟨rfl, rfl⟩ := hv2
              have hiI : (i : Int) < (l.length : Int) := by omega
              have HD5 := HD.out
              rw [List.drop_eq_getElem_cons hlt2] at HD5
              obtain ⟨y0, y1, y2⟩ := HD5.rr _ List.mem_cons_self
              obtain ⟨HD6, z1, z2⟩ := HD5.step
              have hfl : fd.length ≤ ts.length := nodup_len _ _ HD5.nd fun x hx => by have := HD5.ef x hx; omega
              have hcn : cN ts (fup s.has m true) (l[i]).toNat ≤ 4294967296 := by
                unfold cN
                refine Nat.le_trans List.countP_le_length ?_
                exact HKB.out _
              have hzl : (l[i] :: l.drop (i + 1)).length ≤ 4294967296 := by
                rw [← List.drop_eq_getElem_cons hlt2, List.length_drop]
                omega
              obtain ⟨q, hq⟩ : ∃ q : Nat, l[i] = q := ⟨(l[i]).toNat, by omega⟩
              have HG2 : Bx _ := ⟨(msGo_at hlt2 (ms, fd)).symm.trans HG.out⟩
              rw [hq] at f0 HG2 HD6 z1 z2 hcn hzl
              rw [show ((q : Int)).toNat = q by omega] at HG2 HD6 z1 z2 hcn
              have hqn : q < ts.length := by omega
              have hqI : (q : Int) < (ts.length : Int) := by omega
              have hwr : IntKind.i64.wrap (ms q - 1) = ms q - 1 := by rw [IntKind.wrap_i64]; omega
              obtain ⟨_, e2, _, _, e5, _⟩ := HM.out.cells hqn
              have hMS := HM.out.setM hqn (ms q - 1)
              obtain ⟨wD, hwD⟩ : ∃ wD, wr.setCell ⟨mb, q, none⟩ (.int .i64 (ms q - 1)) = wD := ⟨_, rfl⟩
              rw [hwD] at hMS
              have HMD : Bx _ := ⟨hMS⟩
              obtain ⟨_, e2', _, _, _, _⟩ := hMS.cells hqn
              simp only [fup_same] at e2'
              have HD7 : Bx _ := ⟨HD6⟩
              have HV2 : Bx _ := ⟨HV.out⟩
              have hmq : m ≠ ts.length := Nat.ne_of_lt hmn
              clear HD5 HD6 hMS HM HD HG HV y0 y1 y2 hq hcn hzl z1 z2 HL0
              by_cases hz : ms q - 1 = 0
              · have hzb : ((ms q - 1 : Int) == 0) = true := by simp [hz]
                obtain ⟨ga, gcc, hgv⟩ := HMD.out.fam.slice (r := ts.length) (by omega)
                rw [famS_n] at hgv
                obtain ⟨g3, c3, W3, run, HX⟩ := HMD.out.pushF (q : Int) (by show fd.length ≤ _; omega)
                simp only at run HX hgv
                rw [if_pos hz] at HG2 HD7
                rw [hgv] at run ⊢
                clear HMD hz
                go_wp2_with (first
                  | (at_builtin; refine wpList_appI rfl (.tmp 99) (.tmp 101) 32 rfl rfl rfl run ?_; clear run))
                go_roundg (l.length + 1 - (i + 1))
                case measure => omega
                case rel => exact ⟨i + 1, fup va' ts.length _, _, _, rfl, by omega, by simp, by rw [fup_same], ⟨by rw [fup_ne _ _ hmq]; exact HV2.out⟩, HG2, HX, HD7⟩
              · have hzb : ((ms q - 1 : Int) == 0) = false := by simp [hz]
                rw [if_neg hz] at HG2 HD7
                clear hz
                go_wp2
                go_roundg (l.length + 1 - (i + 1))
                case measure => omega
                case rel => exact ⟨i + 1, va', _, _, rfl, by omega, by simp, rfl, HV2, HG2, HMD, HD7⟩
            · obtain rfl : i = l.length := by omega
              have hr := HG.out
              rw [List.drop_length] at hr
              simp only [msGo] at hr
              subst hr
              have hd := HD.out
              rw [List.drop_length] at hd
              have HD8 : Bx (D2 ts ⟨fup s.has m true, ms, s.wh, fd⟩) := ⟨⟨HW2.out, HWC.out, hd⟩⟩
              clear HG HD hd HV
              go_wp2
              go_roundg (gf)
              case measure => omega
              case rel => exact ⟨va', _, HC2, rfl, HF2, HM, HD8, HWL⟩
end Go.Proofs.YtadmpgegolmkgaaDoor
namespace Go.Proofs.YtadmpgegolmkgaaDoor
open Go.RowKit
set_option linter.unusedVariables false
set_option linter.unusedSimpArgs false

theorem shape_pos : ∀ k, k < 28 → 0 ≤ (shapesT.getD k noShape).2.2.1 ∧ 0 ≤ (shapesT.getD k noShape).2.2.2 ∧ (shapesT.getD k noShape).2.2.2 ≤ 1 := by decide
theorem shapeI_pos (op : Int) : 0 ≤ (shapeI op).2.2.1 ∧ 0 ≤ (shapeI op).2.2.2 ∧ (shapeI op).2.2.2 ≤ 1 := by
  unfold shapeI
  split
  · exact ⟨by decide, by decide, by decide⟩
  · exact shape_pos op.toNat (by omega)
theorem more_pos (x : CIn) : 0 ≤ moreI x := by
  unfold moreI
  split
  · omega
  · split
    · omega
    · split
      · omega
      · split <;> omega
theorem pops_pos (x : CIn) : 0 ≤ popsI x := by
  unfold popsI
  have h1 := more_pos x
  have h2 := (shapeI_pos x.op).1
  split <;> omega
theorem pushes_pos (x : CIn) : 0 ≤ pushesI x ∧ pushesI x ≤ 1 := by
  unfold pushesI
  have h2 := (shapeI_pos x.op).2
  split
  · omega
  · exact h2
theorem tgGo_all {cl : Nat} {i : Int} : ∀ {l : List Int}, tgGo cl i l = true → ∀ j (q : 2 * j + 1 < l.length), i < l[2 * j + 1] ∧ l[2 * j + 1] < cl
  | [], _, j, q => by simp at q
  | [_], _, j, q => by simp at q
  | k :: t :: r, h, j, q => by
    rw [tgGo, Bool.and_eq_true] at h
    cases j with
    | zero => simpa [aheadI] using h.1
    | succ j =>
      have := tgGo_all h.2 j (by simp at q; omega)
      exact this
theorem wrong_zero {u : CUn} {dfs : List Bool} {pg : CPg} {i : Nat} {x : CIn} (h : wrongI u dfs pg i x = 0) : 1 ≤ x.op ∧ x.op ≤ 27 ∧ formedI u dfs (vsI x.op) x = true ∧ slotI pg (vsI x.op).1 x.a = true ∧ targetsI pg.code.length (vsI x.op) i x = true := by
  unfold wrongI at h
  split at h
  · omega
  · rename_i h1
    split at h
    · omega
    · rename_i h2
      split at h
      · omega
      · rename_i h3
        split at h
        · omega
        · rename_i h4
          exact ⟨by omega, by omega, by simpa using h2, by simpa using h3, by simpa using h4⟩
theorem vsI_at {op : Int} (k : Nat) (h : op = k) : vsI op = vsT.getD k (0, 0, 0) := by unfold vsI; rw [h]; rfl
theorem lkx_of {u : CUn} {dfs : List Bool} {pg : CPg} {i : Nat} {x : CIn} (h : wrongI u dfs pg i x = 0) (hi : i < pg.code.length) : LkX pg.code.length pg.slots i x := by
  obtain ⟨h1, h2, h3, h4, h5⟩ := wrong_zero h
  refine ⟨fun e => ?_, fun e => ?_, fun e => ?_, pops_pos x, pushes_pos x⟩
  · have hv : (vsI x.op).1 = 12 := by
      rcases e with e | e | e | e <;> rw [vsI_at _ e] <;> rfl
    rw [hv] at h4
    simp [slotI, inI] at h4
    omega
  · rcases e with e | e | e
    · have hv : (vsI x.op).1 = 14 := by rw [vsI_at _ e]; rfl
      simp [targetsI, hv, aheadI] at h5
      omega
    · have hv : (vsI x.op).1 = 14 := by rw [vsI_at _ e]; rfl
      simp [targetsI, hv, aheadI] at h5
      omega
    · have hv : (vsI x.op).1 = 15 := by rw [vsI_at _ e]; rfl
      simp [targetsI, hv, inI] at h5
      omega
  · have hv : vsI x.op = (0, 0, 11) := by rw [vsI_at _ e]; rfl
    rw [hv] at h3 h5
    simp only [formedI, listI, Bool.and_eq_true] at h3
    simp only [targetsI] at h5
    have h6 := h3.2.1
    simp at h6 h5
    refine ⟨h6.2, fun j q => ?_⟩
    have := tgGo_all h5 j q
    omega
theorem aloneGo_zero {u : CUn} {dfs : List Bool} {pg : CPg} : ∀ {l : List CIn} {k : Nat}, (aloneGo u dfs pg l k).2 = 0 → ∀ j x, l[j]? = some x → wrongI u dfs pg (k + j) x = 0
  | [], _, _, j, x, hx => by simp at hx
  | y :: r, k, h, j, x, hx => by
    rw [aloneGo] at h
    split at h
    · rename_i h0
      cases j with
      | zero => simp at hx; subst hx; exact h0
      | succ j =>
        have := aloneGo_zero h j x (by simpa using hx)
        rw [show k + (j + 1) = k + 1 + j by omega]
        exact this
    · rename_i h0
      exact absurd h h0
theorem aloneR_zero {u : CUn} {dfs : List Bool} : ∀ {l : List CPg} {k : Nat}, (aloneR u dfs l k).2.2 = 0 → ∀ p ∈ l, (aloneGo u dfs p p.code 0).2 = 0
  | [], _, _, p, hp => by cases hp
  | q :: r, k, h, p, hp => by
    rw [aloneR] at h
    split at h
    · rename_i h0
      rcases List.mem_cons.1 hp with e | e
      · subst e; exact h0
      · exact aloneR_zero h p e
    · rename_i h0
      exact absurd h h0
theorem badGo_no : ∀ {l : List CPg} {k : Nat}, (badGo l k).2 = false → ∀ j p, l[j]? = some p → badP p (k + j) = false
  | [], _, _, j, p, hp => by simp at hp
  | q :: r, k, h, j, p, hp => by
    rw [badGo] at h
    split at h
    · cases h
    · rename_i h0
      cases j with
      | zero => simp at hp; subst hp; simpa using h0
      | succ j =>
        have := badGo_no h j p (by simpa using hp)
        rw [show k + (j + 1) = k + 1 + j by omega]
        exact this
theorem prog_ok {u : CUn} (h : (progR u).2 = false) : 0 < u.progs.length ∧ validI u.types = true ∧ longGo u.progs 268435456 = false ∧ ∀ j p, u.progs[j]? = some p → badP p j = false := by
  unfold progR at h
  split at h
  · cases h
  · rename_i h0
    refine ⟨?_, ?_, ?_, fun j p hp => ?_⟩
    · rcases Nat.eq_zero_or_pos u.progs.length with e | e
      · exact absurd (.inl e) h0
      · exact e
    · cases hv : validI u.types with
      | true => rfl
      | false => exact absurd (.inr (.inl hv)) h0
    · cases hv : longGo u.progs 268435456 with
      | false => rfl
      | true => exact absurd (.inr (.inr hv)) h0
    · have := badGo_no h j p hp
      rwa [Nat.zero_add] at this
theorem pgB_all {u : CUn} (h : (progR u).2 = false) : ∀ p ∈ u.progs, PgB p := by
  obtain ⟨h1, h2, h3, h4⟩ := prog_ok h
  intro p hp
  obtain ⟨j, hj⟩ := List.getElem?_of_mem hp
  have := h4 j p hj
  unfold badP at this
  simp at this
  exact pgB_of this.1 (longGo_le h3 p hp)
structure UnW (u : CUn) : Prop where
  wf : ∀ p ∈ u.progs, ∀ x ∈ p.code, x.Wf
  ls : UnB u
  tl : u.types.length ≤ 2147483648
  sk : sumK u.types ≤ 4294967296
theorem pgF_all {u : CUn} (hw : UnW u) (h : (progR u).2 = false) (ha : (aloneR u (dfL u.types) u.progs 0).2.2 = 0) : ∀ p ∈ u.progs, PgF p := by
  intro p hp
  have hb := pgB_all h p hp
  have hz := aloneR_zero ha p hp
  have e1 := hb.sl
  have e2 := hb.pr
  refine ⟨by omega, by omega, by omega, by omega, hb.cl.1, hb.cl.2, fun i x hx => ?_⟩
  obtain ⟨hi, he⟩ := List.getElem?_eq_some_iff.1 hx
  have hm : x ∈ p.code := he ▸ List.getElem_mem hi
  have := aloneGo_zero hz i x hx
  rw [Nat.zero_add] at this
  exact ⟨lkx_of this hi, hw.wf p hp x hm, hw.ls p hp x hm⟩
theorem tsV_of {ts : List CTy} (h : validI ts = true) : TsV ts := by
  refine ⟨fun r k hk => ?_⟩
  rcases Nat.lt_or_ge r ts.length with e | e
  · rw [tyA_eq e] at hk
    unfold validI kAll at h
    rw [List.all_eq_true] at h
    have := h _ (List.getElem_mem e)
    unfold kOk at this
    rw [Bool.and_eq_true, List.all_eq_true] at this
    have := this.2 k hk
    simpa [kRow] using this
  · unfold tyA at hk
    rw [List.getD_eq_getElem?_getD, List.getElem?_eq_none e] at hk
    simp [tyD] at hk
def checkR (u : CUn) : Nat × Nat × Int := if (progR u).2 = true then ((progR u).1, 0, 90) else if (aloneR u (dfL u.types) u.progs 0).2.2 = 0 then wayR u.progs 0 else aloneR u (dfL u.types) u.progs 0
end Go.Proofs.YtadmpgegolmkgaaDoor
