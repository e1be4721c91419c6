import Derived.Test.YtadmpgegolmkgaaDoorCYY
namespace Go.Proofs.YtadmpgegolmkgaaDoor
open Go.RowKit
set_option linter.unusedVariables false
set_option linter.unusedSimpArgs false

/-- out of a unit that is taken -/
theorem wlk_of {u : CUn} (hw : UnW u) (hc : (checkR u).2.2 = 0) {m : Nat} (hm : m < u.progs.length) : WlkK u.progs[m] (u.progs[m]).slots.toNat (way1 u.progs[m]).2.2.P (way1 u.progs[m]).2.2.K := by
  obtain ⟨z1, z2, z3⟩ := check_zero hc
  have hpm := List.getElem_mem hm
  have hpg := pgF_all hw z1 z2 _ hpm
  have hwy := wayR_zero z3 _ hpm
  have hb := pgB_all z1 _ hpm
  have hz := aloneR_zero z2 _ hpm
  refine ⟨by have := hb.sl; omega, hpg.sl1, hpg.n1, hb.pr, way_ok hpg hwy, fun i hi => ?_, (way1_kv hpg).2, hpg.n0⟩
  obtain ⟨a1, a2, a3⟩ := hpg.insA hi
  have := aloneGo_zero hz i (inA (u.progs[m]).code i) (by unfold inA; rw [List.getElem?_eq_getElem hi]; rfl)
  rw [Nat.zero_add] at this
  exact ⟨a1, lky_of this, a2, a3⟩
set_option maxRecDepth 100000 in
set_option maxHeartbeats 16000000 in
/-- **VERIFYWAYS** -/
theorem ways_walk (w : World) (hV : VW w) (u : CUn) (pa ta : Option Addr) (pc tc : Nat) (hu : UnIn w w.heap.size pa pc ta tc u) (hwf : u.Wf) (hl : UnL u) (k : Int) (qa : Option Addr) (qc : Nat) (ps : List Int) (hps : IntsV w w.heap.size qa qc ps) (hpl : ps.length ≤ 281474976710656) :
    Calls Tryd.prog 4 #[unV u pa pc ta tc, .int .i64 k, .slice qa ps.length qc] w fun e w' => e = .returned (.bool true) ∧ Bx (Below w.heap.size w w') := by
  obtain ⟨H, hH⟩ : ∃ H, w.heap.size = H := ⟨_, rfl⟩
  obtain ⟨w1, hw1⟩ : ∃ w1, w.alloc (.cells #[.slice pa u.progs.length pc, .slice ta u.types.length tc] 25) = w1 := ⟨_, rfl⟩
  have b1 : Below w.heap.size w w1 := by rw [← hw1]; exact below1 w _
  have q1 : w1.heap[H]? = some (.cells #[.slice pa u.progs.length pc, .slice ta u.types.length tc] 25 (0, 0)) := by rw [← hw1]; exact heap_newH _ _ _ hH
  have s1 : w1.heap.size = H + 1 := by rw [← hw1]; simp [hH]
  have HU : Bx (∀ X, Below (H + 1) w1 X → X.cell? ⟨H, 0, none⟩ = some (.slice pa u.progs.length pc) ∧ X.cell? ⟨H, 1, none⟩ = some (.slice ta u.types.length tc)) := ⟨fun X hX => ⟨cell_blk ((hX.block H (by omega)).trans q1) rfl, cell_blk ((hX.block H (by omega)).trans q1) rfl⟩⟩
  have hXb : ∀ X, Below (H + 1) w1 X → Below w.heap.size w X := fun X hX => b1.trans (hX.mono (by omega))
  have HXB : Bx (∀ X, Below (H + 1) w1 X → Below w.heap.size w X) := ⟨hXb⟩
  have HB0 : Bx (Below (H + 1) w1 w1) := ⟨Below.refl _ _⟩
  have HHV : Bx (Calls Tryd.prog 6 #[.agg #[.slice pa u.progs.length pc, .slice ta u.types.length tc]] w1 fun e w' => ∃ b : Bool, e = .returned (.bool b) ∧ Bx ((b = false → UnK u) ∧ Below (H + 1) w1 w')) := ⟨(heavy_any w1 u pa ta pc tc (unin_at hu b1) hl).mono fun e w' ⟨b, he, q⟩ => ⟨b, he, ⟨q.out.1, by rw [← s1]; exact q.out.2⟩⟩⟩
  have HSH : Bx (∀ X, Below (H + 1) w1 X → Calls Tryd.prog 7 #[] X fun e w' => e = .returned (.bool true) ∧ Bx (Below (H + 1) w1 w')) := ⟨fun X hX => (shown_any X (hV.below (hXb X hX))).mono fun e w' q => ⟨q.1, ⟨hX.trans (q.2.mono (by have := hX.size; omega))⟩⟩⟩
  have HCK : Bx (UnK u → ∀ X, Below (H + 1) w1 X → Calls Tryd.prog 9 #[.agg #[.slice pa u.progs.length pc, .slice ta u.types.length tc]] X fun e w' => e = .returned (.tuple #[.int .i64 ((checkR u).1 : Int), .int .i64 ((checkR u).2.1 : Int), .int .i64 (checkR u).2.2]) ∧ Bx (Below (H + 1) w1 w')) := ⟨fun hk X hX => (Check_any X (hV.below (hXb X hX)) u pa ta pc tc (unin_at hu (hXb X hX)) (hk.w hwf)).mono fun e w' q => ⟨q.1, ⟨hX.trans (q.2.out.mono (by have := hX.size; omega))⟩⟩⟩
  have HHI : Bx (UnK u → ∀ X (m : Nat), Below (H + 1) w1 X → Calls Tryd.prog 11 #[.agg #[.slice pa u.progs.length pc, .slice ta u.types.length tc], .int .i64 (m : Int)] X fun e w' => ∃ v, e = .returned v ∧ Bx (HiO X w' v (highR u m))) := ⟨fun hk X m hX => Heights_any X (hV.below (hXb X hX)) u pa ta pc tc (unin_at hu (hXb X hX)) (hk.w hwf) m⟩
  have HAM : Bx (∀ X (m : Nat), 0 < m → m ≤ 4611686018427387904 → _) := ⟨fun X m h0 hm => among_any X k m h0 hm⟩
  have HPC : Bx (∀ j (hj : j < u.progs.length), _) := ⟨fun j hj => prog_cells hu.progs hj⟩
  have HLK : Bx (UnK u → (checkR u).2.2 = 0 → (∀ j (hj : j < u.progs.length), WlkK u.progs[j] (u.progs[j]).slots.toNat (way1 u.progs[j]).2.2.P (way1 u.progs[j]).2.2.K) ∧ 0 < u.progs.length ∧ ∀ j (hj : j < u.progs.length), highR u j = highs u.progs[j]) := ⟨fun hk hc => ⟨fun j hj => wlk_of (hk.w hwf) hc hj, (prog_ok (check_zero hc).1).1, fun j hj => by
    unfold highR
    rw [if_pos ⟨by omega, by omega, hc⟩, show ((j : Int)).toNat = j by omega, List.getD_eq_getElem?_getD, List.getElem?_eq_getElem hj]
    rfl⟩⟩
  obtain ⟨hu0, hu1⟩ := HU.out w1 (Below.refl _ _)
  have hpcap := hu.progs.cap
  have hnp := hl.np
  have HVW : Bx (VW w) := ⟨hV⟩
  have HPS : Bx (IntsV w w.heap.size qa qc ps) := ⟨hps⟩
  have hpscap := hps.cap
  unfold unV
  clear hV hu hwf hl b1 q1 hXb hps
  go_enter Tryd.func4, Tryd.ntmps4
  go_wp2_with (first
    | (go_at_call 6; refine HHV.out.mono ?_; rintro e w2 ⟨b, rfl, HX2⟩; obtain ⟨k0, k1⟩ := HU.out _ HX2.out.2; cases b))
  · have HK : Bx (UnK u) := ⟨HX2.out.1 (by first | trivial | rfl)⟩
    have HB2 : Bx _ := ⟨HX2.out.2⟩
    clear HX2 HHV
    by_cases hc : (checkR u).2.2 = 0
    · have hcb : (((checkR u).2.2 : Int) != 0) = false := by simp [hc]
      obtain ⟨hwk, hp0, hhi⟩ := HLK.out HK.out hc
      have hpb : ((u.progs.length : Int) == 0) = false := by simp only [beq_eq_false_iff_ne]; omega
      have HWK : Bx _ := ⟨hwk⟩
      have HHE : Bx _ := ⟨hhi⟩
      have HCK2 : Bx _ := ⟨HCK.out HK.out⟩
      have HHI2 : Bx _ := ⟨HHI.out HK.out⟩
      have HAM2 : Bx (∀ X, _) := ⟨fun X => HAM.out X u.progs.length hp0 (by omega)⟩
      clear hwk hhi HCK HHI HLK hc HAM
      generalize checkR u = CR at *
      go_wp2_with (first
        | (go_at_call 7; refine (HSH.out _ HB2.out).mono ?_; rintro e w3 ⟨rfl, HB3⟩; obtain ⟨k2, k3⟩ := HU.out _ HB3.out)
        | (go_at_call 9; refine (HCK2.out _ HB3.out).mono ?_; rintro e w4 ⟨rfl, HB4⟩; obtain ⟨k4, k5⟩ := HU.out _ HB4.out)
        | (go_at_call 15; refine (HAM2.out _).mono ?_; rintro e w5 ⟨m, rfl, hm, rfl⟩; have hmI : (m : Int) < (u.progs.length : Int) := (by omega); obtain ⟨b, o, ca, cc, rfl, hb, hci, HC⟩ := HPC.out m hm; obtain ⟨c0, c1, c2, c3, c4⟩ := HC.out _ (HXB.out _ HB4.out); have hbl : b < w4.heap.size := (by have := (HXB.out _ HB4.out).size; omega); have hHl : H < w4.heap.size := (by have := HB4.out.size; omega)))
      obtain ⟨w5, hw5⟩ : ∃ w5, w4.alloc (.cells (pgC u.progs[m] ca cc) 40) = w5 := ⟨_, rfl⟩
      have b5 : Below w4.heap.size w4 w5 := by rw [← hw5]; exact below1 w4 _
      have q5 : w5.heap[w4.heap.size]? = some (.cells (pgC u.progs[m] ca cc) 40 (0, 0)) := by rw [← hw5]; exact heap_newH _ _ _ rfl
      have HB5 : Bx (Below (H + 1) w1 w5) := ⟨HB4.out.trans (b5.mono (by omega))⟩
      have HWM := HWK.out m hm
      obtain ⟨sl, hsl⟩ : ∃ sl, (u.progs[m]).slots.toNat = sl := ⟨_, rfl⟩
      rw [hsl] at HWM
      have HM : Bx _ := ⟨HWM⟩
      have hes := HWM.es
      obtain ⟨pr, hpr⟩ : ∃ pr : Nat, (u.progs[m]).params = pr := ⟨(u.progs[m]).params.toNat, by have := HWM.pr; omega⟩
      have hprs : pr ≤ sl := by have := HWM.pr; omega
      have hs1 := HWM.s1
      have hn0 := HWM.n0
      have hhe := HHE.out m hm
      have HHZ : Bx (∀ w' v, HiO w5 w' v (highR u m) → ∃ g, v = .slice (some ⟨g, 0, none⟩) u.progs[m].code.length u.progs[m].code.length ∧ g < w'.heap.size ∧ (w'.cell? ⟨w4.heap.size, 0, none⟩ = some (.int .i64 (pr : Int)) ∧ w'.cell? ⟨w4.heap.size, 1, none⟩ = some (.int .i64 (sl : Int)) ∧ w'.cell? ⟨w4.heap.size, 2, none⟩ = some (.int .i64 u.progs[m].caps) ∧ w'.cell? ⟨w4.heap.size, 3, none⟩ = some (.bool u.progs[m].res) ∧ w'.cell? ⟨w4.heap.size, 4, none⟩ = some (.slice ca u.progs[m].code.length cc)) ∧ Bx (w'.heap[g]? = some (.cells ((highs u.progs[m]).map (Value.int .i64)).toArray 3 (0, 0)) ∧ Below w5.heap.size w5 w' ∧ w4.heap.size < w'.heap.size)) := ⟨fun w' v hh => by
        rw [hhe] at hh
        obtain ⟨h1, h2⟩ := hh
        have hq := (h1.block w4.heap.size (heap_lt q5)).trans q5
        rcases h2 with ⟨h3, _⟩ | ⟨g, _, h3, h4⟩
        · have := highs_len u.progs[m]
          rw [h3] at this
          simp at this
          omega
        · rw [highs_len] at h3
          exact ⟨g, h3, heap_lt h4, ⟨by rw [← hpr]; exact cell_blk hq rfl, by rw [← hes]; exact cell_blk hq rfl, cell_blk hq rfl, cell_blk hq rfl, cell_blk hq rfl⟩, ⟨h4, h1, heap_lt hq⟩⟩⟩
      have hb1 : decide (sl < pr) = false := decide_eq_false (by omega)
      have hb2 : decide (65536 < (sl : Int)) = false := decide_eq_false (by omega)
      have hb3 : decide ((pr : Int) < 0) = false := decide_eq_false (by omega)
      have hmk := fun W => make_bF W sl (by omega)
      have HCI : Bx (Row (InAt w w.heap.size) w.heap.size 4 ca cc u.progs[m].code) := ⟨hci⟩
      have hccap := hci.cap
      have HB45 : Bx (Below w.heap.size w w5) := ⟨HXB.out _ HB5.out⟩
      unfold pgC at hw5
      clear HWM b5 q5 hhe HWK HHE c0 c1 c2 c3 c4 k2 k3 hci HC hcb
      generalize u.progs[m] = pg at *
      rw [hw5]
      clear hw5 hsl
      go_wp2_with (first
        | (go_at_call 11; refine (HHI2.out _ m HB5.out).mono ?_; rintro e w6 ⟨v, rfl, HH6⟩; obtain ⟨g, rfl, hgl, ⟨d0, d1, d2, d3, d4⟩, HG6⟩ := HHZ.out _ _ HH6.out; have hPl := HG6.out.2.2))
      have hHG := HG6.out
      have HNH : Bx (∀ i, i < pg.code.length → (highs pg)[i]? = some (((kA (way1 pg).2.2.K i).1 : Int) - 1)) := ⟨fun i hi => by simp [highs, hi]⟩
      clear HHZ HHI2 HCK2 HAM2 HSH HPC HXB k0 k1 k4 k5 hu0 hu1 hmk
      generalize highs pg = HI at *
      generalize (way1 pg).2.2.P = P at *
      generalize (way1 pg).2.2.K = K at *
      obtain ⟨G, hG⟩ : ∃ G, w6.heap.size = G := ⟨_, rfl⟩
      obtain ⟨W7, hW7⟩ : ∃ W7, w6.alloc (.cells (rowF sl fun _ => .bool false) 4) = W7 := ⟨_, rfl⟩
      have b7 : Below w6.heap.size w6 W7 := by rw [← hW7]; exact below1 w6 _
      have q7 : W7.heap[G]? = some (.cells (rowF sl fun m => .bool (decide (m < 0))) 4 (0, 0)) := by rw [← hW7]; simpa using heap_newH w6 (.cells (rowF sl fun _ => .bool false) 4) G hG
      have h56 := hHG.2.1
      have h5s := HB45.out.size
      have hwG : w.heap.size ≤ G := by have := h56.size; omega
      have hB7 : Below w.heap.size w W7 := (HB45.out.trans (h56.mono h5s)).trans (b7.mono (by omega))
      have HBX : Bx (∀ X, Fx (· = G) W7 X → Below w.heap.size w X) := ⟨fun X hX => hB7.trans (hX.bel (by have := heap_lt q7; omega) fun k hk e => by omega)⟩
      have hlow : ∀ X, Fx (· = G) W7 X → ∀ k, k < G → X.heap[k]? = w6.heap[k]? := fun X hX k hk => (hX.block k (by have := heap_lt q7; omega) (by omega)).trans (b7.block k (by omega))
      have hPG : w4.heap.size < G := by omega
      have hgG : g < G := by omega
      have HPC : Bx (∀ X, Fx (· = G) W7 X → X.cell? ⟨w4.heap.size, 0, none⟩ = some (.int .i64 (pr : Int)) ∧ X.cell? ⟨w4.heap.size, 1, none⟩ = some (.int .i64 (sl : Int)) ∧ X.cell? ⟨w4.heap.size, 2, none⟩ = some (.int .i64 pg.caps) ∧ X.cell? ⟨w4.heap.size, 3, none⟩ = some (.bool pg.res) ∧ X.cell? ⟨w4.heap.size, 4, none⟩ = some (.slice ca pg.code.length cc) ∧ w4.heap.size < X.heap.size ∧ g < X.heap.size ∧ G < X.heap.size) := ⟨fun X hX => by
        have hc : ∀ i, X.cell? ⟨w4.heap.size, i, none⟩ = w6.cell? ⟨w4.heap.size, i, none⟩ := fun i => World.cell?_of_block (a := ⟨w4.heap.size, i, none⟩) (hlow X hX _ hPG)
        have hs := hX.size
        have hl := heap_lt q7
        exact ⟨by rw [hc]; exact d0, by rw [hc]; exact d1, by rw [hc]; exact d2, by rw [hc]; exact d3, by rw [hc]; exact d4, by omega, by omega, by omega⟩⟩
      have HHC : Bx (∀ X, Fx (· = G) W7 X → ∀ i, i < pg.code.length → X.cell? ⟨g, i, none⟩ = some (.int .i64 (((kA K i).1 : Int) - 1))) := ⟨fun X hX i hi => by
        refine (World.cell?_of_block (a := ⟨g, i, none⟩) (hlow X hX _ hgG)).trans (cell_blk hHG.1 ?_)
        simp [HNH.out i hi]⟩
      have HIC : Bx (∀ i (hi : i < pg.code.length), _) := ⟨fun i hi => ins_cells HCI.out hi⟩
      have HVX : Bx (∀ X, Fx (· = G) W7 X → VW X) := ⟨fun X hX => HVW.out.below (HBX.out X hX)⟩
      have HF0 : Bx (Fx (· = G) W7 W7 ∧ W7.heap[G]? = some (.cells (rowF sl fun m => .bool (decide (m < 0))) 4 (0, 0))) := ⟨Fx.refl _ _, q7⟩
      rw [hG]
      rw [show (4 : TypeId) = 4 by rfl] at hW7
      rw [hW7]
      clear hHG b7 q7 h56 h5s hB7 hlow hG hW7 HNH HG6 hgl hPl d0 d1 d2 d3 d4 HH6 HB45 HB5 HB4 HB3 HB2 HVW HCI HU
      obtain ⟨PB, hPB⟩ : ∃ PB, w4.heap.size = PB := ⟨_, rfl⟩
      rw [hPB] at HPC hPG ⊢
      clear hPB
      go_loopg [81] (pr + 1) (fun f v81 wr => ∃ j : Nat, f = pr + 1 - j ∧ j ≤ pr ∧ v81 = .int .i64 j ∧ Bx (Fx (· = G) W7 wr ∧ wr.heap[G]? = some (.cells (rowF sl fun m => .bool (decide (m < j))) 4 (0, 0))))
      case atStart => exact ⟨0, by simp, Nat.zero_le _, rfl, HF0⟩
      case round =>
        clear HF0
        obtain ⟨j, hf, hj, rfl, HR⟩ := hrel
        by_cases hlt : j < pr
        · have hjI : (j : Int) < (sl : Int) := by omega
          have hj1 : decide ((j : Int) < (pr : Int)) = true := decide_eq_true (by omega)
          have g0 : wr.cell? ⟨G, j, none⟩ = some (.bool (decide (j < j))) := cell_blk HR.out.2 (by rw [rowF_at (by omega)])
          have gf : ∀ i, wr.frozen? ⟨G, i, none⟩ = false := fun i => by simp [World.frozen?, HR.out.2]
          have hGl : G < wr.heap.size := heap_lt HR.out.2
          have HR2 : Bx (Fx (· = G) W7 (wr.setCell ⟨G, j, none⟩ (.bool true)) ∧ (wr.setCell ⟨G, j, none⟩ (.bool true)).heap[G]? = some (.cells (rowF sl fun m => .bool (decide (m < j + 1))) 4 (0, 0))) := ⟨Fx.set (P := (· = G)) (p := ⟨G, j, none⟩) HR.out.1 (.inl rfl) _, by
            have := heap_setCell_same wr G j _ 4 (.bool true) HR.out.2
            rw [rowF_set (by omega)] at this
            rw [this]
            congr 2
            refine rowF_congr fun i hi => ?_
            by_cases e : i = j
            · subst e; rw [fup_same, decide_eq_true (by omega)]
            · rw [fup_ne _ _ e]
              congr 1
              exact decide_eq_decide.2 (by omega)⟩
          clear HR
          go_wp2
          go_roundg (pr + 1 - (j + 1))
          case measure => omega
          case rel => exact ⟨j + 1, rfl, by omega, by simp, HR2⟩
        · obtain rfl : j = pr := by omega
          have HR0 : Bx ((kA K 0).1 = 0 + 1 ∧ Fx (· = G) W7 wr ∧ wr.heap[G]? = some (.cells (rowF sl (hasF sl P K 0)) 4 (0, 0))) := ⟨HM.out.ok.z1, HR.out.1, by
            rw [HR.out.2]
            congr 2
            refine rowF_congr fun m hm => ?_
            have h2 := HM.out.ok.z2 m
            rw [show lvS pg.slots.toNat = lvS sl by rw [hes]; rfl, show pg.params.toNat = j by omega, mod_small hs1 hm, mod_small2 hs1 hprs] at h2
            unfold hasF
            rw [h2]⟩
          clear HR
          obtain ⟨rs, hrs⟩ : ∃ rs, pg.res = rs := ⟨_, rfl⟩
          rw [hrs] at HPC ⊢
          go_wp2
          go_loopg [15, 16, 90] (ps.length + 1) (fun f v15 v16 v90 wr => ∃ (r at_ hh : Nat), f = ps.length + 1 - r ∧ r ≤ ps.length ∧ v15 = .int .i64 at_ ∧ v16 = .int .i64 hh ∧ v90 = .int .i64 r ∧ at_ < pg.code.length ∧ Bx ((kA K at_).1 = hh + 1 ∧ Fx (· = G) W7 wr ∧ wr.heap[G]? = some (.cells (rowF sl (hasF sl P K at_)) 4 (0, 0))))
          case atStart => exact ⟨0, 0, 0, by simp, Nat.zero_le _, rfl, rfl, rfl, hn0, HR0⟩
          case round =>
            clear HR0
            obtain ⟨r, at_, hh, hf, hr, rfl, rfl, rfl, hat, HR⟩ := hrel
            by_cases hlt : r < ps.length
            · obtain ⟨bq, oq, hqe, hbq, hcq⟩ := HPS.out.at_ (by omega)
              subst hqe
              have hrI : (r : Int) < (ps.length : Int) := by omega
              have hme := (show ps.length + 1 - (r + 1) < gk by omega)
              have hatI : (at_ : Int) < (pg.code.length : Int) := by omega
              have hbw := (HBX.out _ HR.out.2.1).size
              have hbqw : bq < wr.heap.size := by omega
              have f0 : wr.cell? ⟨bq, oq + r, none⟩ = some (.int .i64 ps[r]) := ((HBX.out _ HR.out.2.1).cell (p := ⟨bq, oq + r, none⟩) hbq).trans (hcq r hlt)
              obtain ⟨bi, oi, ka, kc, hca, hbi, hix, HIN⟩ := HIC.out at_ hat
              subst hca
              have hbiw : bi < wr.heap.size := by omega
              obtain ⟨x, hx⟩ : ∃ x, pg.code[at_] = x := ⟨_, rfl⟩
              have hxe : inA pg.code at_ = x := by rw [← hx]; unfold inA; rw [List.getElem?_eq_getElem hat]; rfl
              have hst := HM.out.step hat HR.out.1
              have hlx := HM.out.lx at_ hat
              have hkb := HM.out.kb at_ hat
              rw [HR.out.1] at hkb
              rw [hxe] at hst hlx
              rw [hx] at hix HIN
              obtain ⟨op, hop⟩ : ∃ op, x.op = op := ⟨_, rfl⟩
              obtain ⟨x0, x1, x2, x3⟩ := HIN.out wr (HBX.out _ HR.out.2.1)
              obtain ⟨a, ha⟩ : ∃ a, x.a = a := ⟨_, rfl⟩
              rw [hop] at x0
              rw [ha] at x1
              have hwr0 := HBX.out _ HR.out.2.1
              obtain ⟨lx, ly, hxw, hxl⟩ := hlx
              obtain ⟨wx, hwx⟩ : ∃ wx, wr.alloc (.cells #[.int .i64 op, .int .i64 a, .int .i64 x.b, .slice ka x.list.length kc] 43) = wx := ⟨_, rfl⟩
              have bx : Below wr.heap.size wr wx := by rw [← hwx]; exact below1 wr _
              have qx : wx.heap[wr.heap.size]? = some (.cells #[.int .i64 op, .int .i64 a, .int .i64 x.b, .slice ka x.list.length kc] 43 (0, 0)) := by rw [← hwx]; exact heap_newH _ _ _ rfl
              have hGr : G < wr.heap.size := heap_lt HR.out.2.2
              have HRX : Bx (RdW W7 wx G wr.heap.size x ka kc ∧ wx.heap[G]? = some (.cells (rowF sl (hasF sl P K at_)) 4 (0, 0))) := ⟨⟨HR.out.2.1.trans (Fx.of bx), by rw [hop, ha]; exact qx, by omega⟩, (bx.block G hGr).trans HR.out.2.2⟩
              have HPO : Bx (Calls Tryd.prog 16 #[.agg #[.int .i64 op, .int .i64 a, .int .i64 x.b, .slice ka x.list.length kc]] wx fun e z => e = .returned (.int .i64 (popsI x)) ∧ Bx (RdW W7 z G wr.heap.size x ka kc ∧ z.heap[G]? = some (.cells (rowF sl (hasF sl P K at_)) 4 (0, 0)))) := ⟨by
                have hbx := HBX.out _ HRX.out.1.fx
                have := Pops_any wx w.heap.size x ka kc (HVX.out _ HRX.out.1.fx).shp hxw (hix.below hbx) hxl hbx.size
                unfold insV at this
                rw [hop, ha] at this
                exact this.mono fun e z q => ⟨q.1, ⟨HRX.out.1.later q.2, (q.2.block G (heap_lt HRX.out.2)).trans HRX.out.2⟩⟩⟩
              obtain ⟨s1, s2, s3, s4, ab, s5, s6, s7, s8⟩ := hst
              rw [hop] at s2 s3 s4 s7
              rw [ha] at s3 s4
              have HNX : Bx _ := ⟨s8⟩
              have HWA : Bx (∀ X, Fx (· = G) W7 X → Calls Tryd.prog 17 #[.agg #[.int .i64 op, .int .i64 a, .int .i64 x.b, .slice ka x.list.length kc], .int .i64 (at_ : Int), .int .i64 (hh : Int), .int .i64 ps[r]] X fun e z => WayP x at_ ab e X z) := ⟨fun X hX => by
                have hbx := HBX.out _ hX
                have hs7 : ¬ (behB x.op = true ∧ at_ + 1 = pg.code.length) := by
                  rw [hop]
                  intro q
                  by_cases e : op = 25
                  · rw [e] at q; exact absurd q.1 (by simp [behB])
                  · exact s7 ⟨e, q⟩
                have := way_any X (HVX.out _ hX) x ka kc w.heap.size (hix.below hbx) hbx.size hxw hxl pg.code.length at_ hh ab lx ly hat HM.out.n1 hs7 s5 s6 (by omega) ps[r]
                unfold insV at this
                rw [hop, ha] at this
                exact this⟩
              obtain ⟨p0, p1, p2, p3, p4, p5, p6, p7⟩ := HPC.out wr HR.out.2.1
              have h0 := HHC.out wr HR.out.2.1 at_ hat
              rw [HR.out.1, show (((hh + 1 : Nat) : Int) - 1) = (hh : Int) by omega] at h0
              have hb1 : decide ((hh : Int) < popsI x) = false := decide_eq_false (by omega)
              have hcap := ly.cap
              rw [hop, ha] at hcap
              rw [hrs] at s2
              clear hrs HR bx qx hix HIN hxe hx lx ly hxw hxl hcq hwr0 hkb hbw s1 s5 s6 s7 s8
              generalize popsI x = po at *
              obtain ⟨pw0, pw1, pw2, pw3, pw4, pw5, pw6, pw7⟩ := HPC.out wx HRX.out.1.fx
              obtain ⟨xw0, xw1, xw2, xw3⟩ := HRX.out.1.cells
              rw [hop] at xw0
              rw [ha] at xw1
              have hxwl : wr.heap.size < wx.heap.size := heap_lt HRX.out.1.ih
              have hat1 : decide ((at_ : Int) < 0) = false := decide_eq_false (by omega)
              have hat2 : decide (pg.code.length ≤ at_) = false := decide_eq_false (by omega)
              by_cases hcl : op = 4 ∨ op = 5 ∨ op = 6 ∨ op = 16 ∨ op = 7 ∨ op = 25 ∨ op = 21
              · rcases hcl with rfl | rfl | rfl | rfl | rfl | rfl | rfl
                · as_aux_lemma =>
                    obtain ⟨c, hc1, hc2, hc3⟩ := s3 (by decide)
                    subst hc1
                    have hcI : decide (sl ≤ c) = false := decide_eq_false (by omega)
                    have hcI0 : decide ((c : Int) < 0) = false := decide_eq_false (by omega)
                    have hcL : (c : Int) < (sl : Int) := by omega
                    cases rs
                    all_goals
                      clear s2 s3 s4 hcap
                      go_wp2_with (first
                        | (go_at_call 16; refine HPO.out.mono ?_; rintro e z1 ⟨rfl, HZ⟩; obtain ⟨y0, y1, y2, y3⟩ := HZ.out.1.cells; rw [hop] at y0; rw [ha] at y1; obtain ⟨p0, p1, p2, p3, p4, p5, p6, p7⟩ := HPC.out z1 HZ.out.1.fx; have hibl : wr.heap.size < z1.heap.size := heap_lt HZ.out.1.ih; have hne := HZ.out.1.ne; have e0 : z1.cell? ⟨G, c, none⟩ = some (.bool (den (lvS sl) P (kA K at_).2 c)) := cell_blk HZ.out.2 (rowF_at hc2); rw [hc3] at e0; have gf : ∀ i, z1.frozen? ⟨G, i, none⟩ = false := (fun i => by simp [World.frozen?, HZ.out.2]); obtain ⟨zs, hzs⟩ : ∃ zs, z1.setCell ⟨G, c, none⟩ (.bool true) = zs := ⟨_, rfl⟩; have HS : Bx (RdW W7 zs G wr.heap.size x ka kc ∧ zs.heap[G]? = some (.cells (rowF sl (fup (hasF sl P K at_) c (.bool true))) 4 (0, 0))) := ⟨by rw [← hzs]; exact HZ.out.1.set c _, by rw [← hzs]; have := heap_setCell_same z1 G c _ 4 (.bool true) HZ.out.2; rw [rowF_set hc2] at this; exact this⟩; obtain ⟨v0, v1, v2, v3⟩ := HS.out.1.cells; rw [hop] at v0; rw [ha] at v1; have hibs : wr.heap.size < zs.heap.size := heap_lt HS.out.1.ih; have HWZ : Bx _ := ⟨HWA.out _ HS.out.1.fx⟩)
                        | (go_at_call 17; refine HWZ.out.mono ?_; rintro e z2 (⟨t, h, rfl, HT⟩ | ⟨t, h, rfl, HT⟩); rotate_left; have hle : decide (t ≤ at_) = false := decide_eq_false (fun e => by have := HT.out.2.1 e; rw [hop] at this; revert this; decide); rotate_right 1))
                      · go_ret
                        have hfx := HS.out.1.fx.trans (Fx.of HT.out)
                        have hfb := HBX.out _ hfx
                        exact ⟨rfl, ⟨by first | exact hfb | (rw [← hH]; exact hfb)⟩⟩
                      · go_roundg (ps.length + 1 - (r + 1))
                        case measure => exact hme
                        case rel =>
                          obtain ⟨n1, n2, n3⟩ := HNX.out t h HT.out.1
                          have n4 : ∀ m, m < sl → den (lvS sl) P (kA K t).2 m = updB (lvS sl) 4 (c : Int) (den (lvS sl) P (kA K at_).2) m := fun m hm => by rw [n3 m hm, hop, ha]
                          have hu := (upd_row hs1 _ n4).2 (by decide) c rfl hc2 (fun _ => hc3)
                          exact ⟨r + 1, t, h, rfl, hlt, rfl, rfl, by simp, n1, ⟨n2, HS.out.1.fx.trans (Fx.of HT.out.2.2), by
                            rw [HT.out.2.2.block G (heap_lt HS.out.2), HS.out.2]
                            congr 2⟩⟩
                · as_aux_lemma =>
                    obtain ⟨c, hc1, hc2⟩ := s4 rfl
                    subst hc1
                    have hcI : decide (sl ≤ c) = false := decide_eq_false (by omega)
                    have hcI0 : decide ((c : Int) < 0) = false := decide_eq_false (by omega)
                    have hcL : (c : Int) < (sl : Int) := by omega
                    cases rs
                    all_goals
                      clear s2 s3 s4 hcap
                      go_wp2_with (first
                        | (go_at_call 16; refine HPO.out.mono ?_; rintro e z1 ⟨rfl, HZ⟩; obtain ⟨y0, y1, y2, y3⟩ := HZ.out.1.cells; rw [hop] at y0; rw [ha] at y1; obtain ⟨p0, p1, p2, p3, p4, p5, p6, p7⟩ := HPC.out z1 HZ.out.1.fx; have hibl : wr.heap.size < z1.heap.size := heap_lt HZ.out.1.ih; have hne := HZ.out.1.ne; have e0 : z1.cell? ⟨G, c, none⟩ = some (.bool (den (lvS sl) P (kA K at_).2 c)) := cell_blk HZ.out.2 (rowF_at hc2); have gf : ∀ i, z1.frozen? ⟨G, i, none⟩ = false := (fun i => by simp [World.frozen?, HZ.out.2]); obtain ⟨zs, hzs⟩ : ∃ zs, z1.setCell ⟨G, c, none⟩ (.bool true) = zs := ⟨_, rfl⟩; have HS : Bx (RdW W7 zs G wr.heap.size x ka kc ∧ zs.heap[G]? = some (.cells (rowF sl (fup (hasF sl P K at_) c (.bool true))) 4 (0, 0))) := ⟨by rw [← hzs]; exact HZ.out.1.set c _, by rw [← hzs]; have := heap_setCell_same z1 G c _ 4 (.bool true) HZ.out.2; rw [rowF_set hc2] at this; exact this⟩; obtain ⟨v0, v1, v2, v3⟩ := HS.out.1.cells; rw [hop] at v0; rw [ha] at v1; have hibs : wr.heap.size < zs.heap.size := heap_lt HS.out.1.ih; have HWZ : Bx _ := ⟨HWA.out _ HS.out.1.fx⟩)
                        | (go_at_call 17; refine HWZ.out.mono ?_; rintro e z2 (⟨t, h, rfl, HT⟩ | ⟨t, h, rfl, HT⟩); rotate_left; have hle : decide (t ≤ at_) = false := decide_eq_false (fun e => by have := HT.out.2.1 e; rw [hop] at this; revert this; decide); rotate_right 1))
                      · go_ret
                        have hfx := HS.out.1.fx.trans (Fx.of HT.out)
                        have hfb := HBX.out _ hfx
                        exact ⟨rfl, ⟨by first | exact hfb | (rw [← hH]; exact hfb)⟩⟩
                      · go_roundg (ps.length + 1 - (r + 1))
                        case measure => exact hme
                        case rel =>
                          obtain ⟨n1, n2, n3⟩ := HNX.out t h HT.out.1
                          have n4 : ∀ m, m < sl → den (lvS sl) P (kA K t).2 m = updB (lvS sl) 5 (c : Int) (den (lvS sl) P (kA K at_).2) m := fun m hm => by rw [n3 m hm, hop, ha]
                          have hu := (upd_row hs1 _ n4).2 (by decide) c rfl hc2 (fun e => absurd rfl e)
                          exact ⟨r + 1, t, h, rfl, hlt, rfl, rfl, by simp, n1, ⟨n2, HS.out.1.fx.trans (Fx.of HT.out.2.2), by
                            rw [HT.out.2.2.block G (heap_lt HS.out.2), HS.out.2]
                            congr 2⟩⟩
                · as_aux_lemma =>
                    obtain ⟨c, hc1, hc2, hc3⟩ := s3 (by decide)
                    subst hc1
                    have hcI : decide (sl ≤ c) = false := decide_eq_false (by omega)
                    have hcI0 : decide ((c : Int) < 0) = false := decide_eq_false (by omega)
                    have hcL : (c : Int) < (sl : Int) := by omega
                    cases rs
                    all_goals
                      clear s2 s3 s4 hcap
                      go_wp2_with (first
                        | (go_at_call 16; refine HPO.out.mono ?_; rintro e z1 ⟨rfl, HZ⟩; obtain ⟨y0, y1, y2, y3⟩ := HZ.out.1.cells; rw [hop] at y0; rw [ha] at y1; obtain ⟨p0, p1, p2, p3, p4, p5, p6, p7⟩ := HPC.out z1 HZ.out.1.fx; have hibl : wr.heap.size < z1.heap.size := heap_lt HZ.out.1.ih; have hne := HZ.out.1.ne; have e0 : z1.cell? ⟨G, c, none⟩ = some (.bool (den (lvS sl) P (kA K at_).2 c)) := cell_blk HZ.out.2 (rowF_at hc2); rw [hc3] at e0; have gf : ∀ i, z1.frozen? ⟨G, i, none⟩ = false := (fun i => by simp [World.frozen?, HZ.out.2]); obtain ⟨zs, hzs⟩ : ∃ zs, z1.setCell ⟨G, c, none⟩ (.bool false) = zs := ⟨_, rfl⟩; have HS : Bx (RdW W7 zs G wr.heap.size x ka kc ∧ zs.heap[G]? = some (.cells (rowF sl (fup (hasF sl P K at_) c (.bool false))) 4 (0, 0))) := ⟨by rw [← hzs]; exact HZ.out.1.set c _, by rw [← hzs]; have := heap_setCell_same z1 G c _ 4 (.bool false) HZ.out.2; rw [rowF_set hc2] at this; exact this⟩; obtain ⟨v0, v1, v2, v3⟩ := HS.out.1.cells; rw [hop] at v0; rw [ha] at v1; have hibs : wr.heap.size < zs.heap.size := heap_lt HS.out.1.ih; have HWZ : Bx _ := ⟨HWA.out _ HS.out.1.fx⟩)
                        | (go_at_call 17; refine HWZ.out.mono ?_; rintro e z2 (⟨t, h, rfl, HT⟩ | ⟨t, h, rfl, HT⟩); rotate_left; have hle : decide (t ≤ at_) = false := decide_eq_false (fun e => by have := HT.out.2.1 e; rw [hop] at this; revert this; decide); rotate_right 1))
                      · go_ret
                        have hfx := HS.out.1.fx.trans (Fx.of HT.out)
                        have hfb := HBX.out _ hfx
                        exact ⟨rfl, ⟨by first | exact hfb | (rw [← hH]; exact hfb)⟩⟩
                      · go_roundg (ps.length + 1 - (r + 1))
                        case measure => exact hme
                        case rel =>
                          obtain ⟨n1, n2, n3⟩ := HNX.out t h HT.out.1
                          have n4 : ∀ m, m < sl → den (lvS sl) P (kA K t).2 m = updB (lvS sl) 6 (c : Int) (den (lvS sl) P (kA K at_).2) m := fun m hm => by rw [n3 m hm, hop, ha]
                          have hu := (upd_row hs1 _ n4).2 (by decide) c rfl hc2 (fun _ => hc3)
                          exact ⟨r + 1, t, h, rfl, hlt, rfl, rfl, by simp, n1, ⟨n2, HS.out.1.fx.trans (Fx.of HT.out.2.2), by
                            rw [HT.out.2.2.block G (heap_lt HS.out.2), HS.out.2]
                            congr 2⟩⟩
                · as_aux_lemma =>
                    obtain ⟨c, hc1, hc2, hc3⟩ := s3 (by decide)
                    subst hc1
                    have hcI : decide (sl ≤ c) = false := decide_eq_false (by omega)
                    have hcI0 : decide ((c : Int) < 0) = false := decide_eq_false (by omega)
                    have hcL : (c : Int) < (sl : Int) := by omega
                    cases rs
                    all_goals
                      clear s2 s3 s4 hcap
                      go_wp2_with (first
                        | (go_at_call 16; refine HPO.out.mono ?_; rintro e z1 ⟨rfl, HZ⟩; obtain ⟨y0, y1, y2, y3⟩ := HZ.out.1.cells; rw [hop] at y0; rw [ha] at y1; obtain ⟨p0, p1, p2, p3, p4, p5, p6, p7⟩ := HPC.out z1 HZ.out.1.fx; have hibl : wr.heap.size < z1.heap.size := heap_lt HZ.out.1.ih; have hne := HZ.out.1.ne; have e0 : z1.cell? ⟨G, c, none⟩ = some (.bool (den (lvS sl) P (kA K at_).2 c)) := cell_blk HZ.out.2 (rowF_at hc2); rw [hc3] at e0; have gf : ∀ i, z1.frozen? ⟨G, i, none⟩ = false := (fun i => by simp [World.frozen?, HZ.out.2]); obtain ⟨zs, hzs⟩ : ∃ zs, z1.setCell ⟨G, c, none⟩ (.bool true) = zs := ⟨_, rfl⟩; have HS : Bx (RdW W7 zs G wr.heap.size x ka kc ∧ zs.heap[G]? = some (.cells (rowF sl (fup (hasF sl P K at_) c (.bool true))) 4 (0, 0))) := ⟨by rw [← hzs]; exact HZ.out.1.set c _, by rw [← hzs]; have := heap_setCell_same z1 G c _ 4 (.bool true) HZ.out.2; rw [rowF_set hc2] at this; exact this⟩; obtain ⟨v0, v1, v2, v3⟩ := HS.out.1.cells; rw [hop] at v0; rw [ha] at v1; have hibs : wr.heap.size < zs.heap.size := heap_lt HS.out.1.ih; have HWZ : Bx _ := ⟨HWA.out _ HS.out.1.fx⟩)
                        | (go_at_call 17; refine HWZ.out.mono ?_; rintro e z2 (⟨t, h, rfl, HT⟩ | ⟨t, h, rfl, HT⟩); rotate_left; have hle : decide (t ≤ at_) = false := decide_eq_false (fun e => by have := HT.out.2.1 e; rw [hop] at this; revert this; decide); rotate_right 1))
                      · go_ret
                        have hfx := HS.out.1.fx.trans (Fx.of HT.out)
                        have hfb := HBX.out _ hfx
                        exact ⟨rfl, ⟨by first | exact hfb | (rw [← hH]; exact hfb)⟩⟩
                      · go_roundg (ps.length + 1 - (r + 1))
                        case measure => exact hme
                        case rel =>
                          obtain ⟨n1, n2, n3⟩ := HNX.out t h HT.out.1
                          have n4 : ∀ m, m < sl → den (lvS sl) P (kA K t).2 m = updB (lvS sl) 16 (c : Int) (den (lvS sl) P (kA K at_).2) m := fun m hm => by rw [n3 m hm, hop, ha]
                          have hu := (upd_row hs1 _ n4).2 (by decide) c rfl hc2 (fun _ => hc3)
                          exact ⟨r + 1, t, h, rfl, hlt, rfl, rfl, by simp, n1, ⟨n2, HS.out.1.fx.trans (Fx.of HT.out.2.2), by
                            rw [HT.out.2.2.block G (heap_lt HS.out.2), HS.out.2]
                            congr 2⟩⟩
                · as_aux_lemma =>
                    obtain ⟨hc1, hc2⟩ := hcap rfl
                    have hcI : decide (a < 0) = false := decide_eq_false (by omega)
                    have hcJ : decide (pg.caps ≤ a) = false := decide_eq_false (by omega)
                    cases rs
                    all_goals
                      clear s2 s3 s4 hcap
                      go_wp2_with (first
                        | (go_at_call 16; refine HPO.out.mono ?_; rintro e z1 ⟨rfl, HZ⟩; obtain ⟨y0, y1, y2, y3⟩ := HZ.out.1.cells; rw [hop] at y0; rw [ha] at y1; obtain ⟨p0, p1, p2, p3, p4, p5, p6, p7⟩ := HPC.out z1 HZ.out.1.fx; have hibl : wr.heap.size < z1.heap.size := heap_lt HZ.out.1.ih; have hne := HZ.out.1.ne; have HS : Bx _ := ⟨HZ.out⟩; have HWZ : Bx _ := ⟨HWA.out _ HS.out.1.fx⟩)
                        | (go_at_call 17; refine HWZ.out.mono ?_; rintro e z2 (⟨t, h, rfl, HT⟩ | ⟨t, h, rfl, HT⟩); rotate_left; have hle : decide (t ≤ at_) = false := decide_eq_false (fun e => by have := HT.out.2.1 e; rw [hop] at this; revert this; decide); rotate_right 1))
                      · go_ret
                        have hfx := HS.out.1.fx.trans (Fx.of HT.out)
                        have hfb := HBX.out _ hfx
                        exact ⟨rfl, ⟨by first | exact hfb | (rw [← hH]; exact hfb)⟩⟩
                      · go_roundg (ps.length + 1 - (r + 1))
                        case measure => exact hme
                        case rel =>
                          obtain ⟨n1, n2, n3⟩ := HNX.out t h HT.out.1
                          have n4 : ∀ m, m < sl → den (lvS sl) P (kA K t).2 m = updB (lvS sl) 7 a (den (lvS sl) P (kA K at_).2) m := fun m hm => by rw [n3 m hm, hop, ha]
                          have hu := (upd_row hs1 _ n4).1 (by decide)
                          exact ⟨r + 1, t, h, rfl, hlt, rfl, rfl, by simp, n1, ⟨n2, HS.out.1.fx.trans (Fx.of HT.out.2.2), by
                            rw [HT.out.2.2.block G (heap_lt HS.out.2), HS.out.2]
                            congr 2⟩⟩
                · as_aux_lemma =>
                    have hwb0 : rs = false → ((hh : Int) != 0) = false := fun e => by rw [s2 rfl, e]; rfl
                    have hwb1 : rs = true → ((hh : Int) != 1) = false := fun e => by rw [s2 rfl, e]; rfl
                    cases rs
                    all_goals
                      first | (have hwb := hwb0 rfl; clear hwb0 hwb1) | (have hwb := hwb1 rfl; clear hwb0 hwb1)
                      clear s2 s3 s4 hcap
                      go_wp2_with (first
                        | (go_at_call 16; refine HPO.out.mono ?_; rintro e z1 ⟨rfl, HZ⟩; obtain ⟨y0, y1, y2, y3⟩ := HZ.out.1.cells; rw [hop] at y0; rw [ha] at y1; obtain ⟨p0, p1, p2, p3, p4, p5, p6, p7⟩ := HPC.out z1 HZ.out.1.fx; have hibl : wr.heap.size < z1.heap.size := heap_lt HZ.out.1.ih; have hne := HZ.out.1.ne; have HS : Bx _ := ⟨HZ.out⟩; have HWZ : Bx _ := ⟨HWA.out _ HS.out.1.fx⟩)
                        | (go_at_call 17; refine HWZ.out.mono ?_; rintro e z2 (⟨t, h, rfl, HT⟩ | ⟨t, h, rfl, HT⟩); rotate_left; have hle : decide (t ≤ at_) = false := decide_eq_false (fun e => by have := HT.out.2.1 e; rw [hop] at this; revert this; decide); rotate_right 1))
                      · go_ret
                        have hfx := HS.out.1.fx.trans (Fx.of HT.out)
                        have hfb := HBX.out _ hfx
                        exact ⟨rfl, ⟨by first | exact hfb | (rw [← hH]; exact hfb)⟩⟩
                      · go_roundg (ps.length + 1 - (r + 1))
                        case measure => exact hme
                        case rel =>
                          obtain ⟨n1, n2, n3⟩ := HNX.out t h HT.out.1
                          have n4 : ∀ m, m < sl → den (lvS sl) P (kA K t).2 m = updB (lvS sl) 25 a (den (lvS sl) P (kA K at_).2) m := fun m hm => by rw [n3 m hm, hop, ha]
                          have hu := (upd_row hs1 _ n4).1 (by decide)
                          exact ⟨r + 1, t, h, rfl, hlt, rfl, rfl, by simp, n1, ⟨n2, HS.out.1.fx.trans (Fx.of HT.out.2.2), by
                            rw [HT.out.2.2.block G (heap_lt HS.out.2), HS.out.2]
                            congr 2⟩⟩
                · as_aux_lemma =>
                    cases rs
                    all_goals
                      clear s2 s3 s4 hcap
                      go_wp2_with (first
                        | (go_at_call 16; refine HPO.out.mono ?_; rintro e z1 ⟨rfl, HZ⟩; obtain ⟨y0, y1, y2, y3⟩ := HZ.out.1.cells; rw [hop] at y0; rw [ha] at y1; obtain ⟨p0, p1, p2, p3, p4, p5, p6, p7⟩ := HPC.out z1 HZ.out.1.fx; have hibl : wr.heap.size < z1.heap.size := heap_lt HZ.out.1.ih; have hne := HZ.out.1.ne; have HS : Bx _ := ⟨HZ.out⟩; have HWZ : Bx _ := ⟨HWA.out _ HS.out.1.fx⟩)
                        | (go_at_call 17; refine HWZ.out.mono ?_; rintro e z2 (⟨t, h, rfl, HT⟩ | ⟨t, h, rfl, HT⟩); rotate_left; obtain ⟨m0, m1, m2, m3⟩ := (HS.out.1.later HT.out.2.2).cells; rw [hop] at m0; have hib2 : wr.heap.size < z2.heap.size := heap_lt (HS.out.1.later HT.out.2.2).ih; cases hle : decide (t ≤ at_); rotate_right 1))
                      · go_ret
                        have hfx := HS.out.1.fx.trans (Fx.of HT.out)
                        have hfb := HBX.out _ hfx
                        exact ⟨rfl, ⟨by first | exact hfb | (rw [← hH]; exact hfb)⟩⟩
                      · go_roundg (ps.length + 1 - (r + 1))
                        case measure => exact hme
                        case rel =>
                          obtain ⟨n1, n2, n3⟩ := HNX.out t h HT.out.1
                          have n4 : ∀ m, m < sl → den (lvS sl) P (kA K t).2 m = updB (lvS sl) 21 a (den (lvS sl) P (kA K at_).2) m := fun m hm => by rw [n3 m hm, hop, ha]
                          have hu := (upd_row hs1 _ n4).1 (by decide)
                          exact ⟨r + 1, t, h, rfl, hlt, rfl, rfl, by simp, n1, ⟨n2, HS.out.1.fx.trans (Fx.of HT.out.2.2), by
                            rw [HT.out.2.2.block G (heap_lt HS.out.2), HS.out.2]
                            congr 2⟩⟩
                      · go_roundg (ps.length + 1 - (r + 1))
                        case measure => exact hme
                        case rel =>
                          obtain ⟨n1, n2, n3⟩ := HNX.out t h HT.out.1
                          have n4 : ∀ m, m < sl → den (lvS sl) P (kA K t).2 m = updB (lvS sl) 21 a (den (lvS sl) P (kA K at_).2) m := fun m hm => by rw [n3 m hm, hop, ha]
                          have hu := (upd_row hs1 _ n4).1 (by decide)
                          exact ⟨r + 1, t, h, rfl, hlt, rfl, rfl, by simp, n1, ⟨n2, HS.out.1.fx.trans (Fx.of HT.out.2.2), by
                            rw [HT.out.2.2.block G (heap_lt HS.out.2), HS.out.2]
                            congr 2⟩⟩
              · as_aux_lemma =>
                  have b4 : (op == 4) = false := by simp; omega
                  have b5 : (op == 5) = false := by simp; omega
                  have b6 : (op == 6) = false := by simp; omega
                  have b16 : (op == 16) = false := by simp; omega
                  have b7 : (op == 7) = false := by simp; omega
                  have b25 : (op == 25) = false := by simp; omega
                  cases rs
                  all_goals
                    clear s2 s3 s4 hcap
                    go_wp2_with (first
                      | (go_at_call 16; refine HPO.out.mono ?_; rintro e z1 ⟨rfl, HZ⟩; obtain ⟨y0, y1, y2, y3⟩ := HZ.out.1.cells; rw [hop] at y0; rw [ha] at y1; obtain ⟨p0, p1, p2, p3, p4, p5, p6, p7⟩ := HPC.out z1 HZ.out.1.fx; have hibl : wr.heap.size < z1.heap.size := heap_lt HZ.out.1.ih; have hne := HZ.out.1.ne; have HS : Bx _ := ⟨HZ.out⟩; have HWZ : Bx _ := ⟨HWA.out _ HS.out.1.fx⟩)
                      | (go_at_call 17; refine HWZ.out.mono ?_; rintro e z2 (⟨t, h, rfl, HT⟩ | ⟨t, h, rfl, HT⟩); rotate_left; have hle : decide (t ≤ at_) = false := decide_eq_false (fun e => by have := HT.out.2.1 e; rw [hop] at this; revert this; omega); rotate_right 1))
                    · go_ret
                      have hfx := HS.out.1.fx.trans (Fx.of HT.out)
                      have hfb := HBX.out _ hfx
                      exact ⟨rfl, ⟨by first | exact hfb | (rw [← hH]; exact hfb)⟩⟩
                    · go_roundg (ps.length + 1 - (r + 1))
                      case measure => exact hme
                      case rel =>
                        obtain ⟨n1, n2, n3⟩ := HNX.out t h HT.out.1
                        have n4 : ∀ m, m < sl → den (lvS sl) P (kA K t).2 m = updB (lvS sl) op a (den (lvS sl) P (kA K at_).2) m := fun m hm => by rw [n3 m hm, hop, ha]
                        have hu := (upd_row hs1 _ n4).1 (by omega)
                        exact ⟨r + 1, t, h, rfl, hlt, rfl, rfl, by simp, n1, ⟨n2, HS.out.1.fx.trans (Fx.of HT.out.2.2), by
                          rw [HT.out.2.2.block G (heap_lt HS.out.2), HS.out.2]
                          congr 2⟩⟩
            · obtain rfl : r = ps.length := by omega
              have HEN : Bx (Below w.heap.size w wr) := ⟨HBX.out _ HR.out.2.1⟩
              clear HR
              go_wp2
              go_ret
              exact ⟨rfl, ⟨by first | exact HEN.out | (rw [← hH]; exact HEN.out)⟩⟩
    · have hcb : (((checkR u).2.2 : Int) != 0) = true := by simp [hc]
      have HCK2 : Bx _ := ⟨HCK.out HK.out⟩
      clear HCK HHI HLK hc HAM
      generalize checkR u = CR at *
      go_wp2_with (first
        | (go_at_call 7; refine (HSH.out _ HB2.out).mono ?_; rintro e w3 ⟨rfl, HB3⟩; obtain ⟨k2, k3⟩ := HU.out _ HB3.out)
        | (go_at_call 9; refine (HCK2.out _ HB3.out).mono ?_; rintro e w4 ⟨rfl, HB4⟩))
      go_ret
      exact ⟨rfl, ⟨by first | exact HXB.out _ HB4.out | (rw [← hH]; exact HXB.out _ HB4.out)⟩⟩
  · have HB2 : Bx _ := ⟨HX2.out.2⟩
    go_wp2
    go_ret
    exact ⟨rfl, ⟨by first | exact HXB.out _ HB2.out | (rw [← hH]; exact HXB.out _ HB2.out)⟩⟩
end Go.Proofs.YtadmpgegolmkgaaDoor
