import Derived.Test.YtadmpgegolmkgaaDoorCWxG
import Derived.Test.YtadmpgegolmkgaaDoorCWhE
import Derived.Test.YtadmpgegolmkgaaDoorCYY
namespace Go.Proofs.YtadmpgegolmkgaaDoor
open Go.RowKit
set_option linter.unusedVariables false
set_option linter.unusedSimpArgs false

theorem many_le {p : CPg} : ∀ {l : List CPg}, p ∈ l → p.code.length ≤ manyU l
  | q :: r, h => by
    unfold manyU
    rw [List.map_cons, List.sum_cons]
    rcases List.mem_cons.1 h with e | e
    · subst e
      omega
    · have := many_le e
      unfold manyU at this
      omega
theorem many_take_le (l : List CPg) (k : Nat) : manyU (l.take k) ≤ manyU l := by
  unfold manyU
  conv => rhs; rw [← List.take_append_drop k l]
  rw [List.map_append, List.sum_append]
  omega
theorem LtU.prog_cells {W : World} {B : Nat} {pa ta : Option Addr} {pc tc : Nat} {u : CUn} {G : List (Nat × Nat)} {C : List PG} (h : LtU W B pa ta pc tc u G C) {k : Nat} (hk : k < u.progs.length) : ∃ g, pa = some ⟨g, 0, none⟩ ∧ g < W.heap.size ∧ B ≤ g ∧ ∃ (hk2 : k < C.length), W.cell? ⟨g, k * 5 + 4, none⟩ = some (.slice (some ⟨C[k].1.1, 0, none⟩) u.progs[k].code.length C[k].1.2) := by
  have hk2 : k < C.length := by have := h.len; omega
  have hpl := h.all.1
  rcases h.all.2 with ⟨e, hn⟩ | ⟨g, cap, cur, e, hB, hg, q1, q2, q3, q4⟩
  · omega
  · simp only [Value.slice.injEq, true_and] at e
    obtain ⟨e1, e2⟩ := e
    subst e1 e2
    refine ⟨g, rfl, heap_lt hg, hB, hk2, ?_⟩
    rw [h.all.cellAt (k * 5 + 4) (by omega)]
    exact pgL_at _ _ k hk hk2 4 (by omega)
theorem LtU.ins_cells {W : World} {B : Nat} {pa ta : Option Addr} {pc tc : Nat} {u : CUn} {G : List (Nat × Nat)} {C : List PG} (h : LtU W B pa ta pc tc u G C) {k m : Nat} (hk : k < u.progs.length) (hk2 : k < C.length) (hm : m < u.progs[k].code.length) : C[k].1.1 < W.heap.size ∧ (∀ i, W.frozen? ⟨C[k].1.1, i, none⟩ = false) ∧ ∃ ka kc, W.cell? ⟨C[k].1.1, m * 4, none⟩ = some (.int .i64 u.progs[k].code[m].op) ∧ W.cell? ⟨C[k].1.1, m * 4 + 1, none⟩ = some (.int .i64 u.progs[k].code[m].a) ∧ W.cell? ⟨C[k].1.1, m * 4 + 2, none⟩ = some (.int .i64 u.progs[k].code[m].b) ∧ W.cell? ⟨C[k].1.1, m * 4 + 3, none⟩ = some (.slice ka u.progs[k].code[m].list.length kc) := by
  have hc := h.cod k hk hk2
  have hm2 : m < C[k].2.length := by have := hc.len; omega
  obtain ⟨cs, hb⟩ := hc.blk
  have q := fun j hj => hc.at_ m hm hm2 j hj
  exact ⟨hc.lt, fun i => frz_blk hb, some ⟨C[k].2[m].1, 0, none⟩, C[k].2[m].2, q 0 (by omega), q 1 (by omega), q 2 (by omega), q 3 (by omega)⟩
theorem UnW.blind {u : CUn} (h : UnW u) {n : Int} (hn : I64 n) : UnW (blindU n u) := by
  refine ⟨fun p hp x hx => ?_, fun p hp x hx => ?_, h.tl, h.sk⟩
  all_goals
    obtain ⟨p0, hp0, rfl⟩ := List.mem_map.1 hp
    obtain ⟨x0, hx0, rfl⟩ := List.mem_map.1 hx
  · have hw := h.wf p0 hp0 x0 hx0
    unfold Go.Proofs.YtadmpgegolmkgaaDoor.blind
    split
    · exact ⟨hw.op, hn, hw.b, hw.list⟩
    · split
      · rename_i e
        exact ⟨hw.op, by show I64 (1 - x0.a); unfold I64; omega, hw.b, hw.list⟩
      · exact hw
  · have hl : (Go.Proofs.YtadmpgegolmkgaaDoor.blind n x0).list = x0.list := by
      unfold Go.Proofs.YtadmpgegolmkgaaDoor.blind
      split
      · rfl
      · split <;> rfl
    rw [hl]
    exact h.ls p0 hp0 x0 hx0
theorem UnW.more {u : CUn} (h : UnW u) : UnW (moreU u) := by
  refine ⟨fun p hp x hx => ?_, fun p hp x hx => ?_, h.tl, h.sk⟩
  all_goals
    rcases List.mem_append.1 hp with hp | hp
  · exact h.wf p hp x hx
  · simp at hp
    subst hp
    simp [qP] at hx
    subst hx
    exact ⟨by unfold I64; decide, by unfold I64; decide, by unfold I64; decide, fun k hk => by simp at hk⟩
  · exact h.ls p hp x hx
  · simp at hp
    subst hp
    simp [qP] at hx
    subst hx
    exact Nat.zero_le _
theorem blind_len (n : Int) (u : CUn) : (blindU n u).progs.length = u.progs.length := by simp [blindU]
theorem blind_many (n : Int) (u : CUn) : manyU (blindU n u).progs = manyU u.progs := by
  unfold manyU blindU
  rw [List.map_map]
  congr 1
  apply List.map_congr_left
  intro p _
  simp [blindP]
set_option maxRecDepth 100000 in
set_option maxHeartbeats 16000000 in
/-- **VERIFYFREE** -/
theorem free_walk (w : World) (hV : VW w) (u : CUn) (pa ta : Option Addr) (pc tc : Nat) (hu : UnIn w w.heap.size pa pc ta tc u) (hwf : u.Wf) (hl : UnL u) (n : Int) (hn64 : I64 n) :
    Calls Tryd.prog 5 #[unV u pa pc ta tc, .int .i64 n] w fun e w' => e = .returned (.bool true) ∧ Bx (Below w.heap.size w w') := by
  obtain ⟨H, hH⟩ : ∃ H, w.heap.size = H := ⟨_, rfl⟩
  obtain ⟨w1, hw1⟩ : ∃ w1, w.alloc (.cells #[.slice pa u.progs.length pc, .slice ta u.types.length tc] 25) = w1 := ⟨_, rfl⟩
  have b1 : Below w.heap.size w w1 := by rw [← hw1]; exact below1 w _
  have q1 : w1.heap[H]? = some (.cells #[.slice pa u.progs.length pc, .slice ta u.types.length tc] 25 (0, 0)) := by rw [← hw1]; exact heap_newH _ _ _ hH
  have s1 : w1.heap.size = H + 1 := by rw [← hw1]; simp [hH]
  have HU : Bx (∀ X, Below (H + 1) w1 X → X.cell? ⟨H, 0, none⟩ = some (.slice pa u.progs.length pc) ∧ X.cell? ⟨H, 1, none⟩ = some (.slice ta u.types.length tc)) := ⟨fun X hX => ⟨cell_blk ((hX.block H (by omega)).trans q1) rfl, cell_blk ((hX.block H (by omega)).trans q1) rfl⟩⟩
  have hXb : ∀ X, Below (H + 1) w1 X → Below w.heap.size w X := fun X hX => b1.trans (hX.mono (by omega))
  have HXB : Bx (∀ X, Below (H + 1) w1 X → Below w.heap.size w X) := ⟨hXb⟩
  have HB0 : Bx (Below (H + 1) w1 w1) := ⟨Below.refl _ _⟩
  have HHV : Bx (Calls Tryd.prog 6 #[.agg #[.slice pa u.progs.length pc, .slice ta u.types.length tc]] w1 fun e w' => ∃ b : Bool, e = .returned (.bool b) ∧ Bx ((b = false → UnK u ∧ K2 u) ∧ Below (H + 1) w1 w')) := ⟨(heavy2_any w1 u pa ta pc tc (unin_at hu b1) hl).mono fun e w' ⟨b, he, q⟩ => ⟨b, he, ⟨q.out.1, by rw [← s1]; exact q.out.2⟩⟩⟩
  have HSH : Bx (∀ X, Below (H + 1) w1 X → Calls Tryd.prog 7 #[] X fun e w' => e = .returned (.bool true) ∧ Bx (Below (H + 1) w1 w')) := ⟨fun X hX => (shown_any X (hV.below (hXb X hX))).mono fun e w' q => ⟨q.1, ⟨hX.trans (q.2.mono (by have := hX.size; omega))⟩⟩⟩
  have HCK : Bx (UnK u → ∀ X, Below (H + 1) w1 X → Calls Tryd.prog 9 #[.agg #[.slice pa u.progs.length pc, .slice ta u.types.length tc]] X fun e w' => e = .returned (.tuple #[.int .i64 ((checkR u).1 : Int), .int .i64 ((checkR u).2.1 : Int), .int .i64 (checkR u).2.2]) ∧ Bx (Below (H + 1) w1 w')) := ⟨fun hk X hX => (Check_any X (hV.below (hXb X hX)) u pa ta pc tc (unin_at hu (hXb X hX)) (hk.w hwf)).mono fun e w' q => ⟨q.1, ⟨hX.trans (q.2.out.mono (by have := hX.size; omega))⟩⟩⟩
  have HLN : Bx (UnK u ∧ K2 u → ∀ X, Below (H + 1) w1 X → Calls Tryd.prog 8 #[.agg #[.slice pa u.progs.length pc, .slice ta u.types.length tc]] X (LentP X u)) := ⟨fun hk X hX => by
    refine lent_any X u pa ta pc tc (unin_at hu (hXb X hX)) hk.1 ?_ fun p hp => ?_
    · have := hk.2; unfold K2 at this; omega
    · have := hk.2
      unfold K2 at this
      have h2 : p.code.length ≤ manyU u.progs := by
        exact many_le hp
      omega⟩
  obtain ⟨hu0, hu1⟩ := HU.out w1 (Below.refl _ _)
  have hpcap := hu.progs.cap
  have hnp := hl.np
  have HCB : Bx (UnK u → ∀ X ta' tc' pa' pc', Below (H + 1) w1 X → UnIn X X.heap.size pa' pc' ta' tc' (blindU n u) → Calls Tryd.prog 9 #[.agg #[.slice pa' u.progs.length pc', .slice ta' u.types.length tc']] X fun e w' => e = .returned (.tuple #[.int .i64 ((checkR u).1 : Int), .int .i64 ((checkR u).2.1 : Int), .int .i64 (checkR u).2.2]) ∧ Bx (Below X.heap.size X w')) := ⟨fun hk X ta' tc' pa' pc' hX hI => by
    have := Check_any X (hV.below (hXb X hX)) (blindU n u) pa' ta' pc' tc' hI ((hk.w hwf).blind hn64)
    rw [blind_check] at this
    unfold unV at this
    rw [blind_len] at this
    exact this⟩
  have HCM : Bx (UnK u → ∀ X ta' tc' pa' pc', Below (H + 1) w1 X → UnIn X X.heap.size pa' pc' ta' tc' (moreU (blindU n u)) → (Calls Tryd.prog 9 #[.agg #[.slice pa' (u.progs.length + 1) pc', .slice ta' u.types.length tc']] X fun e w' => e = .returned (.tuple #[.int .i64 ((checkR (moreU (blindU n u))).1 : Int), .int .i64 ((checkR (moreU (blindU n u))).2.1 : Int), .int .i64 (checkR (moreU (blindU n u))).2.2]) ∧ Bx (Below X.heap.size X w')) ∧ (Calls Tryd.prog 11 #[.agg #[.slice pa' (u.progs.length + 1) pc', .slice ta' u.types.length tc'], .int .i64 (u.progs.length : Int)] X fun e w' => ∃ v, e = .returned v ∧ Bx (HiO X w' v (highR (moreU (blindU n u)) (u.progs.length : Int))))) := ⟨fun hk X ta' tc' pa' pc' hX hI => by
    have h1 := Check_any X (hV.below (hXb X hX)) (moreU (blindU n u)) pa' ta' pc' tc' hI ((hk.w hwf).blind hn64).more
    have h2 := Heights_any X (hV.below (hXb X hX)) (moreU (blindU n u)) pa' ta' pc' tc' hI ((hk.w hwf).blind hn64).more (u.progs.length : Int)
    have e : (moreU (blindU n u)).progs.length = u.progs.length + 1 := by simp [moreU, blindU]
    unfold unV at h1 h2
    rw [e] at h1 h2
    exact ⟨h1, h2⟩⟩
  have HVW : Bx (VW w) := ⟨hV⟩
  unfold unV
  clear hV hu hwf hl b1 q1 hXb
  go_enter Tryd.func5, Tryd.ntmps5
  go_wp2_with (first
    | (go_at_call 6; refine HHV.out.mono ?_; rintro e w2 ⟨b, rfl, HX2⟩; obtain ⟨k0, k1⟩ := HU.out _ HX2.out.2; cases b))
  · have HK : Bx (UnK u ∧ K2 u) := ⟨HX2.out.1 (by first | trivial | rfl)⟩
    have HB2 : Bx _ := ⟨HX2.out.2⟩
    have HCK2 : Bx _ := ⟨HCK.out HK.out.1⟩
    have HLN2 : Bx _ := ⟨HLN.out HK.out⟩
    have HCB2 : Bx _ := ⟨HCB.out HK.out.1⟩
    have HCM2 : Bx _ := ⟨HCM.out HK.out.1⟩
    clear HX2 HHV HCK HLN HCB HCM
    generalize hCR : checkR u = CR at *
    go_wp2_with (first
      | (go_at_call 7; refine (HSH.out _ HB2.out).mono ?_; rintro e w3 ⟨rfl, HB3⟩; obtain ⟨k2, k3⟩ := HU.out _ HB3.out)
      | (go_at_call 9; refine (HCK2.out _ HB3.out).mono ?_; rintro e w4 ⟨rfl, HB4⟩; obtain ⟨k4, k5⟩ := HU.out _ HB4.out)
      | (go_at_call 8; refine (HLN2.out _ HB4.out).mono ?_; rintro e w5 ⟨pa', ta', pc', tc', rfl, HL5⟩; unfold unV))
    obtain ⟨hb45, B, G, C, hBs, hL⟩ := HL5.out
    obtain ⟨D, hD⟩ : ∃ D, w5.heap.size = D := ⟨_, rfl⟩
    obtain ⟨w6, hw6⟩ : ∃ w6, w5.alloc (.cells #[.slice pa' u.progs.length pc', .slice ta' u.types.length tc'] 25) = w6 := ⟨_, rfl⟩
    have q6 : w6.heap[D]? = some (.cells #[.slice pa' u.progs.length pc', .slice ta' u.types.length tc'] 25 (0, 0)) := by rw [← hw6]; exact heap_newH _ _ _ hD
    have b6 : Below w5.heap.size w5 w6 := by rw [← hw6]; exact below1 _ _
    have h4s := HB4.out.size
    have hB6 : Below (H + 1) w1 w6 := (HB4.out.trans (hb45.mono (by omega))).trans (b6.mono (by have := hb45.size; omega))
    have HW6 : Bx (Below (H + 1) w1 w6 ∧ w6.heap[D]? = some (.cells #[.slice pa' u.progs.length pc', .slice ta' u.types.length tc'] 25 (0, 0)) ∧ LtU w6 B pa' ta' pc' tc' (blU n u 0 0) G C) := ⟨hB6, q6, by rw [blU_zero]; exact hL.later fun y _ hy => b6.block y hy⟩
    have HCD : Bx (∀ k (h : k < C.length), C[k].1.1 < D ∧ H + 1 ≤ C[k].1.1) := ⟨fun k h => by
      have hc := hL.cod k (by have := hL.len; omega) h
      have := hc.base
      exact ⟨by rw [← hD]; exact hc.lt, by omega⟩⟩
    have HCL : C.length = u.progs.length := hL.len
    have hHD : H + 1 ≤ D := by have := hb45.size; omega
    have hK2 := HK.out.2
    unfold K2 at hK2
    clear hb45 hL b6 hB6 HL5 q6
    rw [hD, hw6]
    go_loopg [9, 34] (u.progs.length + 1) (fun f v9 v34 wr => ∃ k : Nat, f = u.progs.length + 1 - k ∧ k ≤ u.progs.length ∧ v34 = .int .i64 k ∧ v9 = .int .i64 (manyU (u.progs.take k) : Nat) ∧ Bx (Below (H + 1) w1 wr ∧ wr.heap[D]? = some (.cells #[.slice pa' u.progs.length pc', .slice ta' u.types.length tc'] 25 (0, 0)) ∧ LtU wr B pa' ta' pc' tc' (blU n u k 0) G C))
    case atStart => exact ⟨0, by simp, Nat.zero_le _, rfl, by simp [manyU], HW6⟩
    case round =>
      clear HW6
      obtain ⟨k, hf, hkl, rfl, rfl, HR⟩ := hrel
      have o0 : wr.cell? ⟨D, 0, none⟩ = some (.slice pa' u.progs.length pc') := cell_blk HR.out.2.1 rfl
      have o1 : wr.cell? ⟨D, 1, none⟩ = some (.slice ta' u.types.length tc') := cell_blk HR.out.2.1 rfl
      have hDl : D < wr.heap.size := heap_lt HR.out.2.1
      by_cases hlt : k < u.progs.length
      · obtain ⟨g, hpa, hgl, _, hk2, hcell⟩ := HR.out.2.2.prog_cells (k := k) (by rw [blU_len]; exact hlt)
        rw [blU_at n u hlt, blT_len] at hcell
        subst hpa
        have hkI : (k : Int) < (u.progs.length : Int) := by omega
        have hpcap' : u.progs.length ≤ pc' := by
          have := own_caps HR.out.2.2.all
          rw [blU_len] at this
          exact this.1
        have hmt := manyU_take hlt
        have hml := many_take_le u.progs (k + 1)
        have hwr : IntKind.i64.wrap ((manyU (u.progs.take k) : Int) + (u.progs[k].code.length : Int)) = ((manyU (u.progs.take (k + 1)) : Nat) : Int) := by rw [IntKind.wrap_i64]; omega
        obtain ⟨wA, rfl⟩ : ∃ X, X = wr := ⟨_, rfl⟩
        have HPP : Bx (Below (H + 1) w1 wA ∧ wA.heap[D]? = some (.cells #[.slice (some ⟨g, 0, none⟩) u.progs.length pc', .slice ta' u.types.length tc'] 25 (0, 0)) ∧ LtU wA B (some ⟨g, 0, none⟩) ta' pc' tc' (blU n u k 0) G C) := ⟨HR.out⟩
        obtain ⟨ccap, hccap⟩ : ∃ c : Nat, C[k].1.2 = c := ⟨_, rfl⟩
        have hcod0 := HPP.out.2.2.cod k (by rw [blU_len]; exact hlt) hk2
        have hccl : u.progs[k].code.length ≤ ccap := by
          have := hcod0.cap
          rw [hccap] at this
          simp only [blU_at n u hlt, blT_len] at this
          omega
        rw [hccap] at hcell
        obtain ⟨q, hq⟩ : ∃ q : Nat, C[k].1.1 = q := ⟨_, rfl⟩
        rw [hq] at hcell
        have hqD : q < D ∧ H + 1 ≤ q := by rw [← hq]; exact HCD.out k hk2
        obtain ⟨cl, hcl⟩ : ∃ cl : Nat, u.progs[k].code.length = cl := ⟨_, rfl⟩
        rw [hcl] at hcell hccl hwr hmt
        have HCLb : Bx (u.progs[k].code.length = cl) := ⟨hcl⟩
        have HQb : Bx (C[k].1.1 = q) := ⟨hq⟩
        have hcl31 : cl ≤ 2147483647 := by omega
        clear HR hcod0 hccap hq hcl hmt hml
        generalize hMM : manyU (u.progs.take (k + 1)) = MM at *
        generalize hMK : manyU (u.progs.take k) = MK at *
        have HMM : Bx (manyU (u.progs.take (k + 1)) = MM) := ⟨hMM⟩
        clear hMM hMK
        go_wp2
        go_loopg [53] (cl + 1) (fun f v53 wr => ∃ m : Nat, f = cl + 1 - m ∧ m ≤ cl ∧ v53 = .int .i64 m ∧ Bx (Below (H + 1) w1 wr ∧ wr.heap[D]? = some (.cells #[.slice (some ⟨g, 0, none⟩) u.progs.length pc', .slice ta' u.types.length tc'] 25 (0, 0)) ∧ LtU wr B (some ⟨g, 0, none⟩) ta' pc' tc' (blU n u k m) G C))
        case atStart => exact ⟨0, by simp, Nat.zero_le _, rfl, HPP⟩
        case round =>
          clear HPP o0 o1 hcell hgl hDl
          obtain ⟨m, hf2, hm, rfl, HR⟩ := hrel
          have o0 : wr.cell? ⟨D, 0, none⟩ = some (.slice (some ⟨g, 0, none⟩) u.progs.length pc') := cell_blk HR.out.2.1 rfl
          have o1 : wr.cell? ⟨D, 1, none⟩ = some (.slice ta' u.types.length tc') := cell_blk HR.out.2.1 rfl
          have hDl : D < wr.heap.size := heap_lt HR.out.2.1
          by_cases hml : m < cl
          · obtain ⟨g2, hg2, hgl, _, hk3, hcell⟩ := HR.out.2.2.prog_cells (k := k) (by rw [blU_len]; exact hlt)
            obtain rfl : g2 = g := by simp at hg2; exact hg2.symm
            rw [blU_at n u hlt, blT_len, HCLb.out, HQb.out] at hcell
            have hm0 : m < u.progs[k].code.length := by rw [HCLb.out]; exact hml
            obtain ⟨hql, hqf, ka, kc, c0, c1, c2, c3⟩ := HR.out.2.2.ins_cells (k := k) (m := m) (by rw [blU_len]; exact hlt) hk2 (by simp only [blU_at n u hlt, blT_len]; exact hm0)
            simp only [blU_at n u hlt, blT_at n _ hm0, HQb.out] at hql hqf c0 c1 c2 c3
            obtain ⟨x, hx⟩ : ∃ x, u.progs[k].code[m] = x := ⟨_, rfl⟩
            rw [hx] at c0 c1 c2 c3
            obtain ⟨ccap, hccap⟩ : ∃ c : Nat, C[k].1.2 = c := ⟨_, rfl⟩
            rw [hccap] at hcell
            have hmI : (m : Int) < (cl : Int) := by omega
            have hne3 : q ≠ g2 := fun e => by
              obtain ⟨cur, hgb⟩ := own_blk HR.out.2.2.all
              obtain ⟨cs, hqb⟩ := (HR.out.2.2.cod k (by rw [blU_len]; exact hlt) hk2).blk
              rw [HQb.out, e, hgb] at hqb
              simp at hqb
            obtain ⟨E, hE⟩ : ∃ E, wr.heap.size = E := ⟨_, rfl⟩
            obtain ⟨W2, hW2⟩ : ∃ W2, wr.alloc (.cells #[.int .i64 x.op, .int .i64 x.a, .int .i64 x.b, .slice ka x.list.length kc] 43) = W2 := ⟨_, rfl⟩
            have b2 : Below wr.heap.size wr W2 := by rw [← hW2]; exact below1 _ _
            have hB2 : Below (H + 1) w1 W2 := HR.out.1.trans (b2.mono (by have := HR.out.1.size; have := hqD.1; omega))
            have hD2 := (b2.block D hDl).trans HR.out.2.1
            have hL2 : LtU W2 B (some ⟨g2, 0, none⟩) ta' pc' tc' (blU n u k m) G C := HR.out.2.2.later fun y _ hy => b2.block y hy
            have hset : ∀ v, blind n x = setX x v → Bx (Below (H + 1) w1 ((wr.setCell ⟨q, m * 4 + 1, none⟩ (.int .i64 v)).alloc (.cells #[.int .i64 x.op, .int .i64 x.a, .int .i64 x.b, .slice ka x.list.length kc] 43)) ∧ ((wr.setCell ⟨q, m * 4 + 1, none⟩ (.int .i64 v)).alloc (.cells #[.int .i64 x.op, .int .i64 x.a, .int .i64 x.b, .slice ka x.list.length kc] 43)).heap[D]? = some (.cells #[.slice (some ⟨g2, 0, none⟩) u.progs.length pc', .slice ta' u.types.length tc'] 25 (0, 0)) ∧ LtU ((wr.setCell ⟨q, m * 4 + 1, none⟩ (.int .i64 v)).alloc (.cells #[.int .i64 x.op, .int .i64 x.a, .int .i64 x.b, .slice ka x.list.length kc] 43)) B (some ⟨g2, 0, none⟩) ta' pc' tc' (blU n u k (m + 1)) G C) := fun v hv => by
              have hs := HR.out.2.2.setA (k := k) (m := m) (by rw [blU_len]; exact hlt) hk2 (by simp only [blU_at n u hlt, blT_len]; exact hm0) v
              rw [HQb.out, ← blU_set n u hlt hm0 v (by rw [hx]; exact hv)] at hs
              have hBs : Below (H + 1) w1 (wr.setCell ⟨q, m * 4 + 1, none⟩ (.int .i64 v)) := HR.out.1.setCell (p := ⟨q, m * 4 + 1, none⟩) hqD.2 _
              have hDs := (Below.heap_setCell wr ⟨q, m * 4 + 1, none⟩ (.int .i64 v) D (by show D ≠ q; have := hqD.1; omega)).trans HR.out.2.1
              generalize wr.setCell ⟨q, m * 4 + 1, none⟩ (.int .i64 v) = X at *
              have bX := below1 X (.cells #[.int .i64 x.op, .int .i64 x.a, .int .i64 x.b, .slice ka x.list.length kc] 43)
              exact ⟨hBs.trans (bX.mono (by have := heap_lt hDs; omega)), (bX.block D (heap_lt hDs)).trans hDs, hs.later fun y _ hy => bX.block y hy⟩
            have hset2 : ∀ v, blind n x = setX x v → Bx (Below (H + 1) w1 (W2.setCell ⟨q, m * 4 + 1, none⟩ (.int .i64 v)) ∧ (W2.setCell ⟨q, m * 4 + 1, none⟩ (.int .i64 v)).heap[D]? = some (.cells #[.slice (some ⟨g2, 0, none⟩) u.progs.length pc', .slice ta' u.types.length tc'] 25 (0, 0)) ∧ LtU (W2.setCell ⟨q, m * 4 + 1, none⟩ (.int .i64 v)) B (some ⟨g2, 0, none⟩) ta' pc' tc' (blU n u k (m + 1)) G C) := fun v hv => ⟨hB2.setCell (p := ⟨q, m * 4 + 1, none⟩) hqD.2 _, (Below.heap_setCell W2 ⟨q, m * 4 + 1, none⟩ _ D (by show D ≠ q; have := hqD.1; omega)).trans hD2, by
              rw [blU_set n u hlt hm0 v (by rw [hx]; exact hv)]
              have := hL2.setA (k := k) (m := m) (by rw [blU_len]; exact hlt) hk2 (by simp only [blU_at n u hlt, blT_len]; exact hm0) v
              rw [HQb.out] at this
              exact this⟩
            have hno : blind n x = x → Bx (Below (H + 1) w1 W2 ∧ W2.heap[D]? = some (.cells #[.slice (some ⟨g2, 0, none⟩) u.progs.length pc', .slice ta' u.types.length tc'] 25 (0, 0)) ∧ LtU W2 B (some ⟨g2, 0, none⟩) ta' pc' tc' (blU n u k (m + 1)) G C) := fun hv => ⟨hB2, hD2, by rw [blU_same n u hlt hm0 (by rw [hx]; exact hv)]; exact hL2⟩
            have hq2 : q < W2.heap.size := Nat.lt_of_lt_of_le hql b2.size
            have hf2' : W2.frozen? ⟨q, m * 4 + 1, none⟩ = false := (World.frozen?_of_block (a := ⟨q, m * 4 + 1, none⟩) (b2.block q hql)).trans (hqf _)
            clear hL2 hD2 hB2 b2 HR hx hE hw6 hg2 hccap hk3 hf2' hq2
            subst hW2
            have HBL : Bx _ := ⟨hset⟩
            have HNO : Bx _ := ⟨hno⟩
            have HBM : Bx _ := ⟨hset2⟩
            clear hset hno hset2
            obtain ⟨wB, rfl⟩ : ∃ X, X = wr := ⟨_, rfl⟩
            by_cases e1 : x.op = 1
            · have g1 : (x.op == 1) = true := by simpa using e1
              have HN := HBL.out n (by unfold blind setX; rw [if_pos e1])
              clear HBL HBM HNO e1
              go_wp2
              go_roundg (cl + 1 - (m + 1))
              case measure => omega
              case rel => exact ⟨m + 1, rfl, by omega, by go_num, HN⟩
            · have g1 : (x.op == 1) = false := by simpa using e1
              by_cases e2 : x.op = 2 ∧ (x.a = 0 ∨ x.a = 1)
              · have HN := HBM.out (1 - x.a) (by unfold blind setX; rw [if_neg e1, if_pos e2])
                have g2' : (x.op == 2) = true := by simpa using e2.1
                have hwx : IntKind.i64.wrap (1 - x.a) = 1 - x.a := by rw [IntKind.wrap_i64]; omega
                by_cases e3 : x.a = 0
                · have g3 : (x.a == 0) = true := by simpa using e3
                  clear HBL HBM HNO e1 e2 e3
                  go_wp2
                  have hdw1 : wB.heap.size < (wB.alloc (.cells #[.int .i64 x.op, .int .i64 x.a, .int .i64 x.b, .slice ka x.list.length kc] 43)).heap.size := by simp
                  have hdw2 := heap_alloc_new wB (.cells #[.int .i64 x.op, .int .i64 x.a, .int .i64 x.b, .slice ka x.list.length kc] 43)
                  have hdb := below1 wB (.cells #[.int .i64 x.op, .int .i64 x.a, .int .i64 x.b, .slice ka x.list.length kc] 43)
                  have d0 := (hdb.cell (p := ⟨D, 0, none⟩) hDl).trans o0
                  have d1 := (hdb.cell (p := ⟨g2, k * 5 + 4, none⟩) hgl).trans hcell
                  have d2 : (wB.alloc (.cells #[.int .i64 x.op, .int .i64 x.a, .int .i64 x.b, .slice ka x.list.length kc] 43)).cell? ⟨wB.heap.size, 1, none⟩ = some (.int .i64 x.a) := cell_blk hdw2 rfl
                  have d3 := (World.frozen?_of_block (a := ⟨q, m * 4 + 1, none⟩) (hdb.block q hql)).trans (hqf _)
                  have d4 : q < (wB.alloc (.cells #[.int .i64 x.op, .int .i64 x.a, .int .i64 x.b, .slice ka x.list.length kc] 43)).heap.size := Nat.lt_of_lt_of_le hql hdb.size
                  have d5 := (hdb.cell (p := ⟨q, m * 4 + 1, none⟩) hql).trans c1
                  generalize wB.alloc (.cells #[.int .i64 x.op, .int .i64 x.a, .int .i64 x.b, .slice ka x.list.length kc] 43) = X at *
                  have hne1 : q ≠ D := by have := hqD.1; omega
                  have hne2 : q ≠ wB.heap.size := by omega
                  go_region_held3 (fun Y => Y.cell? ⟨D, 0, none⟩ = some (.slice (some ⟨g2, 0, none⟩) u.progs.length pc') ∧ Y.cell? ⟨g2, k * 5 + 4, none⟩ = some (.slice (some ⟨q, 0, none⟩) cl ccap) ∧ Y.cell? ⟨wB.heap.size, 1, none⟩ = some (.int .i64 x.a))
                    (first | exact ⟨d0, d1, d2⟩ | go_keep)
                    (fail)
                  have HN2 : Bx (Below (H + 1) w1 (X.setCell ⟨q, m * 4 + 1, none⟩ (.int .i64 (1 - x.a))).drew ∧ (X.setCell ⟨q, m * 4 + 1, none⟩ (.int .i64 (1 - x.a))).drew.heap[D]? = some (.cells #[.slice (some ⟨g2, 0, none⟩) u.progs.length pc', .slice ta' u.types.length tc'] 25 (0, 0)) ∧ LtU (X.setCell ⟨q, m * 4 + 1, none⟩ (.int .i64 (1 - x.a))).drew B (some ⟨g2, 0, none⟩) ta' pc' tc' (blU n u k (m + 1)) G C) := ⟨HN.out.1.drew, HN.out.2.1, HN.out.2.2.later fun _ _ _ => rfl⟩
                  clear HN d0 d1 d2 d3 d4 d5 hdw2 hdb hdw1
                  go_wp2
                  go_roundg (cl + 1 - (m + 1))
                  case measure => omega
                  case rel => exact ⟨m + 1, rfl, by omega, by go_num, HN2⟩
                · have g3 : (x.a == 0) = false := by simpa using e3
                  have g4 : (x.a == 1) = true := by simp; omega
                  clear HBL HBM HNO e1 e2 e3
                  go_wp2
                  have hdw1 : wB.heap.size < (wB.alloc (.cells #[.int .i64 x.op, .int .i64 x.a, .int .i64 x.b, .slice ka x.list.length kc] 43)).heap.size := by simp
                  have hdw2 := heap_alloc_new wB (.cells #[.int .i64 x.op, .int .i64 x.a, .int .i64 x.b, .slice ka x.list.length kc] 43)
                  have hdb := below1 wB (.cells #[.int .i64 x.op, .int .i64 x.a, .int .i64 x.b, .slice ka x.list.length kc] 43)
                  have d0 := (hdb.cell (p := ⟨D, 0, none⟩) hDl).trans o0
                  have d1 := (hdb.cell (p := ⟨g2, k * 5 + 4, none⟩) hgl).trans hcell
                  have d2 : (wB.alloc (.cells #[.int .i64 x.op, .int .i64 x.a, .int .i64 x.b, .slice ka x.list.length kc] 43)).cell? ⟨wB.heap.size, 1, none⟩ = some (.int .i64 x.a) := cell_blk hdw2 rfl
                  have d3 := (World.frozen?_of_block (a := ⟨q, m * 4 + 1, none⟩) (hdb.block q hql)).trans (hqf _)
                  have d4 : q < (wB.alloc (.cells #[.int .i64 x.op, .int .i64 x.a, .int .i64 x.b, .slice ka x.list.length kc] 43)).heap.size := Nat.lt_of_lt_of_le hql hdb.size
                  have d5 := (hdb.cell (p := ⟨q, m * 4 + 1, none⟩) hql).trans c1
                  generalize wB.alloc (.cells #[.int .i64 x.op, .int .i64 x.a, .int .i64 x.b, .slice ka x.list.length kc] 43) = X at *
                  have hne1 : q ≠ D := by have := hqD.1; omega
                  have hne2 : q ≠ wB.heap.size := by omega
                  go_region_held3 (fun Y => Y.cell? ⟨D, 0, none⟩ = some (.slice (some ⟨g2, 0, none⟩) u.progs.length pc') ∧ Y.cell? ⟨g2, k * 5 + 4, none⟩ = some (.slice (some ⟨q, 0, none⟩) cl ccap) ∧ Y.cell? ⟨wB.heap.size, 1, none⟩ = some (.int .i64 x.a))
                    (first | exact ⟨d0, d1, d2⟩ | go_keep)
                    (fail)
                  have HN2 : Bx (Below (H + 1) w1 (X.setCell ⟨q, m * 4 + 1, none⟩ (.int .i64 (1 - x.a))).drew ∧ (X.setCell ⟨q, m * 4 + 1, none⟩ (.int .i64 (1 - x.a))).drew.heap[D]? = some (.cells #[.slice (some ⟨g2, 0, none⟩) u.progs.length pc', .slice ta' u.types.length tc'] 25 (0, 0)) ∧ LtU (X.setCell ⟨q, m * 4 + 1, none⟩ (.int .i64 (1 - x.a))).drew B (some ⟨g2, 0, none⟩) ta' pc' tc' (blU n u k (m + 1)) G C) := ⟨HN.out.1.drew, HN.out.2.1, HN.out.2.2.later fun _ _ _ => rfl⟩
                  clear HN d0 d1 d2 d3 d4 d5 hdw2 hdb hdw1
                  go_wp2
                  go_roundg (cl + 1 - (m + 1))
                  case measure => omega
                  case rel => exact ⟨m + 1, rfl, by omega, by go_num, HN2⟩
              · have HN := HNO.out (by unfold blind; rw [if_neg e1, if_neg e2])
                by_cases e3 : x.op = 2
                · have g2' : (x.op == 2) = true := by simpa using e3
                  have g3 : (x.a == 0) = false := by simp; omega
                  have g4 : (x.a == 1) = false := by simp; omega
                  clear HBL HBM HNO e1 e2 e3
                  go_wp2
                  go_roundg (cl + 1 - (m + 1))
                  case measure => omega
                  case rel => exact ⟨m + 1, rfl, by omega, by go_num, HN⟩
                · have g2' : (x.op == 2) = false := by simpa using e3
                  clear HBL HBM HNO e1 e2 e3
                  go_wp2
                  go_roundg (cl + 1 - (m + 1))
                  case measure => omega
                  case rel => exact ⟨m + 1, rfl, by omega, by go_num, HN⟩
          · obtain rfl : m = cl := by omega
            have HN : Bx (Below (H + 1) w1 wr ∧ wr.heap[D]? = some (.cells #[.slice (some ⟨g, 0, none⟩) u.progs.length pc', .slice ta' u.types.length tc'] 25 (0, 0)) ∧ LtU wr B (some ⟨g, 0, none⟩) ta' pc' tc' (blU n u (k + 1) 0) G C) := ⟨by
              have := HR.out
              rw [← blU_next n u hlt, HCLb.out]
              exact this⟩
            clear HR
            go_wp2
            go_roundg (u.progs.length + 1 - (k + 1))
            case measure => omega
            case rel => exact ⟨k + 1, rfl, by omega, by go_num, by rw [HMM.out], HN⟩
      · obtain rfl : k = u.progs.length := by omega
        have HRZ : Bx (Below (H + 1) w1 wr ∧ wr.heap[D]? = some (.cells #[.slice pa' u.progs.length pc', .slice ta' u.types.length tc'] 25 (0, 0)) ∧ LtU wr B pa' ta' pc' tc' (blindU n u) G C) := ⟨by
          have := HR.out
          rw [blU_all] at this
          exact this⟩
        have HCZ : Bx _ := ⟨HCB2.out wr ta' tc' pa' pc' HRZ.out.1 HRZ.out.2.2.read⟩
        clear HR HCB2 hf hkl
        rw [List.take_length]
        generalize hMA : manyU u.progs = MA at *
        have HMA : Bx (manyU u.progs = MA) := ⟨hMA⟩
        clear hMA
        have hDk : Bx (∀ X, Below wr.heap.size wr X → Below (H + 1) w1 X ∧ X.heap[D]? = some (.cells #[.slice pa' u.progs.length pc', .slice ta' u.types.length tc'] 25 (0, 0)) ∧ LtU X B pa' ta' pc' tc' (blindU n u) G C ∧ (X.cell? ⟨D, 0, none⟩ = some (.slice pa' u.progs.length pc') ∧ X.cell? ⟨D, 1, none⟩ = some (.slice ta' u.types.length tc') ∧ D < X.heap.size ∧ X.frozen? ⟨D, 0, none⟩ = false)) := ⟨fun X hX => by
          have hb := (hX.block D hDl).trans HRZ.out.2.1
          exact ⟨HRZ.out.1.trans (hX.mono (by have := HRZ.out.1.size; omega)), hb, HRZ.out.2.2.later fun y _ hy => hX.block y hy, cell_blk hb rfl, cell_blk hb rfl, heap_lt hb, frz_blk hb⟩⟩
        obtain ⟨ca, cb, cc⟩ := CR
        have hBw : Bx (∀ X, Below (H + 1) w1 X → Below w.heap.size w X) := HXB
        by_cases hz : cc = 0
        · subst hz
          by_cases hma : 268435456 ≤ MA
          · have hg : decide ((268435456 : Int) ≤ (MA : Int)) = true := decide_eq_true (by omega)
            clear hma HMA
            go_wp2_with (first
              | (go_at_call 9; refine HCZ.out.mono ?_; rintro e w7 ⟨rfl, HB7⟩))
            go_ret
            exact ⟨rfl, ⟨by first | exact hBw.out _ (hDk.out _ HB7.out).1 | (rw [← hH]; exact hBw.out _ (hDk.out _ HB7.out).1)⟩⟩
          · have hg : decide ((268435456 : Int) ≤ (MA : Int)) = false := decide_eq_false (by omega)
            have hzB : (checkR (blindU n u)).2.2 = 0 := by rw [blind_check, hCR]
            have hmB : manyU (blindU n u).progs < 268435456 := by rw [blind_many, HMA.out]; omega
            have hpos : 0 < (blindU n u).progs.length := (prog_ok (check_zero hzB).1).1
            obtain ⟨m1, m2, hCM⟩ : ∃ m1 m2, checkR (moreU (blindU n u)) = (m1, m2, 0) := ⟨_, _, Prod.ext rfl (Prod.ext rfl (more_check hzB hmB))⟩
            have hHM : highR (moreU (blindU n u)) (u.progs.length : Int) = [0] := by
              have := more_high hzB hmB
              rw [blind_len] at this
              exact this
            rw [hCM, hHM] at HCM2
            have hnl : (blindU n u).progs.length ≤ 2147483647 := by rw [blind_len]; omega
            have HMO : Bx (∀ X, Below wr.heap.size wr X → ∃ gp cp W3, (∀ ty, (Builtin.append_ #[22, 22] ty #[.slice pa' u.progs.length pc', .slice (some ⟨X.heap.size + 1, 0, none⟩) 1 1]).run Tryd.prog ((X.alloc qIns).alloc (.cells (qPrg X.heap.size) 40)) = .ok (.slice (some ⟨gp, 0, none⟩) (u.progs.length + 1) cp) W3) ∧ Below B X W3 ∧ W3.heap[D]? = some (.cells #[.slice pa' u.progs.length pc', .slice ta' u.types.length tc'] 25 (0, 0)) ∧ ∀ Y : World, W3.heap.size ≤ Y.heap.size → (∀ y, y ≠ D → y < W3.heap.size → Y.heap[y]? = W3.heap[y]?) → UnIn Y Y.heap.size (some ⟨gp, 0, none⟩) cp ta' tc' (moreU (blindU n u))) := ⟨fun X hX => by
              obtain ⟨hb, hd, hL, _⟩ := hDk.out X hX
              have hBX : B ≤ X.heap.size := by
                obtain ⟨g, _, h1, h2, _⟩ := hL.prog_cells (k := 0) hpos
                omega
              have := hL.more hBX hnl hd
              rw [blind_len] at this
              exact this⟩
            have HFI : Bx (∀ w7 gp cp W3, Below wr.heap.size wr w7 → Below B w7 W3 ∧ (∀ Y : World, W3.heap.size ≤ Y.heap.size → (∀ y, y ≠ D → y < W3.heap.size → Y.heap[y]? = W3.heap[y]?) → UnIn Y Y.heap.size (some ⟨gp, 0, none⟩) cp ta' tc' (moreU (blindU n u))) → W3.heap[D]? = some (.cells #[.slice pa' u.progs.length pc', .slice ta' u.types.length tc'] 25 (0, 0)) →
                (Calls Tryd.prog 9 #[.agg #[.slice (some ⟨gp, 0, none⟩) (u.progs.length + 1) cp, .slice ta' u.types.length tc']] (W3.setCell ⟨D, 0, none⟩ (.slice (some ⟨gp, 0, none⟩) (u.progs.length + 1) cp)) fun e w' => e = .returned (.tuple #[.int .i64 (m1 : Int), .int .i64 (m2 : Int), .int .i64 0]) ∧ Bx (Below (W3.setCell ⟨D, 0, none⟩ (.slice (some ⟨gp, 0, none⟩) (u.progs.length + 1) cp)).heap.size (W3.setCell ⟨D, 0, none⟩ (.slice (some ⟨gp, 0, none⟩) (u.progs.length + 1) cp)) w')) ∧
                ∀ Y, Below (W3.setCell ⟨D, 0, none⟩ (.slice (some ⟨gp, 0, none⟩) (u.progs.length + 1) cp)).heap.size (W3.setCell ⟨D, 0, none⟩ (.slice (some ⟨gp, 0, none⟩) (u.progs.length + 1) cp)) Y → (Y.cell? ⟨D, 0, none⟩ = some (.slice (some ⟨gp, 0, none⟩) (u.progs.length + 1) cp) ∧ Y.cell? ⟨D, 1, none⟩ = some (.slice ta' u.types.length tc') ∧ Y.cell? ⟨H, 0, none⟩ = some (.slice pa u.progs.length pc)) ∧ Bx (Below (H + 1) w1 Y ∧ Calls Tryd.prog 11 #[.agg #[.slice (some ⟨gp, 0, none⟩) (u.progs.length + 1) cp, .slice ta' u.types.length tc'], .int .i64 (u.progs.length : Int)] Y fun e w' => ∃ v, e = .returned v ∧ Bx (HiO Y w' v [0]))) := ⟨fun w7 gp cp W3 hw7 hX d3 => by
              obtain ⟨b3, hX3⟩ := hX
              have hX7 := (hDk.out w7 hw7).1
              have hB3 : Below (H + 1) w1 W3 := hX7.trans (b3.mono (by omega))
              have hB4 : Below (H + 1) w1 (W3.setCell ⟨D, 0, none⟩ (.slice (some ⟨gp, 0, none⟩) (u.progs.length + 1) cp)) := hB3.setCell (p := ⟨D, 0, none⟩) hHD _
              have d4 : (W3.setCell ⟨D, 0, none⟩ (.slice (some ⟨gp, 0, none⟩) (u.progs.length + 1) cp)).heap[D]? = some (.cells #[.slice (some ⟨gp, 0, none⟩) (u.progs.length + 1) cp, .slice ta' u.types.length tc'] 25 (0, 0)) := by
                have := Lib.heap_setCell_same (i := 0) d3 (.slice (some ⟨gp, 0, none⟩) (u.progs.length + 1) cp)
                simpa using this
              have hfr : ∀ y, y ≠ D → (W3.setCell ⟨D, 0, none⟩ (.slice (some ⟨gp, 0, none⟩) (u.progs.length + 1) cp)).heap[y]? = W3.heap[y]? := fun y hy => Below.heap_setCell W3 ⟨D, 0, none⟩ _ y hy
              have hsz : (W3.setCell ⟨D, 0, none⟩ (.slice (some ⟨gp, 0, none⟩) (u.progs.length + 1) cp)).heap.size = W3.heap.size := by simp
              generalize W3.setCell ⟨D, 0, none⟩ (.slice (some ⟨gp, 0, none⟩) (u.progs.length + 1) cp) = W4 at *
              refine ⟨?_, fun Y hY => ?_⟩
              · have := (HCM2.out W4 ta' tc' (some ⟨gp, 0, none⟩) cp hB4 (hX3 W4 (by omega) fun y h1 _ => hfr y h1)).1
                exact this
              · have hY4 : Below (H + 1) w1 Y := hB4.trans (hY.mono hB4.size |>.mono (by have := hB4.size; omega))
                have dY := (hY.block D (heap_lt d4)).trans d4
                refine ⟨⟨cell_blk dY rfl, cell_blk dY rfl, (HU.out Y hY4).1⟩, ⟨hY4, ?_⟩⟩
                have hs := hY.size
                have := (HCM2.out Y ta' tc' (some ⟨gp, 0, none⟩) cp hY4 (hX3 Y (by omega) fun y h1 h2 => (hY.block y (by omega)).trans (hfr y h1))).2
                exact this⟩
            have HNU : Bx (∀ X Y v, HiO X Y v [0] → ∃ g, v = .slice (some ⟨g, 0, none⟩) 1 1 ∧ Calls Tryd.prog 13 #[.slice (some ⟨g, 0, none⟩) 1 1, .slice (some ⟨Y.heap.size, 0, none⟩) 1 1] (Y.alloc (.cells #[.int .i64 0] 3)) fun e w' => e = .returned (.bool true) ∧ Bx (Below Y.heap.size Y w')) := ⟨fun X Y v hh => by
              rcases hh.row with ⟨e, _⟩ | ⟨g, hg, rfl, hgb⟩
              · cases e
              · refine ⟨g, rfl, ?_⟩
                have bY := below1 Y (.cells #[.int .i64 0] 3)
                have q1 := (bY.block g (heap_lt hgb)).trans hgb
                have q2 := heap_alloc_new Y (.cells #[.int .i64 0] 3)
                have i1 : IntsV (Y.alloc (.cells #[.int .i64 0] 3)) (Y.alloc (.cells #[.int .i64 0] 3)).heap.size (some ⟨g, 0, none⟩) 1 [0] := ⟨by decide, by decide, fun _ => ⟨g, 0, rfl, heap_lt q1, fun i hi => by
                  have : i = 0 := by simp at hi; exact hi
                  subst this
                  exact cell_blk q1 rfl⟩⟩
                have i2 : IntsV (Y.alloc (.cells #[.int .i64 0] 3)) (Y.alloc (.cells #[.int .i64 0] 3)).heap.size (some ⟨Y.heap.size, 0, none⟩) 1 [0] := ⟨by decide, by decide, fun _ => ⟨Y.heap.size, 0, rfl, heap_lt q2, fun i hi => by
                  have : i = 0 := by simp at hi; exact hi
                  subst this
                  exact cell_blk q2 rfl⟩⟩
                refine (nums_any _ _ _ _ 1 1 [0] [0] i1 i2).mono ?_
                rintro e w' ⟨rfl, k, rfl⟩
                exact ⟨by simp, ⟨⟨bY.os, bY.tape, bY.output, bY.size, bY.block⟩⟩⟩⟩
            clear hma hzB hmB hCM hHM hnl HMA hpos
            have TOK : Bx True := ⟨trivial⟩
            go_wp2_with (first
              | (go_at_call 9; clear TOK; refine HCZ.out.mono ?_; rintro e w7 ⟨rfl, HB7⟩; obtain ⟨gp, cp, W3, r3, b3, d3, hX3⟩ := HMO.out w7 HB7.out; obtain ⟨_, _, _, x0, x1, x2, x3⟩ := hDk.out w7 HB7.out; have y0 : W3.cell? ⟨D, 0, none⟩ = some (.slice pa' u.progs.length pc') := cell_blk d3 rfl; have y1 : W3.cell? ⟨D, 1, none⟩ = some (.slice ta' u.types.length tc') := cell_blk d3 rfl; have y2 : D < W3.heap.size := heap_lt d3; have y3 : W3.frozen? ⟨D, 0, none⟩ = false := frz_blk d3; have HF3 : Bx _ := ⟨HFI.out w7 gp cp W3 HB7.out ⟨b3, hX3⟩ d3⟩; clear b3 hX3 d3)
              | (go_at_call 9; refine HF3.out.1.mono ?_; rintro e w9 ⟨rfl, HB9⟩; obtain ⟨⟨z0, z1, z2⟩, HY9⟩ := HF3.out.2 w9 HB9.out)
              | (go_at_call 11; refine HY9.out.2.mono ?_; rintro e wA ⟨v, rfl, HO⟩; obtain ⟨g, rfl, hnu⟩ := HNU.out w9 wA v HO.out; have HN : Bx _ := ⟨hnu⟩; clear hnu)
              | (go_at_call 13; refine HN.out.mono ?_; rintro e wZ ⟨rfl, HBZ⟩)
              | (at_builtin; refine wpList_appI rfl (.tmp 126) (.tmp 130) 22 rfl rfl rfl r3 ?_)
              | fail)
            go_ret
            have hZ : Below (H + 1) w1 wZ := HY9.out.1.trans ((HO.out.bel.trans (HBZ.out.mono HO.out.bel.size)).mono HY9.out.1.size |>.mono (by have := HY9.out.1.size; omega))
            exact ⟨rfl, ⟨by first | exact hBw.out _ hZ | (rw [← hH]; exact hBw.out _ hZ)⟩⟩
        · have hg : (cc != 0) = true := by simpa using hz
          clear hz HMA
          go_wp2_with (first
            | (go_at_call 9; refine HCZ.out.mono ?_; rintro e w7 ⟨rfl, HB7⟩))
          go_ret
          exact ⟨rfl, ⟨by first | exact hBw.out _ (hDk.out _ HB7.out).1 | (rw [← hH]; exact hBw.out _ (hDk.out _ HB7.out).1)⟩⟩
  · have HB2 : Bx _ := ⟨HX2.out.2⟩
    go_wp2
    go_ret
    exact ⟨rfl, ⟨by first | exact HXB.out _ HB2.out | (rw [← hH]; exact HXB.out _ HB2.out)⟩⟩
end Go.Proofs.YtadmpgegolmkgaaDoor
