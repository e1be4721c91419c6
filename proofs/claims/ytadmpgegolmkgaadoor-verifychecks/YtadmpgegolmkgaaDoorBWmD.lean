import Derived.Test.YtadmpgegolmkgaaDoorBYH
set_option linter.unusedVariables false
set_option linter.unusedSimpArgs false
set_option maxHeartbeats 4000000
set_option maxRecDepth 100000
namespace Go.Proofs.YtadmpgegolmkgaaDoor
open Go.RowKit Go.MapKept Go.ChangeMaps Go.WideShapes
theorem eQ {n : Nat} {K : List Wy} {i : Nat} (hi : i < n) : kA (dw n K) i = (0, 0) := by
 unfold kA dw
 rw [List.getElem?_append_left (by simpa using hi), List.getElem?_replicate, if_pos hi]
 rfl
theorem eY {n : Nat} {K : List Wy} (h : n <= K.length) : (dw n K).length = K.length := by
 unfold dw
 rw [List.length_append, List.length_replicate, List.length_drop]
 omega
theorem wQ {w0 W : World} {wb : Nat} {g : WG} {pg : CPg} {ca : Option Addr} {cc sl pb pr : Nat} {K : List Wy} (h : FoL w0 W wb g pg ca cc sl pb (st0 pg.code.length sl pr K).P (st0 pg.code.length sl pr K).K (st0 pg.code.length sl pr K).D) (hp : iK pg sl pr) (hkl : pg.code.length <= K.length) : FoJ w0 W wb g pg ca cc sl (gy sl pr pg.res pg.code K) (3 * pg.code.length + 1) (st0 pg.code.length sl pr K) := by
 have h0 := hp.n0
 have h1 := hp.n1
 have hs1 := hp.sl1
 have hlv := qy (many := sl) (by omega)
 obtain ⟨f1, f2, f3, f4, f5, f6, f7⟩ := iw pr (lvS sl) kI
 have hk0 : Kv pg.code.length (lvS sl) (2147483648 - 2 * (3 * pg.code.length + 1)) (bK pr (lvS sl) [pz]).1 (dw pg.code.length K) (fun _ => false) :=
  ⟨by rw [eY hkl]; exact hkl, fun i q => (by cases q), fun i hi hz => absurd (by rw [eQ hi]) hz, fun i hi => by rw [eQ hi]; exact Nat.zero_le _⟩
 refine ⟨h.bel, h.mem, f2, hk0.come (i := 0) (p := (1, _)) h0 (by simp) f4 (by simp only; omega), ?_, Nat.lt_succ_of_le wG, by omega, rfl⟩
 show (bK pr (lvS sl) [pz]).1.length + lvS sl * (3 * pg.code.length + 1) <= 549755813888
 have h3 : lvS sl * (3 * pg.code.length + 1) <= 26 * (3 * pg.code.length + 1) := Nat.mul_le_mul_right _ hlv
 simp only [List.length_cons, List.length_nil] at f7
 omega
theorem wR {w0 w : World} {wb : Nat} {g : WG} {A : WA} {K : List Wy} (h : WkR w w0.heap.size wb g A K) (hb : Below w0.heap.size w0 w) {pg : CPg} {sl pr : Nat} (hp : iK pg sl pr) (ca : Option Addr) (cc k : Nat) :
  Calls Tryd.prog 40 #[.pointer (some ⟨wb, 7, none⟩), .int .i64 (sl : Int)] (((wP w wb (pgA pg ca cc)).alloc (.cells (pgC pg ca cc) 40)).drewN k) fun e w' => e = .returned (.tuple #[]) /\ Bx (FoL w0 w' wb g pg ca cc sl w.heap.size [pz] K fun _ => false) := by
 have h1 := h.put (pgA pg ca cc)
 have x1 := AC w wb (pgA pg ca cc)
 have z1 : (wP w wb (pgA pg ca cc)).heap.size = w.heap.size := by unfold wP; simp
 have hwb := h.b1
 have bw1 : Below w0.heap.size w0 (wP w wb (pgA pg ca cc)) := hb.trans (x1.bel hb.size fun k hk e => by omega)
 generalize wP w wb (pgA pg ca cc) = Y at *
 have b2 := below_drewN (ak Y (.cells (pgC pg ca cc) 40)) k
 have hp2 : ((Y.alloc (.cells (pgC pg ca cc) 40)).drewN k).heap[w.heap.size]? = some (.cells (pgC pg ca cc) 40 (0, 0)) := aj Y _ _ z1
 have hlt := ah hp2
 generalize (Y.alloc (.cells (pgC pg ca cc) 40)).drewN k = Z at *
 refine (zD h1 b2 bw1.size sl (by have := hp.sl1; omega)).mono ?_
 rintro e w' ⟨rfl, hq⟩
 obtain ⟨mb, gb, hw, hH, hbel, hrest⟩ := hq.out
 exact ⟨rfl, ⟨(bw1.trans (b2.mono bw1.size)).trans hbel, ⟨mb, gb, hw, hH⟩, (hrest _ (by omega) hlt).trans hp2⟩⟩
theorem kP (w0 w : World) (hV : VW w0) (hb : Below w0.heap.size w0 w) (wb : Nat) (g : WG) (A : WA) (K : List Wy) (hR : WkR w w0.heap.size wb g A K) (pg : CPg) (sl pr : Nat) (hp : iK pg sl pr) (ca : Option Addr) (cc : Nat) (hc : Row (cu w0 w0.heap.size) w0.heap.size 4 ca cc pg.code) (hng : pg.code.length <= g.n) (htop : szW g.n (g.L - 1) = 1) (hL0 : 0 < g.L) :
  Calls Tryd.prog 27 #[.pointer (some ⟨wb, 0, none⟩), .agg (pgC pg ca cc)] w fun e w' => e = .returned (.tuple #[.int .i64 ((gy sl pr pg.res pg.code K).1 : Int), .int .i64 (gy sl pr pg.res pg.code K).2.1]) /\ Bx (Below w0.heap.size w0 w' /\ ((gy sl pr pg.res pg.code K).2.1 = 0 -> WkR w' w0.heap.size wb g (pgA pg ca cc) (gy sl pr pg.res pg.code K).2.2.K)) := by
 obtain ⟨P, hP⟩ : ∃ P, w.heap.size = P := ⟨_, rfl⟩
 obtain ⟨lv, pv, mv, q⟩ := hR.wk
 unfold wkA at q
 have c0 : w.cell? ⟨wb, 0, none⟩ = some A.a0 := aa q rfl
 have c1 : w.cell? ⟨wb, 1, none⟩ = some A.a1 := aa q rfl
 have c2 : w.cell? ⟨wb, 2, none⟩ = some A.a2 := aa q rfl
 have c3 : w.cell? ⟨wb, 3, none⟩ = some A.a3 := aa q rfl
 have c4 : w.cell? ⟨wb, 4, none⟩ = some A.a4 := aa q rfl
 have fz : ∀ k, w.frozen? ⟨wb, k, none⟩ = false := fun k => aL q
 have lwb : wb < w.heap.size := hR.lt.1
 have HBG : Bx (∀ k, _) := ⟨fun k => wR hR hb hp ca cc k⟩
 rw [hP] at HBG lwb
 have n0 := hp.n0
 have hdb := hR.b3
 have hccap := hc.cap
 have hkl : pg.code.length <= K.length := by rw [hR.kl]; exact hng
 have HCL : Bx (∀ X, FoL w0 X wb g pg ca cc sl P [pz] K (fun _ => false) -> _) := ⟨fun X h => h.clear n0 hng⟩
 have HFI : Bx (∀ X, FoL w0 X wb g pg ca cc sl P [pz] (dw pg.code.length K) (fun _ => false) -> _) := ⟨fun X h => h.first hp⟩
 have HCO : Bx (∀ X, FoL w0 X wb g pg ca cc sl P (bK pr (lvS sl) [pz]).1 (dw pg.code.length K) (fun _ => false) -> _) := ⟨fun X h => h.come (Nat.lt_of_lt_of_le n0 hng) (bK pr (lvS sl) [pz]).2.2⟩
 have HST : Bx (∀ X, FoL w0 X wb g pg ca cc sl P (st0 pg.code.length sl pr K).P (st0 pg.code.length sl pr K).K (st0 pg.code.length sl pr K).D -> _) := ⟨fun X h => wQ h hp hkl⟩
 have hes := hp.es
 have hep := hp.ep
 generalize hRR : gy sl pr pg.res pg.code K = R at *
 have HT : Bx (∀ X f s i, FoJ w0 X wb g pg ca cc sl R f s -> cB pg.code.length s.D = some i -> _) := ⟨fun X f s i h hi => h.take hV hp hc hng htop hL0 hi⟩
 have HN : Bx (∀ X f s, FoJ w0 X wb g pg ca cc sl R f s -> cB pg.code.length s.D = .none -> _) := ⟨fun X f s h hi => h.none htop hL0 hi⟩
 have HP : Bx (iK pg sl pr) := ⟨hp⟩
 have HD : Bx (w0.heap.size <= g.db) := ⟨hdb⟩
 clear hp hR hc hV hb q hdb hRR
 simp only [← hes] at HBG
 simp only [← hep] at HFI
 clear hes hep
 go_enter Tryd.func27, Tryd.ntmps27
 go_wp2
 simp only [wP] at HBG
 refine oO 0 (fun f a' W => ∃ (u1 u2 u3 u4 u5 u6 u7 u8 u9 u10 u11 u12 u13 u14 u15 u16 u17 u18 u19 u20 u21 u22 u23 u24 u25 u26 u27 u28 u29 u30 u31 u32 u33 u34 u35 u36 u37 u38 u39 u40 u41 u42 u43 u44 u45 u46 u47 u48 u49 u50 u51 u52 : Value), a' = { tmps := #[.pointer (some ⟨wb, 0, none⟩), u1, u2, u3, u4, u5, u6, u7, u8, u9, u10, u11, u12, u13, u14, u15, u16, u17, u18, u19, u20, u21, u22, u23, u24, u25, u26, u27, u28, u29, u30, u31, u32, u33, u34, u35, u36, u37, u38, u39, u40, u41, u42, u43, u44, u45, u46, u47, u48, u49, u50, u51, u52], defers := [] } /\ Bx (∃ s, FoJ w0 W wb g pg ca cc sl R f s)) (by rfl) ?_ ?_
 ·obtain ⟨W1, hW1⟩ : ∃ W1, (((((w.setCell ⟨wb, 0, none⟩ (.int .i64 pg.params)).setCell ⟨wb, 1, none⟩ (.int .i64 pg.slots)).setCell ⟨wb, 2, none⟩ (.int .i64 pg.caps)).setCell ⟨wb, 3, none⟩ (.bool pg.res)).setCell ⟨wb, 4, none⟩ (.slice ca pg.code.length cc)).alloc (.cells (pgC pg ca cc) 40) = W1 := ⟨_, rfl⟩
  have hp1 : W1.heap[P]? = some (.cells (pgC pg ca cc) 40 (0, 0)) := by
   rw [← hW1]
   exact aj _ _ _ (by simpa using hP)
  have hpp : W1.cell? ⟨P, 1, none⟩ = some (.int .i64 pg.slots) := aa hp1 rfl
  rw [hW1] at HBG
  go_wp2
  clear hp1 hW1 c0 c1 c2 c3 c4 fz
  go_region_held3 (fun w' => w'.cell? ⟨P, 1, none⟩ = some (.int .i64 pg.slots))
   (first | exact HX.out.cells.2.1 | exact hpp)
   (first | (go_at_call 40; refine Calls.mono (HBG.out 1) ?_; rintro e z1 ⟨rfl, HX⟩))
  obtain ⟨_, _, p4, k5, hwz⟩ := HX.out.cells
  obtain ⟨W3, run3, HX3⟩ := HCL.out _ (HX.out.drewN 1)
  have run3' : ∀ ty, (Builtin.clear_ #[67] ty #[.slice (some ⟨g.kb, 0, none⟩) pg.code.length g.n]).run Tryd.prog z1.drew = .ok (.tuple #[]) W3 := run3
  clear run3 hpp HBG HCL
  go_wp2
  go_region
  go_wp2
  have hq3 := HX3.drewN 1
  obtain ⟨p0, _, _, _, hwz3⟩ := hq3.cells
  clear p4 k5 run3' HX
  go_region_held3 (fun w' => w'.cell? ⟨P, 0, none⟩ = some (.int .i64 pg.params))
   (first | exact hq5.cells.1 | exact hq4.cells.1 | exact hq3.cells.1)
   (first
    | (go_at_call 42; refine Calls.mono (HFI.out _ hq3) ?_; rintro e z4 ⟨rfl, hq4⟩)
    | (go_at_call 41; refine Calls.mono (HCO.out _ hq4) ?_; rintro e z5 ⟨bb, rfl, hq5⟩))
  obtain ⟨s, hse⟩ : ∃ s, s = st0 pg.code.length sl pr K := ⟨_, rfl⟩
  have HJ : Bx (FoJ w0 z5 wb g pg ca cc sl R (3 * pg.code.length + 1) s) := ⟨by rw [hse]; exact HST.out _ hq5⟩
  clear hq5 hq4 hq3 HFI HCO HX3 hse
  generalize 3 * pg.code.length + 1 = n at HJ
  go_wp2
  go_step3
  have hcl := HJ.out.cell
  obtain ⟨k6, hwl⟩ := hcl
  cases hi : cB pg.code.length s.D with
  | none =>
   have HF : Bx (Below w0.heap.size w0 z5) := ⟨HJ.out.bel⟩
   obtain ⟨hRe, _⟩ := HJ.out.done hi
   have HW : Bx _ := ⟨HJ.out.ready HD.out hi⟩
   subst hRe
   go_wp2_with (first
    | (go_at_call 43; refine (HN.out _ _ _ HJ.out hi).mono ?_; rintro e z6 ⟨rfl, rfl⟩))
   simp only [Exit.jump]
   go_returns
   exact ⟨rfl, ⟨HF.out, fun _ => HW.out⟩⟩
  | some i =>
   have HS : Bx _ := ⟨HJ.out.step HP.out hi⟩
   have HTT : Bx _ := ⟨HT.out _ _ _ _ HJ.out hi⟩
   generalize hq : bY pg.code.length pg.res (lvS sl) i (inA pg.code i) (kA s.K i) ⟨s.P, s.K, del i s.D⟩ = q at *
   have HS2 := HS.out
   simp only at HS2
   have HH : Bx _ := ⟨HS2⟩
   clear HS HS2 HJ
   by_cases hq0 : q.1 = 0
   ·have hb0 : ((q.1 : Int) != 0) = false := by simp [hq0]
    have HH2 := HH.out
    rw [if_pos hq0] at HH2
    obtain ⟨f2, hf2, h1, h2, h3, h4, h5, h6⟩ := HH2
    have HM : Bx _ := ⟨(⟨h1, h2, h3, h4, h5, h6⟩ : _ /\ _ /\ _ /\ _ /\ _ /\ _)⟩
    clear h1 h2 h3 h4 h5 h6 HH hq0
    go_wp2_with (first
     | (go_at_call 43; refine HTT.out.mono ?_; rintro e z6 ⟨rfl, HL6⟩)
     | (go_at_call 44; refine HL6.out.mono ?_; rintro e z7 ⟨rfl, HL7⟩))
    go_step3
    obtain ⟨bel, mem⟩ := HL7.out
    obtain ⟨h1, h2, h3, h4, h5, h6⟩ := HM.out
    exact ⟨rfl, f2, _, _, _, _, _, _, _, _, _, _, _, _, _, _, _, _, _, _, _, _, _, _, _, _, _, _, _, _, _, _, _, _, _, _, _, _, _, _, _, _, _, _, _, _, _, _, _, _, _, _, _, _, rfl, ⟨q.2, ⟨bel, mem, h2, h3, h4, h5, h6, h1⟩⟩⟩
   ·have hb0 : ((q.1 : Int) != 0) = true := by simp [hq0]
    have HH2 := HH.out
    rw [if_neg hq0] at HH2
    subst HH2
    have HQ : Bx (q.1 ≠ 0) := ⟨hq0⟩
    clear HH hq0
    go_wp2_with (first
     | (go_at_call 43; refine HTT.out.mono ?_; rintro e z6 ⟨rfl, HL6⟩)
     | (go_at_call 44; refine HL6.out.mono ?_; rintro e z7 ⟨rfl, HL7⟩))
    simp only [Exit.jump]
    go_returns
    exact ⟨rfl, ⟨HL7.out.1, fun e => absurd e HQ.out⟩⟩
 ·clear HBG c0 c1 c2 c3 c4 fz HFI HCO HCL HST
  rintro n a' W ⟨u1, u2, u3, u4, u5, u6, u7, u8, u9, u10, u11, u12, u13, u14, u15, u16, u17, u18, u19, u20, u21, u22, u23, u24, u25, u26, u27, u28, u29, u30, u31, u32, u33, u34, u35, u36, u37, u38, u39, u40, u41, u42, u43, u44, u45, u46, u47, u48, u49, u50, u51, u52, rfl, HJs⟩
  obtain ⟨s, HJ'⟩ := HJs.out
  have HJ : Bx _ := ⟨HJ'⟩
  clear HJs HJ'
  have hcl := HJ.out.cell
  obtain ⟨k6, hwl⟩ := hcl
  cases hi : cB pg.code.length s.D with
  | none =>
   have HF : Bx (Below w0.heap.size w0 W) := ⟨HJ.out.bel⟩
   obtain ⟨hRe, _⟩ := HJ.out.done hi
   have HW : Bx _ := ⟨HJ.out.ready HD.out hi⟩
   subst hRe
   go_wp2_with (first
    | (go_at_call 43; refine (HN.out _ _ _ HJ.out hi).mono ?_; rintro e z6 ⟨rfl, rfl⟩))
   simp only [Exit.jump]
   go_returns
   exact ⟨rfl, ⟨HF.out, fun _ => HW.out⟩⟩
  | some i =>
   have HS : Bx _ := ⟨HJ.out.step HP.out hi⟩
   have HTT : Bx _ := ⟨HT.out _ _ _ _ HJ.out hi⟩
   generalize hq : bY pg.code.length pg.res (lvS sl) i (inA pg.code i) (kA s.K i) ⟨s.P, s.K, del i s.D⟩ = q at *
   have HS2 := HS.out
   simp only at HS2
   have HH : Bx _ := ⟨HS2⟩
   clear HS HS2 HJ
   by_cases hq0 : q.1 = 0
   ·have hb0 : ((q.1 : Int) != 0) = false := by simp [hq0]
    have HH2 := HH.out
    rw [if_pos hq0] at HH2
    obtain ⟨f2, hf2, h1, h2, h3, h4, h5, h6⟩ := HH2
    have HM : Bx _ := ⟨(⟨h1, h2, h3, h4, h5, h6⟩ : _ /\ _ /\ _ /\ _ /\ _ /\ _)⟩
    clear h1 h2 h3 h4 h5 h6 HH hq0
    go_wp2_with (first
     | (go_at_call 43; refine HTT.out.mono ?_; rintro e z6 ⟨rfl, HL6⟩)
     | (go_at_call 44; refine HL6.out.mono ?_; rintro e z7 ⟨rfl, HL7⟩))
    go_step3
    obtain ⟨bel, mem⟩ := HL7.out
    obtain ⟨h1, h2, h3, h4, h5, h6⟩ := HM.out
    exact ⟨rfl, f2, by omega, _, _, _, _, _, _, _, _, _, _, _, _, _, _, _, _, _, _, _, _, _, _, _, _, _, _, _, _, _, _, _, _, _, _, _, _, _, _, _, _, _, _, _, _, _, _, _, _, _, _, _, _, rfl, ⟨q.2, ⟨bel, mem, h2, h3, h4, h5, h6, h1⟩⟩⟩
   ·have hb0 : ((q.1 : Int) != 0) = true := by simp [hq0]
    have HH2 := HH.out
    rw [if_neg hq0] at HH2
    subst HH2
    have HQ : Bx (q.1 ≠ 0) := ⟨hq0⟩
    clear HH hq0
    go_wp2_with (first
     | (go_at_call 43; refine HTT.out.mono ?_; rintro e z6 ⟨rfl, HL6⟩)
     | (go_at_call 44; refine HL6.out.mono ?_; rintro e z7 ⟨rfl, HL7⟩))
    simp only [Exit.jump]
    go_returns
    exact ⟨rfl, ⟨HL7.out.1, fun e => absurd e HQ.out⟩⟩
end Go.Proofs.YtadmpgegolmkgaaDoor
