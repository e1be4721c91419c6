import Derived.Test.YtadmpgegolmkgaaDoorCYR
namespace Go.Proofs.YtadmpgegolmkgaaDoor
open Go.RowKit
set_option linter.unusedVariables false
set_option linter.unusedSimpArgs false

theorem come_lp {w0 w : World} {wb kb db eb dc cb n P : Nat} {pv mv : Value} (h0 : 0 < n) (hn3 : n ≤ 3) (h : LP w0 w wb kb db eb dc cb n P pv mv (List.replicate n (0, 0)) 0) :
    Calls Tryd.prog 41 #[.pointer (some ⟨wb, 0, none⟩), .int .i64 0, .agg #[.int .i64 1, .int .u64 0]] w fun e w' => e = .returned (.bool true) ∧ Bx (LP w0 w' wb kb db eb dc cb n P pv mv ((List.replicate n (0, 0)).set 0 (1, 0)) ((2 ^ 0 : Nat) : Int)) :=
  (come_ex w wb kb db eb dc 0 1 2 false _ n 0 pv mv _ h.lk.wk h.lk.kl 0 h0 (by omega) hn3 (fun _ => by simp) 1 0).mono fun e w' hh => by
    obtain ⟨h1, h2⟩ := hh.2.out
    have hs := h.lk.bel.size
    have hg2 := h.lk.g2
    have hg4 := h.lk.g4
    have m2 := h.m2
    have m4 := h.m4
    exact ⟨hh.1, ⟨⟨h1, h.lk.bel.trans (h2.bel hs (fun k hk e => by rcases e with e | e <;> omega)), h.lk.g1, h.lk.g2, h.lk.g3, h.lk.g4, by simp⟩, (h2.block _ (Array.getElem?_eq_some_iff.1 h.ph).1 (fun e => by rcases e with e | e <;> omega)).trans h.ph, h.m1, h.m2, h.m4⟩⟩
/-- what follow answers -/
def fPost (w0 : World) (l : List (Int × Int)) (wb kb db eb dc cb n : Nat) (e : Ending) (w' : World) : Prop :=
  e = .returned (.tuple #[.int .i64 (if l = exB then 1 else 0), .int .i64 (if l = exB then 94 else 0)]) ∧ Bx (Below w0.heap.size w0 w' ∧ (l ≠ exB → ∃ pv mv K, Sg l n K 0 ∧ LK w0 w' wb kb db eb dc cb n pv mv K 0))
set_option maxRecDepth 100000 in
set_option maxHeartbeats 8000000 in
theorem follow_ex {w0 w : World} {wb kb db eb dc cb pb n : Nat} {l : List (Int × Int)} (hU : UE w0 pb cb l) (hV : VW w0) (hl : l.length = n) (hE : l = exA ∨ l = exB ∨ l = exC) (hW : WK w wb kb db eb dc (wkO 0 0 0 false (.slice none 0 0) kb n db dc 0 (.slice none 0 0) (.map none)) (List.replicate n (0, 0)) 0) (hb : Below w0.heap.size w0 w) (g1 : w0.heap.size ≤ wb) (g2 : w0.heap.size ≤ kb) (g3 : w0.heap.size ≤ db) (g4 : w0.heap.size ≤ eb) :
    Calls Tryd.prog 27 #[.pointer (some ⟨wb, 0, none⟩), .agg #[.int .i64 0, .int .i64 1, .int .i64 2, .bool false, .slice (some ⟨cb, 0, none⟩) n n]] w (fPost w0 l wb kb db eb dc cb n) := by
  obtain ⟨P, hP⟩ : ∃ P, w.heap.size = P := ⟨_, rfl⟩
  have hn0 : 0 < n := hl ▸ hU.pos
  have hn3 : n ≤ 3 := hl ▸ hU.len
  obtain ⟨l1, l2, l3, l4⟩ := hW.lts
  rw [hP] at l1 l2 l3 l4
  have q := hW.wk
  unfold wkO at q
  have c0 : w.cell? ⟨wb, 0, none⟩ = some (.int .i64 0) := (cell_of_row w _ 0 _ _ _ q).trans rfl
  have c1 : w.cell? ⟨wb, 1, none⟩ = some (.int .i64 0) := (cell_of_row w _ 1 _ _ _ q).trans rfl
  have c2 : w.cell? ⟨wb, 2, none⟩ = some (.int .i64 0) := (cell_of_row w _ 2 _ _ _ q).trans rfl
  have c3 : w.cell? ⟨wb, 3, none⟩ = some (.bool false) := (cell_of_row w _ 3 _ _ _ q).trans rfl
  have c4 : w.cell? ⟨wb, 4, none⟩ = some (.slice none 0 0) := (cell_of_row w _ 4 _ _ _ q).trans rfl
  have fz : ∀ k, w.frozen? ⟨wb, k, none⟩ = false := fun k => by simp [World.frozen?, q]
  have HBG : Bx (∀ k, _) := ⟨fun k => begin_lp (cb := cb) hW hb g1 g2 g3 g4 k⟩
  rw [hP] at HBG
  have HG : Bx (∀ X pv mv K (j : Nat), LK w0 X wb kb db eb dc cb n pv mv K 0 → Sg l j K ((2 ^ j : Nat) : Int) → ¬ (l = exB ∧ j = 1) → Calls Tryd.prog 44 #[.pointer (some ⟨wb, 0, none⟩), .int .i64 j] X fun e w' => e = .returned (.int .i64 0) ∧ Bx (∃ K' x', LK w0 w' wb kb db eb dc cb n pv mv K' x' ∧ Sg l (j + 1) K' x')) := ⟨fun X pv mv K j h1 h2 h3 => look_good h1 hU hV hl h2 h3⟩
  have HBD : Bx (∀ X pv mv K (j : Nat), LK w0 X wb kb db eb dc cb n pv mv K 0 → Sg l j K ((2 ^ j : Nat) : Int) → l = exB ∧ j = 1 → Calls Tryd.prog 44 #[.pointer (some ⟨wb, 0, none⟩), .int .i64 j] X fun e w' => e = .returned (.int .i64 94) ∧ Bx (Below w0.heap.size w0 w')) := ⟨fun X pv mv K j h1 h2 h3 => look_worse h1 hU hV hl h2 h3⟩
  have HT : Bx (∀ X pv mv K (j : Nat), j < 3 → LK w0 X wb kb db eb dc cb n pv mv K ((2 ^ j : Nat) : Int) → Calls Tryd.prog 43 #[.slice (some ⟨db, 0, none⟩) 1 dc] X fun e w' => e = .returned (.tuple #[.int .i64 j, .bool true]) ∧ Bx (LK w0 w' wb kb db eb dc cb n pv mv K 0)) := ⟨fun X pv mv K j hj h1 => take_lk hV j hj h1⟩
  have HSG : Bx (Sg l 0 (exK l) ((2 ^ 0 : Nat) : Int)) := ⟨exK_sg hE⟩
  have HK : exK l = (List.replicate n (0, 0)).set 0 (1, 0) := by unfold exK; rw [hl]
  rw [HK] at HSG
  clear HK hW q hb hU hV
  go_enter Tryd.func27, Tryd.ntmps27
  go_wp2
  simp only [wS] at HBG
  refine wp_scope_jumps 0 (fun a' W => ∃ (i : Nat) (u1 u2 u3 u4 u5 u7 u8 u9 u10 u11 u12 u13 u14 u15 u16 u17 u18 u19 u20 u21 u22 u23 u24 u25 u26 u27 u28 u29 u30 u31 u32 u33 u34 u35 u36 u37 u38 u39 u40 u41 u42 u43 u44 u45 u46 u47 u48 u49 u50 u51 u52 : Value), a' = { tmps := #[.pointer (some ⟨wb, 0, none⟩), u1, u2, u3, u4, u5, .int .i64 (i : Int), u7, u8, u9, u10, u11, u12, u13, u14, u15, u16, u17, u18, u19, u20, u21, u22, u23, u24, u25, u26, u27, u28, u29, u30, u31, u32, u33, u34, u35, u36, u37, u38, u39, u40, u41, u42, u43, u44, u45, u46, u47, u48, u49, u50, u51, u52], defers := [] } ∧ i < 3 ∧ Bx (∃ pv mv K x, LK w0 W wb kb db eb dc cb n pv mv K x ∧ Sg l (i + 1) K x)) (fun a' _ => 3 - (intOf (a'.tmps.getD 6 undef)).toNat) (by rfl) ?_ ?_
  · obtain ⟨W1, hW1⟩ : ∃ W1, (((((w.setCell ⟨wb, 0, none⟩ (.int .i64 0)).setCell ⟨wb, 1, none⟩ (.int .i64 1)).setCell ⟨wb, 2, none⟩ (.int .i64 2)).setCell ⟨wb, 3, none⟩ (.bool false)).setCell ⟨wb, 4, none⟩ (.slice (some ⟨cb, 0, none⟩) n n)).alloc (.cells #[.int .i64 0, .int .i64 1, .int .i64 2, .bool false, .slice (some ⟨cb, 0, none⟩) n n] 40) = W1 := ⟨_, rfl⟩
    have hp1 : W1.heap[P]? = some (.cells #[.int .i64 0, .int .i64 1, .int .i64 2, .bool false, .slice (some ⟨cb, 0, none⟩) n n] 40 (0, 0)) := by
      have := heap_alloc_new (wS w wb cb n) (.cells #[.int .i64 0, .int .i64 1, .int .i64 2, .bool false, .slice (some ⟨cb, 0, none⟩) n n] 40)
      have hs : (wS w wb cb n).heap.size = P := by unfold wS; simpa using hP
      rw [hs] at this
      rw [← hW1]
      exact this
    have hpp : W1.cell? ⟨P, 1, none⟩ = some (.int .i64 1) := (cell_of_row W1 _ 1 _ _ _ hp1).trans rfl
    rw [hW1] at HBG
    go_wp2
    clear hp1 hW1 c0 c1 c2 c3 c4 fz
    go_region_held3 (fun w' => w'.cell? ⟨P, 1, none⟩ = some (.int .i64 1))
      (first | exact HX.out.cells.2.1 | exact hpp)
      (first | (go_at_call 40; refine Calls.mono (HBG.out 1) ?_; rintro e z1 ⟨rfl, pv, mv, HX⟩))
    obtain ⟨_, _, p4⟩ := HX.out.cells
    obtain ⟨_, _, k5, _, _, hwz⟩ := HX.out.lk.cells
    obtain ⟨W3, run3, HX3⟩ := clear_lp hn0 hn3 (HX.out.drewN 1)
    have run3' : ∀ ty, (Builtin.clear_ #[67] ty #[.slice (some ⟨kb, 0, none⟩) n n]).run Tryd.prog z1.drew = .ok (.tuple #[]) W3 := run3
    clear run3 hpp HBG
    go_wp2
    go_region
    go_wp2
    have hq3 := HX3.out.drewN 1
    have HFI : Bx (∀ X, LP w0 X wb kb db eb dc cb n P pv mv (List.replicate n (0, 0)) 0 → Calls Tryd.prog 42 #[.pointer (some ⟨wb, 7, none⟩), .int .i64 0] X fun e w' => e = .returned (.int .u64 0) ∧ LP w0 w' wb kb db eb dc cb n P pv mv (List.replicate n (0, 0)) 0) := ⟨fun X hX => (first_ex X wb hX.lk.cells.2.2.2.2.1).mono fun e w' hh => ⟨hh.1, by obtain ⟨k, rfl⟩ := hh.2; exact hX.drewN k⟩⟩
    have HCO : Bx (∀ X, LP w0 X wb kb db eb dc cb n P pv mv (List.replicate n (0, 0)) 0 → _) := ⟨fun X hX => come_lp hn0 hn3 hX⟩
    clear p4 k5 run3'
    go_region_held3 (fun w' => w'.cell? ⟨P, 0, none⟩ = some (.int .i64 0))
      (first | exact HX5.out.cells.1 | exact hq4.cells.1 | exact hq3.cells.1)
      (first
        | (go_at_call 42; refine Calls.mono (HFI.out _ hq3) ?_; rintro e z4 ⟨rfl, hq4⟩)
        | (go_at_call 41; refine Calls.mono (HCO.out _ hq4) ?_; rintro e z5 ⟨rfl, HX5⟩))
    have HLK : Bx _ := ⟨HX5.out.lk⟩
    obtain ⟨_, _, _, k6, _, hwl5⟩ := HX5.out.lk.cells
    clear HX HX3 hq3 hq4 HFI HCO HX5
    go_wp2
    go_step3
    go_wp2_with (first
      | (go_at_call 43; refine (HT.out _ _ _ _ 0 (by omega) HLK.out).mono ?_; rintro e z6 ⟨rfl, HL6⟩)
      | (go_at_call 44; refine (HG.out _ _ _ _ 0 HL6.out HSG.out (fun h => by omega)).mono ?_; rintro e z7 ⟨rfl, HL7⟩))
    go_step3
    refine ⟨rfl, 0, _, _, _, _, _, _, _, _, _, _, _, _, _, _, _, _, _, _, _, _, _, _, _, _, _, _, _, _, _, _, _, _, _, _, _, _, _, _, _, _, _, _, _, _, _, _, _, _, _, _, _, rfl, by omega, ⟨?_⟩⟩
    obtain ⟨K', x', h1, h2⟩ := HL7.out
    exact ⟨_, _, K', x', h1, h2⟩
  · clear HBG c0 c1 c2 c3 c4 fz HSG
    rintro a' W ⟨i, u1, u2, u3, u4, u5, u7, u8, u9, u10, u11, u12, u13, u14, u15, u16, u17, u18, u19, u20, u21, u22, u23, u24, u25, u26, u27, u28, u29, u30, u31, u32, u33, u34, u35, u36, u37, u38, u39, u40, u41, u42, u43, u44, u45, u46, u47, u48, u49, u50, u51, u52, rfl, hi3, HJ⟩
    obtain ⟨pv, mv, K, x, hLK, hSg⟩ := HJ.out
    clear HJ
    obtain ⟨_, _, _, k6, _, hwl5⟩ := hLK.cells
    rcases hSg.lt with ⟨rfl, hjn, hnB, _⟩ | ⟨rfl, hj3, hjl⟩
    · have HT0 := take_no W db eb dc hLK.wk.du
      have HF : Bx (Below w0.heap.size w0 W ∧ (l ≠ exB → ∃ pv mv K, Sg l n K 0 ∧ LK w0 W wb kb db eb dc cb n pv mv K 0)) := ⟨hLK.bel, fun _ => ⟨pv, mv, K, by rw [← hl, ← hjn]; exact hSg, hLK⟩⟩
      clear hLK hSg
      go_wp2_with (first
        | (go_at_call 43; refine HT0.mono ?_; rintro e z6 ⟨rfl, rfl⟩))
      simp only [Exit.jump]
      go_returns
      unfold fPost
      rw [if_neg hnB, if_neg hnB]
      exact ⟨rfl, HF⟩
    · have HLK : Bx _ := ⟨hLK⟩
      have HSg : Bx _ := ⟨hSg⟩
      have hc1 : ((i + 1 : Nat) : Int) = (i : Int) + 1 := by omega
      clear hLK hSg
      by_cases hbad : l = exB ∧ i + 1 = 1
      · obtain ⟨hB, hi0⟩ := hbad
        obtain rfl : i = 0 := by omega
        have HT1 := HT.out _ _ _ _ 1 (by omega) HLK.out
        have HB1 : Bx (∀ X, LK w0 X wb kb db eb dc cb n pv mv K 0 → _) := ⟨fun X hX => HBD.out X _ _ _ 1 hX HSg.out ⟨hB, rfl⟩⟩
        try simp only [Int.natCast_one] at HT1 HB1
        unfold fPost
        rw [if_pos hB, if_pos hB]
        clear HT HBD HG HSg HLK hc1
        go_wp2_with (first
          | (go_at_call 43; refine HT1.mono ?_; clear HT1; rintro e z6 ⟨rfl, HL6⟩)
          | (go_at_call 44; refine (HB1.out _ HL6.out).mono ?_; clear HB1; rintro e z7 ⟨rfl, HL7⟩))
        simp only [Exit.jump]
        go_returns
        first | exact ⟨rfl, ⟨HL7.out, fun h => absurd hB h⟩⟩ | exact ⟨rfl, ⟨HL7.out⟩⟩ | exact ⟨rfl, HL7⟩
      · go_wp2_with (first
          | (go_at_call 43; refine (HT.out _ _ _ _ (i + 1) hj3 HLK.out).mono ?_; rintro e z6 ⟨rfl, HL6⟩)
          | (go_at_call 44; refine (HG.out _ _ _ _ (i + 1) HL6.out HSg.out hbad).mono ?_; rintro e z7 ⟨rfl, HL7⟩))
        go_step3
        refine ⟨rfl, ⟨i + 1, _, _, _, _, _, _, _, _, _, _, _, _, _, _, _, _, _, _, _, _, _, _, _, _, _, _, _, _, _, _, _, _, _, _, _, _, _, _, _, _, _, _, _, _, _, _, _, _, _, _, _, rfl, hj3, ⟨?_⟩⟩, ?_⟩
        · obtain ⟨K', x', h1, h2⟩ := HL7.out
          exact ⟨_, _, K', x', h1, h2⟩
        · simp [intOf]
          omega
end Go.Proofs.YtadmpgegolmkgaaDoor
