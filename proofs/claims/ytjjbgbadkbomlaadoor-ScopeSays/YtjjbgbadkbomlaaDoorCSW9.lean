import Derived.Test.YtjjbgbadkbomlaaDoorCSW7
import Derived.Deep.RegionHeld
namespace Go.Proofs.YtjjbgbadkbomlaaDoor
open Go.RowKit Go.Maps
set_option linter.unusedVariables false
set_option linter.unusedSimpArgs false
set_option maxHeartbeats 2000000 in
set_option maxRecDepth 100000 in
theorem block_p {B nb no nc : Nat} {l : List Nd} {W0 W : World} {s : SSt} {G0 G : WG} (h : ST B nb no nc l W0 G0 W s G) (hbk : s.blocks < 1099511627776) (caps : Array Value) (ins : SSt → SSt)
    (HI : ∀ W1, ST B nb no nc l W1 (entG G) W1 { s with dcl := [], blocks := s.blocks + 1 } (entG G) → Fr B W G W1 (entG G) → Calls Tryd.prog 43 caps W1 fun e W2 => e = .returned (.tuple #[]) ∧ ∃ G2, ST B nb no nc l W1 (entG G) W2 (ins { s with dcl := [], blocks := s.blocks + 1 }) G2 ∧ G2.wb = G.wb)
    (hwf : SWf l (ins { s with dcl := [], blocks := s.blocks + 1 })) (hms : (ins { s with dcl := [], blocks := s.blocks + 1 }).ms.length < 4294967296) (hblk : (ins { s with dcl := [], blocks := s.blocks + 1 }).blocks = s.blocks + 1) (hdl : (ins { s with dcl := [], blocks := s.blocks + 1 }).dcl.length < 4294967296) :
    Calls Tryd.prog 27 #[.pointer (some ⟨G.wb, 0, none⟩), .func (.func 43) #[] caps] W fun e W' => e = .returned (.tuple #[]) ∧ ∃ G', ST B nb no nc l W0 G0 W' (blockP ins s) G' ∧ G'.wb = G.wb := by
  have w6 := h.rel.cw 6
  have w7 := h.rel.cw 7
  simp only [wlkC] at w6 w7
  simp at w6 w7
  have f6 := h.rel.fw 6
  have f7 := h.rel.fw 7
  generalize hW1 : (W.setCell ⟨G.wb, 7, none⟩ (.slice none 0 0)).setCell ⟨G.wb, 6, none⟩ (.int .i64 ((s.blocks : Int) + 1)) = W1
  obtain ⟨hr1, hf1⟩ := h.rel.enter (W' := W1) (by rw [← hW1]; rfl)
  have hst1 : ST B nb no nc l W1 (entG G) W1 { s with dcl := [], blocks := s.blocks + 1 } (entG G) := ST.start hr1 (h.nds.below hf1.bel)
  have HC := Bx.mk (HI W1 hst1 hf1)
  have ho1 : Onl G.wb W W1 := by rw [← hW1]; exact (Onl.set _ _ _ _).trans (Onl.set _ _ _ _)
  have hbP : blockP ins s = { outsP (ins { s with dcl := [], blocks := s.blocks + 1 }) (ins { s with dcl := [], blocks := s.blocks + 1 }).dcl.length with blocks := (outsP (ins { s with dcl := [], blocks := s.blocks + 1 }) (ins { s with dcl := [], blocks := s.blocks + 1 }).dcl.length).blocks - 1, dcl := s.dcl } := by
    unfold blockP outsP; rw [List.take_of_length_le (Nat.le_refl _)]
  generalize hs1 : ins { s with dcl := [], blocks := s.blocks + 1 } = s1 at *
  have HZ : Bx (∀ wr G2, BlS B nb no nc l W1 (entG G) G2 s1 s1.dcl.length wr → ∃ G', ST B nb no nc l W0 G0 ((wr.setCell ⟨G.wb, 6, none⟩ (.int .i64 (s.blocks : Int))).setCell ⟨G.wb, 7, none⟩ G.dv) (blockP ins s) G' ∧ G'.wb = G.wb) := ⟨fun wr G2 hb => by
    have hbl : (outsP s1 s1.dcl.length).blocks = s.blocks + 1 := by rw [(outsP_form hwf _).1]; exact hblk
    have := h.rel.leave (Wf := (wr.setCell ⟨G.wb, 6, none⟩ (.int .i64 (s.blocks : Int))).setCell ⟨G.wb, 7, none⟩ G.dv) hf1 ho1.size (fun b hb => ho1.block b fun e => by have := h.rel.ldv b hb; rw [e, h.rel.lwb] at this; cases this) hb.st.fr hb.st.rel (by rw [hbl]; rfl)
    exact ⟨leaG G2 G.dv, by rw [hbP]; exact h.step this.1 this.2, hb.st.fr.wb⟩⟩
  have HS0 : Bx (∀ W2 G2, ST B nb no nc l W1 (entG G) W2 s1 G2 → BlS B nb no nc l W1 (entG G) G2 s1 0 W2) := ⟨fun W2 G2 h2 => ⟨h2⟩⟩
  have HR := Bx.mk fun (wr : World) (G2 : WG) (j : Nat) (hb : BlS B nb no nc l W1 (entG G) G2 s1 j wr) (hj : j < s1.dcl.length) => hb.round hwf hj hms
  have HFm := Bx.mk fun j => (outsP_form hwf j).1
  obtain ⟨da0, dc0, hdf0⟩ := row_form h.rel.hdv
  rw [hdf0] at w7 HZ
  clear h hr1 hf1 hst1 HI hwf hs1 ho1 hbP
  go_enter Tryd.func27, Tryd.ntmps27
  go_wp2_with (first
    | (go_at_call 43; refine Calls.mono HC.out ?_; rintro e W2 ⟨rfl, G2, h2, hwb⟩; replace h2 := Bx.mk h2; have x7 : W2.cell? ⟨G.wb, 7, none⟩ = some G2.dv := (by rw [← hwb]; exact h2.out.rel.cw 7); obtain ⟨da, dcp, hdf⟩ := row_form h2.out.rel.hdv; rw [hdf] at x7; clear HC w6 w7 f6 f7 hW1))
  go_loopw [29] (fun x wr => ∃ j : Nat, x = .int .i64 j ∧ j ≤ s1.dcl.length ∧ Bx (BlS B nb no nc l W1 (entG G) G2 s1 j wr)) (fun x _ => s1.dcl.length - (intOf x).toNat)
  case atStart => exact ⟨0, rfl, Nat.zero_le _, ⟨HS0.out _ _ h2.out⟩⟩
  case round =>
    obtain ⟨j, rfl, hj, HS⟩ := hrel
    have y5 : wr.cell? ⟨G.wb, 5, none⟩ = some (.map (some G2.mb)) := by rw [← hwb]; exact HS.out.st.rel.cw 5
    by_cases hjl : j < s1.dcl.length
    · obtain ⟨g, rfl⟩ : ∃ g, da = some ⟨g, 0, none⟩ := by
        rcases row_some h2.out.rel.hdv with ⟨_, e⟩ | ⟨g, cap, e⟩
        · omega
        · rw [hdf] at e
          simp only [Value.slice.injEq] at e
          exact ⟨g, e.1⟩
      have hce : wr.cell? ⟨g, j, none⟩ = some (.string s1.dcl[j]) := by
        have hr := HS.out.st.rel.hdv
        rw [hdf, HFm.out j] at hr
        have := row_cell hr (j := j) hjl
        rw [this]
        simp [hjl]
      obtain ⟨m, o, hlook, hmc, hkey, D, hown, HW⟩ := HR.out wr G2 j HS.out hjl
      replace HW := Bx.mk HW
      rw [hwb] at HW
      have hbe : s1.dcl.length < 4294967296 := hdl
      generalize s1.dcl[j] = nm at *
      clear HS HR HS0 HFm
      cases o with
      | none =>
        unfold outV at hmc
        go_wp2_with (first
          | (at_delete; refine wpList_delete_own _ rfl _ _ 52 9 rfl 61 keyedS Tryd.underlying52 _ G2.mb _ D rfl hown _ _ rfl hkey ?_; intro W3 hown3 hturn3; obtain ⟨z5, HN, _⟩ := HW.out W3 hown3 hturn3; replace HN := Bx.mk (HN rfl); clear hown3 hturn3))
        go_roundw
        case rel => exact ⟨j + 1, by go_num, by omega, HN⟩
        case measure => simp [intOf]; omega
      | some m' =>
        unfold outV ptrV at hmc
        go_wp2_with (first
          | (at_delete; refine wpList_delete_own _ rfl _ _ 52 9 rfl 61 keyedS Tryd.underlying52 _ G2.mb _ D rfl hown _ _ rfl hkey ?_; intro W3 hown3 hturn3; obtain ⟨z5, _, HN⟩ := HW.out W3 hown3 hturn3; obtain ⟨W4, hrun, HN⟩ := HN m' rfl; replace HN := Bx.mk HN; clear hown3 hturn3))
        go_roundw
        case rel => exact ⟨j + 1, by go_num, by omega, HN⟩
        case measure => simp [intOf]; omega
    · have hje : j = s1.dcl.length := by omega
      have hbl : (outsP s1 j).blocks = s.blocks + 1 := by rw [HFm.out j]; exact hblk
      have y6 : wr.cell? ⟨G.wb, 6, none⟩ = some (.int .i64 ((s.blocks : Int) + 1)) := by
        have := HS.out.st.rel.cw 6
        rw [hwb] at this
        rw [this]
        simp [wlkC, hbl]
      have y7 : wr.cell? ⟨G.wb, 7, none⟩ = some (.slice da s1.dcl.length dcp) := by
        have := HS.out.st.rel.cw 7
        rw [hwb] at this
        rw [this, ← hdf]
        rfl
      have g6 : wr.frozen? ⟨G.wb, 6, none⟩ = false := by rw [← hwb]; exact HS.out.st.rel.fw 6
      have g7 : wr.frozen? ⟨G.wb, 7, none⟩ = false := by rw [← hwb]; exact HS.out.st.rel.fw 7
      have HE := Bx.mk (HZ.out wr G2 (by rw [← hje]; exact HS.out))
      clear HS HR HS0 HFm HZ hbl
      go_wp2
      go_end0
      refine ⟨rfl, ?_⟩
      simpa using HE.out
set_option maxHeartbeats 2000000 in
set_option maxRecDepth 100000 in
theorem block_q {B nb no nc : Nat} {l : List Nd} {W0 W : World} {s : SSt} {G0 G : WG} (h : ST B nb no nc l W0 G0 W s G) (hbk : s.blocks < 1099511627776) (caps : Array Value) (ins : SSt → SSt)
    (HI : ∀ W1, ST B nb no nc l W1 (entG G) W1 { s with dcl := [], blocks := s.blocks + 1 } (entG G) → Fr B W G W1 (entG G) → Calls Tryd.prog 44 caps W1 fun e W2 => e = .returned (.tuple #[]) ∧ ∃ G2, ST B nb no nc l W1 (entG G) W2 (ins { s with dcl := [], blocks := s.blocks + 1 }) G2 ∧ G2.wb = G.wb)
    (hwf : SWf l (ins { s with dcl := [], blocks := s.blocks + 1 })) (hms : (ins { s with dcl := [], blocks := s.blocks + 1 }).ms.length < 4294967296) (hblk : (ins { s with dcl := [], blocks := s.blocks + 1 }).blocks = s.blocks + 1) (hdl : (ins { s with dcl := [], blocks := s.blocks + 1 }).dcl.length < 4294967296) :
    Calls Tryd.prog 27 #[.pointer (some ⟨G.wb, 0, none⟩), .func (.func 44) #[] caps] W fun e W' => e = .returned (.tuple #[]) ∧ ∃ G', ST B nb no nc l W0 G0 W' (blockP ins s) G' ∧ G'.wb = G.wb := by
  have w6 := h.rel.cw 6
  have w7 := h.rel.cw 7
  simp only [wlkC] at w6 w7
  simp at w6 w7
  have f6 := h.rel.fw 6
  have f7 := h.rel.fw 7
  generalize hW1 : (W.setCell ⟨G.wb, 7, none⟩ (.slice none 0 0)).setCell ⟨G.wb, 6, none⟩ (.int .i64 ((s.blocks : Int) + 1)) = W1
  obtain ⟨hr1, hf1⟩ := h.rel.enter (W' := W1) (by rw [← hW1]; rfl)
  have hst1 : ST B nb no nc l W1 (entG G) W1 { s with dcl := [], blocks := s.blocks + 1 } (entG G) := ST.start hr1 (h.nds.below hf1.bel)
  have HC := Bx.mk (HI W1 hst1 hf1)
  have ho1 : Onl G.wb W W1 := by rw [← hW1]; exact (Onl.set _ _ _ _).trans (Onl.set _ _ _ _)
  have hbP : blockP ins s = { outsP (ins { s with dcl := [], blocks := s.blocks + 1 }) (ins { s with dcl := [], blocks := s.blocks + 1 }).dcl.length with blocks := (outsP (ins { s with dcl := [], blocks := s.blocks + 1 }) (ins { s with dcl := [], blocks := s.blocks + 1 }).dcl.length).blocks - 1, dcl := s.dcl } := by
    unfold blockP outsP; rw [List.take_of_length_le (Nat.le_refl _)]
  generalize hs1 : ins { s with dcl := [], blocks := s.blocks + 1 } = s1 at *
  have HZ : Bx (∀ wr G2, BlS B nb no nc l W1 (entG G) G2 s1 s1.dcl.length wr → ∃ G', ST B nb no nc l W0 G0 ((wr.setCell ⟨G.wb, 6, none⟩ (.int .i64 (s.blocks : Int))).setCell ⟨G.wb, 7, none⟩ G.dv) (blockP ins s) G' ∧ G'.wb = G.wb) := ⟨fun wr G2 hb => by
    have hbl : (outsP s1 s1.dcl.length).blocks = s.blocks + 1 := by rw [(outsP_form hwf _).1]; exact hblk
    have := h.rel.leave (Wf := (wr.setCell ⟨G.wb, 6, none⟩ (.int .i64 (s.blocks : Int))).setCell ⟨G.wb, 7, none⟩ G.dv) hf1 ho1.size (fun b hb => ho1.block b fun e => by have := h.rel.ldv b hb; rw [e, h.rel.lwb] at this; cases this) hb.st.fr hb.st.rel (by rw [hbl]; rfl)
    exact ⟨leaG G2 G.dv, by rw [hbP]; exact h.step this.1 this.2, hb.st.fr.wb⟩⟩
  have HS0 : Bx (∀ W2 G2, ST B nb no nc l W1 (entG G) W2 s1 G2 → BlS B nb no nc l W1 (entG G) G2 s1 0 W2) := ⟨fun W2 G2 h2 => ⟨h2⟩⟩
  have HR := Bx.mk fun (wr : World) (G2 : WG) (j : Nat) (hb : BlS B nb no nc l W1 (entG G) G2 s1 j wr) (hj : j < s1.dcl.length) => hb.round hwf hj hms
  have HFm := Bx.mk fun j => (outsP_form hwf j).1
  obtain ⟨da0, dc0, hdf0⟩ := row_form h.rel.hdv
  rw [hdf0] at w7 HZ
  clear h hr1 hf1 hst1 HI hwf hs1 ho1 hbP
  go_enter Tryd.func27, Tryd.ntmps27
  go_wp2_with (first
    | (go_at_call 44; refine Calls.mono HC.out ?_; rintro e W2 ⟨rfl, G2, h2, hwb⟩; replace h2 := Bx.mk h2; have x7 : W2.cell? ⟨G.wb, 7, none⟩ = some G2.dv := (by rw [← hwb]; exact h2.out.rel.cw 7); obtain ⟨da, dcp, hdf⟩ := row_form h2.out.rel.hdv; rw [hdf] at x7; clear HC w6 w7 f6 f7 hW1))
  go_loopw [29] (fun x wr => ∃ j : Nat, x = .int .i64 j ∧ j ≤ s1.dcl.length ∧ Bx (BlS B nb no nc l W1 (entG G) G2 s1 j wr)) (fun x _ => s1.dcl.length - (intOf x).toNat)
  case atStart => exact ⟨0, rfl, Nat.zero_le _, ⟨HS0.out _ _ h2.out⟩⟩
  case round =>
    obtain ⟨j, rfl, hj, HS⟩ := hrel
    have y5 : wr.cell? ⟨G.wb, 5, none⟩ = some (.map (some G2.mb)) := by rw [← hwb]; exact HS.out.st.rel.cw 5
    by_cases hjl : j < s1.dcl.length
    · obtain ⟨g, rfl⟩ : ∃ g, da = some ⟨g, 0, none⟩ := by
        rcases row_some h2.out.rel.hdv with ⟨_, e⟩ | ⟨g, cap, e⟩
        · omega
        · rw [hdf] at e
          simp only [Value.slice.injEq] at e
          exact ⟨g, e.1⟩
      have hce : wr.cell? ⟨g, j, none⟩ = some (.string s1.dcl[j]) := by
        have hr := HS.out.st.rel.hdv
        rw [hdf, HFm.out j] at hr
        have := row_cell hr (j := j) hjl
        rw [this]
        simp [hjl]
      obtain ⟨m, o, hlook, hmc, hkey, D, hown, HW⟩ := HR.out wr G2 j HS.out hjl
      replace HW := Bx.mk HW
      rw [hwb] at HW
      have hbe : s1.dcl.length < 4294967296 := hdl
      generalize s1.dcl[j] = nm at *
      clear HS HR HS0 HFm
      cases o with
      | none =>
        unfold outV at hmc
        go_wp2_with (first
          | (at_delete; refine wpList_delete_own _ rfl _ _ 52 9 rfl 61 keyedS Tryd.underlying52 _ G2.mb _ D rfl hown _ _ rfl hkey ?_; intro W3 hown3 hturn3; obtain ⟨z5, HN, _⟩ := HW.out W3 hown3 hturn3; replace HN := Bx.mk (HN rfl); clear hown3 hturn3))
        go_roundw
        case rel => exact ⟨j + 1, by go_num, by omega, HN⟩
        case measure => simp [intOf]; omega
      | some m' =>
        unfold outV ptrV at hmc
        go_wp2_with (first
          | (at_delete; refine wpList_delete_own _ rfl _ _ 52 9 rfl 61 keyedS Tryd.underlying52 _ G2.mb _ D rfl hown _ _ rfl hkey ?_; intro W3 hown3 hturn3; obtain ⟨z5, _, HN⟩ := HW.out W3 hown3 hturn3; obtain ⟨W4, hrun, HN⟩ := HN m' rfl; replace HN := Bx.mk HN; clear hown3 hturn3))
        go_roundw
        case rel => exact ⟨j + 1, by go_num, by omega, HN⟩
        case measure => simp [intOf]; omega
    · have hje : j = s1.dcl.length := by omega
      have hbl : (outsP s1 j).blocks = s.blocks + 1 := by rw [HFm.out j]; exact hblk
      have y6 : wr.cell? ⟨G.wb, 6, none⟩ = some (.int .i64 ((s.blocks : Int) + 1)) := by
        have := HS.out.st.rel.cw 6
        rw [hwb] at this
        rw [this]
        simp [wlkC, hbl]
      have y7 : wr.cell? ⟨G.wb, 7, none⟩ = some (.slice da s1.dcl.length dcp) := by
        have := HS.out.st.rel.cw 7
        rw [hwb] at this
        rw [this, ← hdf]
        rfl
      have g6 : wr.frozen? ⟨G.wb, 6, none⟩ = false := by rw [← hwb]; exact HS.out.st.rel.fw 6
      have g7 : wr.frozen? ⟨G.wb, 7, none⟩ = false := by rw [← hwb]; exact HS.out.st.rel.fw 7
      have HE := Bx.mk (HZ.out wr G2 (by rw [← hje]; exact HS.out))
      clear HS HR HS0 HFm HZ hbl
      go_wp2
      go_end0
      refine ⟨rfl, ?_⟩
      simpa using HE.out
set_option maxHeartbeats 2000000 in
set_option maxRecDepth 100000 in
theorem block_r {B nb no nc : Nat} {l : List Nd} {W0 W : World} {s : SSt} {G0 G : WG} (h : ST B nb no nc l W0 G0 W s G) (hbk : s.blocks < 1099511627776) (caps : Array Value) (ins : SSt → SSt)
    (HI : ∀ W1, ST B nb no nc l W1 (entG G) W1 { s with dcl := [], blocks := s.blocks + 1 } (entG G) → Fr B W G W1 (entG G) → Calls Tryd.prog 45 caps W1 fun e W2 => e = .returned (.tuple #[]) ∧ ∃ G2, ST B nb no nc l W1 (entG G) W2 (ins { s with dcl := [], blocks := s.blocks + 1 }) G2 ∧ G2.wb = G.wb)
    (hwf : SWf l (ins { s with dcl := [], blocks := s.blocks + 1 })) (hms : (ins { s with dcl := [], blocks := s.blocks + 1 }).ms.length < 4294967296) (hblk : (ins { s with dcl := [], blocks := s.blocks + 1 }).blocks = s.blocks + 1) (hdl : (ins { s with dcl := [], blocks := s.blocks + 1 }).dcl.length < 4294967296) :
    Calls Tryd.prog 27 #[.pointer (some ⟨G.wb, 0, none⟩), .func (.func 45) #[] caps] W fun e W' => e = .returned (.tuple #[]) ∧ ∃ G', ST B nb no nc l W0 G0 W' (blockP ins s) G' ∧ G'.wb = G.wb := by
  have w6 := h.rel.cw 6
  have w7 := h.rel.cw 7
  simp only [wlkC] at w6 w7
  simp at w6 w7
  have f6 := h.rel.fw 6
  have f7 := h.rel.fw 7
  generalize hW1 : (W.setCell ⟨G.wb, 7, none⟩ (.slice none 0 0)).setCell ⟨G.wb, 6, none⟩ (.int .i64 ((s.blocks : Int) + 1)) = W1
  obtain ⟨hr1, hf1⟩ := h.rel.enter (W' := W1) (by rw [← hW1]; rfl)
  have hst1 : ST B nb no nc l W1 (entG G) W1 { s with dcl := [], blocks := s.blocks + 1 } (entG G) := ST.start hr1 (h.nds.below hf1.bel)
  have HC := Bx.mk (HI W1 hst1 hf1)
  have ho1 : Onl G.wb W W1 := by rw [← hW1]; exact (Onl.set _ _ _ _).trans (Onl.set _ _ _ _)
  have hbP : blockP ins s = { outsP (ins { s with dcl := [], blocks := s.blocks + 1 }) (ins { s with dcl := [], blocks := s.blocks + 1 }).dcl.length with blocks := (outsP (ins { s with dcl := [], blocks := s.blocks + 1 }) (ins { s with dcl := [], blocks := s.blocks + 1 }).dcl.length).blocks - 1, dcl := s.dcl } := by
    unfold blockP outsP; rw [List.take_of_length_le (Nat.le_refl _)]
  generalize hs1 : ins { s with dcl := [], blocks := s.blocks + 1 } = s1 at *
  have HZ : Bx (∀ wr G2, BlS B nb no nc l W1 (entG G) G2 s1 s1.dcl.length wr → ∃ G', ST B nb no nc l W0 G0 ((wr.setCell ⟨G.wb, 6, none⟩ (.int .i64 (s.blocks : Int))).setCell ⟨G.wb, 7, none⟩ G.dv) (blockP ins s) G' ∧ G'.wb = G.wb) := ⟨fun wr G2 hb => by
    have hbl : (outsP s1 s1.dcl.length).blocks = s.blocks + 1 := by rw [(outsP_form hwf _).1]; exact hblk
    have := h.rel.leave (Wf := (wr.setCell ⟨G.wb, 6, none⟩ (.int .i64 (s.blocks : Int))).setCell ⟨G.wb, 7, none⟩ G.dv) hf1 ho1.size (fun b hb => ho1.block b fun e => by have := h.rel.ldv b hb; rw [e, h.rel.lwb] at this; cases this) hb.st.fr hb.st.rel (by rw [hbl]; rfl)
    exact ⟨leaG G2 G.dv, by rw [hbP]; exact h.step this.1 this.2, hb.st.fr.wb⟩⟩
  have HS0 : Bx (∀ W2 G2, ST B nb no nc l W1 (entG G) W2 s1 G2 → BlS B nb no nc l W1 (entG G) G2 s1 0 W2) := ⟨fun W2 G2 h2 => ⟨h2⟩⟩
  have HR := Bx.mk fun (wr : World) (G2 : WG) (j : Nat) (hb : BlS B nb no nc l W1 (entG G) G2 s1 j wr) (hj : j < s1.dcl.length) => hb.round hwf hj hms
  have HFm := Bx.mk fun j => (outsP_form hwf j).1
  obtain ⟨da0, dc0, hdf0⟩ := row_form h.rel.hdv
  rw [hdf0] at w7 HZ
  clear h hr1 hf1 hst1 HI hwf hs1 ho1 hbP
  go_enter Tryd.func27, Tryd.ntmps27
  go_wp2_with (first
    | (go_at_call 45; refine Calls.mono HC.out ?_; rintro e W2 ⟨rfl, G2, h2, hwb⟩; replace h2 := Bx.mk h2; have x7 : W2.cell? ⟨G.wb, 7, none⟩ = some G2.dv := (by rw [← hwb]; exact h2.out.rel.cw 7); obtain ⟨da, dcp, hdf⟩ := row_form h2.out.rel.hdv; rw [hdf] at x7; clear HC w6 w7 f6 f7 hW1))
  go_loopw [29] (fun x wr => ∃ j : Nat, x = .int .i64 j ∧ j ≤ s1.dcl.length ∧ Bx (BlS B nb no nc l W1 (entG G) G2 s1 j wr)) (fun x _ => s1.dcl.length - (intOf x).toNat)
  case atStart => exact ⟨0, rfl, Nat.zero_le _, ⟨HS0.out _ _ h2.out⟩⟩
  case round =>
    obtain ⟨j, rfl, hj, HS⟩ := hrel
    have y5 : wr.cell? ⟨G.wb, 5, none⟩ = some (.map (some G2.mb)) := by rw [← hwb]; exact HS.out.st.rel.cw 5
    by_cases hjl : j < s1.dcl.length
    · obtain ⟨g, rfl⟩ : ∃ g, da = some ⟨g, 0, none⟩ := by
        rcases row_some h2.out.rel.hdv with ⟨_, e⟩ | ⟨g, cap, e⟩
        · omega
        · rw [hdf] at e
          simp only [Value.slice.injEq] at e
          exact ⟨g, e.1⟩
      have hce : wr.cell? ⟨g, j, none⟩ = some (.string s1.dcl[j]) := by
        have hr := HS.out.st.rel.hdv
        rw [hdf, HFm.out j] at hr
        have := row_cell hr (j := j) hjl
        rw [this]
        simp [hjl]
      obtain ⟨m, o, hlook, hmc, hkey, D, hown, HW⟩ := HR.out wr G2 j HS.out hjl
      replace HW := Bx.mk HW
      rw [hwb] at HW
      have hbe : s1.dcl.length < 4294967296 := hdl
      generalize s1.dcl[j] = nm at *
      clear HS HR HS0 HFm
      cases o with
      | none =>
        unfold outV at hmc
        go_wp2_with (first
          | (at_delete; refine wpList_delete_own _ rfl _ _ 52 9 rfl 61 keyedS Tryd.underlying52 _ G2.mb _ D rfl hown _ _ rfl hkey ?_; intro W3 hown3 hturn3; obtain ⟨z5, HN, _⟩ := HW.out W3 hown3 hturn3; replace HN := Bx.mk (HN rfl); clear hown3 hturn3))
        go_roundw
        case rel => exact ⟨j + 1, by go_num, by omega, HN⟩
        case measure => simp [intOf]; omega
      | some m' =>
        unfold outV ptrV at hmc
        go_wp2_with (first
          | (at_delete; refine wpList_delete_own _ rfl _ _ 52 9 rfl 61 keyedS Tryd.underlying52 _ G2.mb _ D rfl hown _ _ rfl hkey ?_; intro W3 hown3 hturn3; obtain ⟨z5, _, HN⟩ := HW.out W3 hown3 hturn3; obtain ⟨W4, hrun, HN⟩ := HN m' rfl; replace HN := Bx.mk HN; clear hown3 hturn3))
        go_roundw
        case rel => exact ⟨j + 1, by go_num, by omega, HN⟩
        case measure => simp [intOf]; omega
    · have hje : j = s1.dcl.length := by omega
      have hbl : (outsP s1 j).blocks = s.blocks + 1 := by rw [HFm.out j]; exact hblk
      have y6 : wr.cell? ⟨G.wb, 6, none⟩ = some (.int .i64 ((s.blocks : Int) + 1)) := by
        have := HS.out.st.rel.cw 6
        rw [hwb] at this
        rw [this]
        simp [wlkC, hbl]
      have y7 : wr.cell? ⟨G.wb, 7, none⟩ = some (.slice da s1.dcl.length dcp) := by
        have := HS.out.st.rel.cw 7
        rw [hwb] at this
        rw [this, ← hdf]
        rfl
      have g6 : wr.frozen? ⟨G.wb, 6, none⟩ = false := by rw [← hwb]; exact HS.out.st.rel.fw 6
      have g7 : wr.frozen? ⟨G.wb, 7, none⟩ = false := by rw [← hwb]; exact HS.out.st.rel.fw 7
      have HE := Bx.mk (HZ.out wr G2 (by rw [← hje]; exact HS.out))
      clear HS HR HS0 HFm HZ hbl
      go_wp2
      go_end0
      refine ⟨rfl, ?_⟩
      simpa using HE.out
end Go.Proofs.YtjjbgbadkbomlaaDoor
namespace Go.Proofs.YtjjbgbadkbomlaaDoor
open Go.RowKit Go.Maps
set_option linter.unusedVariables false
set_option linter.unusedSimpArgs false

/-- what a closure of prog reads -/
structure QS (G : WG) (lv : Value) (c bb : Nat) (bj : Nat) (nb o : Nat) (kv : Value) (w : World) : Prop where
  a1 : w.cell? ⟨c, 0, none⟩ = some (.pointer (some ⟨G.wb, 0, none⟩))
  a2 : w.cell? ⟨G.wb, 0, none⟩ = some lv
  a3 : w.cell? ⟨bb, 0, none⟩ = some (.int .i64 bj)
  a4 : w.cell? ⟨nb, o, none⟩ = some kv
theorem qs_of {B nb no nc : Nat} {l : List Nd} {W W' : World} {s s' : SSt} {G G' : WG} (h' : ST B nb no nc l W G W' s' G') {c bb bj : Nat} {ka : Option Addr} {kc : Nat} (hc : G.lab c = .out) (hb : G.lab bb = .out) (cc : W.cell? ⟨c, 0, none⟩ = some (.pointer (some ⟨G.wb, 0, none⟩))) (cb : W.cell? ⟨bb, 0, none⟩ = some (.int .i64 bj)) (hn : nb < B) (hk : W.cell? ⟨nb, no + bj * 5 + 2, none⟩ = some (.slice ka (ndN l bj).kids.length kc)) :
    QS G (.slice (some ⟨nb, no, none⟩) l.length nc) c bb bj nb (no + bj * 5 + 2) (.slice ka (ndN l bj).kids.length kc) W' := by
  refine ⟨h'.cell_far hc cc, ?_, h'.cell_far hb cb, ?_⟩
  · rw [← show G'.wb = G.wb from h'.fr.wb]; exact h'.rel.cw 0
  · rw [h'.fr.bel.cell (p := ⟨nb, no + bj * 5 + 2, none⟩) hn]; exact hk
set_option maxHeartbeats 2000000 in
set_option maxRecDepth 100000 in
theorem clo_q {B nb no nc : Nat} {l : List Nd} {W : World} {s s1 s2 : SSt} {G : WG} (h : ST B nb no nc l W G W s G) (c hb bb bj : Nat) (ha : Option Addr) (hm hc' : Nat) (lc : G.lab c = .out) (lb : G.lab bb = .out) (cc : W.cell? ⟨c, 0, none⟩ = some (.pointer (some ⟨G.wb, 0, none⟩))) (ch : W.cell? ⟨hb, 0, none⟩ = some (.slice ha hm hc')) (cb : W.cell? ⟨bb, 0, none⟩ = some (.int .i64 bj)) (hbj : bj < l.length)
    (HN : Calls Tryd.prog 29 #[.pointer (some ⟨G.wb, 0, none⟩), .slice ha hm hc'] W fun e W' => e = .returned (.tuple #[]) ∧ ∃ G', ST B nb no nc l W G W' s1 G')
    (HN2 : ∀ W1 G1 ka kc, ST B nb no nc l W G W1 s1 G1 → IntsV W1 B (.slice ka (ndN l bj).kids.length kc) (ndN l bj).kids → Calls Tryd.prog 29 #[.pointer (some ⟨G.wb, 0, none⟩), .slice ka (ndN l bj).kids.length kc] W1 fun e W' => e = .returned (.tuple #[]) ∧ ∃ G', ST B nb no nc l W G W' s2 G') :
    Calls Tryd.prog 44 #[.pointer (some ⟨c, 0, none⟩), .pointer (some ⟨hb, 0, none⟩), .pointer (some ⟨bb, 0, none⟩)] W fun e W' => e = .returned (.tuple #[]) ∧ ∃ G', ST B nb no nc l W G W' s2 G' := by
  obtain ⟨ka, kc, ⟨_, _, k2, _, _, hks⟩⟩ := h.nds.at_ bj hbj
  have hmax := h.nds.max
  unfold maxLen at hmax
  have hnB := h.nds.lo
  have HQ : Bx (∀ W1 s' G1, ST B nb no nc l W G W1 s' G1 → QS G (.slice (some ⟨nb, no, none⟩) l.length nc) c bb bj nb (no + bj * 5 + 2) (.slice ka (ndN l bj).kids.length kc) W1) := ⟨fun W1 s' G1 h1 => qs_of (s := s) h1 lc lb cc cb hnB k2⟩
  have HC1 := Bx.mk HN
  have HC2 : Bx (∀ W1 G1, ST B nb no nc l W G W1 s1 G1 → ∀ q, Calls Tryd.prog 29 #[.pointer (some ⟨G.wb, 0, none⟩), .slice ka (ndN l bj).kids.length kc] (W1.drewN q) fun e W' => e = .returned (.tuple #[]) ∧ ∃ G', ST B nb no nc l W G W' s2 G') := ⟨fun W1 G1 h1 q => HN2 _ G1 ka kc (h1.drew q) (hks.below (h1.drew q).fr.bel)⟩
  clear h HN HN2 hks k2
  go_enter Tryd.func44, Tryd.ntmps44
  go_wp2_with (first
    | (go_at_call 29; refine Calls.mono HC1.out ?_; clear HC1; rintro e W1 ⟨rfl, G1, h1⟩; obtain ⟨a1, a2, a3, a4⟩ := HQ.out W1 s1 G1 h1; replace h1 := Bx.mk h1; clear cc ch cb))
  go_region_held (fun w' => w'.cell? ⟨c, 0, none⟩ = some (.pointer (some ⟨G.wb, 0, none⟩)) ∧ w'.cell? ⟨G.wb, 0, none⟩ = some (.slice (some ⟨nb, no, none⟩) l.length nc) ∧ w'.cell? ⟨bb, 0, none⟩ = some (.int .i64 bj) ∧ w'.cell? ⟨nb, no + bj * 5 + 2, none⟩ = some (.slice ka (ndN l bj).kids.length kc)) (first | exact ⟨p1, p2, p3, p4⟩ | go_keep)
    (first | (go_at_call 29; refine Calls.mono (HC2.out W1 G1 h1.out 1) ?_; rintro e W2 ⟨rfl, G2, h2⟩; obtain ⟨p1, p2, p3, p4⟩ := HQ.out W2 s2 G2 h2; replace h2 := Bx.mk h2))
  go_wp2
  go_end0
  exact ⟨rfl, _, h2.out⟩
end Go.Proofs.YtjjbgbadkbomlaaDoor
namespace Go.Proofs.YtjjbgbadkbomlaaDoor
open Go.RowKit Go.Maps
set_option linter.unusedVariables false
set_option linter.unusedSimpArgs false

set_option maxHeartbeats 1000000 in
set_option maxRecDepth 100000 in
theorem clo_p {B nb no nc : Nat} {l : List Nd} {W : World} {s1 s2 : SSt} {G : WG} (c ic hb bb i : Nat) (lc : G.lab c = .out) (cc : W.cell? ⟨c, 0, none⟩ = some (.pointer (some ⟨G.wb, 0, none⟩))) (ci : W.cell? ⟨ic, 0, none⟩ = some (.int .i64 i))
    (HD : Calls Tryd.prog 30 #[.pointer (some ⟨G.wb, 0, none⟩), .int .i64 i] W fun e W' => e = .returned (.tuple #[]) ∧ ∃ G', ST B nb no nc l W G W' s1 G')
    (HB : ∀ W1 G1, ST B nb no nc l W G W1 s1 G1 → Calls Tryd.prog 27 #[.pointer (some ⟨G.wb, 0, none⟩), .func (.func 44) #[] #[.pointer (some ⟨c, 0, none⟩), .pointer (some ⟨hb, 0, none⟩), .pointer (some ⟨bb, 0, none⟩)]] W1 fun e W' => e = .returned (.tuple #[]) ∧ ∃ G', ST B nb no nc l W G W' s2 G') :
    Calls Tryd.prog 43 #[.pointer (some ⟨c, 0, none⟩), .pointer (some ⟨ic, 0, none⟩), .pointer (some ⟨hb, 0, none⟩), .pointer (some ⟨bb, 0, none⟩)] W fun e W' => e = .returned (.tuple #[]) ∧ ∃ G', ST B nb no nc l W G W' s2 G' := by
  have HC := Bx.mk HD
  have HB := Bx.mk HB
  have HX : Bx (∀ W1 G1, ST B nb no nc l W G W1 s1 G1 → W1.cell? ⟨c, 0, none⟩ = some (.pointer (some ⟨G.wb, 0, none⟩))) := ⟨fun W1 G1 h1 => h1.cell_far lc cc⟩
  clear HD
  go_enter Tryd.func43, Tryd.ntmps43
  go_wp2_with (first
    | (go_at_call 30; refine Calls.mono HC.out ?_; clear HC; rintro e W1 ⟨rfl, G1, h1⟩; have c1 := HX.out W1 G1 h1; have HC2 := Bx.mk (HB.out W1 G1 h1); clear h1)
    | (go_at_call 27; refine Calls.mono HC2.out ?_; clear HC2; rintro e W2 ⟨rfl, h2⟩; replace h2 := Bx.mk h2))
  go_end0
  exact ⟨rfl, h2.out⟩
set_option maxHeartbeats 1000000 in
set_option maxRecDepth 100000 in
theorem clo_1 {P : World → Prop} {W : World} (wb c ic hb bb : Nat) (cc : W.cell? ⟨c, 0, none⟩ = some (.pointer (some ⟨wb, 0, none⟩)))
    (HB : Calls Tryd.prog 27 #[.pointer (some ⟨wb, 0, none⟩), .func (.func 43) #[] #[.pointer (some ⟨c, 0, none⟩), .pointer (some ⟨ic, 0, none⟩), .pointer (some ⟨hb, 0, none⟩), .pointer (some ⟨bb, 0, none⟩)]] W fun e W' => e = .returned (.tuple #[]) ∧ P W') :
    Calls Tryd.prog 42 #[.pointer (some ⟨c, 0, none⟩), .pointer (some ⟨ic, 0, none⟩), .pointer (some ⟨hb, 0, none⟩), .pointer (some ⟨bb, 0, none⟩)] W fun e W' => e = .returned (.tuple #[]) ∧ P W' := by
  have HC := Bx.mk HB
  clear HB
  go_enter Tryd.func42, Tryd.ntmps42
  go_wp2_with (first
    | (go_at_call 27; refine Calls.mono HC.out ?_; clear HC; rintro e W2 ⟨rfl, h2⟩; replace h2 := Bx.mk h2))
  go_end0
  exact ⟨rfl, h2.out⟩
set_option maxHeartbeats 2000000 in
set_option maxRecDepth 100000 in
theorem clo_r {B nb no nc : Nat} {l : List Nd} {W : World} {s s1 s2 : SSt} {G : WG} (h : ST B nb no nc l W G W s G) (c ic kb i bj : Nat) (kg ko kn kcap : Nat) (lc : G.lab c = .out) (lk : G.lab kb = .out) (cc : W.cell? ⟨c, 0, none⟩ = some (.pointer (some ⟨G.wb, 0, none⟩))) (ci : W.cell? ⟨ic, 0, none⟩ = some (.int .i64 i)) (ck : W.cell? ⟨kb, 0, none⟩ = some (.slice (some ⟨kg, ko, none⟩) kn kcap)) (hkn : 1 < kn) (hkB : kg < B) (ck1 : W.cell? ⟨kg, ko + 1, none⟩ = some (.int .i64 bj)) (hbj : bj < l.length)
    (HD : Calls Tryd.prog 30 #[.pointer (some ⟨G.wb, 0, none⟩), .int .i64 i] W fun e W' => e = .returned (.tuple #[]) ∧ ∃ G', ST B nb no nc l W G W' s1 G')
    (HN2 : ∀ W1 G1 ka kc, ST B nb no nc l W G W1 s1 G1 → IntsV W1 B (.slice ka (ndN l bj).kids.length kc) (ndN l bj).kids → Calls Tryd.prog 29 #[.pointer (some ⟨G.wb, 0, none⟩), .slice ka (ndN l bj).kids.length kc] W1 fun e W' => e = .returned (.tuple #[]) ∧ ∃ G', ST B nb no nc l W G W' s2 G') :
    Calls Tryd.prog 45 #[.pointer (some ⟨c, 0, none⟩), .pointer (some ⟨ic, 0, none⟩), .pointer (some ⟨kb, 0, none⟩)] W fun e W' => e = .returned (.tuple #[]) ∧ ∃ G', ST B nb no nc l W G W' s2 G' := by
  obtain ⟨ka, kc, ⟨_, _, k2, _, _, hks⟩⟩ := h.nds.at_ bj hbj
  have hmax := h.nds.max
  unfold maxLen at hmax
  have hnB := h.nds.lo
  have HQ : Bx (∀ W1 s' G1, ST B nb no nc l W G W1 s' G1 → W1.cell? ⟨c, 0, none⟩ = some (.pointer (some ⟨G.wb, 0, none⟩)) ∧ W1.cell? ⟨G.wb, 0, none⟩ = some (.slice (some ⟨nb, no, none⟩) l.length nc) ∧ W1.cell? ⟨kb, 0, none⟩ = some (.slice (some ⟨kg, ko, none⟩) kn kcap) ∧ W1.cell? ⟨kg, ko + 1, none⟩ = some (.int .i64 bj) ∧ W1.cell? ⟨nb, no + bj * 5 + 2, none⟩ = some (.slice ka (ndN l bj).kids.length kc)) := ⟨fun W1 s' G1 h1 => ⟨h1.cell_far lc cc, by rw [← show G1.wb = G.wb from h1.fr.wb]; exact h1.rel.cw 0, h1.cell_far lk ck, by rw [h1.fr.bel.cell (p := ⟨kg, ko + 1, none⟩) hkB]; exact ck1, by rw [h1.fr.bel.cell (p := ⟨nb, no + bj * 5 + 2, none⟩) hnB]; exact k2⟩⟩
  have HC1 := Bx.mk HD
  have HC2 : Bx (∀ W1 G1, ST B nb no nc l W G W1 s1 G1 → ∀ q, Calls Tryd.prog 29 #[.pointer (some ⟨G.wb, 0, none⟩), .slice ka (ndN l bj).kids.length kc] (W1.drewN q) fun e W' => e = .returned (.tuple #[]) ∧ ∃ G', ST B nb no nc l W G W' s2 G') := ⟨fun W1 G1 h1 q => HN2 _ G1 ka kc (h1.drew q) (hks.below (h1.drew q).fr.bel)⟩
  clear h HD HN2 hks k2
  go_enter Tryd.func45, Tryd.ntmps45
  go_wp2_with (first
    | (go_at_call 30; refine Calls.mono HC1.out ?_; clear HC1; rintro e W1 ⟨rfl, G1, h1⟩; obtain ⟨a1, a2, a3, a4, a5⟩ := HQ.out W1 s1 G1 h1; replace h1 := Bx.mk h1; clear cc ci ck ck1))
  go_region_held (fun w' => w'.cell? ⟨c, 0, none⟩ = some (.pointer (some ⟨G.wb, 0, none⟩)) ∧ w'.cell? ⟨G.wb, 0, none⟩ = some (.slice (some ⟨nb, no, none⟩) l.length nc) ∧ w'.cell? ⟨kb, 0, none⟩ = some (.slice (some ⟨kg, ko, none⟩) kn kcap) ∧ w'.cell? ⟨kg, ko + 1, none⟩ = some (.int .i64 bj) ∧ w'.cell? ⟨nb, no + bj * 5 + 2, none⟩ = some (.slice ka (ndN l bj).kids.length kc)) (first | exact ⟨p1, p2, p3, p4, p5⟩ | go_keep)
    (first | (go_at_call 29; refine Calls.mono (HC2.out W1 G1 h1.out 1) ?_; rintro e W2 ⟨rfl, G2, h2⟩; obtain ⟨p1, p2, p3, p4, p5⟩ := HQ.out W2 s2 G2 h2; replace h2 := Bx.mk h2))
  go_wp2
  go_end0
  exact ⟨rfl, _, h2.out⟩
end Go.Proofs.YtjjbgbadkbomlaaDoor
