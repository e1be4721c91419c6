import Derived.Test.YteinpijbdgcehaaCOTs
import Derived.Test.YteinpijbdgcehaaCOTi
namespace Go.Proofs.Yteinpijbdgcehaa
open Go.RowKit Go.Shelf
set_option linter.unusedVariables false
set_option linter.unusedSimpArgs false

/-- the list lent, in memory -/
theorem Ln.plain {W w : World} {ab c : Nat} {Pr : Nat → Prop} {p : Option Addr} {B : Nat → Nat} {l : List OWt} (h : Ln W ab B l (armsOf l) l.length) (hw : WsIn w Pr p c l) (hs : l.length + tot l ≤ 4000) :
    WsIn W (fun b => b = ab ∨ ∃ j, j < l.length ∧ b = B j) (some ⟨ab, 0, none⟩) (l.length + 1) l ∧ ∀ b, (b = ab ∨ ∃ j, j < l.length ∧ b = B j) → ∃ o : Obj, W.heap[b]? = some o ∧ o.isCells = true := by
  refine h.ws rfl (by omega) (fun j hj hj' => ?_)
  obtain ⟨b, o, q, d, _, _, _, _, hA, h64⟩ := hw.at_ j hj
  rw [armsOf_at l j hj]
  refine ⟨rfl, rfl, h64, ?_, fun k hk => ?_⟩
  · have := tot_le l j hj
    omega
  · obtain ⟨_, _, _, _, ha⟩ := hA.at_ k hk
    exact ha.n64
/-- an arm is turned round: the book stays -/
theorem St.flip {w W : World} {B h ab : Nat} {Bf : Nat → Nat} {l : List OWt} {rv : Value} {n i k : Nat} (S : St w W B h ab Bf l (ff l i k) rv n []) (hi : i < l.length) (hk : k < (armsOf l i).length) :
    St w (W.setCell ⟨Bf i, k * 5 + 1, none⟩ (.bool (!((armsOf l i)[k]).send))).drew B h ab Bf l (ff l i (k + 1)) rv n [] := by
  obtain ⟨vo, vw, es, h1, h2, h3, h4, h5⟩ := S.bk
  have hv := S.ln.vs i hi
  have hlo := S.lo
  have hwB := S.wB
  have hl := S.ln.lo i hi
  have ho : W.ownsRow B 43 1 (.slice (some ⟨Bf i, 0, none⟩) 0 (armsC (ff l i k i) ++ mkA).length) 0 [] ∨ True := .inr trivial
  have K : ∀ (v : Value) (r : Row), r.ok W B → r.e ≠ 43 → r.ok (W.setCell ⟨Bf i, k * 5 + 1, none⟩ v) B := fun v r hr he => hr.set (a := ⟨Bf i, k * 5 + 1, none⟩) (fun e => by
    rcases hr.own.2 with ⟨h6, _⟩ | ⟨g, cap, cur, h6, _, h7, _⟩
    · rw [h6] at e; cases e
    · have e2 : g = Bf i := by rw [h6] at e; simpa [Value.ownBlock] using e
      rw [e2, hv] at h7
      injection h7 with h7
      injection h7 with _ h8
      exact he h8.symm) v
  have S' : St w (W.setCell ⟨Bf i, k * 5 + 1, none⟩ (.bool (!((armsOf l i)[k]).send))) B h ab Bf l (ff l i (k + 1)) rv n [] := by
    refine ⟨⟨vo, vw, es, h1, ⟨K _ _ h2.book (show (28 : Nat) ≠ 43 by decide), K _ _ h2.outs (show (33 : Nat) ≠ 43 by decide), K _ _ h2.wants (show (33 : Nat) ≠ 43 by decide), fun e he => ⟨K _ _ (h2.rows e he).1 (show (47 : Nat) ≠ 43 by decide), K _ _ (h2.rows e he).2 (show (47 : Nat) ≠ 43 by decide)⟩, h2.apart, h2.small, h2.few⟩, h3, h4, fun x hx => by cases hx⟩, S.ln.turn hi hk, ?_, ?_, S.old.setCell (p := ⟨Bf i, k * 5 + 1, none⟩) (by show _ ≤ Bf i; omega) _, S.lo, S.wB⟩
    · have hr := (K (.bool (!((armsOf l i)[k]).send)) ⟨36, 1, rv, l.length, rowC Bf (armsOf l) l.length⟩ ⟨own_low S.row (by omega)⟩ (show (36 : Nat) ≠ 43 by decide)).own
      exact own_up hr (fun g hg => own_base S.row g hg)
    · rw [← S.mark]
      simp only [World.cell?]
      rw [Below.heap_setCell _ _ _ _ (by show ab ≠ Bf i; omega)]
  exact S'.below ((Below.refl _ _).drew)
/-- the book, new -/
theorem bk_new {W : World} {H : Nat} (h : W.heap[H]? = some (.cells #[.slice none 0 0, .slice none 0 0, .int .i64 0] 28 (0, 0))) : Bk W H H (.slice none 0 0) (.slice none 0 0) 0 [] :=
  ⟨⟨rfl, .inr ⟨H, 3, _, rfl, Nat.le_refl _, h, Nat.le_refl _, by unfold maxLen; omega, rfl, rfl⟩⟩, ⟨rfl, .inl ⟨rfl, rfl⟩⟩, ⟨rfl, .inl ⟨rfl, rfl⟩⟩, fun e he => (by cases he), fun g hg => (by cases hg), fun e he => (by cases he), by simp⟩

set_option maxRecDepth 100000 in
set_option maxHeartbeats 16000000 in
theorem tells_walk (w : World) (Pr : Nat → Prop) (hPr : ∀ b, Pr b → ∃ o : Obj, w.heap[b]? = some o ∧ o.isCells = true) (p : Option Addr) (c : Nat) (l : List OWt) (hl : WsIn w Pr p c l)
    (Pr2 : Nat → Prop) (hPr2 : ∀ b, Pr2 b → ∃ o : Obj, w.heap[b]? = some o ∧ o.isCells = true) (p2 : Option Addr) (c2 : Nat) (l2 : List OWt) (hl2 : WsIn w Pr2 p2 c2 l2) :
    Calls Try.prog 3 #[.slice p l.length c, .slice p2 l2.length c2] w fun e w' => e = .returned (.bool true) ∧ Below w.heap.size w w' := by
  have HWS : Bx (∀ X, Below w.heap.size w X → WsIn X Pr p c l ∧ ∀ b, Pr b → ∃ o : Obj, X.heap[b]? = some o ∧ o.isCells = true) := ⟨fun X hX => by
    have hk := Kpt.of_below hPr hX
    exact ⟨hl.keep hk, fun b hb => by obtain ⟨o, h1, h2⟩ := hPr b hb; exact ⟨o, (hk b hb).trans h1, h2⟩⟩⟩
  have HWS2 : Bx (∀ X, Below w.heap.size w X → WsIn X Pr2 p2 c2 l2 ∧ ∀ b, Pr2 b → ∃ o : Obj, X.heap[b]? = some o ∧ o.isCells = true) := ⟨fun X hX => by
    have hk := Kpt.of_below hPr2 hX
    exact ⟨hl2.keep hk, fun b hb => by obtain ⟨o, h1, h2⟩ := hPr2 b hb; exact ⟨o, (hk b hb).trans h1, h2⟩⟩⟩
  have HWR : Bx (WsR w p c l) := ⟨hl.r hPr⟩
  have hlc := hl.len
  have hcm := hl.max
  have hlc2 := hl2.len
  have hcm2 := hl2.max
  unfold maxLen at hcm hcm2
  clear hl hPr hl2 hPr2
  have T1 : Bx True := ⟨trivial⟩
  go_enter Try.func3, Try.ntmps3
  go_wp2_with (first
    | (go_at_call 6; refine (shown_any w).mono ?_; rintro e w1 ⟨rfl, hb1⟩)
    | (go_at_call 7; clear T1; refine (beyond_any w1 Pr p c l (HWS.out w1 hb1).1).mono ?_; rintro e w2 ⟨⟨bb, rfl, hbb⟩, rfl⟩; have HBB : Bx _ := ⟨hbb⟩; clear hbb; cases bb)
    | (go_at_call 7; refine (beyond_any w2 Pr2 p2 c2 l2 (HWS2.out w2 hb1).1).mono ?_; rintro e w3 ⟨⟨bc, rfl, hbc⟩, rfl⟩; have HBC : Bx _ := ⟨hbc⟩; clear hbc; cases bc))
  rotate_left 1
  · go_ret
    exact ⟨rfl, hb1⟩
  · go_ret
    exact ⟨rfl, hb1⟩
  have hs : l.length + tot l ≤ 4000 := HBB.out (by first | trivial | rfl)
  have hs2 : l2.length + tot l2 ≤ 4000 := HBC.out (by first | trivial | rfl)
  clear HBB HBC
  have HB2 : Bx (Below w.heap.size w (w3.alloc (.cells #[.slice none 0 0, .slice none 0 0, .int .i64 0] 28))) := ⟨hb1.trans ((below1 _ _).mono hb1.size)⟩
  obtain ⟨H, hH⟩ : ∃ H, w3.heap.size = H := ⟨_, rfl⟩
  have HH : Bx (w3.heap.size = H) := ⟨hH⟩
  have hwH : w.heap.size ≤ H := by rw [← hH]; exact hb1.size
  clear hb1
  go_wp2_with (first
    | (go_at_call 8; refine (lent_any _ Pr (HWS.out _ HB2.out).2 p c l (HWS.out _ HB2.out).1 hs).mono ?_; rintro e w4 ⟨ab, Bf, rv, rfl, hln, hrow, hab, hmk, hb4⟩; have HL4 : Bx (Ln w4 ab Bf l (armsOf l) l.length ∧ w4.ownsRow (ab + 1) 36 1 rv l.length (rowC Bf (armsOf l) l.length) ∧ H + 1 ≤ ab ∧ w4.cell? ⟨ab, l.length * 2, none⟩ = some (.int .i64 (-99)) ∧ Below w.heap.size w w4 ∧ w4.heap[H]? = some (.cells #[.slice none 0 0, .slice none 0 0, .int .i64 0] 28 (0, 0))) := ⟨hln, hrow, (by simpa [HH.out] using hab), hmk, HB2.out.trans (hb4.mono HB2.out.size), (by rw [← HH.out]; exact (hb4.block _ (by simp)).trans (World.alloc_heap_new _ _))⟩; clear hln hrow hab hmk hb4))
  have S0 : Bx (St w w4 H H ab Bf l (armsOf l) rv 0 []) := ⟨⟨⟨.slice none 0 0, .slice none 0 0, [], rfl, bk_new HL4.out.2.2.2.2.2, (by intro k j hk; simp at hk), (by intro e he; cases he), (by intro x hx; cases hx)⟩, HL4.out.1, HL4.out.2.1, HL4.out.2.2.2.1, HL4.out.2.2.2.2.1, (by have := HL4.out.2.2.1; omega), hwH⟩⟩
  have A1 : Bx (Asks w H H ab Bf l (armsOf l) rv (some ⟨ab, 0, none⟩) (l.length + 1) l.length l) := ⟨⟨rfl, fun W n vs S => ⟨_, (S.ln.plain (HWS.out w (Below.refl _ _)).1 hs).2, (S.ln.plain (HWS.out w (Below.refl _ _)).1 hs).1⟩, hs⟩⟩
  have A2 : Bx (Asks w H H ab Bf l (armsOf l) rv p2 c2 l2.length l2) := ⟨⟨rfl, fun W n vs S => ⟨Pr2, (HWS2.out W S.old).2, (HWS2.out W S.old).1⟩, hs2⟩⟩
  have A3 : Bx (Asks w H H ab Bf l (ff l l.length 0) rv (some ⟨ab, 0, none⟩) (l.length + 1) l.length (turnL l)) := ⟨⟨by simp [turnL], fun W n vs S => ⟨_, (S.ln.turned (HWS.out w (Below.refl _ _)).1 hs).2, (S.ln.turned (HWS.out w (Below.refl _ _)).1 hs).1⟩, by rw [turn_tot]; simpa [turnL] using hs⟩⟩
  have HC1 : Bx (∀ i (hi : i < l.length), ∃ b o q d, p = some ⟨b, o, none⟩ ∧ (armsOf l i).length ≤ d ∧ d ≤ maxLen ∧ ∀ X, Below w.heap.size w X → X.cell? ⟨b, o + i * 2 + 1, none⟩ = some (.slice q (armsOf l i).length d)) := ⟨fun i hi => by
    obtain ⟨b, o, q, d, e, h1, h2, h3, _⟩ := HWR.out.at_ i hi
    rw [armsOf_at l i hi]
    exact ⟨b, o, q, d, e, h1, h2, fun X hX => (h3 X hX).2⟩⟩
  clear HL4 HH HB2 HWS HWS2
  go_wp2
  go_loopg [10, 11] 4 (fun g v10 v11 wr => ∃ i : Nat, g = 4 - i ∧ i ≤ 3 ∧ v10 = .bool true ∧ v11 = .int .i64 i ∧ Bx (St w wr H H ab Bf l (armsOf l) rv (3 * i) []))
  case atStart => exact ⟨0, by simp, by omega, rfl, rfl, S0⟩
  case round =>
    obtain ⟨i, hg, hi3, rfl, rfl, SR⟩ := hrel
    clear S0
    by_cases hlt : i < 3
    · have Taa : Bx True := ⟨trivial⟩; have Tab : Bx True := ⟨trivial⟩; have Tac : Bx True := ⟨trivial⟩
      by_cases h1 : i = 1
      · subst h1
        go_wp2_with (first
          | (go_at_call 10; refine Calls.mono (A2.out.pairs SR.out) ?_; rintro e Waa1 ⟨vaa1, rfl, saa1⟩; have Saa1 : Bx _ := ⟨saa1⟩; clear saa1)
          | (go_at_call 11; refine Calls.mono (A2.out.rpairs Saa1.out) ?_; rintro e Waa2 ⟨vaa2, rfl, saa2⟩; have Saa2 : Bx _ := ⟨saa2⟩; clear saa2)
          | (go_at_call 9; clear Taa; refine Calls.mono (Saa2.out.keep hs (opairs_len _ (by have := A2.out.sz; omega)) (by omega)) ?_; rintro e Waa3 ⟨rfl, saa3⟩; have Saa3 : Bx _ := ⟨saa3⟩; clear saa3)
          | (go_at_call 12; refine Calls.mono (A2.out.ins Saa3.out) ?_; rintro e Wab1 ⟨vab1, rfl, sab1⟩; have Sab1 : Bx _ := ⟨sab1⟩; clear sab1)
          | (go_at_call 13; refine Calls.mono (A2.out.rins Sab1.out) ?_; rintro e Wab2 ⟨vab2, rfl, sab2⟩; have Sab2 : Bx _ := ⟨sab2⟩; clear sab2)
          | (go_at_call 9; clear Tab; refine Calls.mono (Sab2.out.keep hs (oins_len _ A2.out.sz) (by omega)) ?_; rintro e Wab3 ⟨rfl, sab3⟩; have Sab3 : Bx _ := ⟨sab3⟩; clear sab3)
          | (go_at_call 14; refine Calls.mono (A2.out.outs Sab3.out) ?_; rintro e Wac1 ⟨vac1, rfl, sac1⟩; have Sac1 : Bx _ := ⟨sac1⟩; clear sac1)
          | (go_at_call 15; refine Calls.mono (A2.out.routs Sac1.out) ?_; rintro e Wac2 ⟨vac2, rfl, sac2⟩; have Sac2 : Bx _ := ⟨sac2⟩; clear sac2)
          | (go_at_call 9; clear Tac; refine Calls.mono (Sac2.out.keep hs (oouts_len _ A2.out.sz) (by omega)) ?_; rintro e Wac3 ⟨rfl, sac3⟩; have Sac3 : Bx _ := ⟨sac3⟩; clear sac3))
        go_roundg (4 - (1 + 1))
        case measure => omega
        case rel => exact ⟨2, rfl, by omega, by simp, by simp, Sac3⟩
      · have h1' : ((↑i : Int) == 1) = false := by simp; omega
        clear h1
        go_wp2_with (first
          | (go_at_call 10; refine Calls.mono (A1.out.pairs SR.out) ?_; rintro e Waa1 ⟨vaa1, rfl, saa1⟩; have Saa1 : Bx _ := ⟨saa1⟩; clear saa1)
          | (go_at_call 11; refine Calls.mono (A1.out.rpairs Saa1.out) ?_; rintro e Waa2 ⟨vaa2, rfl, saa2⟩; have Saa2 : Bx _ := ⟨saa2⟩; clear saa2)
          | (go_at_call 9; clear Taa; refine Calls.mono (Saa2.out.keep hs (opairs_len _ (by have := A1.out.sz; omega)) (by omega)) ?_; rintro e Waa3 ⟨rfl, saa3⟩; have Saa3 : Bx _ := ⟨saa3⟩; clear saa3)
          | (go_at_call 12; refine Calls.mono (A1.out.ins Saa3.out) ?_; rintro e Wab1 ⟨vab1, rfl, sab1⟩; have Sab1 : Bx _ := ⟨sab1⟩; clear sab1)
          | (go_at_call 13; refine Calls.mono (A1.out.rins Sab1.out) ?_; rintro e Wab2 ⟨vab2, rfl, sab2⟩; have Sab2 : Bx _ := ⟨sab2⟩; clear sab2)
          | (go_at_call 9; clear Tab; refine Calls.mono (Sab2.out.keep hs (oins_len _ A1.out.sz) (by omega)) ?_; rintro e Wab3 ⟨rfl, sab3⟩; have Sab3 : Bx _ := ⟨sab3⟩; clear sab3)
          | (go_at_call 14; refine Calls.mono (A1.out.outs Sab3.out) ?_; rintro e Wac1 ⟨vac1, rfl, sac1⟩; have Sac1 : Bx _ := ⟨sac1⟩; clear sac1)
          | (go_at_call 15; refine Calls.mono (A1.out.routs Sac1.out) ?_; rintro e Wac2 ⟨vac2, rfl, sac2⟩; have Sac2 : Bx _ := ⟨sac2⟩; clear sac2)
          | (go_at_call 9; clear Tac; refine Calls.mono (Sac2.out.keep hs (oouts_len _ A1.out.sz) (by omega)) ?_; rintro e Wac3 ⟨rfl, sac3⟩; have Sac3 : Bx _ := ⟨sac3⟩; clear sac3))
        go_roundg (4 - (i + 1))
        case measure => omega
        case rel => exact ⟨i + 1, rfl, by omega, by simp, by simp, Sac3⟩
    · have hie : i = 3 := by omega
      subst hie
      clear A1 A2
      go_wp2_with (first | (go_at_call 16; refine Calls.mono (still_any w wr ab Bf rv p c l HWR.out hs SR.out.ln SR.out.row SR.out.mark SR.out.old) ?_; rintro e W5 ⟨rfl, hb5⟩; have S5 : Bx (St w W5 H H ab Bf l (ff l 0 0) rv 9 []) := ⟨(by rw [ff_zero]; exact SR.out.below hb5)⟩; clear hb5))
      clear SR HWR
      go_loopg [17] (l.length + 1) (fun g v wq => ∃ i : Nat, g = l.length + 1 - i ∧ i ≤ l.length ∧ v = .int .i64 i ∧ Bx (St w wq H H ab Bf l (ff l i 0) rv 9 []))
      case atStart => exact ⟨0, by simp, by omega, rfl, S5⟩
      case round =>
        obtain ⟨i, hg, hil, rfl, SQ⟩ := hrel
        clear S5
        by_cases hlt : i < l.length
        · obtain ⟨rb, rc, rfl, hrc, hrm, _⟩ := rw_of SQ.out.ln SQ.out.row (by omega)
          have hal := tot_le l i hlt
          rw [← armsOf_at l i hlt] at hal
          obtain ⟨b, o, q, d, rfl, hd1, hd2, hc1⟩ := HC1.out i hlt
          have HC : Bx _ := ⟨hc1⟩
          unfold maxLen at hd2 hrm
          have hi1 : (0 : Int) ≤ ↑i := by omega
          have hi2 : (↑i : Int) < ↑l.length := by omega
          clear hc1 HC1
          generalize hN : (armsOf l i).length = N at *
          go_wp2
          go_loopg [18] (N + 1) (fun g v wq => ∃ k : Nat, g = N + 1 - k ∧ k ≤ N ∧ v = .int .i64 k ∧ Bx (St w wq H H ab Bf l (ff l i k) (.slice (some ⟨rb, 0, none⟩) l.length rc) 9 []))
          case atStart => exact ⟨0, by simp, by omega, rfl, SQ⟩
          case round =>
            obtain ⟨k, hk, hkl, rfl, SK⟩ := hrel
            clear SQ
            have c1 := HC.out _ SK.out.old
            by_cases hlk : k < N
            · have r0 := (rwv_of SK.out.ln SK.out.row rb rc rfl).at_ i hlt
              rw [hN] at r0
              have s0 := (SK.out.ln.send hlt (by omega)).1
              have f0 := (SK.out.ln.send hlt (by omega)).2
              have SN : Bx (St w _ H H ab Bf l (ff l i (k + 1)) (.slice (some ⟨rb, 0, none⟩) l.length rc) 9 []) := ⟨SK.out.flip hlt (by omega)⟩
              obtain ⟨sd, hsd⟩ : ∃ x, ((armsOf l i)[k]'(by omega)).send = x := ⟨_, rfl⟩
              rw [hsd] at s0 SN
              clear hsd
              have hk1 : (0 : Int) ≤ ↑k := by omega
              have hk2 : (↑k : Int) < ↑(N + 1) := by omega
              clear SK
              go_wp2
              go_region
              go_wp2
              go_roundg (N + 1 - (k + 1))
              case measure => omega
              case rel => exact ⟨k + 1, rfl, by omega, by simp, SN⟩
            · have hke : k = N := by omega
              subst hke
              have HE : Bx (St w wr H H ab Bf l (ff l (i + 1) 0) (.slice (some ⟨rb, 0, none⟩) l.length rc) 9 []) := ⟨by rw [← ff_next, hN]; exact SK.out⟩
              clear SK
              go_wp2
              go_roundg (l.length + 1 - (i + 1))
              case measure => omega
              case rel => exact ⟨i + 1, rfl, by omega, by simp, HE⟩
        · have hie : i = l.length := by omega
          subst hie
          have Tca : Bx True := ⟨trivial⟩; have Tcb : Bx True := ⟨trivial⟩; have Tcc : Bx True := ⟨trivial⟩
          go_wp2_with (first
            | (go_at_call 10; refine Calls.mono (A3.out.pairs SQ.out) ?_; rintro e Wca1 ⟨vca1, rfl, sca1⟩; have Sca1 : Bx _ := ⟨sca1⟩; clear sca1)
            | (go_at_call 11; refine Calls.mono (A3.out.rpairs Sca1.out) ?_; rintro e Wca2 ⟨vca2, rfl, sca2⟩; have Sca2 : Bx _ := ⟨sca2⟩; clear sca2)
            | (go_at_call 9; clear Tca; refine Calls.mono (Sca2.out.keep hs (opairs_len _ (by have := A3.out.sz; omega)) (by omega)) ?_; rintro e Wca3 ⟨rfl, sca3⟩; have Sca3 : Bx _ := ⟨sca3⟩; clear sca3)
            | (go_at_call 12; refine Calls.mono (A3.out.ins Sca3.out) ?_; rintro e Wcb1 ⟨vcb1, rfl, scb1⟩; have Scb1 : Bx _ := ⟨scb1⟩; clear scb1)
            | (go_at_call 13; refine Calls.mono (A3.out.rins Scb1.out) ?_; rintro e Wcb2 ⟨vcb2, rfl, scb2⟩; have Scb2 : Bx _ := ⟨scb2⟩; clear scb2)
            | (go_at_call 9; clear Tcb; refine Calls.mono (Scb2.out.keep hs (oins_len _ A3.out.sz) (by omega)) ?_; rintro e Wcb3 ⟨rfl, scb3⟩; have Scb3 : Bx _ := ⟨scb3⟩; clear scb3)
            | (go_at_call 14; refine Calls.mono (A3.out.outs Scb3.out) ?_; rintro e Wcc1 ⟨vcc1, rfl, scc1⟩; have Scc1 : Bx _ := ⟨scc1⟩; clear scc1)
            | (go_at_call 15; refine Calls.mono (A3.out.routs Scc1.out) ?_; rintro e Wcc2 ⟨vcc2, rfl, scc2⟩; have Scc2 : Bx _ := ⟨scc2⟩; clear scc2)
            | (go_at_call 9; clear Tcc; refine Calls.mono (Scc2.out.keep hs (oouts_len _ A3.out.sz) (by omega)) ?_; rintro e Wcc3 ⟨rfl, scc3⟩; have Scc3 : Bx _ := ⟨scc3⟩; clear scc3)
            | (go_at_call 17; refine Calls.mono (Scc3.out.spoil (by omega)) ?_; rintro e W9 ⟨rfl, hb9⟩))
          go_ret
          exact ⟨rfl, hb9⟩
end Go.Proofs.Yteinpijbdgcehaa
