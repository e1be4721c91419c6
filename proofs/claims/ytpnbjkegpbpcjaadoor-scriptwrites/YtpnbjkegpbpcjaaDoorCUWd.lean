import Derived.Test.YtpnbjkegpbpcjaaDoorCUWc
import Derived.Deep.RegionHeld3
namespace Go.Proofs.YtpnbjkegpbpcjaaDoor
open Go.RowKit Go.Shelf
set_option linter.unusedVariables false
set_option linter.unusedSimpArgs false

set_option maxRecDepth 100000 in
set_option maxHeartbeats 8000000 in
theorem writes_walk0 (w : World) (m : Lm) (rp : Bool) (ps : List Pk) (pa : Option Addr) (pc : Nat) (hw : (⟨m, rp, ps⟩ : Sc).Wf) (hp : PkV w w.heap.size pa ps) (hN : ps.length ≤ 5864062014634) (hL : LW w) :
    Calls Tryd.prog 4 #[scV m rp (.slice pa ps.length pc)] w fun e w' => e = .returned (.bool true) ∧ Bx (Below w.heap.size w w') := by
  obtain ⟨w0, hw0⟩ : ∃ w0, w0 = w.alloc (.cells #[.int .i64 m.a, .int .i64 m.b, .int .i64 m.c, .int .i64 m.d, .int .i64 m.e, .int .i64 m.f, .int .i64 m.g, .bool rp, .slice pa ps.length pc] 31) := ⟨_, rfl⟩
  have hb0 : Below w.heap.size w w0 := by rw [hw0]; exact below1 w _
  have hsb : w0.heap[w.heap.size]? = some (.cells #[.int .i64 m.a, .int .i64 m.b, .int .i64 m.c, .int .i64 m.d, .int .i64 m.e, .int .i64 m.f, .int .i64 m.g, .bool rp, .slice pa ps.length pc] 31 (0, 0)) := by rw [hw0]; exact heap_newH _ _ _ rfl
  have HSN : Bx _ := ⟨shown_any w0 (hL.below hb0)⟩
  have HPP : Bx (∀ w1, Below w0.heap.size w0 w1 → w1.cell? ⟨w.heap.size, 8, none⟩ = some (.slice pa ps.length pc) ∧ w.heap.size < w1.heap.size ∧ ∃ W2 W3 W4 W5 W6 W7, WPr w m rp pa pc ps w1 W2 W3 W4 W5 W6 W7) := ⟨fun w1 h => by
    have e := below_heap h hsb
    exact ⟨cell_blk e rfl, heap_lt e, writes_prep w m rp pa pc ps hp hN w1 (hb0.trans (h.mono hb0.size)) e⟩⟩
  have HPR : Bx (∀ W ob ib L (R : List Pk), WI w m rp pa pc ps ob ib L W → L.take ps.length = R → R.length = ps.length → (∀ p ∈ R, p.Wf) → L.length ≤ maxLen → Calls Tryd.prog 13 #[scV m rp (.slice (some ⟨ob, 0, none⟩) ps.length (ps.length + 2))] W fun e w' => e = .returned (.tuple #[strV (writeS ⟨m, rp, R⟩).1, .int .i64 (writeS ⟨m, rp, R⟩).2]) ∧ Bx (WI w m rp pa pc ps ob ib L w')) := ⟨fun W ob ib L R h hR hl hwf hm => by
    have hv := h.ow.view ps.length hm
    rw [hR] at hv
    have := Print_any W (hL.below h.bel) ⟨m, rp, R⟩ ⟨hw.lim, hwf⟩ (some ⟨ob, 0, none⟩) (ps.length + 2) hv
    simp only [hl] at this
    exact this.mono fun e w' q => ⟨q.1, ⟨h.below q.2.out⟩⟩⟩
  have HRF : Bx (∀ W ob ib L, WI w m rp pa pc ps ob ib L W → Calls Tryd.prog 14 #[scV m rp (.slice pa ps.length pc)] W fun e w' => e = .returned (.tuple #[strV (writeS ⟨m, rp, ps⟩).1, .int .i64 (writeS ⟨m, rp, ps⟩).2]) ∧ Bx (WI w m rp pa pc ps ob ib L w')) := ⟨fun W ob ib L h => (rPrint_any W ⟨m, rp, ps⟩ hw pa pc ((hp.below h.bel).up h.bel.size)).mono fun e w' q => ⟨q.1, ⟨h.below q.2.out⟩⟩⟩
  have HPK : Bx (∀ W ob ib, WI w m rp pa pc ps ob ib (tnL ps 0) W → Calls Tryd.prog 15 #[.slice (some ⟨ob, 0, none⟩) ps.length (ps.length + 2), .slice pa ps.length pc] W fun e w' => e = .returned (.bool true) ∧ Bx (WI w m rp pa pc ps ob ib (tnL ps 0) w')) := ⟨fun W ob ib h => by
    have hv := h.ow.view ps.length (by rw [tnL_len ps (Nat.zero_le _)]; unfold maxLen; omega)
    have e : (tnL ps 0).take ps.length = ps := by rw [tnL_zero]; simp
    rw [e] at hv
    exact (picks_yes W (some ⟨ob, 0, none⟩) pa (ps.length + 2) pc ps hv ((hp.below h.bel).up h.bel.size)).mono fun e w' q => ⟨q.1, ⟨h.below q.2.out⟩⟩⟩
  have HW0 : Bx (∀ W ob ib, WI w m rp pa pc ps ob ib (tnL ps 0) W → W.cell? ⟨ob, ps.length * 3, none⟩ = some (.int .i64 (-7)) ∧ W.cell? ⟨ob, (ps.length + 1) * 3, none⟩ = some (.int .i64 (-8))) := ⟨fun W ob ib h => by
    have ho := h.ow
    rw [tnL_zero] at ho
    have hl : (ps ++ [⟨-7, 0, 0⟩, ⟨-8, 0, 0⟩] : List Pk).length = ps.length + 2 := by simp
    have a := (ho.cell (i := ps.length) (by omega)).1
    have b := (ho.cell (i := ps.length + 1) (by omega)).1
    have ea : ((ps ++ [⟨-7, 0, 0⟩, ⟨-8, 0, 0⟩] : List Pk)[ps.length]'(by omega)) = ⟨-7, 0, 0⟩ := by simp
    have eb : ((ps ++ [⟨-7, 0, 0⟩, ⟨-8, 0, 0⟩] : List Pk)[ps.length + 1]'(by omega)) = ⟨-8, 0, 0⟩ := by simp
    rw [ea] at a
    rw [eb] at b
    exact ⟨a, b⟩⟩
  have HP1 : Bx (∀ W ob ib, WI w m rp pa pc ps ob ib (tnL ps 0) W → Calls Tryd.prog 13 #[scV m rp (.slice (some ⟨ob, 0, none⟩) ps.length (ps.length + 2))] W fun e w' => e = .returned (.tuple #[strV (writeS ⟨m, rp, ps⟩).1, .int .i64 (writeS ⟨m, rp, ps⟩).2]) ∧ Bx (WI w m rp pa pc ps ob ib (tnL ps 0) w')) := ⟨fun W ob ib h => HPR.out W ob ib _ ps h (by rw [tnL_zero]; simp) rfl hw.picks (by rw [tnL_len ps (Nat.zero_le _)]; unfold maxLen; omega)⟩
  have HTU : Bx (∀ W ob ib i j (hjl : j < ps.length), WI w m rp pa pc ps ob ib (tnL ps i) W → i < ps.length → j = ps.length - 1 - i → w.heap.size < ob → ib = ob + 1 → WI w m rp pa pc ps ob ib (tnL ps (i + 1)) (((W.setCell ⟨ob, i * 3, none⟩ (.int .i64 ps[j].kind)).setCell ⟨ob, i * 3 + 1, none⟩ (.int .i64 ps[j].n)).setCell ⟨ob, i * 3 + 2, none⟩ (.int .i64 ps[j].v))) := ⟨fun W ob ib i j hjl h hi hj ho hib => h.turn hi hj hjl ho hib⟩
  have HSR : Bx (∀ W ob ib L, WI w m rp pa pc ps ob ib L W → PkV W w.heap.size pa ps) := ⟨fun W ob ib L h => hp.below h.bel⟩
  have HTC : Bx (∀ W ob ib i, WI w m rp pa pc ps ob ib (tnL ps i) W → i < ps.length → ∃ x y z, W.cell? ⟨ob, i * 3, none⟩ = some (.int .i64 x) ∧ W.cell? ⟨ob, i * 3 + 1, none⟩ = some (.int .i64 y) ∧ W.cell? ⟨ob, i * 3 + 2, none⟩ = some (.int .i64 z) ∧ W.frozen? ⟨ob, i * 3, none⟩ = false ∧ W.frozen? ⟨ob, i * 3 + 1, none⟩ = false ∧ W.frozen? ⟨ob, i * 3 + 2, none⟩ = false) := ⟨fun W ob ib i h hi => by
    obtain ⟨a, b, c⟩ := h.ow.cell (i := i) (by rw [tnL_len ps (by omega)]; omega)
    exact ⟨_, _, _, a, b, c, h.ow.frz _, h.ow.frz _, h.ow.frz _⟩⟩
  have HAP : Bx (∀ ob ib wr, w.heap.size < ob → ib = ob + 1 → WI w m rp pa pc ps ob ib (tnL ps ps.length) wr → _) := ⟨fun ob ib wr ho hib h => writes_app hN ho hib wr h⟩
  have hwr : (⟨m, rp, ps.reverse⟩ : Sc).Wf := ⟨hw.lim, fun p hp => hw.picks p (by simpa using hp)⟩
  have HP3 : Bx (∀ W ob ib, WI w m rp pa pc ps ob ib (tnL ps ps.length) W → Calls Tryd.prog 13 #[scV m rp (.slice (some ⟨ob, 0, none⟩) ps.length (ps.length + 2))] W fun e w' => e = .returned (.tuple #[strV (writeS ⟨m, rp, ps.reverse⟩).1, .int .i64 (writeS ⟨m, rp, ps.reverse⟩).2]) ∧ Bx (Below W.heap.size W w')) := ⟨fun W ob ib h => by
    have hv := h.ow.view ps.length (by rw [tnL_len ps (Nat.le_refl _)]; unfold maxLen; omega)
    have e : (tnL ps ps.length).take ps.length = ps.reverse := by
      rw [tnL_all, List.take_append_of_le_length (by simp)]
      exact List.take_of_length_le (by simp)
    rw [e] at hv
    have := Print_any W (hL.below h.bel) ⟨m, rp, ps.reverse⟩ hwr (some ⟨ob, 0, none⟩) (ps.length + 2) hv
    simp only [List.length_reverse] at this
    exact this⟩
  have HR3 : Bx (∀ W W' g c, Below w.heap.size w W → PkV W W.heap.size (some ⟨g, 0, none⟩) ps.reverse → Below W.heap.size W W' → Calls Tryd.prog 14 #[scV m rp (.slice (some ⟨g, 0, none⟩) ps.length c)] W' fun e w' => e = .returned (.tuple #[strV (writeS ⟨m, rp, ps.reverse⟩).1, .int .i64 (writeS ⟨m, rp, ps.reverse⟩).2]) ∧ Bx (Below w.heap.size w w')) := ⟨fun W W' g c hb hv hb' => by
    have := rPrint_any W' ⟨m, rp, ps.reverse⟩ hwr (some ⟨g, 0, none⟩) c ((hv.below hb').up hb'.size)
    simp only [List.length_reverse] at this
    have hbw := hb.trans (hb'.mono hb.size)
    exact this.mono fun e w' q => ⟨q.1, ⟨hbw.trans (q.2.out.mono hbw.size)⟩⟩⟩
  obtain ⟨T1, hT1⟩ : ∃ R, R = (writeS ⟨m, rp, ps.reverse⟩).1 := ⟨_, rfl⟩
  obtain ⟨T2, hT2⟩ : ∃ R, R = (writeS ⟨m, rp, ps.reverse⟩).2 := ⟨_, rfl⟩
  rw [← hT1, ← hT2] at HP3 HR3
  have n1 : (ps.length : Int) ≤ 5864062014634 := by omega
  obtain ⟨R1, hR1⟩ : ∃ R, R = (writeS ⟨m, rp, ps⟩).1 := ⟨_, rfl⟩
  obtain ⟨R2, hR2⟩ : ∃ R, R = (writeS ⟨m, rp, ps⟩).2 := ⟨_, rfl⟩
  rw [← hR1, ← hR2] at HP1 HRF
  have HC8 : Bx (∀ W ob ib L, WI w m rp pa pc ps ob ib L W → W.cell? ⟨w.heap.size, 8, none⟩ = some (.slice pa ps.length pc)) := ⟨fun W ob ib L h => cell_blk h.sb rfl⟩
  clear hR1 hR2 hb0 hsb hT1 hT2 hwr HPR
  go_enter Tryd.func4, Tryd.ntmps4
  go_wp2_with (first
    | (go_at_call 14; refine (HRF.out _ _ _ _ H9.out).mono ?_; rintro e w10 ⟨rfl, H10⟩; have c10 := HC8.out _ _ _ _ H10.out)
    | (go_at_call 13; refine (HP1.out _ _ _ H8.out).mono ?_; rintro e w9 ⟨rfl, H9⟩; obtain ⟨s0, s1, s2, s3, s4, s5, s6, s7, s8⟩ := cells9 H9.out.sb; clear H8)
    | (go_at_call 13; refine (HP1.out _ _ _ H7.out).mono ?_; rintro e w8 ⟨rfl, H8⟩; obtain ⟨r0, r1, r2, r3, r4, r5, r6, r7, r8⟩ := cells9 H8.out.ib; clear H7)
    | (go_at_call 7; rw [← hw0]; refine HSN.out.mono ?_; rintro e w1 ⟨rfl, H1⟩; obtain ⟨y8, hlt1, W2, W3, W4, W5, W6, W7, hx⟩ := HPP.out w1 H1.out; have hmk := hx.mk2; have hcp := hx.cp 3; have e4 := hx.e4; have e5 := hx.e5; have e6 := hx.e6; have e7 := hx.e7; have z2 := hx.c2; obtain ⟨z3, z3f⟩ := hx.c3; obtain ⟨z4, z4f⟩ := hx.c4; obtain ⟨u0, u1, u2, u3, u4, u5, u6, u7, u8⟩ := cells9 hx.c5; have S5 := hx.s5; obtain ⟨z6, z6f⟩ := hx.c6; have H7 : Bx _ := ⟨hx.wi⟩; obtain ⟨d0, d1, d2, d3, d4, d5, d6, d7, d8⟩ := cells9 hx.wi.ib; clear hx))
  have b1 : (0 : Int) ≤ (ps.length : Int) := by omega
  have b2 : (ps.length : Int) ≤ ((ps.length + 2 : Nat) : Int) := by omega
  have b3 : (ps.length : Int) ≤ (ps.length : Int) + 2 := by omega
  clear hmk hcp e4 e5 e6 e7 z2 z3 z3f z4 z4f u0 u1 u2 u3 u4 u5 u6 u7 u8 S5 z6 z6f d0 d1 d2 d3 d4 d5 d6 d7 d8 y8 HSN HPP s0 s1 s2 s3 s4 s5 s6 s7 s8 r0 r1 r2 r3 r4 r5 r6 r7 r8 H9 H1
  go_region_held3 (fun Y => Y.cell? ⟨w.heap.size, 8, none⟩ = some (.slice pa ps.length pc)) (first | exact q11 | go_keep) (first | (go_at_call 15; refine (HPK.out w10.drew _ _ H10.out.drew).mono ?_; rintro e w11 ⟨rfl, H11⟩; have q11 := HC8.out _ _ _ _ H11.out; obtain ⟨m7, m8⟩ := HW0.out _ _ _ H11.out))
  clear HW0 HPK HP1 HRF H10 c10 hw hp hL
  go_wp2
  have HLT : Bx (w.heap.size < w1.heap.size) := ⟨hlt1⟩
  clear hlt1 q11 m7 m8
  go_loopw [14] (fun x wr => ∃ i : Nat, i ≤ ps.length ∧ x = .int .i64 i ∧ Bx (WI w m rp pa pc ps w1.heap.size (w1.heap.size + 1) (tnL ps i) wr)) (fun x _ => ps.length - (intOf x).toNat)
  case atStart => exact ⟨0, Nat.zero_le _, rfl, H11⟩
  case round =>
    obtain ⟨i, hi, rfl, HS⟩ := hrel
    clear H11
    have f8 := HC8.out _ _ _ _ HS.out
    by_cases hlt : i < ps.length
    · obtain ⟨b, o, rfl, hbB, hc⟩ := (HSR.out _ _ _ _ HS.out).at_ (by omega)
      obtain ⟨j, hj⟩ : ∃ j, j = ps.length - 1 - i := ⟨_, rfl⟩
      have hjl : j < ps.length := by omega
      obtain ⟨k0, k1, k2⟩ := hc j hjl
      have hji : (ps.length : Int) - 1 - (i : Int) = (j : Int) := by omega
      obtain ⟨x, y, z, t0, t1, t2, u0, u1, u2⟩ := HTC.out _ _ _ i HS.out hlt
      have HNX : Bx _ := ⟨HTU.out wr w1.heap.size (w1.heap.size + 1) i j hjl HS.out hlt hj HLT.out rfl⟩
      have hj1 : (j : Int) < (ps.length : Int) := by omega
      have hj0 : (0 : Int) ≤ (j : Int) := by omega
      have hi0 : (0 : Int) ≤ (i : Int) := by omega
      have hi1 : (i : Int) < (ps.length : Int) + 2 := by omega
      clear hc HS HTU HTC HSR HC8 HAP HP3 HR3 hj
      generalize ps[j].kind = xk at *
      generalize ps[j].n = xn at *
      generalize ps[j].v = xv at *
      go_wp2
      go_roundw
      case rel => exact ⟨i + 1, by omega, by go_num, HNX⟩
      case measure => simp [intOf]; omega
    · have hie : i = ps.length := by omega
      subst hie
      obtain ⟨g, c, W22, hap, x8, x8f, hwi, htb, hpv⟩ := HAP.out _ _ wr HLT.out rfl HS.out
      obtain ⟨r0, r1, r2, r3, r4, r5, r6, r7, r8⟩ := cells9 HS.out.ib
      obtain ⟨W23, hW23⟩ : ∃ W, W22.setCell ⟨wr.heap.size, 8, none⟩ (.slice (some ⟨g, 0, none⟩) ps.length c) = W := ⟨_, rfl⟩
      rw [hW23] at hwi htb hpv
      obtain ⟨s0, s1, s2, s3, s4, s5, s6, s7, s8⟩ := cells9 hwi.ib
      have HPW : Bx _ := ⟨HP3.out W23 _ _ hwi⟩
      have HT : Bx (∀ W', Below W23.heap.size W23 W' → W'.heap[wr.heap.size]? = some (.cells #[.int .i64 m.a, .int .i64 m.b, .int .i64 m.c, .int .i64 m.d, .int .i64 m.e, .int .i64 m.f, .int .i64 m.g, .bool rp, .slice (some ⟨g, 0, none⟩) ps.length c] 31 (0, 0))) := ⟨fun W' h => below_heap h htb⟩
      have HRW : Bx (∀ W', Below W23.heap.size W23 W' → _) := ⟨fun W' h => HR3.out W23 W' g c hwi.bel hpv h⟩
      have HAPP : Bx _ := ⟨hap⟩
      clear hap hwi htb hpv HS HTU HTC HSR HC8 HAP HP3 HR3 f8
      go_wp2_with (first
        | (go_at_call 14; refine (HRW.out _ H24.out).mono ?_; rintro e w25 ⟨rfl, H25⟩)
        | (go_at_call 13; refine HPW.out.mono ?_; rintro e w24 ⟨rfl, H24⟩; obtain ⟨v0, v1, v2, v3, v4, v5, v6, v7, v8⟩ := cells9 (HT.out _ H24.out))
        | (at_builtin; refine wpList_appI rfl (.tmp 122) (.tmp 125) 29 rfl rfl rfl HAPP.out ?_))
      go_ret
      exact ⟨rfl, H25⟩
theorem writes_walk (w : World) (s : Sc) (a : Option Addr) (cap : Nat) (hs : s.Wf) (hp : PkV w w.heap.size a s.picks) (hN : s.picks.length ≤ 5864062014634) (hL : LW w) :
    Calls Tryd.prog 4 #[scV s.lim s.reap (.slice a s.picks.length cap)] w fun e w' => e = .returned (.bool true) ∧ Below w.heap.size w w' := by
  obtain ⟨m, rp, ps⟩ := s
  exact (writes_walk0 w m rp ps a cap hs hp hN hL).mono fun e w' h => ⟨h.1, h.2.out⟩
end Go.Proofs.YtpnbjkegpbpcjaaDoor
