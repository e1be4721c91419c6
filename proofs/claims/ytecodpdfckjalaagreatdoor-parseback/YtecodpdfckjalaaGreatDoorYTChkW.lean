import Derived.Test.YtecodpdfckjalaaGreatDoorYTNode
import Derived.Test.YtecodpdfckjalaaGreatDoorYRRd2
set_option linter.unusedVariables false
set_option linter.unusedSimpArgs false
set_option maxHeartbeats 4000000
set_option maxRecDepth 100000
namespace Go.Proofs.YtecodpdfckjalaaGreatDoor
open Go.RowKit
theorem info3 : (Tryz.prog.info? 3).map (fun i => (i.zero, i.size, i.bytes)) = some (some (.int .i64 0), 1, 8) := by kernel_rfl
def zeros (N : Nat) : Array Value := madeCells #[.int .i64 0] (N * 1)
theorem lF (w : World) (N : Nat) (hN : N <= 2199023255552) : (Instr.makeSlice 39 (.int .i64 N) (.int .i64 N)).run Tryz.prog w = .ok (.slice (some ⟨w.heap.size, 0, none⟩) N N) (w.alloc (.cells (zeros N) 3)) := by
 obtain ⟨i0, hi, hz0, hz1, hz2⟩ := info_parts info3
 have := run_make (P := Tryz.prog) w 39 3 i0 (.int .i64 0) Tryz.underlying39 hi hz0 .i64 .i64 (N : Int) (N : Int) (by omega) (by omega) (by rw [hz2]; omega) (by omega)
 rw [hz1] at this
 simpa [zeros, Value.cells] using this
theorem oF (w : World) (N : Nat) : gU (w.alloc (.cells (zeros N) 3)) w.heap.size N [] := by
 refine ⟨zeros N, heap_alloc_new w _, by simp [zeros, madeCells], (fun j hj => (by cases hj)), fun j hj => ⟨0, ?_⟩⟩
 simp [zeros, madeCells, hj, Nat.mod_one]
theorem qU (w : World) (B nb no nc : Nat) (l : List Nd) (hn : gG w B nb no nc l) (hL : Laid w) (hl31 : l.length <= 2199023255552) (h0 : 0 < l.length) :
  Calls Tryz.prog 8 #[.slice (some ⟨nb, no, none⟩) l.length nc] w fun e w' => e = .returned (.tuple #[.int .i64 ((bG l).1 : Nat), .int .i64 ((bG l).2 : Nat)]) /\ Below w.heap.size w w' := by
 have hmk := lF w l.length hl31
 have HN : Bx (gG w B nb no nc l /\ Laid w) := ⟨hn, hL⟩
 have hnb : nb < w.heap.size := Nat.lt_of_lt_of_le hn.lo hn.hi
 generalize hR : bG l = R
 have HR : Bx _ := ⟨hR⟩
 clear hn hL hR
 go_enter Tryz.func8, Tryz.ntmps8
 go_wp2
 go_loopw [13] (fun x wr => ∃ fs : List Nat, fs.length <= l.length /\ x = .int .i64 fs.length /\ Bx (Ab w wr l fs)) (fun x _ => l.length - (intOf x).toNat)
 case atStart => exact ⟨[], Nat.zero_le _, rfl, ⟨ah w _, oF w l.length, fun j hj => (by cases hj), fun j hj => (by cases hj), rfl⟩⟩
 case round =>
  obtain ⟨fs, hfs, rfl, HS⟩ := hrel
  by_cases hlt : fs.length < l.length
  ·have HC : Bx _ := ⟨tF wr B nb no nc w.heap.size l.length l.length l fs (HS.out.ckw HN.out.1 HN.out.2) hlt (by omega) (by unfold maxLen; omega) HS.out.le⟩
   have hsz := HS.out.bel.size
   by_cases hz : dE l fs fs.length = 0
   ·rw [hz] at HC
    obtain ⟨q1, q2, q3, q4, q5, q6, q7⟩ := ic hz
    have HX : Bx (∀ w1, Below w.heap.size w w1 -> gU w1 w.heap.size l.length fs -> ∀ x, x = dQ fs (ndN l fs.length) fs.length -> Ab w (w1.setCell ⟨w.heap.size, fs.length, none⟩ (.int .i64 (x : Nat))) l (fs ++ [x])) := ⟨fun w1 => HS.out.next hlt hz⟩
    obtain ⟨ka, kc, hnd⟩ := (HN.out.1.below (HS.out.bel.mono HN.out.1.hi)).at_ fs.length hlt
    have hB := HN.out.1.hi
    have HA : Bx (∀ w1, Below wr.heap.size wr w1 -> Below w.heap.size w w1 /\ gU w1 w.heap.size l.length fs /\ zX w1 B nb (no + fs.length * 5) (ndN l fs.length) ka kc) :=
     ⟨fun w1 hb1 => ⟨HS.out.bel.trans (hb1.mono hsz), HS.out.row.below hb1, hnd.below (hb1.mono (by omega)) HN.out.1.lo⟩⟩
    have hle := HS.out.le
    have hne : ¬ nb = w.heap.size := by omega
    match hk : (ndN l fs.length).kids with
    | [] =>
     have hfo : dQ fs (ndN l fs.length) fs.length = fs.length := by unfold dQ; rw [hk]
     rw [hfo] at HX
     clear hnd q1 q2 q3 q4 q5 q6 q7 hle hfo
     go_wp2_with (first | (go_at_call 16; refine Calls.mono HC.out ?_; rintro e w1 ⟨rfl, hb1⟩; obtain ⟨g1, g2, g3⟩ := HA.out w1 hb1; obtain ⟨x0, g4⟩ := g2.cell fs.length hlt; have g5 := g2.frozen fs.length; have g6 := g2.lt; have g7 := g3.c2; rw [hk] at g7; have g8 : Bx _ := ⟨g2⟩; clear g2 g3))
     go_roundw
     case rel => exact ⟨fs ++ [fs.length], by simp; omega, by first | (simp; done) | (simp; go_num), ⟨HX.out _ g1 g8.out _ rfl⟩⟩
     case measure => simp [intOf]; omega
    | k :: r =>
     rw [hk] at q5
     obtain ⟨m, hm, hmlt⟩ := nH hle q5 0 (by simp)
     simp at hm
     subst hm
     have hfo : dQ fs (ndN l fs.length) fs.length = fs.getD m 0 := by unfold dQ; rw [hk]; simp
     rw [hfo] at HX
     have hfc := HS.out.row.iX m hmlt
     have hnm : ¬ fs.length = m := by omega
     have hmn : ¬ m = fs.length := by omega
     have HK : Bx (∀ w1, Below wr.heap.size wr w1 -> ∃ b o, ka = some ⟨b, o, none⟩ /\ w1.cell? ⟨b, o, none⟩ = some (.int .i64 (m : Int)) /\ ¬ b = w.heap.size) := ⟨fun w1 hb1 => by
      obtain ⟨a, cap, he, h1, h2, h3⟩ := (hnd.below (hb1.mono (by omega)) HN.out.1.lo).kids.ex
      simp only [Value.slice.injEq, true_and] at he
      obtain ⟨rfl, rfl⟩ := he
      rw [hk] at h3
      obtain ⟨b, o, rfl, hbB, hcell⟩ := h3 (by simp)
      have := hcell 0 (by simp)
      simp only [List.getElem_cons_zero, Nat.add_zero] at this
      exact ⟨b, o, rfl, this, by omega⟩⟩
     have HF : Bx (∀ w1, Below wr.heap.size wr w1 -> w1.cell? ⟨w.heap.size, m, none⟩ = some (.int .i64 (fs.getD m 0 : Nat))) := ⟨fun w1 hb1 => (HS.out.row.below hb1).iX m hmlt⟩
     obtain ⟨b, o, rfl, _⟩ := HK.out wr (Below.refl _ _)
     have hln : r.length + 1 <= maxLen := by
      obtain ⟨a, cap, he, h1, h2, h3⟩ := hnd.kids.ex
      rw [hk] at h2
      simpa using h2
     unfold maxLen at hln
     generalize fs.getD m 0 = z at *
     clear hnd q1 q2 q3 q4 q5 q6 q7 hle hfo hfc
     go_wp2_with (first | (go_at_call 16; refine Calls.mono HC.out ?_; rintro e w1 ⟨rfl, hb1⟩; obtain ⟨g1, g2, g3⟩ := HA.out w1 hb1; obtain ⟨x0, g4⟩ := g2.cell fs.length hlt; have g5 := g2.frozen fs.length; have g6 := g2.lt; have g7 := g3.c2; rw [hk] at g7; have g8 : Bx _ := ⟨g2⟩; have g9 := HF.out w1 hb1; obtain ⟨b', o', hbe, ga, gb⟩ := HK.out w1 hb1; simp only [Option.some.injEq, Addr.mk.injEq, and_true] at hbe; obtain ⟨rfl, rfl⟩ := hbe; clear g2 g3))
     go_roundw
     case rel => exact ⟨fs ++ [z], by simp; omega, by first | (simp; done) | (simp; go_num), ⟨HX.out _ (Below.setCell (p := ⟨w.heap.size, fs.length, none⟩) g1 (Nat.le_refl _) _) (g8.out.put hlt _) _ rfl⟩⟩
     case measure => simp [intOf]; omega
   ·have HE : Bx (R = (fs.length, dE l fs fs.length)) := ⟨by
     rw [← HR.out, HS.out.eq]
     obtain ⟨m, hm⟩ : ∃ m, l.length - fs.length = m + 1 := ⟨l.length - fs.length - 1, by omega⟩
     rw [hm, gK, if_neg hz]⟩
    generalize dE l fs fs.length = cd at *
    have hcd : ((cd : Int) != 0) = true := by rw [bne_iff_ne]; omega
    clear hz
    go_wp2_with (first | (go_at_call 16; refine Calls.mono HC.out ?_; rintro e w1 ⟨rfl, hb1⟩))
    go_ret2
    exact ⟨by rw [HE.out]; rfl, HS.out.bel.trans (hb1.mono hsz)⟩
  ·have hfl : fs.length = l.length := by omega
   have HE : Bx (R = xx l fs) := ⟨by rw [← HR.out, HS.out.eq, show l.length - fs.length = 0 by omega]; rfl⟩
   obtain ⟨N, hN⟩ : ∃ N, l.length = N + 1 := ⟨l.length - 1, by omega⟩
   obtain ⟨ka, kc, hnd⟩ := (HN.out.1.below (HS.out.bel.mono HN.out.1.hi)).at_ N (by omega)
   have hc0 := hnd.c0
   have hfc := HS.out.row.iX N (by omega)
   have hle := HS.out.le N (by omega)
   have hbel := HS.out.bel
   have hsz := HS.out.row.lt
   change wr.cell? _ = some (.int .i64 (kdN l N)) at hc0
   have HE' : Bx (R = if kdN l N ≠ 46 ∨ fs.getD N 0 ≠ 0 then (N + 1, 25) else (0, 0)) := ⟨by
    rw [HE.out]; unfold xx; rw [hN]; simp⟩
   generalize fs.getD N 0 = z at *
   generalize kdN l N = kd at *
   have hNi : ((N + 1 : Nat) : Int) - 1 = (N : Int) := by omega
   clear HE HS HR HN
   cases e1 : (kd != 46)
   ·cases e2 : ((z : Int) != 0)
    ·have HE2 : Bx (R = (0, 0)) := ⟨by rw [HE'.out, if_neg (by simp at e1 e2; omega)]⟩
     clear HE'
     go_wp2
     go_ret2
     exact ⟨by rw [HE2.out]; rfl, hbel⟩
    ·have HE2 : Bx (R = (l.length, 25)) := ⟨by rw [HE'.out, if_pos (by simp at e1 e2; omega), hN]⟩
     clear HE'
     go_wp2
     go_ret2
     exact ⟨by rw [HE2.out, hN]; simp, hbel⟩
   ·have HE2 : Bx (R = (l.length, 25)) := ⟨by rw [HE'.out, if_pos (by simp at e1; omega), hN]⟩
    clear HE'
    go_wp2
    go_ret2
    exact ⟨by rw [HE2.out, hN]; simp, hbel⟩
theorem Ac (w : World) (a : Option Addr) (cap : Nat) :
  Calls Tryz.prog 8 #[.slice a 0 cap] w fun e w' => e = .returned (.tuple #[.int .i64 0, .int .i64 25]) /\ Below w.heap.size w w' := by
 have hmk := lF w 0 (by omega)
 simp only [Int.natCast_zero] at hmk
 go_enter Tryz.func8, Tryz.ntmps8
 go_wp2
 go_loopw [13] (fun x wr => x = .int .i64 0 /\ Below w.heap.size w wr) (fun _ _ => 0)
 case atStart => exact ⟨rfl, ah w _⟩
 case round =>
  obtain ⟨rfl, hbel⟩ := hrel
  go_wp2
  go_ret2
  exact ⟨rfl, hbel⟩
structure cK (w : World) (B : Nat) (a : Option Addr) (cap : Nat) (l : List Nd) : Prop where
 at_ : 0 < l.length -> ∃ nb no, a = some ⟨nb, no, none⟩ /\ gG w B nb no cap l
 hi : B <= w.heap.size
theorem cK.below {w w' : World} {B cap : Nat} {a : Option Addr} {l : List Nd} (h : cK w B a cap l) (hb : Below B w w') : cK w' B a cap l := by
 refine ⟨fun h0 => ?_, Nat.le_trans h.hi hb.size⟩
 obtain ⟨nb, no, e, hn⟩ := h.at_ h0
 exact ⟨nb, no, e, hn.below hb⟩
theorem uw (w : World) (B : Nat) (a : Option Addr) (cap : Nat) (l : List Nd) (hn : cK w B a cap l) (hL : Laid w) (hl31 : l.length <= 2199023255552) :
  Calls Tryz.prog 8 #[.slice a l.length cap] w fun e w' => e = .returned (.tuple #[.int .i64 ((bG l).1 : Nat), .int .i64 ((bG l).2 : Nat)]) /\ Below w.heap.size w w' := by
 by_cases h0 : 0 < l.length
 ·obtain ⟨nb, no, rfl, h⟩ := hn.at_ h0
  exact qU w B nb no cap l h hL hl31 h0
 ·have hx : l = [] := List.eq_nil_of_length_eq_zero (by omega)
  subst hx
  exact Ac w a cap
def iC (hs : List Nat) : List Int -> Nat -> Nat
 | [], t => t
 | k :: r, t => iC hs r (if 0 <= k /\ k < hs.length then max t (hs.getD k.toNat 0) else t)
def fB (l : List Nd) : Nat -> List Nat -> List Nat
 | 0, hs => hs
 | m + 1, hs => fB l m (hs ++ [iC hs (ndN l hs.length).kids 0 + 1])
def dK (l : List Nd) : List Nat := fB l l.length []
theorem qV (hs : List Nat) (B : Nat) (hB : ∀ j, j < hs.length -> hs.getD j 0 <= B) : ∀ (ks : List Int) (t : Nat), t <= B -> iC hs ks t <= B
 | [], t, h => h
 | k :: r, t, h => by
  rw [iC]
  apply qV hs B hB r
  split
  ·rename_i hk
   have := hB k.toNat (by omega)
   omega
  ·exact h
structure Ez (w : World) (wr : World) (l : List Nd) (hs : List Nat) : Prop where
 bel : Below w.heap.size w wr
 row : gU wr w.heap.size l.length hs
 le : ∀ j, j < hs.length -> hs.getD j 0 <= hs.length
 eq : dK l = fB l (l.length - hs.length) hs
theorem Ez.next {w wr w1 : World} {l : List Nd} {hs : List Nat} (h : Ez w wr l hs) (hi : hs.length < l.length) (hbel : Below w.heap.size w w1) (hrow : gU w1 w.heap.size l.length hs) (x : Nat) (hx : x = iC hs (ndN l hs.length).kids 0 + 1) :
  Ez w (w1.setCell ⟨w.heap.size, hs.length, none⟩ (.int .i64 (x : Nat))) l (hs ++ [x]) := by
 subst hx
 have ht := qV hs hs.length h.le (ndN l hs.length).kids 0 (Nat.zero_le _)
 refine ⟨Below.setCell (p := ⟨w.heap.size, hs.length, none⟩) hbel (Nat.le_refl _) _, hrow.set hi _, ?_, ?_⟩
 ·intro j hj
  simp at hj
  by_cases hj2 : j < hs.length
  ·have := h.le j hj2
   simp only [List.getD_eq_getElem?_getD] at this ⊢
   rw [List.getElem?_append_left hj2]
   simp
   omega
  ·have : j = hs.length := by omega
   subst this
   simp [List.getD_eq_getElem?_getD]
   omega
 ·rw [h.eq]
  obtain ⟨m, hm⟩ : ∃ m, l.length - hs.length = m + 1 := ⟨l.length - hs.length - 1, by omega⟩
  rw [hm, fB]
  congr 1
  simp
  omega
theorem Ad {hs : List Nat} {ks : List Int} {p t : Nat} (h : p < ks.length) : iC hs (ks.drop p) t = iC hs (ks.drop (p + 1)) (if 0 <= ks[p] /\ ks[p] < hs.length then max t (hs.getD ks[p].toNat 0) else t) := by
 rw [List.drop_eq_getElem_cons h, iC]
theorem xy (w : World) (B nb no nc : Nat) (l : List Nd) (hn : gG w B nb no nc l) (hl31 : l.length <= 2147483647) (h0 : 0 < l.length) :
  Calls Tryz.prog 14 #[.slice (some ⟨nb, no, none⟩) l.length nc] w fun e w' => e = .returned (.slice (some ⟨w.heap.size, 0, none⟩) l.length l.length) /\ gU w' w.heap.size l.length (dK l) /\ Below w.heap.size w w' := by
 have hmk := lF w l.length (by omega)
 have HN : Bx (gG w B nb no nc l) := ⟨hn⟩
 have hnb : nb < w.heap.size := Nat.lt_of_lt_of_le hn.lo hn.hi
 clear hn
 go_enter Tryz.func14, Tryz.ntmps14
 go_wp2
 go_loopw [14] (fun x wr => ∃ hs : List Nat, hs.length <= l.length /\ x = .int .i64 hs.length /\ Bx (Ez w wr l hs)) (fun x _ => l.length - (intOf x).toNat)
 case atStart => exact ⟨[], Nat.zero_le _, rfl, ⟨ah w _, oF w l.length, fun j hj => (by cases hj), rfl⟩⟩
 case round =>
  obtain ⟨hs, hhs, rfl, HS⟩ := hrel
  by_cases hlt : hs.length < l.length
  ·have hsz := HS.out.bel.size
   have hB := HN.out.hi
   obtain ⟨ka, kc, hnd⟩ := (HN.out.below (HS.out.bel.mono HN.out.hi)).at_ hs.length hlt
   obtain ⟨c0, c1, c2, c3, c4⟩ := hnd.five
   have HX : Bx (∀ w1, Below w.heap.size w w1 -> gU w1 w.heap.size l.length hs -> ∀ x, x = iC hs (ndN l hs.length).kids 0 + 1 -> Ez w (w1.setCell ⟨w.heap.size, hs.length, none⟩ (.int .i64 (x : Nat))) l (hs ++ [x])) := ⟨fun w1 h1 h2 => HS.out.next hlt h1 h2⟩
   have ht := qV hs hs.length HS.out.le
   have HK : Bx _ := ⟨hnd.kids⟩
   have hb1 := ah wr (.cells #[.int .i64 (ndN l hs.length).kind, .int .i64 (ndN l hs.length).pos, .slice ka (ndN l hs.length).kids.length kc, .string (ndN l hs.length).name, .int .i64 (ndN l hs.length).num] 44)
   have hrow := HS.out.row.below hb1
   have hbel := HS.out.bel.trans (hb1.mono hsz)
   have hks := HK.out.below (hb1.mono (by omega))
   clear hb1 hnd HK
   generalize (ndN l hs.length).kids = ks at *
   generalize (ndN l hs.length).kind = kd at *
   generalize (ndN l hs.length).pos = ps at *
   generalize (ndN l hs.length).name = nm at *
   generalize (ndN l hs.length).num = num at *
   have hkl : ks.length <= maxLen := by
    obtain ⟨_, _, _, _, h2, _⟩ := hks.ex
    exact h2
   unfold maxLen at hkl
   have HQ : Bx (gU _ w.heap.size l.length hs /\ Below w.heap.size w _ /\ aO _ B _ ks) := ⟨hrow, hbel, hks⟩
   have HT : Bx _ := ⟨ht⟩
   clear hrow hbel hks ht
   go_wp2
   go_loop [22, 6] (fun x t => ∃ p tp : Nat, p <= ks.length /\ tp <= hs.length /\ x = .int .i64 p /\ t = .int .i64 tp /\ Bx (iC hs (ks.drop p) tp = iC hs ks 0)) (fun x _ => ks.length - (intOf x).toNat)
   case atStart => exact ⟨0, 0, Nat.zero_le _, Nat.zero_le _, rfl, rfl, ⟨rfl⟩⟩
   case round =>
    obtain ⟨p, tp, hp, htp, rfl, rfl, HP⟩ := hrel
    by_cases hplt : p < ks.length
    ·obtain ⟨a, cap, he, h1, h2, h3⟩ := HQ.out.2.2.ex
     simp only [Value.slice.injEq, true_and] at he
     obtain ⟨rfl, rfl⟩ := he
     obtain ⟨b, o, rfl, hbB, hcell⟩ := h3 (by omega)
     have hc := hcell p hplt
     have HP2 := Ad (hs := hs) (t := tp) hplt
     generalize ks[p] = x at *
     clear hcell h3 h2 h1
     by_cases hx : 0 <= x /\ x < hs.length
     ·obtain ⟨m, rfl⟩ : ∃ m : Nat, x = (m : Int) := ⟨x.toNat, by omega⟩
      have hm : m < hs.length := by omega
      have hcf := HQ.out.1.iX m hm
      have hlez := HS.out.le m hm
      rw [if_pos hx, Int.toNat_natCast] at HP2
      generalize hs.getD m 0 = z at *
      have HP3 : Bx (iC hs (ks.drop (p + 1)) (max tp z) = iC hs ks 0) := ⟨by rw [← HP2]; exact HP.out⟩
      have hlm : (m : Int) < l.length := by omega
      clear HP2 HP hx
      go_wp2
      go_round
      case rel => exact ⟨p + 1, max tp z, by omega, by omega, by go_num, by first | rfl | (congr 1; omega) | (simp; omega) | trace_state, HP3⟩
      case measure => simp [intOf]; omega
     ·rw [if_neg hx] at HP2
      have HP3 : Bx (iC hs (ks.drop (p + 1)) tp = iC hs ks 0) := ⟨by rw [← HP2]; exact HP.out⟩
      clear HP2 HP
      by_cases hx0 : 0 <= x
      ·have hx1 : decide (x < hs.length) = false := by simp; omega
       go_wp2
       go_round
       case rel => exact ⟨p + 1, tp, by omega, by omega, by go_num, rfl, HP3⟩
       case measure => simp [intOf]; omega
      ·have hx1 : decide (0 <= x) = false := by simp; omega
       go_wp2
       go_round
       case rel => exact ⟨p + 1, tp, by omega, by omega, by go_num, rfl, HP3⟩
       case measure => simp [intOf]; omega
    ·have HE : Bx (tp + 1 = iC hs ks 0 + 1) := ⟨by rw [← HP.out, List.drop_eq_nil_of_le (by omega)]; rfl⟩
     obtain ⟨x0, g4⟩ := HQ.out.1.cell hs.length hlt
     have g5 := HQ.out.1.frozen hs.length
     have g6 := HQ.out.1.lt
     go_wp2
     go_roundw
     case rel => exact ⟨hs ++ [tp + 1], by simp; omega, by first | (simp; done) | (simp; go_num), ⟨HX.out _ HQ.out.2.1 HQ.out.1 _ HE.out⟩⟩
     case measure => simp [intOf]; omega
  ·have hfl : hs.length = l.length := by omega
   have HE : Bx (dK l = hs) := ⟨by rw [HS.out.eq, show l.length - hs.length = 0 by omega]; rfl⟩
   go_wp2
   go_ret
   exact ⟨rfl, by rw [HE.out]; exact HS.out.row, HS.out.bel⟩
theorem xz (w : World) (a : Option Addr) (cap : Nat) :
  Calls Tryz.prog 14 #[.slice a 0 cap] w fun e w' => e = .returned (.slice (some ⟨w.heap.size, 0, none⟩) 0 0) /\ gU w' w.heap.size 0 [] /\ Below w.heap.size w w' := by
 have hmk := lF w 0 (by omega)
 simp only [Int.natCast_zero] at hmk
 have HZ : Bx _ := ⟨oF w 0⟩
 go_enter Tryz.func14, Tryz.ntmps14
 go_wp2
 go_loopw [14] (fun x wr => x = .int .i64 0 /\ Bx (gU wr w.heap.size 0 [] /\ Below w.heap.size w wr)) (fun _ _ => 0)
 case atStart => exact ⟨rfl, ⟨HZ.out, ah w _⟩⟩
 case round =>
  obtain ⟨rfl, hbel⟩ := hrel
  go_wp2
  go_ret
  exact ⟨rfl, hbel.out.1, hbel.out.2⟩
theorem Ae (w : World) (B : Nat) (a : Option Addr) (cap : Nat) (l : List Nd) (hn : cK w B a cap l) (hl31 : l.length <= 2147483647) :
  Calls Tryz.prog 14 #[.slice a l.length cap] w fun e w' => e = .returned (.slice (some ⟨w.heap.size, 0, none⟩) l.length l.length) /\ gU w' w.heap.size l.length (dK l) /\ Below w.heap.size w w' := by
 by_cases h0 : 0 < l.length
 ·obtain ⟨nb, no, rfl, h⟩ := hn.at_ h0
  exact xy w B nb no cap l h hl31 h0
 ·have hx : l = [] := List.eq_nil_of_length_eq_zero (by omega)
  subst hx
  exact xz w a cap
theorem AY : ∀ (ks : List Tr) (o N : Nat), o + sizes ks <= N -> ∀ k ∈ ends ks o, 0 <= k /\ k < (N : Int)
 | [], o, N, _, k, hk => by simp [ends] at hk
 | t :: r, o, N, h, k, hk => by
  have hp := mY t
  simp only [sizes] at h
  simp only [ends, List.mem_cons] at hk
  rcases hk with rfl | hk
  ·omega
  ·exact AY r (o + t.size) N (by omega) k hk
mutual
theorem Gx : ∀ (t : Tr) (o : Nat), tW t -> o + t.size <= 200000 -> ∀ n ∈ flat t o, tu n
 | .mk k p n nm ks, o, h, hz, m, hm => by
  obtain ⟨h1, h2, h3, h4, h5⟩ := h
  simp only [Tr.size] at hz
  simp only [flat, List.mem_append, List.mem_singleton] at hm
  rcases hm with hm | rfl
  ·exact qW ks o h5 (by omega) m hm
  ·refine ⟨⟨by simp only; omega, by simp only; omega⟩, ⟨by simp only; omega, by simp only; omega⟩, ⟨by simp only; omega, by simp only; omega⟩, ?_, fun x hx => ?_⟩
   ·have : (⟨nm.toArray⟩ : ByteArray).size = nm.length := by simp [ByteArray.size]
    simp only
    rw [this]
    unfold maxLen
    omega
   ·have := AY ks o 200000 (by omega) x hx
    exact ⟨by omega, by omega⟩
theorem qW : ∀ (ts : List Tr) (o : Nat), tsW ts -> o + sizes ts <= 200000 -> ∀ n ∈ ag ts o, tu n
 | [], o, _, _, m, hm => by simp [ag] at hm
 | t :: r, o, h, hz, m, hm => by
  simp only [sizes] at hz
  simp only [ag, List.mem_append] at hm
  rcases hm with hm | hm
  ·exact Gx t o h.1 (by omega) m hm
  ·exact qW r _ h.2 (by omega) m hm
end
theorem xA : ∀ (ns : List Nd) (ks : List (Option Addr × Nat)) (hl : ks.length = ns.length) (j : Nat) (h : j < ns.length) (h' : j < ks.length) (i : Nat), i < 5 -> (oq ns ks)[j * 5 + i]? = (ndC ns[j] ks[j])[i]?
 | [], ks, hl, j, h, h', i, hi => by simp at h
 | n :: r, [], hl, j, h, h', i, hi => by simp at h'
 | n :: r, k :: q, hl, 0, h, h', i, hi => by
  have e : (ndC n k).length = 5 := rfl
  simp only [oq, Nat.zero_mul, Nat.zero_add, List.getElem_cons_zero]
  rw [List.getElem?_append_left (by omega)]
 | n :: r, k :: q, hl, j + 1, h, h', i, hi => by
  have e : (ndC n k).length = 5 := rfl
  have ih := xA r q (by simpa using hl) j (by simpa using h) (by simpa using h') i hi
  simp only [oq, List.getElem_cons_succ]
  rw [List.getElem?_append_right (by omega), e, show (j + 1) * 5 + i - 5 = j * 5 + i by omega]
  exact ih
theorem Gy {W : World} {rb B : Nat} {a : Option Addr} {c : Nat} {xs : List Int} (h : aQ W rb (.slice a xs.length c) xs) (hB : ∀ g, a = some ⟨g, 0, none⟩ -> g < B) (hm : xs.length <= maxLen) : aO W B (.slice a xs.length c) xs := by
 rcases h.2 with ⟨e, h0⟩ | ⟨g, cap, cur, e, h1, h2, h3, h4, h5, h6⟩
 ·simp only [Value.slice.injEq] at e
  exact ⟨a, c, rfl, by omega, hm, fun h => by omega⟩
 ·simp only [Value.slice.injEq, true_and] at e
  obtain ⟨rfl, rfl⟩ := e
  refine ⟨_, _, rfl, by omega, hm, fun _ => ⟨g, 0, rfl, hB g rfl, fun i hi => ?_⟩⟩
  have hu : (bM xs)[i]? = some (.int .i64 xs[i]) := by simp [bM, hi]
  rw [← h6] at hu
  rw [List.getElem?_take_of_lt (by omega), Array.getElem?_toList] at hu
  simp [World.cell?, h2, hu]
theorem qX {W : World} {rb : Nat} {nv : Value} {ns : List Nd} (h : eO (fun _ => False) W rb nv ns) (hwf : ∀ n ∈ ns, tu n) (hz : ns.length <= 200000) (hk : ∀ n ∈ ns, n.kids.length <= 200000) : ∃ a cap, nv = .slice a ns.length cap /\ cK W W.heap.size a cap ns := by
 obtain ⟨ks, hl, h2, hi⟩ := h.ex
 rcases h2.2 with ⟨e, h0⟩ | ⟨g, cap, cur, e, q1, q2, q3, q4, q5, q6⟩
 ·have hx : ns.length = 0 := h0
  exact ⟨none, 0, by rw [e, hx], ⟨fun h => by omega, Nat.le_refl _⟩⟩
 ·refine ⟨_, cap, e, ⟨fun h0 => ⟨g, 0, rfl, ⟨fun j hj => ?_, fun j hj => ?_, aY q2, Nat.le_refl _, by unfold maxLen; omega, by omega⟩⟩, Nat.le_refl _⟩⟩
  ·have hj' : j < ks.length := by omega
   have en : ndN ns j = ns[j] := by simp [ndN, hj]
   rw [en]
   have hc : ∀ i u, i < 5 -> (ndC ns[j] ks[j])[i]? = some u -> W.cell? ⟨g, 0 + j * 5 + i, none⟩ = some u := fun i u hi5 hu => by
    rw [← xA ns ks hl j hj hj' i hi5, ← q6] at hu
    have ho : j * 5 + i < ns.length * 5 := by omega
    rw [List.getElem?_take_of_lt ho, Array.getElem?_toList] at hu
    simp [World.cell?, q2, hu]
   have hn := hk ns[j] (List.getElem_mem hj)
   refine ⟨ks[j].1, ks[j].2, hc 0 _ (by omega) rfl, hc 1 _ (by omega) rfl, hc 2 _ (by omega) rfl, hc 3 _ (by omega) rfl, hc 4 _ (by omega) rfl, ?_⟩
   refine Gy (hi j hj hj').1 (fun g' hg' => ?_) (by unfold maxLen; omega)
   have := (hi j hj hj').1
   rcases this.2 with ⟨e', _⟩ | ⟨g2, cap2, cur2, e', p1, p2, _⟩
   ·simp only [Value.slice.injEq] at e'
    rw [e'.1] at hg'; cases hg'
   ·simp only [Value.slice.injEq] at e'
    rw [e'.1] at hg'
    simp only [Option.some.injEq, Addr.mk.injEq, true_and, and_true] at hg'
    rw [← hg']
    exact aY p2
  ·have en : ndN ns j = ns[j] := by simp [ndN, hj]
   rw [en]
   exact hwf _ (List.getElem_mem hj)
theorem lX (l : List Nd) : ∀ (n : Nat) (hs : List Nat), (fB l n hs).length = hs.length + n
 | 0, hs => rfl
 | n + 1, hs => by
  rw [fB, lX l n]
  simp
  omega
theorem vN (l : List Nd) : (dK l).length = l.length := by
 unfold dK
 rw [lX]
 simp
def kg (l : List Nd) (nest : Int) : List Nat -> Nat -> Int × Int
 | [], _ => (0, 0)
 | h :: r, i => if nest < (h : Int) then ((ndN l i).pos, 31) else kg l nest r (i + 1)
theorem CW (l : List Nd) (nest : Int) (hs : List Nat) (p : Nat) (h : p < hs.length) : kg l nest (hs.drop p) p = if nest < (hs.getD p 0 : Nat) then ((ndN l p).pos, 31) else kg l nest (hs.drop (p + 1)) (p + 1) := by
 rw [List.drop_eq_getElem_cons h, kg]
 simp [List.getD, h]
theorem xB (w : World) (a : Option Addr) (cap : Nat) (l : List Nd) (hn : cK w w.heap.size a cap l) (hz : l.length <= 200000) (nest : Int) (x y : Int) (hxy : kg l nest (dK l) 0 = (x, y)) :
  Calls Tryz.prog 21 #[.slice a l.length cap, .int .i64 nest] w fun e w' => e = .returned (.agg #[.int .i64 x, .int .i64 y]) /\ Below w.heap.size w w' := by
 obtain ⟨W1, hW1⟩ : ∃ W1, w.alloc (.cells #[.int .i64 0, .int .i64 0] 30) = W1 := ⟨_, rfl⟩
 have b1 : Below w.heap.size w W1 := by rw [← hW1]; exact ah _ _
 have hz1 : W1.heap.size = w.heap.size + 1 := by rw [← hW1]; simp
 have c1 : W1.heap[w.heap.size]? = some (.cells #[.int .i64 0, .int .i64 0] 30 (0, 0)) := by rw [← hW1]; exact heap_alloc_new _ _
 have hlen := vN l
 have HC : Bx (Calls Tryz.prog 14 #[.slice a l.length cap] W1 fun e w' => e = .returned (.slice (some ⟨W1.heap.size, 0, none⟩) l.length l.length) /\ gU w' W1.heap.size l.length (dK l) /\ Below W1.heap.size W1 w') := ⟨Ae W1 w.heap.size a cap l (hn.below b1) (by omega)⟩
 have HN : Bx (cK w w.heap.size a cap l) := ⟨hn⟩
 have HW : Bx (w.alloc (.cells #[.int .i64 0, .int .i64 0] 30) = W1) := ⟨hW1⟩
 have H1 : Bx (Below w.heap.size w W1 /\ W1.heap.size = w.heap.size + 1 /\ W1.heap[w.heap.size]? = some (.cells #[.int .i64 0, .int .i64 0] 30 (0, 0))) := ⟨b1, hz1, c1⟩
 clear hW1 b1 hz1 c1 hn
 generalize dK l = hs at *
 go_enter Tryz.func21, Tryz.ntmps21
 go_wp2_with (first | (go_at_call 14; rw [HW.out]; refine Calls.mono HC.out ?_; rintro e W2 ⟨rfl, hr, hb⟩; rw [H1.out.2.1] at hr hb; rw [H1.out.2.1]; have H2 : Bx (gU W2 (w.heap.size + 1) l.length hs /\ Below (w.heap.size + 1) W1 W2) := ⟨hr, hb⟩; clear hr hb))
 have g0 : W2.heap[w.heap.size]? = some (.cells #[.int .i64 0, .int .i64 0] 30 (0, 0)) := (H2.out.2.block _ (by omega)).trans H1.out.2.2
 have b2 : Below w.heap.size w W2 := H1.out.1.trans (H2.out.2.mono (by omega))
 have HB : Bx (Below w.heap.size w W2) := ⟨b2⟩
 have HN2 : Bx (cK W2 w.heap.size a cap l) := ⟨HN.out.below b2⟩
 have hzz := b2.size
 have d0 : W2.cell? ⟨w.heap.size, 0, none⟩ = some (.int .i64 0) := by simp [World.cell?, g0]
 have d1 : W2.cell? ⟨w.heap.size, 1, none⟩ = some (.int .i64 0) := by simp [World.cell?, g0]
 have e0 : W2.frozen? ⟨w.heap.size, 0, none⟩ = false := by simp [World.frozen?, g0]
 have e1 : W2.frozen? ⟨w.heap.size, 1, none⟩ = false := by simp [World.frozen?, g0]
 have hlt : w.heap.size < W2.heap.size := aY g0
 clear g0 b2
 go_loop [10] (fun v => ∃ p : Nat, p <= l.length /\ v = .int .i64 p /\ Bx (kg l nest (hs.drop p) p = (x, y))) (fun v => l.length - (intOf v).toNat)
 case atStart => exact ⟨0, Nat.zero_le _, rfl, ⟨hxy⟩⟩
 case round =>
  obtain ⟨p, hp, rfl, HP⟩ := hrel
  by_cases hplt : p < l.length
  ·have hc := H2.out.1.iX p (by omega)
   have HP2 := CW l nest hs p (by omega)
   rw [HP.out] at HP2
   generalize hs.getD p 0 = z at *
   by_cases hzn : nest < (z : Int)
   ·rw [if_pos hzn] at HP2
    obtain ⟨nb, no, rfl, hN⟩ := HN2.out.at_ (by omega)
    obtain ⟨ka, kc, hnd⟩ := hN.at_ p hplt
    have k1 := hnd.c1
    have hlo := hN.lo
    have hcap := hN.cap
    obtain ⟨rfl, rfl⟩ := Prod.mk.inj HP2
    clear hnd hN HP2
    go_wp2
    refine bodyPost_ret (v := .agg #[.int .i64 (ndN l p).pos, .int .i64 31]) (by simp [results, Tryz.results21, go_sem, d0, d1]) rfl ⟨rfl, ?_⟩
    exact (HB.out.setCell (p := ⟨w.heap.size, 0, none⟩) (Nat.le_refl _) _).setCell (p := ⟨w.heap.size, 1, none⟩) (Nat.le_refl _) _
   ·rw [if_neg hzn] at HP2
    have HP3 : Bx (kg l nest (hs.drop (p + 1)) (p + 1) = (x, y)) := ⟨HP2.symm⟩
    have hzd : decide (nest < (z : Int)) = false := by simp; omega
    clear HP2 HP
    go_wp2
    go_round
    case rel => exact ⟨p + 1, by omega, by go_num, HP3⟩
    case measure => simp [intOf]; omega
  ·have hpe : p = l.length := by omega
   have HE : ((0 : Int), (0 : Int)) = (x, y) := by rw [← HP.out, List.drop_eq_nil_of_le (by omega)]; rfl
   obtain ⟨rfl, rfl⟩ := Prod.mk.inj HE
   go_wp2
   refine bodyPost_ret (v := .agg #[.int .i64 0, .int .i64 0]) (by simp [results, Tryz.results21, go_sem, d0, d1]) rfl ⟨rfl, ?_⟩
   exact (HB.out.setCell (p := ⟨w.heap.size, 0, none⟩) (Nat.le_refl _) _).setCell (p := ⟨w.heap.size, 1, none⟩) (Nat.le_refl _) _
end Go.Proofs.YtecodpdfckjalaaGreatDoor
