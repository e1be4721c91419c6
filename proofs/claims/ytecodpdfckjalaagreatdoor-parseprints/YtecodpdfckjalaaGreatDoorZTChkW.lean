import Derived.Test.YtecodpdfckjalaaGreatDoorZTNode
set_option linter.unusedVariables false
set_option linter.unusedSimpArgs false
set_option maxHeartbeats 4000000
set_option maxRecDepth 100000
namespace Go.Proofs.YtecodpdfckjalaaGreatDoor
open Go.RowKit
theorem info3 : (Tryz.prog.info? 3).map (fun i => (i.zero, i.size, i.bytes)) = some (some (.int .i64 0), 1, 8) := by kernel_rfl
def zeros (N : Nat) : Array Value := madeCells #[.int .i64 0] (N * 1)
theorem lq (w : World) (N : Nat) (hN : N <= 2147483647) : (Instr.makeSlice 39 (.int .i64 N) (.int .i64 N)).run Tryz.prog w = .ok (.slice (some ⟨w.heap.size, 0, none⟩) N N) (w.alloc (.cells (zeros N) 3)) := by
 obtain ⟨i0, hi, hz0, hz1, hz2⟩ := info_parts info3
 have := run_make (P := Tryz.prog) w 39 3 i0 (.int .i64 0) Tryz.underlying39 hi hz0 .i64 .i64 (N : Int) (N : Int) (by omega) (by omega) (by rw [hz2]; omega) (by omega)
 rw [hz1] at this
 simpa [zeros, Value.cells] using this
theorem nW (w : World) (N : Nat) : gF (w.alloc (.cells (zeros N) 3)) w.heap.size N [] := by
 refine ⟨zeros N, heap_alloc_new w _, by simp [zeros, madeCells], (fun j hj => (by cases hj)), fun j hj => ⟨0, ?_⟩⟩
 simp [zeros, madeCells, hj, Nat.mod_one]
theorem qK (w : World) (B nb no nc : Nat) (l : List Nd) (hn : gD w B nb no nc l) (hL : Laid w) (hl31 : l.length <= 2147483647) (h0 : 0 < l.length) :
  Calls Tryz.prog 8 #[.slice (some ⟨nb, no, none⟩) l.length nc] w fun e w' => e = .returned (.tuple #[.int .i64 ((bO l).1 : Nat), .int .i64 ((bO l).2 : Nat)]) /\ Below w.heap.size w w' := by
 have hmk := lq w l.length hl31
 have HN : Bx (gD w B nb no nc l /\ Laid w) := ⟨hn, hL⟩
 have hnb : nb < w.heap.size := Nat.lt_of_lt_of_le hn.lo hn.hi
 generalize hR : bO l = R
 have HR : Bx _ := ⟨hR⟩
 clear hn hL hR
 go_enter Tryz.func8, Tryz.ntmps8
 go_wp2
 go_loopw [13] (fun x wr => ∃ fs : List Nat, fs.length <= l.length /\ x = .int .i64 fs.length /\ Bx (zT w wr l fs)) (fun x _ => l.length - (intOf x).toNat)
 case atStart => exact ⟨[], Nat.zero_le _, rfl, ⟨ah w _, nW w l.length, fun j hj => (by cases hj), fun j hj => (by cases hj), rfl⟩⟩
 case round =>
  obtain ⟨fs, hfs, rfl, HS⟩ := hrel
  by_cases hlt : fs.length < l.length
  ·have HC : Bx _ := ⟨rZ wr B nb no nc w.heap.size l.length l.length l fs (HS.out.ckw HN.out.1 HN.out.2) hlt (by omega) (by unfold maxLen; omega) HS.out.le⟩
   have hsz := HS.out.bel.size
   by_cases hz : bY l fs fs.length = 0
   ·rw [hz] at HC
    obtain ⟨q1, q2, q3, q4, q5, q6, q7⟩ := iA hz
    have HX : Bx (∀ w1, Below w.heap.size w w1 -> gF w1 w.heap.size l.length fs -> ∀ x, x = dO fs (ndN l fs.length) fs.length -> zT w (w1.setCell ⟨w.heap.size, fs.length, none⟩ (.int .i64 (x : Nat))) l (fs ++ [x])) := ⟨fun w1 => HS.out.next hlt hz⟩
    obtain ⟨ka, kc, hnd⟩ := (HN.out.1.below (HS.out.bel.mono HN.out.1.hi)).at_ fs.length hlt
    have hB := HN.out.1.hi
    have HA : Bx (∀ w1, Below wr.heap.size wr w1 -> Below w.heap.size w w1 /\ gF w1 w.heap.size l.length fs /\ zO w1 B nb (no + fs.length * 5) (ndN l fs.length) ka kc) :=
     ⟨fun w1 hb1 => ⟨HS.out.bel.trans (hb1.mono hsz), HS.out.row.below hb1, hnd.below (hb1.mono (by omega)) HN.out.1.lo⟩⟩
    have hle := HS.out.le
    have hne : ¬ nb = w.heap.size := by omega
    match hk : (ndN l fs.length).kids with
    | [] =>
     have hfo : dO fs (ndN l fs.length) fs.length = fs.length := by unfold dO; rw [hk]
     rw [hfo] at HX
     clear hnd q1 q2 q3 q4 q5 q6 q7 hle hfo
     go_wp2_with (first | (go_at_call 16; refine Calls.mono HC.out ?_; rintro e w1 ⟨rfl, hb1⟩; obtain ⟨g1, g2, g3⟩ := HA.out w1 hb1; obtain ⟨x0, g4⟩ := g2.cell fs.length hlt; have g5 := g2.frozen fs.length; have g6 := g2.lt; have g7 := g3.c2; rw [hk] at g7; have g8 : Bx _ := ⟨g2⟩; clear g2 g3))
     go_roundw
     case rel => exact ⟨fs ++ [fs.length], by simp; omega, by first | (simp; done) | (simp; go_num), ⟨HX.out _ g1 g8.out _ rfl⟩⟩
     case measure => simp [intOf]; omega
    | k :: r =>
     rw [hk] at q5
     obtain ⟨m, hm, hmlt⟩ := mR hle q5 0 (by simp)
     simp at hm
     subst hm
     have hfo : dO fs (ndN l fs.length) fs.length = fs.getD m 0 := by unfold dO; rw [hk]; simp
     rw [hfo] at HX
     have hfc := HS.out.row.iP m hmlt
     have hnm : ¬ fs.length = m := by omega
     have hmn : ¬ m = fs.length := by omega
     have HK : Bx (∀ w1, Below wr.heap.size wr w1 -> ∃ b o, ka = some ⟨b, o, none⟩ /\ w1.cell? ⟨b, o, none⟩ = some (.int .i64 (m : Int)) /\ ¬ b = w.heap.size) := ⟨fun w1 hb1 => by
      obtain ⟨a, cap, he, h1, h2, h3⟩ := (hnd.below (hb1.mono (by omega)) HN.out.1.lo).kids.ex
      simp only [Value.slice.injEq, true_and] at he
      obtain ⟨rfl, rfl⟩ := he
      rw [hk] at h3
      obtain ⟨b, o, rfl, hbB, hcell⟩ := h3 (by simp)
      have := hcell 0 (by simp)
      simp only [List.getElem_cons_zero, Nat.add_zero] at this
      exact ⟨b, o, rfl, this, by omega⟩⟩
     have HF : Bx (∀ w1, Below wr.heap.size wr w1 -> w1.cell? ⟨w.heap.size, m, none⟩ = some (.int .i64 (fs.getD m 0 : Nat))) := ⟨fun w1 hb1 => (HS.out.row.below hb1).iP m hmlt⟩
     obtain ⟨b, o, rfl, _⟩ := HK.out wr (Below.refl _ _)
     have hln : r.length + 1 <= maxLen := by
      obtain ⟨a, cap, he, h1, h2, h3⟩ := hnd.kids.ex
      rw [hk] at h2
      simpa using h2
     unfold maxLen at hln
     generalize fs.getD m 0 = z at *
     clear hnd q1 q2 q3 q4 q5 q6 q7 hle hfo hfc
     go_wp2_with (first | (go_at_call 16; refine Calls.mono HC.out ?_; rintro e w1 ⟨rfl, hb1⟩; obtain ⟨g1, g2, g3⟩ := HA.out w1 hb1; obtain ⟨x0, g4⟩ := g2.cell fs.length hlt; have g5 := g2.frozen fs.length; have g6 := g2.lt; have g7 := g3.c2; rw [hk] at g7; have g8 : Bx _ := ⟨g2⟩; have g9 := HF.out w1 hb1; obtain ⟨b', o', hbe, ga, gb⟩ := HK.out w1 hb1; simp only [Option.some.injEq, Addr.mk.injEq, and_true] at hbe; obtain ⟨rfl, rfl⟩ := hbe; clear g2 g3))
     go_roundw
     case rel => exact ⟨fs ++ [z], by simp; omega, by first | (simp; done) | (simp; go_num), ⟨HX.out _ (Below.setCell (p := ⟨w.heap.size, fs.length, none⟩) g1 (Nat.le_refl _) _) (g8.out.put hlt _) _ rfl⟩⟩
     case measure => simp [intOf]; omega
   ·have HE : Bx (R = (fs.length, bY l fs fs.length)) := ⟨by
     rw [← HR.out, HS.out.eq]
     obtain ⟨m, hm⟩ : ∃ m, l.length - fs.length = m + 1 := ⟨l.length - fs.length - 1, by omega⟩
     rw [hm, fo, if_neg hz]⟩
    generalize bY l fs fs.length = cd at *
    have hcd : ((cd : Int) != 0) = true := by rw [bne_iff_ne]; omega
    clear hz
    go_wp2_with (first | (go_at_call 16; refine Calls.mono HC.out ?_; rintro e w1 ⟨rfl, hb1⟩))
    go_ret2
    exact ⟨by rw [HE.out]; rfl, HS.out.bel.trans (hb1.mono hsz)⟩
  ·have hfl : fs.length = l.length := by omega
   have HE : Bx (R = wh l fs) := ⟨by rw [← HR.out, HS.out.eq, show l.length - fs.length = 0 by omega]; rfl⟩
   obtain ⟨N, hN⟩ : ∃ N, l.length = N + 1 := ⟨l.length - 1, by omega⟩
   obtain ⟨ka, kc, hnd⟩ := (HN.out.1.below (HS.out.bel.mono HN.out.1.hi)).at_ N (by omega)
   have hc0 := hnd.c0
   have hfc := HS.out.row.iP N (by omega)
   have hle := HS.out.le N (by omega)
   have hbel := HS.out.bel
   have hsz := HS.out.row.lt
   change wr.cell? _ = some (.int .i64 (kdN l N)) at hc0
   have HE' : Bx (R = if kdN l N ≠ 46 ∨ fs.getD N 0 ≠ 0 then (N + 1, 25) else (0, 0)) := ⟨by
    rw [HE.out]; unfold wh; rw [hN]; simp⟩
   generalize fs.getD N 0 = z at *
   generalize kdN l N = kd at *
   have hNi : ((N + 1 : Nat) : Int) - 1 = (N : Int) := by omega
   clear HE HS HR HN
   cases e1 : (kd != 46)
   ·cases e2 : ((z : Int) != 0)
    ·have HE2 : Bx (R = (0, 0)) := ⟨by rw [HE'.out, if_neg (by simp at e1 e2; omega)]⟩
     clear HE'
     go_wp2
     go_ret2
     exact ⟨by rw [HE2.out]; rfl, hbel⟩
    ·have HE2 : Bx (R = (l.length, 25)) := ⟨by rw [HE'.out, if_pos (by simp at e1 e2; omega), hN]⟩
     clear HE'
     go_wp2
     go_ret2
     exact ⟨by rw [HE2.out, hN]; simp, hbel⟩
   ·have HE2 : Bx (R = (l.length, 25)) := ⟨by rw [HE'.out, if_pos (by simp at e1; omega), hN]⟩
    clear HE'
    go_wp2
    go_ret2
    exact ⟨by rw [HE2.out, hN]; simp, hbel⟩
theorem zU (w : World) (a : Option Addr) (cap : Nat) :
  Calls Tryz.prog 8 #[.slice a 0 cap] w fun e w' => e = .returned (.tuple #[.int .i64 0, .int .i64 25]) /\ Below w.heap.size w w' := by
 have hmk := lq w 0 (by omega)
 simp only [Int.natCast_zero] at hmk
 go_enter Tryz.func8, Tryz.ntmps8
 go_wp2
 go_loopw [13] (fun x wr => x = .int .i64 0 /\ Below w.heap.size w wr) (fun _ _ => 0)
 case atStart => exact ⟨rfl, ah w _⟩
 case round =>
  obtain ⟨rfl, hbel⟩ := hrel
  go_wp2
  go_ret2
  exact ⟨rfl, hbel⟩
structure dh (w : World) (B : Nat) (a : Option Addr) (cap : Nat) (l : List Nd) : Prop where
 at_ : 0 < l.length -> ∃ nb no, a = some ⟨nb, no, none⟩ /\ gD w B nb no cap l
 hi : B <= w.heap.size
theorem dh.below {w w' : World} {B cap : Nat} {a : Option Addr} {l : List Nd} (h : dh w B a cap l) (hb : Below B w w') : dh w' B a cap l := by
 refine ⟨fun h0 => ?_, Nat.le_trans h.hi hb.size⟩
 obtain ⟨nb, no, e, hn⟩ := h.at_ h0
 exact ⟨nb, no, e, hn.below hb⟩
theorem Cx (w : World) (B : Nat) (a : Option Addr) (cap : Nat) (l : List Nd) (hn : dh w B a cap l) (hL : Laid w) (hl31 : l.length <= 2147483647) :
  Calls Tryz.prog 8 #[.slice a l.length cap] w fun e w' => e = .returned (.tuple #[.int .i64 ((bO l).1 : Nat), .int .i64 ((bO l).2 : Nat)]) /\ Below w.heap.size w w' := by
 by_cases h0 : 0 < l.length
 ·obtain ⟨nb, no, rfl, h⟩ := hn.at_ h0
  exact qK w B nb no cap l h hL hl31 h0
 ·have hx : l = [] := List.eq_nil_of_length_eq_zero (by omega)
  subst hx
  exact zU w a cap
def iT (hs : List Nat) : List Int -> Nat -> Nat
 | [], t => t
 | k :: r, t => iT hs r (if 0 <= k /\ k < hs.length then max t (hs.getD k.toNat 0) else t)
def jd (l : List Nd) : Nat -> List Nat -> List Nat
 | 0, hs => hs
 | m + 1, hs => jd l m (hs ++ [iT hs (ndN l hs.length).kids 0 + 1])
def dV (l : List Nd) : List Nat := jd l l.length []
theorem qL (hs : List Nat) (B : Nat) (hB : ∀ j, j < hs.length -> hs.getD j 0 <= B) : ∀ (ks : List Int) (t : Nat), t <= B -> iT hs ks t <= B
 | [], t, h => h
 | k :: r, t, h => by
  rw [iT]
  apply qL hs B hB r
  split
  ·rename_i hk
   have := hB k.toNat (by omega)
   omega
  ·exact h
structure En (w : World) (wr : World) (l : List Nd) (hs : List Nat) : Prop where
 bel : Below w.heap.size w wr
 row : gF wr w.heap.size l.length hs
 le : ∀ j, j < hs.length -> hs.getD j 0 <= hs.length
 eq : dV l = jd l (l.length - hs.length) hs
theorem En.next {w wr w1 : World} {l : List Nd} {hs : List Nat} (h : En w wr l hs) (hi : hs.length < l.length) (hbel : Below w.heap.size w w1) (hrow : gF w1 w.heap.size l.length hs) (x : Nat) (hx : x = iT hs (ndN l hs.length).kids 0 + 1) :
  En w (w1.setCell ⟨w.heap.size, hs.length, none⟩ (.int .i64 (x : Nat))) l (hs ++ [x]) := by
 subst hx
 have ht := qL hs hs.length h.le (ndN l hs.length).kids 0 (Nat.zero_le _)
 refine ⟨Below.setCell (p := ⟨w.heap.size, hs.length, none⟩) hbel (Nat.le_refl _) _, hrow.set hi _, ?_, ?_⟩
 ·intro j hj
  simp at hj
  by_cases hj2 : j < hs.length
  ·have := h.le j hj2
   simp only [List.getD_eq_getElem?_getD] at this ⊢
   rw [List.getElem?_append_left hj2]
   simp
   omega
  ·have : j = hs.length := by omega
   subst this
   simp [List.getD_eq_getElem?_getD]
   omega
 ·rw [h.eq]
  obtain ⟨m, hm⟩ : ∃ m, l.length - hs.length = m + 1 := ⟨l.length - hs.length - 1, by omega⟩
  rw [hm, jd]
  congr 1
  simp
  omega
theorem zV {hs : List Nat} {ks : List Int} {p t : Nat} (h : p < ks.length) : iT hs (ks.drop p) t = iT hs (ks.drop (p + 1)) (if 0 <= ks[p] /\ ks[p] < hs.length then max t (hs.getD ks[p].toNat 0) else t) := by
 rw [List.drop_eq_getElem_cons h, iT]
theorem wm (w : World) (B nb no nc : Nat) (l : List Nd) (hn : gD w B nb no nc l) (hl31 : l.length <= 2147483647) (h0 : 0 < l.length) :
  Calls Tryz.prog 14 #[.slice (some ⟨nb, no, none⟩) l.length nc] w fun e w' => e = .returned (.slice (some ⟨w.heap.size, 0, none⟩) l.length l.length) /\ gF w' w.heap.size l.length (dV l) /\ Below w.heap.size w w' := by
 have hmk := lq w l.length hl31
 have HN : Bx (gD w B nb no nc l) := ⟨hn⟩
 have hnb : nb < w.heap.size := Nat.lt_of_lt_of_le hn.lo hn.hi
 clear hn
 go_enter Tryz.func14, Tryz.ntmps14
 go_wp2
 go_loopw [14] (fun x wr => ∃ hs : List Nat, hs.length <= l.length /\ x = .int .i64 hs.length /\ Bx (En w wr l hs)) (fun x _ => l.length - (intOf x).toNat)
 case atStart => exact ⟨[], Nat.zero_le _, rfl, ⟨ah w _, nW w l.length, fun j hj => (by cases hj), rfl⟩⟩
 case round =>
  obtain ⟨hs, hhs, rfl, HS⟩ := hrel
  by_cases hlt : hs.length < l.length
  ·have hsz := HS.out.bel.size
   have hB := HN.out.hi
   obtain ⟨ka, kc, hnd⟩ := (HN.out.below (HS.out.bel.mono HN.out.hi)).at_ hs.length hlt
   obtain ⟨c0, c1, c2, c3, c4⟩ := hnd.five
   have HX : Bx (∀ w1, Below w.heap.size w w1 -> gF w1 w.heap.size l.length hs -> ∀ x, x = iT hs (ndN l hs.length).kids 0 + 1 -> En w (w1.setCell ⟨w.heap.size, hs.length, none⟩ (.int .i64 (x : Nat))) l (hs ++ [x])) := ⟨fun w1 h1 h2 => HS.out.next hlt h1 h2⟩
   have ht := qL hs hs.length HS.out.le
   have HK : Bx _ := ⟨hnd.kids⟩
   have hb1 := ah wr (.cells #[.int .i64 (ndN l hs.length).kind, .int .i64 (ndN l hs.length).pos, .slice ka (ndN l hs.length).kids.length kc, .string (ndN l hs.length).name, .int .i64 (ndN l hs.length).num] 44)
   have hrow := HS.out.row.below hb1
   have hbel := HS.out.bel.trans (hb1.mono hsz)
   have hks := HK.out.below (hb1.mono (by omega))
   clear hb1 hnd HK
   generalize (ndN l hs.length).kids = ks at *
   generalize (ndN l hs.length).kind = kd at *
   generalize (ndN l hs.length).pos = ps at *
   generalize (ndN l hs.length).name = nm at *
   generalize (ndN l hs.length).num = num at *
   have hkl : ks.length <= maxLen := by
    obtain ⟨_, _, _, _, h2, _⟩ := hks.ex
    exact h2
   unfold maxLen at hkl
   have HQ : Bx (gF _ w.heap.size l.length hs /\ Below w.heap.size w _ /\ aQ _ B _ ks) := ⟨hrow, hbel, hks⟩
   have HT : Bx _ := ⟨ht⟩
   clear hrow hbel hks ht
   go_wp2
   go_loop [22, 6] (fun x t => ∃ p tp : Nat, p <= ks.length /\ tp <= hs.length /\ x = .int .i64 p /\ t = .int .i64 tp /\ Bx (iT hs (ks.drop p) tp = iT hs ks 0)) (fun x _ => ks.length - (intOf x).toNat)
   case atStart => exact ⟨0, 0, Nat.zero_le _, Nat.zero_le _, rfl, rfl, ⟨rfl⟩⟩
   case round =>
    obtain ⟨p, tp, hp, htp, rfl, rfl, HP⟩ := hrel
    by_cases hplt : p < ks.length
    ·obtain ⟨a, cap, he, h1, h2, h3⟩ := HQ.out.2.2.ex
     simp only [Value.slice.injEq, true_and] at he
     obtain ⟨rfl, rfl⟩ := he
     obtain ⟨b, o, rfl, hbB, hcell⟩ := h3 (by omega)
     have hc := hcell p hplt
     have HP2 := zV (hs := hs) (t := tp) hplt
     generalize ks[p] = x at *
     clear hcell h3 h2 h1
     by_cases hx : 0 <= x /\ x < hs.length
     ·obtain ⟨m, rfl⟩ : ∃ m : Nat, x = (m : Int) := ⟨x.toNat, by omega⟩
      have hm : m < hs.length := by omega
      have hcf := HQ.out.1.iP m hm
      have hlez := HS.out.le m hm
      rw [if_pos hx, Int.toNat_natCast] at HP2
      generalize hs.getD m 0 = z at *
      have HP3 : Bx (iT hs (ks.drop (p + 1)) (max tp z) = iT hs ks 0) := ⟨by rw [← HP2]; exact HP.out⟩
      have hlm : (m : Int) < l.length := by omega
      clear HP2 HP hx
      go_wp2
      go_round
      case rel => exact ⟨p + 1, max tp z, by omega, by omega, by go_num, by first | rfl | (congr 1; omega) | (simp; omega) | trace_state, HP3⟩
      case measure => simp [intOf]; omega
     ·rw [if_neg hx] at HP2
      have HP3 : Bx (iT hs (ks.drop (p + 1)) tp = iT hs ks 0) := ⟨by rw [← HP2]; exact HP.out⟩
      clear HP2 HP
      by_cases hx0 : 0 <= x
      ·have hx1 : decide (x < hs.length) = false := by simp; omega
       go_wp2
       go_round
       case rel => exact ⟨p + 1, tp, by omega, by omega, by go_num, rfl, HP3⟩
       case measure => simp [intOf]; omega
      ·have hx1 : decide (0 <= x) = false := by simp; omega
       go_wp2
       go_round
       case rel => exact ⟨p + 1, tp, by omega, by omega, by go_num, rfl, HP3⟩
       case measure => simp [intOf]; omega
    ·have HE : Bx (tp + 1 = iT hs ks 0 + 1) := ⟨by rw [← HP.out, List.drop_eq_nil_of_le (by omega)]; rfl⟩
     obtain ⟨x0, g4⟩ := HQ.out.1.cell hs.length hlt
     have g5 := HQ.out.1.frozen hs.length
     have g6 := HQ.out.1.lt
     go_wp2
     go_roundw
     case rel => exact ⟨hs ++ [tp + 1], by simp; omega, by first | (simp; done) | (simp; go_num), ⟨HX.out _ HQ.out.2.1 HQ.out.1 _ HE.out⟩⟩
     case measure => simp [intOf]; omega
  ·have hfl : hs.length = l.length := by omega
   have HE : Bx (dV l = hs) := ⟨by rw [HS.out.eq, show l.length - hs.length = 0 by omega]; rfl⟩
   go_wp2
   go_ret
   exact ⟨rfl, by rw [HE.out]; exact HS.out.row, HS.out.bel⟩
theorem wo (w : World) (a : Option Addr) (cap : Nat) :
  Calls Tryz.prog 14 #[.slice a 0 cap] w fun e w' => e = .returned (.slice (some ⟨w.heap.size, 0, none⟩) 0 0) /\ gF w' w.heap.size 0 [] /\ Below w.heap.size w w' := by
 have hmk := lq w 0 (by omega)
 simp only [Int.natCast_zero] at hmk
 have HZ : Bx _ := ⟨nW w 0⟩
 go_enter Tryz.func14, Tryz.ntmps14
 go_wp2
 go_loopw [14] (fun x wr => x = .int .i64 0 /\ Bx (gF wr w.heap.size 0 [] /\ Below w.heap.size w wr)) (fun _ _ => 0)
 case atStart => exact ⟨rfl, ⟨HZ.out, ah w _⟩⟩
 case round =>
  obtain ⟨rfl, hbel⟩ := hrel
  go_wp2
  go_ret
  exact ⟨rfl, hbel.out.1, hbel.out.2⟩
theorem zW (w : World) (B : Nat) (a : Option Addr) (cap : Nat) (l : List Nd) (hn : dh w B a cap l) (hl31 : l.length <= 2147483647) :
  Calls Tryz.prog 14 #[.slice a l.length cap] w fun e w' => e = .returned (.slice (some ⟨w.heap.size, 0, none⟩) l.length l.length) /\ gF w' w.heap.size l.length (dV l) /\ Below w.heap.size w w' := by
 by_cases h0 : 0 < l.length
 ·obtain ⟨nb, no, rfl, h⟩ := hn.at_ h0
  exact wm w B nb no cap l h hl31 h0
 ·have hx : l = [] := List.eq_nil_of_length_eq_zero (by omega)
  subst hx
  exact wo w a cap
end Go.Proofs.YtecodpdfckjalaaGreatDoor
namespace Go.Proofs.YtecodpdfckjalaaGreatDoor
inductive iU (fs : List Nat) : Nat -> List Nat -> Prop
 | nil : iU fs 0 []
 | cons (m : Nat) (r : List Nat) : m < fs.length -> iU fs (fs.getD m 0) r -> iU fs (m + 1) (m :: r)
theorem iU.lt {fs : List Nat} (hle : ∀ j, j < fs.length -> fs.getD j 0 <= j) {n : Nat} {R : List Nat} (h : iU fs n R) : ∀ m ∈ R, m < n := by
 induction h with
 | nil => intro m hm; cases hm
 | cons m r hm _ ih =>
  intro k hk
  rcases List.mem_cons.1 hk with rfl | hk
  ·omega
  ·have := ih k hk
   have := hle m hm
   omega
theorem iU.nodup {fs : List Nat} (hle : ∀ j, j < fs.length -> fs.getD j 0 <= j) {n : Nat} {R : List Nat} (h : iU fs n R) : R.Nodup := by
 induction h with
 | nil => exact List.nodup_nil
 | cons m r hm hr ih =>
  refine List.nodup_cons.2 ⟨fun hk => ?_, ih⟩
  have := hr.lt hle m hk
  have := hle m hm
  omega
theorem iU.more {fs : List Nat} {n : Nat} {R : List Nat} (h : iU fs n R) (x : Nat) : iU (fs ++ [x]) n R := by
 induction h with
 | nil => exact .nil
 | cons m r hm hr ih =>
  refine .cons m r (by simp; omega) ?_
  have e : (fs ++ [x]).getD m 0 = fs.getD m 0 := by
   simp only [List.getD_eq_getElem?_getD]
   rw [List.getElem?_append_left hm]
  rw [e]
  exact ih
def mV (fs : List Nat) : Nat -> List Int -> Nat
 | n, [] => n
 | n, k :: r => mV fs (fs.getD k.toNat 0) r
theorem qM (fs : List Nat) (k : Int) : ∀ (ks : List Int) (n : Nat), mV fs n (ks ++ [k]) = fs.getD k.toNat 0
 | [], n => rfl
 | x :: r, n => by
  rw [List.cons_append, mV]
  exact qM fs k r _
theorem kQ (fs : List Nat) (n : Nd) (i : Nat) : dO fs n i = mV fs i n.kids.reverse := by
 unfold dO
 match n.kids with
 | [] => rfl
 | k :: r => simp only [List.reverse_cons, qM]
theorem iU.split {fs : List Nat} : ∀ (ks : List Int) (n : Nat) (R : List Nat), iU fs n R -> dx fs n ks = true ->
  ∃ R', R = ks.map Int.toNat ++ R' /\ (∀ k ∈ ks, 0 <= k) /\ iU fs (mV fs n ks) R'
 | [], n, R, h, _ => ⟨R, rfl, (fun k hk => by cases hk), h⟩
 | k :: r, n, R, h, ho => by
  rw [dx] at ho
  split at ho
  ·rename_i hk
   cases h with
   | nil => omega
   | cons m R0 hm hr =>
    have e : k.toNat = m := by omega
    rw [e] at ho
    obtain ⟨R', h1, h2, h3⟩ := iU.split r _ _ hr ho
    refine ⟨R', by rw [h1, List.map_cons, e]; rfl, ?_, ?_⟩
    ·intro x hx
     rcases List.mem_cons.1 hx with rfl | hx
     ·exact hk.2
     ·exact h2 x hx
    ·rw [mV, e]
     exact h3
  ·cases ho
def mh (l : List Nd) (i : Nat) : List Int := (List.range i).flatMap fun j => (ndN l j).kids
theorem kR (l : List Nd) (i : Nat) : mh l (i + 1) = mh l i ++ (ndN l i).kids := by
 unfold mh
 rw [List.range_succ, List.flatMap_append]
 simp
def JM (l : List Nd) (i : Nat) : Prop :=
 ∀ p (hp : p < (ndN l i).kids.length), ∃ m : Nat, (ndN l i).kids[p] = (m : Int) /\ m < i /\ (m : Int) ∉ mh l i ++ (ndN l i).kids.take p
structure IC (l : List Nd) (fs : List Nat) (R : List Nat) : Prop where
 roots : iU fs fs.length R
 le : ∀ j, j < fs.length -> fs.getD j 0 <= j
 new : ∀ r ∈ R, (r : Int) ∉ mh l fs.length
 many : (mh l fs.length).length + R.length = fs.length
 low : ∀ k ∈ mh l fs.length, k < fs.length
 ok : ∀ i, i < fs.length -> JM l i
theorem IC.next {l : List Nd} {fs R : List Nat} (h : IC l fs R) (hz : bY l fs fs.length = 0) :
  ∃ R', IC l (fs ++ [dO fs (ndN l fs.length) fs.length]) (fs.length :: R') := by
 obtain ⟨_, _, _, _, ho, _, _⟩ := iA hz
 have hfl := mU h.le ho
 obtain ⟨R', hR, hnn, hr⟩ := iU.split _ _ _ h.roots ho
 rw [← kQ] at hr
 have hlt := h.roots.lt h.le
 have hnd := h.roots.nodup h.le
 generalize hks : (ndN l fs.length).kids = ks at *
 generalize hf : dO fs (ndN l fs.length) fs.length = f at *
 have hin : ∀ k ∈ ks, k.toNat ∈ R := fun k hk => by
  rw [hR]
  exact List.mem_append_left _ (List.mem_map.2 ⟨k, by simpa using hk, rfl⟩)
 have hnn' : ∀ k ∈ ks, 0 <= k := fun k hk => hnn k (by simpa using hk)
 rw [hR] at hnd
 obtain ⟨hnd1, hnd2, hnd3⟩ := List.nodup_append.1 hnd
 have hrev : (ks.map Int.toNat).Nodup := by
  rw [List.map_reverse] at hnd1
  exact (List.pairwise_reverse.1 hnd1).imp fun h => Ne.symm h
 have hlen : (fs ++ [f]).length = fs.length + 1 := by simp
 refine ⟨R', ?_, ?_, ?_, ?_, ?_, ?_⟩
 ·rw [hlen]
  refine .cons _ _ (by rw [hlen]; omega) ?_
  have e : (fs ++ [f]).getD fs.length 0 = f := by simp [List.getD_eq_getElem?_getD]
  rw [e]
  exact hr.more f
 ·intro j hj
  rw [hlen] at hj
  by_cases hj2 : j < fs.length
  ·have := h.le j hj2
   simp only [List.getD_eq_getElem?_getD] at this ⊢
   rw [List.getElem?_append_left hj2]
   exact this
  ·have : j = fs.length := by omega
   subst this
   simp [List.getD_eq_getElem?_getD]
   exact hfl
 ·intro r hr2
  rw [hlen, kR, hks]
  intro hm
  rcases List.mem_cons.1 hr2 with rfl | hr2
  ·rcases List.mem_append.1 hm with hm | hm
   ·have := h.low _ hm
    omega
   ·have := hlt _ (hin _ hm)
    simp at this
  ·rcases List.mem_append.1 hm with hm | hm
   ·exact h.new r (by rw [hR]; exact List.mem_append_right _ hr2) hm
   ·exact hnd3 r (List.mem_map.2 ⟨(r : Int), by simpa using hm, by simp⟩) r hr2 rfl
 ·rw [hlen, kR, hks]
  have h1 := h.many
  rw [hR] at h1
  simp at h1 ⊢
  omega
 ·intro k hk
  rw [hlen]
  rw [hlen, kR, hks] at hk
  rcases List.mem_append.1 hk with hm | hm
  ·have := h.low _ hm
   omega
  ·have := hlt _ (hin _ hm)
   have := hnn' _ hm
   omega
 ·intro i hi
  rw [hlen] at hi
  by_cases hi2 : i < fs.length
  ·exact h.ok i hi2
  ·have : i = fs.length := by omega
   subst this
   intro p hp
   simp only [hks] at hp ⊢
   have hmem : ks[p] ∈ ks := List.getElem_mem hp
   refine ⟨ks[p].toNat, ?_, hlt _ (hin _ hmem), ?_⟩
   ·have := hnn' _ hmem
    omega
   ·intro hm
    rcases List.mem_append.1 hm with hm | hm
    ·exact h.new _ (hin _ hmem) hm
    ·obtain ⟨q, hq, hqe⟩ := List.getElem_of_mem hm
     simp at hq hqe
     have e : (ks.map Int.toNat)[q]'(by simp; omega) = (ks.map Int.toNat)[p]'(by simpa using hp) := by
      simp [hqe]
      omega
     exact List.pairwise_iff_getElem.1 hrev q p (by simp; omega) (by simpa using hp) (by omega) e
structure Eo (l : List Nd) (j : Nat) : Prop where
 kind : fZ (ndN l j).kind = true
 pos : ¬ (ndN l j).pos < 0
 num : bz (ndN l j).kind (ndN l j).num (ndN l j).kids.length = true
 name : bI (ndN l j).kind (ndN l j).name = true
 fit : aD (kdN l) (ndN l j).kind (ndN l j).num ((ndN l j).kids.map Int.toNat) = true
 lev : dH l (ndN l j) = true
 nat : ((ndN l j).kids.map Int.toNat).map (fun k : Nat => (k : Int)) = (ndN l j).kids
 low : ∀ k ∈ (ndN l j).kids.map Int.toNat, k < j
theorem ww {l : List Nd} {fs : List Nat} (hle : ∀ i, i < fs.length -> fs.getD i 0 <= i) (hz : bY l fs fs.length = 0) :
  ∀ i, i < (fs ++ [dO fs (ndN l fs.length) fs.length]).length -> (fs ++ [dO fs (ndN l fs.length) fs.length]).getD i 0 <= i := by
 obtain ⟨_, _, _, _, ho, _, _⟩ := iA hz
 have hfl := mU hle ho
 intro j hj
 simp at hj
 by_cases hj2 : j < fs.length
 ·have := hle j hj2
  simp only [List.getD_eq_getElem?_getD] at this ⊢
  rw [List.getElem?_append_left hj2]
  exact this
 ·have : j = fs.length := by omega
  subst this
  simp [List.getD_eq_getElem?_getD]
  exact hfl
theorem Il {l : List Nd} : ∀ (m : Nat) (fs : List Nat), fs.length + m = l.length -> (∀ i, i < fs.length -> fs.getD i 0 <= i) -> (fo l m fs).2 = 0 ->
  (∀ j, fs.length <= j -> j < l.length -> Eo l j) /\ 0 < l.length /\ kdN l (l.length - 1) = 46
 | 0, fs, hm, hle, hc => by
  rw [fo] at hc
  unfold wh at hc
  split at hc
  ·cases hc
  ·rename_i hr
   refine ⟨fun j h1 h2 => by omega, ?_, ?_⟩
   ·exact Nat.pos_of_ne_zero fun e => hr (.inl e)
   ·exact Classical.byContradiction fun e => hr (.inr (.inl e))
 | m + 1, fs, hm, hle, hc => by
  rw [fo] at hc
  split at hc
  ·rename_i hz
   obtain ⟨h1, h2, h3⟩ := Il m _ (by simp; omega) (ww hle hz) hc
   refine ⟨fun j hj hl => ?_, h2, h3⟩
   by_cases e : j = fs.length
   ·subst e
    obtain ⟨q1, q2, q3, q4, q5, q6, q7⟩ := iA hz
    obtain ⟨k1, k2⟩ := vY hle q5
    exact ⟨q1, q2, q3, q4, q6, q7, k1, k2⟩
   ·exact h1 j (by simp; omega) hl
  ·rename_i hz
   exact absurd hc hz
theorem mi {l : List Nd} (h : (bO l).2 = 0) : (∀ j, j < l.length -> Eo l j) /\ 0 < l.length /\ kdN l (l.length - 1) = 46 := by
 obtain ⟨h1, h2⟩ := Il l.length [] (by simp) (fun i hi => by cases hi) h
 exact ⟨fun j hj => h1 j (Nat.zero_le _) hj, h2⟩
end Go.Proofs.YtecodpdfckjalaaGreatDoor
