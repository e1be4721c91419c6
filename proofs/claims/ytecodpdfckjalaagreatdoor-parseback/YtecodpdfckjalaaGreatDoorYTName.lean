import Derived.Test.YtecodpdfckjalaaGreatDoorYTNum
import Derived.Test.YtecodpdfckjalaaGreatDoorYTCurA
import Derived.Test.YtecodpdfckjalaaGreatDoorYCovQ
import Derived.Deep.DeepFit
import Derived.Deep.DrawnRows
set_option linter.unusedVariables false
set_option linter.unusedSimpArgs false
set_option maxHeartbeats 4000000
set_option maxRecDepth 100000
namespace Go.Proofs.YtecodpdfckjalaaGreatDoor
open Go.RowKit
def jo (n : Nat) : List Tok -> Bool
 | [t] => ((t.kind : Int) == 1) && ((t.len : Int) == (n : Int))
 | _ => false
def bQ (xs : List UInt8) : Bool := jo xs.length (aB xs).1
theorem bl (s : ByteArray) : s.data.toList.length = s.size := by rw [Array.length_toList]; rfl
theorem uu (w : World) (s : ByteArray) : Src (Lib.bytesWorld w 5 s) w.heap.size 0 s.data.toList := by
 intro i hi
 rw [Nat.zero_add, Lib.bytesWorld_cell _ _ _ _ (by rw [← bl]; exact hi)]
 rw [List.getD_eq_getElem?_getD, List.getElem?_eq_getElem hi]
 rfl
theorem j6 {w : World} {B : Nat} {v : Value} {ts : List Tok} (h : w.ownsRow B 62 4 v ts.length (eZ ts)) :
  ∃ a cap, v = .slice a ts.length cap /\ ∀ t, ts = [t] -> ∃ g, a = some ⟨g, 0, none⟩ /\ g < w.heap.size /\ w.cell? ⟨g, 0, none⟩ = some (.int .i64 t.kind) /\ w.cell? ⟨g, 2, none⟩ = some (.int .i64 t.len) := by
 obtain ⟨h1, h2⟩ := h
 rcases h2 with ⟨hv, h0⟩ | ⟨g, cap, cur, hv, hg, hh, hc, hm, hz, ht⟩
 ·have h0 : ts.length = 0 := h0
  refine ⟨none, 0, by rw [hv, h0], fun t e => ?_⟩
  rw [e] at h0; cases h0
 ·refine ⟨some ⟨g, 0, none⟩, cap, hv, fun t e => ⟨g, rfl, ?_, ?_, ?_⟩⟩
  ·rcases Nat.lt_or_ge g w.heap.size with hlt | hge
   ·exact hlt
   ·rw [Array.getElem?_eq_none hge] at hh; cases hh
  all_goals
   subst e
   rw [cell_of_row w g _ cur 62 (0, 0) hh]
  ·have : (eZ [t])[0]? = some (.int .i64 t.kind) := by simp [eZ, sS]
   rw [← ht, List.getElem?_take_of_lt (by simp)] at this
   simpa using this
  ·have : (eZ [t])[2]? = some (.int .i64 t.len) := by simp [eZ, sS]
   rw [← ht, List.getElem?_take_of_lt (by simp)] at this
   simpa using this
theorem zW (s : ByteArray) (w : World) (hl : s.size <= maxLen) (hL : Laid w) :
  Calls Tryz.prog 40 #[.string s] w fun e w' => e = .returned (.bool (bQ s.data.toList)) /\ Below w.heap.size w w' := by
 have hb : Below w.heap.size w (Lib.bytesWorld w 5 s) := gB w s
 have hS : Bx _ := ⟨kQ (some ⟨w.heap.size, 0, none⟩) (grownCap w s.size 0 5) s.data.toList (Lib.bytesWorld w 5 s) ⟨fun _ => ⟨_, _, rfl, by rw [Lib.bytesWorld_size]; omega, uu w s⟩, by rw [bl]; exact grownCap_ge w s.size 0 5, by rw [bl]; exact hl⟩ (hL.below hb)⟩
 have kc := mf s
 unfold bQ
 have hsz := bl s
 rw [hsz] at hS ⊢
 generalize hT : (aB s.data.toList).1 = ts at *
 generalize (aB s.data.toList).2 = fl at *
 have hsz1 := Lib.bytesWorld_size w 5 s
 clear hT hL
 match ts, hS with
 | [], hS =>
  go_enter Tryz.func40, Tryz.ntmps40
  go_wp2_with (first | (go_at_call 19; refine Calls.mono hS.out ?_; rintro e w1 ⟨v, rfl, hown, hb1⟩; obtain ⟨a, cap, rfl, hx⟩ := j6 hown; have hw1 := hb1.size; clear hx hown))
  go_ret
  exact ⟨rfl, (hb.trans (hb1.mono (by omega))).alloc (by omega) _⟩
 | [t], hS =>
  cases hk : ((t.kind : Int) == 1)
  ·go_enter Tryz.func40, Tryz.ntmps40
   go_wp2_with (first | (go_at_call 19; refine Calls.mono hS.out ?_; rintro e w1 ⟨v, rfl, hown, hb1⟩; obtain ⟨a, cap, rfl, hx⟩ := j6 hown; have hw1 := hb1.size; obtain ⟨g, rfl, hg, k0, k2⟩ := hx t rfl; clear hx hown))
   go_ret
   exact ⟨ek (by simp [jo, hk]), (hb.trans (hb1.mono (by omega))).alloc (by omega) _⟩
  ·go_enter Tryz.func40, Tryz.ntmps40
   go_wp2_with (first | (go_at_call 19; refine Calls.mono hS.out ?_; rintro e w1 ⟨v, rfl, hown, hb1⟩; obtain ⟨a, cap, rfl, hx⟩ := j6 hown; have hw1 := hb1.size; obtain ⟨g, rfl, hg, k0, k2⟩ := hx t rfl; clear hx hown))
   go_ret
   exact ⟨ek (by simp [jo, hk]), (hb.trans (hb1.mono (by omega))).alloc (by omega) _⟩
 | t :: t' :: r, hS =>
  have hne : (((t :: t' :: r).length : Int) == 1) = false := by rw [beq_eq_false_iff_ne]; simp; omega
  generalize hR : (t :: t' :: r) = rs at *
  go_enter Tryz.func40, Tryz.ntmps40
  go_wp2_with (first | (go_at_call 19; refine Calls.mono hS.out ?_; rintro e w1 ⟨v, rfl, hown, hb1⟩; obtain ⟨a, cap, rfl, hx⟩ := j6 hown; have hw1 := hb1.size; clear hx hown))
  go_ret
  exact ⟨ek (by rw [← hR]; rfl), (hb.trans (hb1.mono (by omega))).alloc (by omega) _⟩
def iV (s : ByteArray) : Bool := s.toList.isEmpty
def bN (kind : Int) (nm : ByteArray) : Bool :=
 if kind = 20 ∨ kind = 43 then iV nm || bQ nm.data.toList
 else if kind = 3 ∨ kind = 13 ∨ kind = 31 ∨ kind = 32 ∨ kind = 42 ∨ kind = 45 then bQ nm.data.toList
 else iV nm
theorem iB (ka : Option Addr) (kc : Nat) (n : Nd) (w : World) (hl : n.name.size <= maxLen) (hL : Laid w) : Calls Tryz.prog 24 #[ndV ka kc n] w fun e w' => e = .returned (.bool (bN n.kind n.name)) /\ Below w.heap.size w w' := by
 obtain ⟨k, p, ks, nm, num⟩ := n
 unfold ndV
 simp only at *
 have HN : Bx (∀ w', Laid w' -> Calls Tryz.prog 40 #[.string nm] w' fun e w'' => e = .returned (.bool (bQ nm.data.toList)) /\ Below w'.heap.size w' w'') := ⟨fun w' h => zW nm w' hl h⟩
 have HL := hL.below (ah w (.cells #[.int .i64 k, .int .i64 p, .slice ka ks.length kc, .string nm, .int .i64 num] 44))
 generalize hok : bQ nm.data.toList = ok at *
 have HF : Bx (bN k nm = if k = 20 ∨ k = 43 then iV nm || ok else if k = 3 ∨ k = 13 ∨ k = 31 ∨ k = 32 ∨ k = 42 ∨ k = 45 then ok else iV nm) := ⟨by rw [← hok]; rfl⟩
 generalize bN k nm = F at *
 clear hok
 go_enter Tryz.func24, Tryz.ntmps24
 go_wp2_with (first | (go_at_call 40; refine Calls.mono (HN.out _ HL) ?_; rintro e w1 ⟨rfl, hb1⟩))
 all_goals
  go_ret
  refine ⟨ek ?_, by first | exact ah _ _ | exact y7 _ _ _ hb1⟩
  rw [HF.out]
  clear HF HN HL hL
  unfold iV
  simp at *
  (repeat' split) <;> first | rfl | omega | (simp_all; done) | (simp_all; omega)
structure zX (w : World) (B b o : Nat) (n : Nd) (ka : Option Addr) (kc : Nat) : Prop where
 c0 : w.cell? ⟨b, o, none⟩ = some (.int .i64 n.kind)
 c1 : w.cell? ⟨b, o + 1, none⟩ = some (.int .i64 n.pos)
 c2 : w.cell? ⟨b, o + 2, none⟩ = some (.slice ka n.kids.length kc)
 c3 : w.cell? ⟨b, o + 3, none⟩ = some (.string n.name)
 c4 : w.cell? ⟨b, o + 4, none⟩ = some (.int .i64 n.num)
 kids : aO w B (.slice ka n.kids.length kc) n.kids
def I64 (x : Int) : Prop := -9223372036854775808 <= x /\ x <= 9223372036854775807
structure tu (n : Nd) : Prop where
 kind : I64 n.kind
 pos : I64 n.pos
 num : I64 n.num
 name : n.name.size <= maxLen
 kids : ∀ k ∈ n.kids, I64 k
structure gG (w : World) (B nb no nc : Nat) (l : List Nd) : Prop where
 at_ : ∀ j, j < l.length -> ∃ ka kc, zX w B nb (no + j * 5) (ndN l j) ka kc
 wf : ∀ j, j < l.length -> tu (ndN l j)
 lo : nb < B
 hi : B <= w.heap.size
 max : l.length <= maxLen
 cap : l.length <= nc
theorem zX.below {w w' : World} {B b o : Nat} {n : Nd} {ka : Option Addr} {kc : Nat} (h : zX w B b o n ka kc) (hb : Below B w w') (hlt : b < B) : zX w' B b o n ka kc := by
 have hc : ∀ i, w'.cell? ⟨b, i, none⟩ = w.cell? ⟨b, i, none⟩ := fun i => hb.cell (p := ⟨b, i, none⟩) hlt
 exact ⟨by rw [hc]; exact h.c0, by rw [hc]; exact h.c1, by rw [hc]; exact h.c2, by rw [hc]; exact h.c3, by rw [hc]; exact h.c4, h.kids.below hb⟩
theorem gG.below {w w' : World} {B nb no nc : Nat} {l : List Nd} (h : gG w B nb no nc l) (hb : Below B w w') : gG w' B nb no nc l := by
 refine ⟨fun j hj => ?_, h.wf, h.lo, Nat.le_trans h.hi hb.size, h.max, h.cap⟩
 obtain ⟨ka, kc, hn⟩ := h.at_ j hj
 exact ⟨ka, kc, hn.below hb h.lo⟩
theorem gG.kinds {w : World} {B nb no nc : Nat} {l : List Nd} (h : gG w B nb no nc l) (j : Nat) (hj : j < l.length) : w.cell? ⟨nb, no + j * 5, none⟩ = some (.int .i64 (kdN l j)) := by
 obtain ⟨ka, kc, hn⟩ := h.at_ j hj
 exact hn.c0
def Led (l : List Nd) (i : Nat) : Prop := ∀ j, j < i -> (22 <= kdN l j -> kdN l j <= 25 -> ∃ k : Nat, ∃ r, (ndN l j).kids = (k : Int) :: r /\ k < j)
theorem kZ (l : List Nd) (k : Nat) : sU l (k : Int) = ndN l k := rfl
theorem xn {l : List Nd} {f : Nat} {k k' : Nat} {r : List Int} (h1 : 22 <= kdN l k) (h2 : kdN l k <= 25) (hk : (ndN l k).kids = (k' : Int) :: r) : df l (f + 1) k = df l f k' := by
 unfold kdN at *
 rw [df, kZ, if_pos ⟨h1, h2⟩, hk]
 rfl
theorem zY {l : List Nd} {f : Nat} {k : Nat} (h : ¬ (22 <= kdN l k /\ kdN l k <= 25)) : df l (f + 1) k = (kdN l k == 21 && (ndN l k).num == 3) := by
 unfold kdN at *
 rw [df, kZ, if_neg h]
theorem zZ (w : World) (B nb no nc : Nat) (l : List Nd) (i k f : Nat) (hn : gG w B nb no nc l) (hl : Led l i) (hi : i <= l.length) (hk : k < i) (hf : k < f) :
  Calls Tryz.prog 48 #[.slice (some ⟨nb, no, none⟩) l.length nc, .int .i64 k] w fun e w' => e = .returned (.bool (df l f k)) /\ w = w' := by
 have hmax := hn.max
 unfold maxLen at hmax
 generalize hF : df l f k = F
 have HS : Bx (k < f /\ df l f k = F) := ⟨hf, hF⟩
 clear hF hf
 go_enter Tryz.func48, Tryz.ntmps48
 go_wp2
 go_loop [1] (fun x => ∃ j f : Nat, j < i /\ x = .int .i64 j /\ Bx (j < f /\ df l f j = F)) (fun x => (intOf x).toNat)
 case atStart => exact ⟨k, f, hk, rfl, HS⟩
 case round =>
  obtain ⟨j, g, hj, rfl, HR⟩ := hrel
  obtain ⟨g, rfl⟩ : ∃ g', g = g' + 1 := ⟨g - 1, by have := HR.out.1; omega⟩
  obtain ⟨ka, kc, ⟨c0, c1, c2, c3, c4, hkk⟩⟩ := hn.at_ j (by omega)
  have hjl : j < l.length := by omega
  change w.cell? _ = some (.int .i64 (kdN l j)) at c0
  by_cases hkd : 22 <= kdN l j /\ kdN l j <= 25
  ·obtain ⟨k', r, hks, hlt⟩ := hl j hj hkd.1 hkd.2
   have HR2 : Bx (k' < g /\ df l g k' = F) := ⟨by have := HR.out.1; omega, by rw [← HR.out.2, xn hkd.1 hkd.2 hks]⟩
   obtain ⟨a, cap, he, h1, h2, h3⟩ := hkk.ex
   simp only [Value.slice.injEq, true_and] at he
   obtain ⟨rfl, rfl⟩ := he
   rw [hks] at h3
   obtain ⟨b, o, rfl, hbB, hcell⟩ := h3 (by simp)
   have hc0 := hcell 0 (by simp)
   simp only [List.getElem_cons_zero, Nat.add_zero] at hc0
   have hlen : 0 < (ndN l j).kids.length := by rw [hks]; simp
   generalize (ndN l j).kids.length = nk at *
   clear hcell h3 hks hkk HR HS hl hn
   unfold maxLen at h2
   generalize kdN l j = kd at *
   obtain ⟨q1, q2⟩ := hkd
   have hcs : kd = 22 ∨ kd = 23 ∨ kd = 24 ∨ kd = 25 := by omega
   rcases hcs with rfl | rfl | rfl | rfl <;>
   ·go_wp2
    go_round
    case rel => exact ⟨k', g, by omega, rfl, HR2⟩
    case measure => simp [intOf]; omega
  ·have HR2 : Bx ((kdN l j == 21 && (ndN l j).num == 3) = F) := ⟨by rw [← HR.out.2, zY hkd]⟩
   clear HR HS hl hn hkk
   generalize (ndN l j).num = nu at *
   generalize kdN l j = kd at *
   have e1 : (kd == 22) = false := by rw [beq_eq_false_iff_ne]; omega
   have e2 : (kd == 23) = false := by rw [beq_eq_false_iff_ne]; omega
   have e3 : (kd == 24) = false := by rw [beq_eq_false_iff_ne]; omega
   have e4 : (kd == 25) = false := by rw [beq_eq_false_iff_ne]; omega
   clear hkd
   cases e5 : (kd == 21)
   ·go_wp2
    go_ret
    exact ⟨ek (by rw [← HR2.out, e5]; rfl), rfl⟩
   ·go_wp2
    go_ret
    exact ⟨ek (by rw [← HR2.out, e5]; rfl), rfl⟩
theorem tC (l : List Nd) (n : Nd) (ks : List Int) (p : Nat) (h : p < ks.length) : gQ l n p (ks.drop p) = if bT (sU l ks[p]).kind (sU l ks[p]).num < gJ n.kind n.num p then false else gQ l n (p + 1) (ks.drop (p + 1)) := by
 rw [List.drop_eq_getElem_cons h]
 rfl
theorem vL (l : List Nd) (n : Nd) (ks : List Int) (p : Nat) (h : ks.length <= p) : gQ l n p (ks.drop p) = true := by
 rw [List.drop_eq_nil_of_le h]
 rfl
def iW (w : World) (b o : Nat) (k p : Int) (ka : Option Addr) (n kc : Nat) (nm : ByteArray) (num : Int) : Prop :=
 w.cell? ⟨b, o, none⟩ = some (.int .i64 k) /\ w.cell? ⟨b, o + 1, none⟩ = some (.int .i64 p) /\ w.cell? ⟨b, o + 2, none⟩ = some (.slice ka n kc) /\ w.cell? ⟨b, o + 3, none⟩ = some (.string nm) /\ w.cell? ⟨b, o + 4, none⟩ = some (.int .i64 num)
theorem iW.below {w w' : World} {B b o : Nat} {k p : Int} {ka : Option Addr} {n kc : Nat} {nm : ByteArray} {num : Int} (h : iW w b o k p ka n kc nm num) (hb : Below B w w') (hlt : b < B) : iW w' b o k p ka n kc nm num := by
 have hc : ∀ i, w'.cell? ⟨b, i, none⟩ = w.cell? ⟨b, i, none⟩ := fun i => hb.cell (p := ⟨b, i, none⟩) hlt
 obtain ⟨a1, a2, a3, a4, a5⟩ := h
 exact ⟨by rw [hc]; exact a1, by rw [hc]; exact a2, by rw [hc]; exact a3, by rw [hc]; exact a4, by rw [hc]; exact a5⟩
theorem zX.five {w : World} {B b o : Nat} {n : Nd} {ka : Option Addr} {kc : Nat} (h : zX w B b o n ka kc) : iW w b o n.kind n.pos ka n.kids.length kc n.name n.num := ⟨h.c0, h.c1, h.c2, h.c3, h.c4⟩
theorem xq (w : World) (k p : Int) (ka : Option Addr) (n kc : Nat) (nm : ByteArray) (num : Int) : iW (w.alloc (.cells #[.int .i64 k, .int .i64 p, .slice ka n kc, .string nm, .int .i64 num] 44)) w.heap.size 0 k p ka n kc nm num := by
 unfold iW
 simp
def Ev (w : World) (o : Obj) (wr : World) : Prop := Below (w.heap.size + 1) (w.alloc o) wr
theorem Ev.below {w wr : World} {o : Obj} (h : Ev w o wr) : Below w.heap.size w wr := (ah w o).trans (Below.mono h (by omega))
theorem Gt {wr W w1 : World} {nb o bx nk2 c2 nk kc : Nat} {kd2 ps2 num2 kd ps num : Int} {a2 ka : Option Addr} {nm2 nm : ByteArray} (hb1 : Below W.heap.size W w1) (h1 : nb < wr.heap.size) (h2 : bx < wr.heap.size)
  (hS : W.cell? ⟨nb, o, none⟩ = some (.int .i64 kd2) /\ W.cell? ⟨nb, o + 1, none⟩ = some (.int .i64 ps2) /\ W.cell? ⟨nb, o + 2, none⟩ = some (.slice a2 nk2 c2) /\ W.cell? ⟨nb, o + 3, none⟩ = some (.string nm2) /\ W.cell? ⟨nb, o + 4, none⟩ = some (.int .i64 num2)
     /\ W.cell? ⟨bx, 0, none⟩ = some (.int .i64 kd) /\ W.cell? ⟨bx, 1, none⟩ = some (.int .i64 ps) /\ W.cell? ⟨bx, 2, none⟩ = some (.slice ka nk kc) /\ W.cell? ⟨bx, 3, none⟩ = some (.string nm) /\ W.cell? ⟨bx, 4, none⟩ = some (.int .i64 num) /\ Below wr.heap.size wr W) :
  w1.cell? ⟨nb, o, none⟩ = some (.int .i64 kd2) /\ w1.cell? ⟨nb, o + 1, none⟩ = some (.int .i64 ps2) /\ w1.cell? ⟨nb, o + 2, none⟩ = some (.slice a2 nk2 c2) /\ w1.cell? ⟨nb, o + 3, none⟩ = some (.string nm2) /\ w1.cell? ⟨nb, o + 4, none⟩ = some (.int .i64 num2)
     /\ w1.cell? ⟨bx, 0, none⟩ = some (.int .i64 kd) /\ w1.cell? ⟨bx, 1, none⟩ = some (.int .i64 ps) /\ w1.cell? ⟨bx, 2, none⟩ = some (.slice ka nk kc) /\ w1.cell? ⟨bx, 3, none⟩ = some (.string nm) /\ w1.cell? ⟨bx, 4, none⟩ = some (.int .i64 num) /\ Below wr.heap.size wr w1 := by
 obtain ⟨x0, x1, x2, x3, x4, y0, y1, y2, y3, y4, hb⟩ := hS
 have hz := hb.size
 have c1 : ∀ i, w1.cell? ⟨nb, i, none⟩ = W.cell? ⟨nb, i, none⟩ := fun i => hb1.cell (p := ⟨nb, i, none⟩) (by simp; omega)
 have d1 : ∀ i, w1.cell? ⟨bx, i, none⟩ = W.cell? ⟨bx, i, none⟩ := fun i => hb1.cell (p := ⟨bx, i, none⟩) (by simp; omega)
 rw [c1, c1, c1, c1, c1, d1, d1, d1, d1, d1]
 exact ⟨x0, x1, x2, x3, x4, y0, y1, y2, y3, y4, hb.trans (hb1.mono hz)⟩
theorem Gu {wr W : World} {nb o bx nk2 c2 nk kc : Nat} {kd2 ps2 num2 kd ps num : Int} {a2 ka : Option Addr} {nm2 nm : ByteArray}
  (hS : W.cell? ⟨nb, o, none⟩ = some (.int .i64 kd2) /\ W.cell? ⟨nb, o + 1, none⟩ = some (.int .i64 ps2) /\ W.cell? ⟨nb, o + 2, none⟩ = some (.slice a2 nk2 c2) /\ W.cell? ⟨nb, o + 3, none⟩ = some (.string nm2) /\ W.cell? ⟨nb, o + 4, none⟩ = some (.int .i64 num2)
     /\ W.cell? ⟨bx, 0, none⟩ = some (.int .i64 kd) /\ W.cell? ⟨bx, 1, none⟩ = some (.int .i64 ps) /\ W.cell? ⟨bx, 2, none⟩ = some (.slice ka nk kc) /\ W.cell? ⟨bx, 3, none⟩ = some (.string nm) /\ W.cell? ⟨bx, 4, none⟩ = some (.int .i64 num) /\ Below wr.heap.size wr W) : Below wr.heap.size wr W := hS.2.2.2.2.2.2.2.2.2.2
theorem lW (w : World) (B nb no nc : Nat) (l : List Nd) (i : Nat) (ka : Option Addr) (kc : Nat) (n : Nd) (hn : gG w B nb no nc l) (hl : Led l i) (hi : i <= l.length) (hk : aO w B (.slice ka n.kids.length kc) n.kids)
  (hkid : ∀ j (h : j < n.kids.length), ∃ k : Nat, n.kids[j] = (k : Int) /\ k < i) (h44 : n.kind = 44 -> 0 < n.kids.length) :
  Calls Tryz.prog 27 #[.slice (some ⟨nb, no, none⟩) l.length nc, ndV ka kc n] w fun e w' => e = .returned (.bool (dY l n)) /\ Below w.heap.size w w' := by
 obtain ⟨kd, ps, ks, nm, num⟩ := n
 unfold ndV
 simp only at *
 obtain ⟨a, cap, he, h1, h2, h3⟩ := hk.ex
 simp only [Value.slice.injEq, true_and] at he
 obtain ⟨rfl, rfl⟩ := he
 have hB := hn.hi
 have hmax := hn.max
 unfold maxLen at hmax h2
 have HW : Bx (∀ pl w', (pl : Nat) <= maxLen -> Calls Tryz.prog 47 #[.agg #[.int .i64 kd, .int .i64 ps, .slice ka ks.length kc, .string nm, .int .i64 num], .int .i64 pl] w' fun e w'' => e = .returned (.int .i64 (gJ kd num pl)) /\ Below w'.heap.size w' w'') := ⟨fun pl w' hp => y8 ka kc ⟨kd, ps, ks, nm, num⟩ pl hp w'⟩
 have HX : Bx (gG w B nb no nc l /\ aO w B (.slice ka ks.length kc) ks /\ Led l i) := ⟨hn, hk, hl⟩
 have HK : Bx _ := ⟨h3⟩
 have HF : Bx (dY l ⟨kd, ps, ks, nm, num⟩ = (gQ l ⟨kd, ps, ks, nm, num⟩ 0 (ks.drop 0) && (kd != 44 || !df l (l.length + 1) (ks.getD 0 0)))) := ⟨rfl⟩
 generalize hFF : dY l ⟨kd, ps, ks, nm, num⟩ = F at *
 clear hFF hn hk hl h3
 go_enter Tryz.func27, Tryz.ntmps27
 go_wp2
 go_loopw [10] (fun x wr => ∃ p : Nat, p <= ks.length /\ x = .int .i64 p /\ Bx (Ev w (.cells #[.int .i64 kd, .int .i64 ps, .slice ka ks.length kc, .string nm, .int .i64 num] 44) wr /\ F = (gQ l ⟨kd, ps, ks, nm, num⟩ p (ks.drop p) && (kd != 44 || !df l (l.length + 1) (ks.getD 0 0))))) (fun x _ => ks.length - (intOf x).toNat)
 case atStart => exact ⟨0, Nat.zero_le _, rfl, ⟨Below.refl _ _, HF.out⟩⟩
 case round =>
  obtain ⟨p, hp, rfl, HR⟩ := hrel
  have hsz : w.heap.size + 1 <= wr.heap.size := by
   have := HR.out.1.size
   simpa using this
  have hbx := (xq w kd ps ka ks.length kc nm num).below (B := w.heap.size + 1) HR.out.1 (by omega)
  have hbw := HR.out.1.below
  by_cases hlt : p < ks.length
  ·obtain ⟨b, o, rfl, hbB, hcell⟩ := HK.out (by omega)
   obtain ⟨k, hkp, hki⟩ := hkid p hlt
   have hc : wr.cell? ⟨b, o + p, none⟩ = some (.int .i64 (k : Int)) := by rw [hbw.cell (p := ⟨b, o + p, none⟩) (by simp; omega), ← hkp]; exact hcell p hlt
   obtain ⟨a2, c2, hnd⟩ := (HX.out.1.below (hbw.mono hB)).at_ k (by omega)
   have hnb := HX.out.1.lo
   have h5 := hnd.five
   have HV : Bx (∀ w', Calls Tryz.prog 39 #[.agg #[.int .i64 (ndN l k).kind, .int .i64 (ndN l k).pos, .slice a2 (ndN l k).kids.length c2, .string (ndN l k).name, .int .i64 (ndN l k).num]] w' fun e w'' => e = .returned (.int .i64 (bT (ndN l k).kind (ndN l k).num)) /\ Below w'.heap.size w' w'') := ⟨fun w' => lu a2 c2 (ndN l k) w'⟩
   have HG := tC l ⟨kd, ps, ks, nm, num⟩ ks p hlt
   rw [hkp, kZ] at HG
   have HG' : Bx _ := ⟨HG⟩
   have hle1 := oo (ndN l k).kind (ndN l k).num
   generalize (ndN l k).kids.length = nk2 at *
   generalize (ndN l k).pos = ps2 at *
   generalize (ndN l k).name = nm2 at *
   generalize hLV : bT (ndN l k).kind (ndN l k).num = LV at *
   generalize (ndN l k).kind = kd2 at *
   generalize (ndN l k).num = num2 at *
   have hWP := HW.out p
   have HW' : Bx (∀ w', Calls Tryz.prog 47 #[.agg #[.int .i64 kd, .int .i64 ps, .slice (some ⟨b, o, none⟩) ks.length kc, .string nm, .int .i64 num], .int .i64 p] w' fun e w'' => e = .returned (.int .i64 (gJ kd num p)) /\ Below w'.heap.size w' w'') := ⟨fun w' => hWP w' (by unfold maxLen; omega)⟩
   generalize gJ kd num p = WV at *
   have hkl : k < l.length := by omega
   have HB0 : Below wr.heap.size wr wr := Below.refl _ _
   clear HG hWP hnd hcell HF HK hLV
   unfold iW at h5 hbx
   obtain ⟨x0, x1, x2, x3, x4⟩ := h5
   obtain ⟨y0, y1, y2, y3, y4⟩ := hbx
   go_wp2
   go_region_held (fun w' => w'.cell? ⟨nb, no + k * 5, none⟩ = some (.int .i64 kd2) /\ w'.cell? ⟨nb, no + k * 5 + 1, none⟩ = some (.int .i64 ps2) /\ w'.cell? ⟨nb, no + k * 5 + 2, none⟩ = some (.slice a2 nk2 c2) /\ w'.cell? ⟨nb, no + k * 5 + 3, none⟩ = some (.string nm2) /\ w'.cell? ⟨nb, no + k * 5 + 4, none⟩ = some (.int .i64 num2)
     /\ w'.cell? ⟨w.heap.size, 0, none⟩ = some (.int .i64 kd) /\ w'.cell? ⟨w.heap.size, 1, none⟩ = some (.int .i64 ps) /\ w'.cell? ⟨w.heap.size, 2, none⟩ = some (.slice (some ⟨b, o, none⟩) ks.length kc) /\ w'.cell? ⟨w.heap.size, 3, none⟩ = some (.string nm) /\ w'.cell? ⟨w.heap.size, 4, none⟩ = some (.int .i64 num) /\ Below wr.heap.size wr w')
    (first | exact ⟨x0, x1, x2, x3, x4, y0, y1, y2, y3, y4, HB0.drew⟩ | exact Gt hb1 (by omega) (by omega) ‹_›)
    (first | (go_at_call 39; refine Calls.mono (HV.out _) ?_; rintro e w1 ⟨rfl, hb1⟩) | (go_at_call 47; refine Calls.mono (HW'.out _) ?_; rintro e w1 ⟨rfl, hb1⟩))
   all_goals
    have hw1 := Gu (wr := wr) (W := w1) ‹_›
    by_cases hcmp : LV < WV
    ·have HE : Bx (F = false) := ⟨by rw [HR.out.2, HG'.out, if_pos hcmp]; rfl⟩
     go_wp2
     go_ret
     exact ⟨ek HE.out.symm, hbw.trans (hw1.mono (by omega))⟩
    ·have HE : Bx (F = (gQ l ⟨kd, ps, ks, nm, num⟩ (p + 1) (ks.drop (p + 1)) && (kd != 44 || !df l (l.length + 1) (ks.getD 0 0)))) := ⟨by rw [HR.out.2, HG'.out, if_neg hcmp]⟩
     have HM := HR.out.1
     go_wp2
     go_roundw
     case rel => exact ⟨p + 1, by omega, by go_num, ⟨Below.trans HM (hw1.mono (by omega)), HE.out⟩⟩
     case measure => simp [intOf]; omega
  ·have HE : Bx (F = (kd != 44 || !df l (l.length + 1) (ks.getD 0 0))) := ⟨by rw [HR.out.2, vL _ _ _ _ (by omega)]; rfl⟩
   unfold iW at hbx
   obtain ⟨y0, y1, y2, y3, y4⟩ := hbx
   have hpe : p = ks.length := by omega
   by_cases hkd : kd = 44
   ·obtain ⟨b, o, rfl, hbB, hcell⟩ := HK.out (h44 hkd)
    obtain ⟨k, hkp, hki⟩ := hkid 0 (h44 hkd)
    have hpos := h44 hkd
    have hc : wr.cell? ⟨b, o, none⟩ = some (.int .i64 (k : Int)) := by
     rw [hbw.cell (p := ⟨b, o, none⟩) (by simp; omega), ← hkp]
     have := hcell 0 hpos
     rw [Nat.add_zero] at this
     exact this
    have hgd : ks.getD 0 0 = (k : Int) := by
     rw [List.getD_eq_getElem?_getD, List.getElem?_eq_getElem hpos, hkp]; rfl
    have HC : Bx _ := ⟨zZ wr B nb no nc l i k (l.length + 1) (HX.out.1.below (hbw.mono hB)) HX.out.2.2 hi hki (by omega)⟩
    rw [hgd] at HE
    have HE' : Bx (F = !df l (l.length + 1) k) := ⟨by rw [HE.out, hkd]; rfl⟩
    generalize df l (l.length + 1) k = bg at *
    subst hkd
    clear HE HR HF HX HW HK hcell hkp hgd
    go_wp2_with (first | (go_at_call 48; refine Calls.mono HC.out ?_; rintro e w1 ⟨rfl, rfl⟩))
    go_ret
    exact ⟨ek HE'.out.symm, hbw⟩
   ·have e44 : (kd != 44) = true := by rw [bne_iff_ne]; exact hkd
    have HE' : Bx (F = true) := ⟨by rw [HE.out, e44]; rfl⟩
    clear HE HR HF HX HW HK
    go_wp2
    go_ret
    exact ⟨ek HE'.out.symm, hbw⟩
end Go.Proofs.YtecodpdfckjalaaGreatDoor
namespace Go.Proofs.YtecodpdfckjalaaGreatDoor
def dE (l : List Nd) (fs : List Nat) (i : Nat) : Nat :=
 if gP (ndN l i).kind = false ∨ (ndN l i).pos < 0 then 20
 else if cu (ndN l i).kind (ndN l i).num (ndN l i).kids.length = false then 23
 else if bN (ndN l i).kind (ndN l i).name = false then 22
 else if fV fs i (ndN l i).kids = false ∨ aA (kdN l) (ndN l i).kind (ndN l i).num ((ndN l i).kids.map Int.toNat) = false then 21
 else if dY l (ndN l i) = false then 24
 else 0
theorem qR {fs : List Nat} (hle : ∀ j, j < fs.length -> fs.getD j 0 <= j) : ∀ (ks : List Int) (nx : Nat), nx <= fs.length -> fM fs nx ks = true -> ∀ k ∈ ks, ∃ m : Nat, k = (m : Int) /\ m < fs.length
 | [], _, _, _, k, hk => by cases hk
 | x :: r, nx, hnx, h, k, hk => by
  rw [fM] at h
  split at h
  ·rename_i hx
   obtain ⟨y, rfl⟩ : ∃ y : Nat, x = (y : Int) := ⟨x.toNat, by omega⟩
   have hy : y < fs.length := by omega
   rcases List.mem_cons.1 hk with rfl | hk
   ·exact ⟨y, rfl, hy⟩
   ·rw [Int.toNat_natCast] at h
    have := hle y hy
    exact qR hle r (fs.getD y 0) (by omega) h k hk
  ·cases h
theorem xu {fs : List Nat} (hle : ∀ j, j < fs.length -> fs.getD j 0 <= j) {kids : List Int} (h : fV fs fs.length kids = true) :
  (kids.map Int.toNat).map (fun k : Nat => (k : Int)) = kids /\ ∀ k ∈ kids.map Int.toNat, k < fs.length := by
 have hin := qR hle kids.reverse fs.length (Nat.le_refl _) h
 constructor
 ·rw [List.map_map]
  conv => rhs; rw [← List.map_id kids]
  apply List.map_congr_left
  intro k hk
  obtain ⟨m, rfl, _⟩ := hin k (by simpa using hk)
  simp
 ·intro k hk
  obtain ⟨x, hx, rfl⟩ := List.mem_map.1 hk
  obtain ⟨m, rfl, hm⟩ := hin x (by simpa using hx)
  simpa using hm
theorem nH {fs : List Nat} (hle : ∀ j, j < fs.length -> fs.getD j 0 <= j) {kids : List Int} (h : fV fs fs.length kids = true) (j : Nat) (hj : j < kids.length) : ∃ k : Nat, kids[j] = (k : Int) /\ k < fs.length :=
 qR hle kids.reverse fs.length (Nat.le_refl _) h _ (by simp)
end Go.Proofs.YtecodpdfckjalaaGreatDoor
