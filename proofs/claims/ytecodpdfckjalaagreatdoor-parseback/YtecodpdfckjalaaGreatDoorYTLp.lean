import Derived.Test.YtecodpdfckjalaaGreatDoorYTChkW
import Derived.Test.YtecodpdfckjalaaGreatDoorYTNd
import Derived.Test.YtecodpdfckjalaaGreatDoorYTPh
import Derived.Test.YtecodpdfckjalaaGreatDoorYTTx
import Derived.Test.YtecodpdfckjalaaGreatDoorYPH
import Derived.Test.YtecodpdfckjalaaGreatDoorRows
import Derived.ProofKit
import Derived.LaidMore
import Derived.OpenShut
import Derived.Stop.Joined
import Derived.Stop.LaidErr
import Derived.Lib.LaidTab
import Derived.Test.YtecodpdfckjalaaGreatDoorYTName
import Derived.Below
import Derived.Lib.SmallJoins
import Derived.Deep.Slices
import Derived.Test.YtecodpdfckjalaaGreatDoorCards
import Derived.Test.YtecodpdfckjalaaGreatDoorTie
import Derived.SevenTiedAt
import Derived.SizedLaws
set_option linter.unusedVariables false
set_option linter.unusedSimpArgs false
set_option maxHeartbeats 4000000
set_option maxRecDepth 100000
namespace Go.Proofs.YtecodpdfckjalaaGreatDoor
open Go.RowKit
structure pz (w : World) : Prop where
 laid : Laid w
 pow : Lib.TabIs Tryz.prog w "internal/strconv.uint64pow10" .u64 Lib.pow10Tab
 size : 7 <= w.heap.size
theorem pz.below {w w' : World} (h : pz w) (hb : Below w.heap.size w w') : pz w' :=
 ⟨h.laid.below hb, var?_below hb x9 (by have := h.size; omega) h.pow, Nat.le_trans h.size hb.size⟩
theorem KX (w : World) (lv : Value) : PB (w.alloc (.cells #[lv, .pointer none, .slice none 0 0] 53)) w.heap.size w.heap.size lv [] :=
 ⟨⟨.pointer none, .slice none 0 0, .inl rfl, heap_alloc_new w _, World.ownsRow_nil _ _ _ _, fun _ => rfl⟩, Nat.le_refl _, by simp⟩
theorem aO.mono {w : World} {B C : Nat} {v : Value} {ks : List Int} (h : aO w B v ks) (hB : B <= C) : aO w C v ks := by
 obtain ⟨a, cap, h1, h2, h3, h4⟩ := h.ex
 refine ⟨a, cap, h1, h2, h3, fun h0 => ?_⟩
 obtain ⟨b, o, e, hb, hc⟩ := h4 h0
 exact ⟨b, o, e, by omega, hc⟩
theorem gG.mono {w : World} {B C nb no nc : Nat} {l : List Nd} (h : gG w B nb no nc l) (hB : B <= C) (hC : C <= w.heap.size) : gG w C nb no nc l := by
 refine ⟨fun j hj => ?_, h.wf, by have := h.lo; omega, hC, h.max, h.cap⟩
 obtain ⟨ka, kc, hn⟩ := h.at_ j hj
 exact ⟨ka, kc, hn.c0, hn.c1, hn.c2, hn.c3, hn.c4, hn.kids.mono hB⟩
theorem AA (B b : Nat) (lv : Value) (l : List UInt8) (w : World) (h : PB w B b lv l) :
  Calls Tryz.prog 18 #[.pointer (some ⟨b, 1, none⟩)] w fun e w' => e = .returned (.string ⟨l.toArray⟩) /\ Below B w w' := by
 by_cases h0 : l = []
 ·subst h0
  exact xH B b lv w h
 ·exact xG B b lv l w h h0
def sP (l : List Nd) : List UInt8 := if (bG l).2 = 0 then fI [] (dF l (l.length - 1)) else []
theorem FC (w : World) (B nb no nc : Nat) (l : List Nd) (hn : gG w B nb no nc l) (hL : pz w) (hl31 : l.length <= 2199023255552) (hok : (bG l).2 = 0) :
  Calls Tryz.prog 9 #[.slice (some ⟨nb, no, none⟩) l.length nc] w fun e w' => e = .returned (.tuple #[.string ⟨(fI [] (dF l (l.length - 1))).toArray⟩, .int .i64 0]) /\ Below w.heap.size w w' := by
 obtain ⟨_, h0, _⟩ := iY hok
 have HC : Bx _ := ⟨qU w B nb no nc l hn hL.laid hl31 h0⟩
 rw [hok] at HC
 have hcost := uE hok (fun j hj => (hn.wf j hj).num) (l.length - 1) (by omega)
 have HN : Bx (∀ w1, Below w.heap.size w w1 -> Calls Tryz.prog 17 #[.pointer (some ⟨w1.heap.size, 0, none⟩), .int .i64 ((l.length - 1 : Nat) : Int)] (w1.alloc (.cells #[.slice (some ⟨nb, no, none⟩) l.length nc, .pointer none, .slice none 0 0] 53)) fun e W' => e = .returned (.tuple #[]) /\ PB W' w1.heap.size w1.heap.size (.slice (some ⟨nb, no, none⟩) l.length nc) (fI [] (dF l (l.length - 1))) /\ Below w.heap.size w W') := ⟨fun w1 hb1 => by
  have hz := hb1.size
  have hb2 : Below w1.heap.size w1 (w1.alloc (.cells #[.slice (some ⟨nb, no, none⟩) l.length nc, .pointer none, .slice none 0 0] 53)) := ah w1 _
  have hL2 := (hL.below hb1).below hb2
  have hhi := hn.hi
  have hN2 : gG _ w1.heap.size nb no nc l := (((hn.below (hb1.mono hhi)).below (hb2.mono (by omega)))).mono (by omega) (by simp)
  have hnd := KW hok _ w1.heap.size w1.heap.size nb no nc 140737488355328 (Nat.le_refl _) hN2 ⟨hL2.laid, hL2.pow, by have := hL.size; omega⟩ (l.length - 1) (by omega)
  refine (hnd _ [] ⟨KX w1 _, Below.refl _ _⟩ (by simp; omega)).mono ?_
  rintro e W' ⟨rfl, q1, q2, q3⟩
  exact ⟨rfl, q1.pb, (hb1.trans (hb2.mono hz)).trans (q1.bel.mono hz)⟩⟩
 generalize fI [] (dF l (l.length - 1)) = T at *
 generalize (bG l).1 = c1 at *
 rw [show ((l.length - 1 : Nat) : Int) = (l.length : Int) - 1 by omega] at HN
 clear hn hL hok hcost
 generalize l.length = L at *
 go_enter Tryz.func9, Tryz.ntmps9
 go_wp2_with (first
  | (go_at_call 8; refine Calls.mono HC.out ?_; rintro e w1 ⟨rfl, hb1⟩; have hz1 := hb1.size)
  | (go_at_call 17; refine Calls.mono (HN.out _ hb1) ?_; rintro e w2 ⟨rfl, hp2, hb2⟩; have hl2 := hp2.lt)
  | (go_at_call 18; refine Calls.mono (AA _ _ _ _ _ hp2) ?_; rintro e w3 ⟨rfl, hb3⟩))
 go_ret2
 exact ⟨rfl, hb2.trans (hb3.mono hz1)⟩
theorem Dl (w : World) (B : Nat) (a : Option Addr) (cap : Nat) (l : List Nd) (hn : cK w B a cap l) (hL : pz w) (hl31 : l.length <= 2199023255552) (hok : ¬ (bG l).2 = 0) :
  Calls Tryz.prog 9 #[.slice a l.length cap] w fun e w' => e = .returned (.tuple #[.string ⟨#[]⟩, .int .i64 ((bG l).2 : Nat)]) /\ Below w.heap.size w w' := by
 have HC : Bx _ := ⟨uw w B a cap l hn hL.laid hl31⟩
 have hne : ((((bG l).2 : Nat) : Int) != 0) = true := by simp; omega
 generalize (bG l).1 = c1 at *
 generalize (bG l).2 = c2 at *
 clear hn hL hok
 generalize l.length = L at *
 go_enter Tryz.func9, Tryz.ntmps9
 go_wp2_with (first
  | (go_at_call 8; refine Calls.mono HC.out ?_; rintro e w1 ⟨rfl, hb1⟩; have hz1 := hb1.size))
 go_ret2
 exact ⟨rfl, hb1⟩
theorem Dm (w : World) (B : Nat) (a : Option Addr) (cap : Nat) (l : List Nd) (hn : cK w B a cap l) (hL : pz w) (hl31 : l.length <= 2199023255552) :
  Calls Tryz.prog 9 #[.slice a l.length cap] w fun e w' => e = .returned (.tuple #[.string ⟨(sP l).toArray⟩, .int .i64 ((bG l).2 : Nat)]) /\ Below w.heap.size w w' := by
 by_cases hok : (bG l).2 = 0
 ·obtain ⟨nb, no, rfl, h⟩ := hn.at_ (iY hok).2.1
  have := FC w B nb no cap l h hL hl31 hok
  unfold sP
  rw [if_pos hok, hok]
  exact this
 ·have := Dl w B a cap l hn hL hl31 hok
  unfold sP
  rw [if_neg hok]
  exact this
theorem FD (w : World) (a : Option Addr) (n cap c1 c2 : Nat) (h2 : ((c2 : Int) != 0) = true)
  (HSh : Bx (Calls Tryz.prog 7 #[] w fun e w' => e = .returned (.bool true) /\ Below w.heap.size w w'))
  (HC : Bx (∀ W, Below w.heap.size w W -> Calls Tryz.prog 8 #[.slice a n cap] W fun e w' => e = .returned (.tuple #[.int .i64 (c1 : Nat), .int .i64 (c2 : Nat)]) /\ Below W.heap.size W w')) :
  Calls Tryz.prog 3 #[.slice a n cap] w fun e w' => e = .returned (.bool true) /\ Below w.heap.size w w' := by
 go_enter Tryz.func3, Tryz.ntmps3
 go_wp2_with (first
  | (go_at_call 7; refine Calls.mono HSh.out ?_; rintro e W1 ⟨rfl, hb1⟩; clear HSh)
  | (go_at_call 8; refine Calls.mono (HC.out _ hb1) ?_; clear HC; rintro e W2 ⟨rfl, hb2⟩; have HB : Bx _ := ⟨hb1.trans (hb2.mono hb1.size)⟩; clear hb1 hb2))
 go_ret
 exact ⟨rfl, HB.out⟩
theorem Dn (w : World) (a : Option Addr) (n cap c1 : Nat) (s : ByteArray) (hs : 65536 < s.size) (hs2 : s.size <= 140737488355328)
  (HSh : Bx (Calls Tryz.prog 7 #[] w fun e w' => e = .returned (.bool true) /\ Below w.heap.size w w'))
  (HC : Bx (∀ W, Below w.heap.size w W -> Calls Tryz.prog 8 #[.slice a n cap] W fun e w' => e = .returned (.tuple #[.int .i64 (c1 : Nat), .int .i64 0]) /\ Below W.heap.size W w'))
  (HP : Bx (∀ W, Below w.heap.size w W -> Calls Tryz.prog 9 #[.slice a n cap] W fun e w' => e = .returned (.tuple #[.string s, .int .i64 0]) /\ Below W.heap.size W w')) :
  Calls Tryz.prog 3 #[.slice a n cap] w fun e w' => e = .returned (.bool true) /\ Below w.heap.size w w' := by
 go_enter Tryz.func3, Tryz.ntmps3
 go_wp2_with (first
  | (go_at_call 7; refine Calls.mono HSh.out ?_; rintro e W1 ⟨rfl, hb1⟩; clear HSh)
  | (go_at_call 8; refine Calls.mono (HC.out _ hb1) ?_; clear HC; rintro e W2 ⟨rfl, hb2⟩; have hb3 := hb1.trans (hb2.mono hb1.size); clear hb1 hb2)
  | (go_at_call 9; refine Calls.mono (HP.out _ hb3) ?_; clear HP; rintro e W3 ⟨rfl, hb4⟩; have HB : Bx _ := ⟨hb3.trans (hb4.mono hb3.size)⟩; clear hb3 hb4))
 go_ret
 exact ⟨rfl, HB.out⟩
theorem Dp (w : World) (a : Option Addr) (cap c1 : Nat) (l m : List Nd) (s : ByteArray) (hs : ¬ 65536 < s.size) (hn : cK w w.heap.size a cap l) (hlen : l.length = m.length) (hsm : ∀ p, p < l.length -> mK true (ndN l p) (ndN m p))
  (HSh : Bx (Calls Tryz.prog 7 #[] w fun e w' => e = .returned (.bool true) /\ Below w.heap.size w w'))
  (HC : Bx (∀ W, Below w.heap.size w W -> Calls Tryz.prog 8 #[.slice a l.length cap] W fun e w' => e = .returned (.tuple #[.int .i64 (c1 : Nat), .int .i64 0]) /\ Below W.heap.size W w'))
  (HP : Bx (∀ W, Below w.heap.size w W -> Calls Tryz.prog 9 #[.slice a l.length cap] W fun e w' => e = .returned (.tuple #[.string s, .int .i64 0]) /\ Below W.heap.size W w'))
  (HR : Bx (∀ W, Below w.heap.size w W -> Calls Tryz.prog 10 #[.slice (some ⟨W.heap.size, 0, none⟩) s.size (grownCap W s.size 0 5), .int .i64 65536] (Lib.bytesWorld W 5 s) fun e w' => ∃ a' cap', e = .returned (.tuple #[.slice a' m.length cap', .agg #[.int .i64 0, .int .i64 0]]) /\ Below w.heap.size w w' /\ cK w' w'.heap.size a' cap' m)) :
  Calls Tryz.prog 3 #[.slice a l.length cap] w fun e w' => e = .returned (.bool true) /\ Below w.heap.size w w' := by
 have kc := mf s
 have HN : Bx (∀ W5 W6 a' cap', Below w.heap.size w W5 -> cK W5 W5.heap.size a' cap' m -> W5.alloc (.cells #[.int .i64 0, .int .i64 0] 30) = W6 -> Calls Tryz.prog 11 #[.slice a l.length cap, .slice a' m.length cap', .bool true] W6 fun e w' => e = .returned (.bool true) /\ Below w.heap.size w w') := ⟨fun W5 W6 a' cap' hb hn5 h6 => by
  have b6 : Below W5.heap.size W5 W6 := by rw [← h6]; exact ah _ _
  have b : Below w.heap.size w W6 := hb.trans (b6.mono hb.size)
  refine Calls.mono (C9 W6 W6.heap.size a a' cap cap' l m (hn.later b) (hn5.later b6) true hlen hsm) ?_
  rintro e w' ⟨rfl, hb7⟩
  exact ⟨rfl, b.trans (hb7.mono b.size)⟩⟩
 clear hn hsm hlen
 generalize l.length = n at *
 generalize m.length = n2 at *
 go_enter Tryz.func3, Tryz.ntmps3
 go_wp2_with (first
  | (go_at_call 7; refine Calls.mono HSh.out ?_; rintro e W1 ⟨rfl, hb1⟩; clear HSh)
  | (go_at_call 8; refine Calls.mono (HC.out _ hb1) ?_; clear HC; rintro e W2 ⟨rfl, hb2⟩; have hb3 := hb1.trans (hb2.mono hb1.size); clear hb1 hb2)
  | (go_at_call 9; refine Calls.mono (HP.out _ hb3) ?_; clear HP; rintro e W3 ⟨rfl, hb4⟩; have hb5 := hb3.trans (hb4.mono hb3.size); clear hb3 hb4)
  | (go_at_call 10; refine Calls.mono (HR.out _ hb5) ?_; clear HR hb5 kc; rintro e W5 ⟨ma, mc, rfl, hb6, hn6⟩; obtain ⟨W6, hW6⟩ : ∃ W6, W5.alloc (.cells #[.int .i64 0, .int .i64 0] 30) = W6 := ⟨_, rfl⟩; have HW6 : Bx _ := ⟨hW6⟩; have HQ : Bx _ := ⟨HN.out W5 W6 ma mc hb6 hn6 hW6⟩; clear HN hb6 hn6 hW6)
  | (go_at_call 11; rw [HW6.out]; refine Calls.mono HQ.out ?_; rintro e W7 ⟨rfl, hb7⟩; have HB : Bx _ := ⟨hb7⟩; clear HQ hb7))
 go_ret
 exact ⟨rfl, HB.out⟩
theorem Dq (w : World) (a : Option Addr) (cap : Nat) (l : List Nd) (hn : cK w w.heap.size a cap l) (hz : l.length <= 2199023255552) (hL : pz w) :
  Calls Tryz.prog 3 #[.slice a l.length cap] w fun e w' => e = .returned (.bool true) /\ Below w.heap.size w w' := by
 have HSh : Bx _ := ⟨C8 w hL.laid hL.size⟩
 have HC := fun W (hb : Below w.heap.size w W) => uw W W.heap.size a cap l (hn.later hb) (hL.below hb).laid (by omega)
 have HP := fun W (hb : Below w.heap.size w W) => Dm W W.heap.size a cap l (hn.later hb) (hL.below hb) (by omega)
 by_cases hok : (bG l).2 = 0
 ·have hw : ∀ j, j < l.length -> I64 (ndN l j).num := fun j hj => by
   obtain ⟨nb, no, _, hh⟩ := hn.at_ (by omega)
   exact (hh.wf j hj).num
  have h0 := (iY hok).2.1
  have hcost := uE hok hw (l.length - 1) (by omega)
  have hlay := nM (dF l (l.length - 1)) []
  have hp : sP l = fI [] (dF l (l.length - 1)) := by unfold sP; rw [if_pos hok]
  have hb := Ay hok hw
  rw [hok] at HC HP
  rw [hp] at HP
  generalize dF l (l.length - 1) = T at *
  obtain ⟨s, hs⟩ : ∃ s : ByteArray, s = ⟨(fI [] T).toArray⟩ := ⟨_, rfl⟩
  have hsl : s.data.toList = fI [] T := by rw [hs]
  have hsz : s.size = (fI [] T).length := by rw [← bl s, hsl]
  rw [← hs] at HP
  by_cases h65 : 65536 < s.size
  ·exact Dn w a l.length cap (bG l).1 s h65 (by rw [hsz]; simp at hlay; omega) HSh ⟨HC⟩ ⟨HP⟩
  ·obtain ⟨q1, q2, q3⟩ := hb (by omega)
   refine Dp w a cap (bG l).1 l _ s h65 hn q2 q3 HSh ⟨HC⟩ ⟨HP⟩ ⟨fun W hb => ?_⟩
   have hb2 : Below W.heap.size W (Lib.bytesWorld W 5 s) := gB W s
   have hb3 := hb.trans (hb2.mono hb.size)
   have := GG (Lib.bytesWorld W 5 s) (hL.below hb3).laid (hL.below hb3).size (some ⟨W.heap.size, 0, none⟩) (grownCap W s.size 0 5) s.data.toList ⟨fun _ => ⟨_, _, rfl, by rw [Lib.bytesWorld_size]; omega, uu W s⟩, by rw [bl]; exact grownCap_ge W s.size 0 5, by rw [bl]; unfold maxLen; omega⟩ 65536
   rw [bl s, hsl] at this
   refine this.mono ?_
   rintro e w' ⟨a', c', rfl, hbl, hnn⟩
   refine ⟨a', c', ?_, hb3.trans (hbl.mono hb3.size), hnn⟩
   rw [q1]
 ·refine FD w a l.length cap (bG l).1 (bG l).2 (by simpa using hok) HSh ⟨HC⟩
end Go.Proofs.YtecodpdfckjalaaGreatDoor
namespace Go.Proofs.YtecodpdfckjalaaGreatDoor
open Go.ChangeShapes Go.WideShapes Go.ChangeAt Go.RowKit
theorem own : ownKnob Tryz.prog.godebug = none := by kernel_rfl
def uM : List (String × DataW Unit) := [("math/bits.deBruijn32tab", Rows.laid_math_bits_deBruijn32tab), ("math/bits.deBruijn64tab", Rows.laid_math_bits_deBruijn64tab), ("internal/strconv.uint64pow10", Rows.laid_internal_strconv_uint64pow10), ("strconv.ErrRange", Rows.laid_strconv_ErrRange), ("strconv.ErrSyntax", Rows.laid_strconv_ErrSyntax), ("squint/scan.words", Rows.laid_squint_scan_words), ("squint/scan.signs", Rows.laid_squint_scan_signs)]
theorem FE (os : Os) (args : Array Value) : laidMetH Tryz.prog uM ((World.doorLaid Tryz.prog 400 os).forCall (fun _ _ => 0) ⟨#[], args, []⟩).memory :=
 laidMetH_of_parts3 (fuel := 8) (laidMet_of_run' 8 (by kernel_rfl) (by kernel_rfl)) (by kernel_rfl) (by kernel_rfl)
theorem KY : Tryz.prog.globalNamed "squint/scan.words" = some 1 := by kernel_rfl
theorem KZ : Tryz.prog.globalNamed "squint/scan.signs" = some 0 := by kernel_rfl
theorem K5 : Tryz.prog.globalNamed "strconv.ErrRange" = some 4 := by kernel_rfl
theorem K9 : (Tryz.prog.globals[1]?).map (·.type) = some 108 := by kernel_rfl
theorem La : (Tryz.prog.globals[0]?).map (·.type) = some 104 := by kernel_rfl
theorem Lb : (Tryz.prog.globals[4]?).map (·.type) = some 99 := by kernel_rfl
theorem FF : Tryz.prog.cellsOf 9 = 1 := by kernel_rfl
theorem l7 {name : String} {T : List (List UInt8)} {rest : List (String × DataW Unit)} {W : World} {g n : Nat} {t : TypeId} (hg : Tryz.prog.globalNamed name = some g) (hty : (Tryz.prog.globals[g]?).map (·.type) = some t)
  (ht : Tryz.prog.underlying t = some (.array n 9)) (h : laidMet Tryz.prog ((name, .agg (T.map fun l => .lit (.string l))) :: rest) W) : TabAt W g T := by
 obtain ⟨ps, ⟨g0, t0, cs0, f0, p0, q0, hg0, ht0, hv0, hd0, _, e0⟩, _, _⟩ := h
 obtain rfl := Option.some.inj (hg.symm.trans hg0)
 obtain rfl := Option.some.inj (hty.symm.trans ht0)
 obtain ⟨xs, m, _, hx, _, hn, hel⟩ := DataW.trod_array ht hd0
 have hx1 : (T.map fun l => (DataW.lit (.string l) : DataW Unit)) = xs.map (·.1) := by
  have := congrArg Prod.fst hx
  simpa using this
 have hlen : T.length = n := by
  have := congrArg List.length hx1
  simp at this
  omega
 intro i hi
 have hc := World.var?_cell hg0 hv0 i
 rw [hc]
 have he := hel i (by omega)
 have hxi : i < xs.length := by omega
 rw [List.getElem?_eq_getElem hxi] at he
 obtain ⟨s, e1, e2, _⟩ := DataW.trod_string Tryz.underlying9 he
 rw [FF, Nat.mul_one] at e1
 have h2 : (T.map fun l => (DataW.lit (.string l) : DataW Unit))[i]? = some (xs[i]).1 := by rw [hx1]; simp [hxi]
 rw [e2] at h2
 have hs : T.getD i [] = s.data.toList := by
  simp [List.getElem?_map, hi] at h2
  simp [List.getD, hi, h2]
 have h3 : cs0.toList[i]? = some (.string s) := by
  have := congrArg (·[0]?) e1
  simpa [List.getElem?_take, List.getElem?_drop] using this
 rw [hs]
 simpa using h3
theorem Jd (W : World) (h : laidMetH Tryz.prog uM W) : Laid W := by
 rw [MakeChecks.laidMetH_plain _ _ _ (by kernel_rfl)] at h
 have h3 : laidMet Tryz.prog (("strconv.ErrRange", Rows.laid_strconv_ErrRange) :: ("strconv.ErrSyntax", Rows.laid_strconv_ErrSyntax) :: ("squint/scan.words", Rows.laid_squint_scan_words) :: ("squint/scan.signs", Rows.laid_squint_scan_signs) :: []) W := h.tail.tail.tail
 have hw := h3.tail.tail
 have hs := hw.tail
 have hr : ∃ te pe, W.cell? ⟨4, 0, none⟩ = some (.iface te pe) := by
  obtain ⟨ps, ⟨g0, t0, cs0, f0, p0, q0, hg0, ht0, hv0, hd0, _, e0⟩, _, _⟩ := h3
  obtain rfl := Option.some.inj (K5.symm.trans hg0)
  obtain rfl := Option.some.inj (Lb.symm.trans ht0)
  have hc := World.var?_cell hg0 hv0 0
  obtain ⟨f1, u, v, hcs, _, _⟩ := iface_of_trod Tryz.underlying99 hd0
  have : cs0[0]? = some (.iface u v) := by
   have := congrArg (·[0]?) hcs
   simpa using this
  exact ⟨u, v, by rw [hc]; exact this⟩
 refine ⟨l7 KY K9 Tryz.underlying108 hw, l7 KZ La Tryz.underlying104 hs, hr, ?_⟩
 obtain ⟨te, pe, hc⟩ := hr
 exact World.block_lt_of_cell? W _ hc
end Go.Proofs.YtecodpdfckjalaaGreatDoor
namespace Go.Proofs.YtecodpdfckjalaaGreatDoor
open Go.ChangeShapes Go.WideShapes Go.ChangeAt Go.RowKit
theorem FH : Tryz.prog.cellsOf 44 = 5 := by kernel_rfl
theorem wy : Tryz.prog.cellsOf 3 = 1 := by kernel_rfl
theorem Lc : Tryz.prog.cellsOf 39 = 1 := by kernel_rfl
section
variable {H : Type} {enc : TypeId × Value -> H} {W : World} {base : Nat} {sp : Nat -> Bool} {held : Bool}
theorem Je {fuel : Nat} {c : Value} {y : DataW H × List MemPlace} (h : DataW.trod enc Tryz.prog W base sp held fuel 39 [c] = some y) :
  ∃ ka kc ks, c = .slice ka (List.length (α := Int) ks) kc /\ aO W W.heap.size (.slice ka ks.length kc) ks /\ ∀ k ∈ ks, I64 k := by
 rcases open_ints Tryz.underlying39 Tryz.underlying3 wy h with ⟨hcs, _⟩ | ⟨x, l, cp, zs, hcs, _, hl, hm, hz, _, hcell, hwz⟩
 ·simp at hcs
  subst hcs
  exact ⟨none, 0, [], rfl, ⟨_, _, rfl, by simp, by simp [maxLen], fun h => by simp at h⟩, fun k hk => by cases hk⟩
 ·simp at hcs
  subst hcs
  have hz' : l <= zs.length := by rw [hz]; split <;> omega
  have hlen : (zs.take l).length = l := by simp; omega
  refine ⟨some x, cp, zs.take l, by rw [hlen], ⟨_, _, by rw [hlen], by omega, by omega, fun h0 => ?_⟩, fun k hk => ?_⟩
  ·rw [hlen] at h0
   obtain ⟨b, off, spot⟩ := x
   have hc0 := hcell 0 (by omega)
   have hspot : spot = none := by simpa [Addr.add] using World.cell?_spot hc0
   subst hspot
   refine ⟨b, off, rfl, ?_, fun i hi => ?_⟩
   ·have := World.block_lt_of_cell? W _ hc0
    simpa [Addr.add] using this
   ·rw [hlen] at hi
    have hc := hcell i (by omega)
    have e : (⟨b, off, none⟩ : Addr).add i = ⟨b, off + i, none⟩ := by
     unfold Addr.add; split <;> simp_all
    rw [e] at hc
    rw [hc]
    have hi' : i < zs.length := by omega
    simp [List.getD, hi']
  ·exact bounds_i64 (hwz k (List.mem_of_mem_take hk))
theorem FI {fuel : Nat} {cs : List Value} {y : DataW H × List MemPlace} (h : DataW.trod enc Tryz.prog W base sp held fuel 44 cs = some y) :
  ∃ n ka kc, cs = [.int .i64 n.kind, .int .i64 n.pos, .slice ka n.kids.length kc, .string n.name, .int .i64 n.num] /\ aO W W.heap.size (.slice ka n.kids.length kc) n.kids /\ tu n := by
 obtain ⟨xs, m, _, _, hl, hlen, hx⟩ := DataW.trod_struct Tryz.underlying44 h
 rw [FH] at hl
 match cs, hl, xs, hlen with
 | [c0, c1, c2, c3, c4], _, [y0, y1, y2, y3, y4], _ =>
  have t0 : DataW.trod enc Tryz.prog W base sp held m 3 [c0] = some y0 := by simpa [wy] using hx 0 _ rfl
  have t1 : DataW.trod enc Tryz.prog W base sp held m 3 [c1] = some y1 := by simpa [wy] using hx 1 _ rfl
  have t2 : DataW.trod enc Tryz.prog W base sp held m 39 [c2] = some y2 := by simpa [Lc] using hx 2 _ rfl
  have t3 : DataW.trod enc Tryz.prog W base sp held m 9 [c3] = some y3 := by simpa [FF] using hx 3 _ rfl
  have t4 : DataW.trod enc Tryz.prog W base sp held m 3 [c4] = some y4 := by simpa [wy] using hx 4 _ rfl
  obtain ⟨k, e0, _, w0⟩ := DataW.trod_int Tryz.underlying3 t0
  obtain ⟨pp, e1, _, w1⟩ := DataW.trod_int Tryz.underlying3 t1
  obtain ⟨ka, kc, ks, e2, hk, wk⟩ := Je t2
  obtain ⟨nm, e3, _, w3⟩ := DataW.trod_string Tryz.underlying9 t3
  obtain ⟨num, e4, _, w4⟩ := DataW.trod_int Tryz.underlying3 t4
  simp only [List.cons.injEq, and_true] at e0 e1 e3 e4
  subst e0 e1 e2 e3 e4
  exact ⟨⟨k, pp, ks, nm, num⟩, ka, kc, rfl, hk, ⟨bounds_i64 w0, bounds_i64 w1, bounds_i64 w4, w3, wk⟩⟩
theorem AB (b off i : Nat) : (⟨b, off, none⟩ : Addr).add i = ⟨b, off + i, none⟩ := by
 unfold Addr.add; split <;> simp_all
theorem FJ {a : Option Addr} {len cap : Nat} {d : DataW H} {p : List MemPlace} (h : ∃ fuel, DataW.trod enc Tryz.prog W base sp held fuel 22 (Value.slice a len cap).cells.toList = some (d, p)) :
  ∃ l : List Nd, l.length = len /\ cK W W.heap.size a cap l := by
 obtain ⟨fuel, hf⟩ := h
 have hf : DataW.trod enc Tryz.prog W base sp held fuel 22 [.slice a len cap] = some (d, p) := by simpa [Value.cells] using hf
 rcases Go.Deep.open_slice Tryz.underlying22 hf with ⟨hcs, _⟩ | ⟨x, l0, c0, m, n, D, Pl, hcs, hb, hl, hm, hmm, _, hx⟩
 ·simp at hcs
  obtain ⟨rfl, rfl, rfl⟩ := hcs
  exact ⟨[], rfl, ⟨fun h => by simp at h, Nat.le_refl _⟩⟩
 ·simp at hcs
  obtain ⟨rfl, rfl, rfl⟩ := hcs
  have hlm : len <= m := by rw [hmm]; split <;> omega
  rw [FH] at hx
  have hnd : ∀ i, i < len -> ∃ nd : Nd, ∃ ka kc, (∀ j, j < 5 -> W.cell? ((x.add (i * 5)).add j) = [Value.int .i64 nd.kind, .int .i64 nd.pos, .slice ka nd.kids.length kc, .string nd.name, .int .i64 nd.num][j]?) /\ aO W W.heap.size (.slice ka nd.kids.length kc) nd.kids /\ tu nd := fun i hi => by
   obtain ⟨cs', h1, h2⟩ := hx i (by omega)
   obtain ⟨nd, ka, kc, rfl, h3, h4⟩ := FI h2
   obtain ⟨_, _, h5⟩ := World.cells?_some h1
   exact ⟨nd, ka, kc, h5, h3, h4⟩
  let f : Nat -> Nd := fun i => if h : i < len then (hnd i h).choose else nd0
  have hfl : ((List.range len).map f).length = len := by simp
  have hfi : ∀ i, i < len -> ndN ((List.range len).map f) i = f i := fun i hi => by simp [ndN, List.getD, hi]
  refine ⟨(List.range len).map f, hfl, ⟨fun h0 => ?_, Nat.le_refl _⟩⟩
  rw [hfl] at h0
  obtain ⟨b, off, spot⟩ := x
  obtain ⟨ka0, kc0, hc0, _⟩ := (hnd 0 h0).choose_spec
  have hcell0 := hc0 0 (by omega)
  have hspot : spot = none := by
   have := World.cell?_spot hcell0
   simpa [Addr.add] using this
  subst hspot
  have hblk : b < W.heap.size := by
   have := World.block_lt_of_cell? W _ hcell0
   simpa [Addr.add] using this
  refine ⟨b, off, rfl, ⟨fun j hj => ?_, fun j hj => ?_, hblk, Nat.le_refl _, by rw [hfl]; omega, by rw [hfl]; omega⟩⟩
  ·rw [hfl] at hj
   rw [hfi j hj]
   have hfj : f j = (hnd j hj).choose := by simp [f, hj]
   rw [hfj]
   have hsp := (hnd j hj).choose_spec
   generalize (hnd j hj).choose = nd at hsp ⊢
   obtain ⟨ka, kc, hc, hk, hw⟩ := hsp
   simp only [AB] at hc
   refine ⟨ka, kc, ⟨hc 0 (by omega), hc 1 (by omega), hc 2 (by omega), hc 3 (by omega), hc 4 (by omega), hk⟩⟩
  ·rw [hfl] at hj
   rw [hfi j hj]
   have hfj : f j = (hnd j hj).choose := by simp [f, hj]
   rw [hfj]
   obtain ⟨ka, kc, hc, hk, hw⟩ := (hnd j hj).choose_spec
   exact hw
end
end Go.Proofs.YtecodpdfckjalaaGreatDoor
namespace Go.Proofs.YtecodpdfckjalaaGreatDoor
open Go.ChangeShapes Go.WideShapes Go.ChangeAt Go.RowKit
theorem g64 : Tryz.prog.globalNamed "math/bits.deBruijn64tab" = some 6 := by kernel_rfl
theorem M3 : Tryz.prog.globalNamed "internal/strconv.uint64pow10" = some 2 := by kernel_rfl
theorem FK (W : World) (h : laidMetH Tryz.prog uM W) : pz W := by
 refine ⟨Jd W h, ?_, ?_⟩
 ·rw [MakeChecks.laidMetH_plain _ _ _ (by kernel_rfl)] at h
  have h2 : laidMet Tryz.prog (("internal/strconv.uint64pow10", Rows.laid_internal_strconv_uint64pow10) :: ("strconv.ErrRange", Rows.laid_strconv_ErrRange) :: ("strconv.ErrSyntax", Rows.laid_strconv_ErrSyntax) :: ("squint/scan.words", Rows.laid_squint_scan_words) :: ("squint/scan.signs", Rows.laid_squint_scan_signs) :: []) W := h.tail.tail
  exact Lib.tabIs_of_head (t := 130) (e := 115) (n := 20) M3 (by kernel_rfl) (by kernel_rfl) (by kernel_rfl) (by kernel_rfl) (by kernel_rfl) h2
 ·rw [MakeChecks.laidMetH_plain _ _ _ (by kernel_rfl)] at h
  obtain ⟨ps, ⟨g0, t0, cs0, f0, p0, q0, hg0, ht0, hv0, hd0, _, e0⟩, _, _⟩ := h.tail
  obtain rfl := Option.some.inj (g64.symm.trans hg0)
  unfold World.var? at hv0
  simp only [hg0, Option.bind_some] at hv0
  rcases Nat.lt_or_ge 6 W.heap.size with h' | h'
  ·omega
  ·rw [Array.getElem?_eq_none h'] at hv0
   simp at hv0
theorem Jf : Tryz.prog.bytesOf 44 = 64 := by kernel_rfl
theorem yc {H : Type} {enc : TypeId × Value -> H} {W : World} {base : Nat} {a : Option Addr} {len cap : Nat} {d : DataW H} {p : List MemPlace} {sp : Nat -> Bool} {held : Bool} {ts : List TypeId} {ds : List (DataW H)} {j : Nat}
  (h : ∃ fuel, DataW.trod enc Tryz.prog W base sp held fuel 22 (Value.slice a len cap).cells.toList = some (d, p)) (hz : (DataW.weightsEach Tryz.prog ts ds).all (· <= reachBytes) = true) (ht : ts[j]? = some 22) (hd : ds[j]? = some d) : len <= 2199023255552 := by
 obtain ⟨fuel, hf⟩ := h
 have hf : DataW.trod enc Tryz.prog W base sp held fuel 22 [.slice a len cap] = some (d, p) := by simpa [Value.cells] using hf
 rcases Go.Deep.open_slice Tryz.underlying22 hf with ⟨hcs, _⟩ | ⟨x, l0, c0, m, n, D, Pl, hcs, hb, hl, hm, hmm, hx, _⟩
 ·simp at hcs
  omega
 ·simp at hcs
  obtain ⟨rfl, rfl, rfl⟩ := hcs
  injection hx with hx1 hx2
  subst hx1
  have h1 := sized_slice hz ht hd Tryz.underlying22
  rw [Jf] at h1
  simp at h1
  have : reachBytes = 140737488351232 := rfl
  omega
theorem FL : laidOutB Tryz.prog = true := by kernel_rfl
theorem yf (os : Os) (started : os.Started) (H : Type) (enc : TypeId × Value -> H) :
  ReturnsInHanded {} Tryz.checked os 3 .any (fun w args => (Rows.parseBackSpec.pre enc Tryz.prog Tryz.f3 [] false w args /\ laidMetH Tryz.prog uM w) /\ sizedMet enc Tryz.prog Tryz.f3 (OpenSpec.ofChange Rows.parseBackSpec) false w args)
   (Rows.parseBackSpec.post enc Tryz.prog Tryz.f3 false true false false) := by
 refine returnsInHanded_of_change_and (C := Tryz.checked) (X := fun w _ => laidMetH Tryz.prog uM w) (fun _ _ _ hh h => h.of_heap hh) own started (by kernel_rfl) Tryz.func3
  (ChangeSpec.witness_shaped (enc := enc) (C := Tryz.checked) (os := os) (X := fun w _ => laidMetH Tryz.prog uM w) false (World.doorLaid Tryz.prog 400 os) #[.slice none 0 0] 8 rfl (World.shaped_of_RefB (by kernel_rfl) (by kernel_rfl)) (by kernel_rfl) (by kernel_rfl) (by kernel_rfl) (FE os _)) ?_
 intro W base args ds gs before hval0 hW _ hwt hL hsz
 have hval : ∀ (j : Nat) t v, Tryz.f3.params[j]? = some t -> args[j]? = some v -> Value.okWide Tryz.prog W .any base t v := hval0
 have hwt' : (DataW.weightsEach Tryz.prog (Tryz.f3.params.toList ++ Rows.parseBackSpec.plain.varTypes Tryz.prog) (ds ++ gs)).all (· <= reachBytes) = true := hwt
 have hW' := hW
 obtain ⟨p, q, hA0, hV, rfl, hfz, hnd⟩ := hW
 have hA : DataW.TrodAll enc Tryz.prog W 0 (fun _ => true) true Tryz.f3.params.toList args.toList ds p := hA0
 rw [Tryz.params3] at hA hval hwt'
 obtain ⟨v0, vs0, d0, ds0, p0, q0, hargs, rfl, rfl, h0, r0⟩ := trodAll_cons hA
 obtain ⟨rfl, rfl, rfl⟩ := trodAll_nil r0
 obtain rfl : args = #[v0] := by cases args; simp_all
 obtain ⟨rfl, rfl⟩ := trodVars_none hV
 have k0 := h0
 have lt0 : ∀ x ∈ p0, x.block < W.heap.size := by obtain ⟨m, hm⟩ := k0; exact DataW.trod_lt m _ _ _ hm
 obtain ⟨a0, len0, cap0, rfl⟩ := okWide_slice Tryz.underlying22 (hval 0 22 v0 rfl rfl)
 obtain ⟨l0, hlen0, hn0⟩ := FJ (show ∃ fuel, DataW.trod enc Tryz.prog W 0 (fun _ => true) true fuel 22 (Value.slice a0 len0 cap0).cells.toList = some (d0, p0) from k0)
 have z0 := yc (show ∃ fuel, DataW.trod enc Tryz.prog W 0 (fun _ => true) true fuel 22 (Value.slice a0 len0 cap0).cells.toList = some (d0, p0) from k0) hwt' (j := 0) rfl rfl
 subst hlen0
 clear hA0 hval0 hwt hwt'
 refine (Dq W a0 cap0 l0 hn0 z0 (FK W hL)).mono fun e W' ⟨he, bel⟩ => ?_
 subst he
 exact ⟨_, rfl, _, _, _, [], _, [], hW', trodAll_mk1 (shut_bool Tryz.underlying4 _), (trodAll_cons_mk (Below.trod FL (by kernel_rfl) (of_decide_eq_true (by kernel_rfl)) k0 bel lt0) trodAll_mk0), rfl, bel.frame _, fun h => by cases h⟩
theorem Dr : Rows.ParseBackSaid :=
 OpenClaim.holds_of_wide 3 Tryz.f3 rfl rfl rfl rfl rfl rfl rfl ⟨rfl, rfl, rfl, rfl, rfl⟩ rfl rfl rfl rfl rfl (by kernel_rfl) Tryz.func3 (by kernel_rfl)
  (of_decide_eq_true (by kernel_rfl)) (by unfold Func.isWrapper; first | (rw [if_pos (by decide +kernel)]; kernel_rfl) | (rw [if_neg (by decide +kernel)]; exact ⟨rfl, rfl⟩))
  (fun os started H enc _ => yf os started H enc)
theorem AC (f : FuncId) (fn : Func) (hf : Tryz.pinned.checked.prog.funcNamed "squint/squintlaw03.ParseBack" = some f) (hfn : Tryz.pinned.checked.prog.funcs[f]? = some fn) :
  true = Tryz.pinned.checked.prog.looks [] /\ ∀ (j : Nat) t, fn.params[j]? = some t -> Tryz.pinned.checked.prog.wantsStandIn t = false := by
 obtain rfl : f = 3 := Option.some.inj ((show Tryz.prog.funcNamed "squint/squintlaw03.ParseBack" = some 3 by kernel_rfl).symm.trans hf) |>.symm
 obtain rfl : fn = Tryz.f3 := (Option.some.inj (Tryz.func3.symm.trans hfn)).symm
 refine ⟨by kernel_rfl, fun j t ht => ?_⟩
 rw [Tryz.params3] at ht
 have hm : t ∈ [22] := by simpa using Array.mem_of_getElem? ht
 have hall : ([22].all fun u => !Tryz.prog.wantsStandIn u) = true := by kernel_rfl
 exact (show Tryz.prog.wantsStandIn t = false by simpa using List.all_eq_true.1 hall t hm)
theorem parseBack_holds : Rows.ParseBackCardSaid :=
 Claim7.holds_tied_plain_at .later [] _ _ _ _ Dr (fun _ h => by cases h) (by kernel_rfl) (fun _ h => by cases h) parseBack_row_tie rfl ⟨rfl, rfl⟩ (by kernel_rfl) rfl AC (by kernel_rfl)
#print axioms parseBack_holds
end Go.Proofs.YtecodpdfckjalaaGreatDoor
