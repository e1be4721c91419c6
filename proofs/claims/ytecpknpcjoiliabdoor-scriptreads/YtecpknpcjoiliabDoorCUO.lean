import Derived.Test.YtecpknpcjoiliabDoorCUN
namespace Go.Proofs.YtecpknpcjoiliabDoor
open Go.RowKit
set_option linter.unusedVariables false
set_option linter.unusedSimpArgs false

set_option maxRecDepth 100000 in
set_option maxHeartbeats 4000000 in
theorem pick_field (w : World) (B rb sb k : Nat) (nx : Value) (line rest : List UInt8) (m : Lm) (b : Bool) (pv : Value) (ps : List Pk) (h : RS w rb k nx (line ++ 10 :: rest)) (h10 : (10 : UInt8) ∉ line) (hk : k ≤ 1152921504606846976) (hlen : (line ++ 10 :: rest).length ≤ 281474976710656)
    (hL : LB B w) (hB : B ≤ w.heap.size) (hrb : B ≤ rb) (hne : rb ≠ sb) (hs : SB w sb m b pv) (hp : PkO w B pv ps) (hkd : kindI (pieces 32 line).1 ≠ 0) (hps : ps.length < 4096) (hno : numsP (shapeI (kindI (pieces 32 line).1)).2 (pieces 32 line).2 = none) :
    Calls Tryd.prog 20 #[.pointer (some ⟨rb, 0, none⟩), .pointer (some ⟨sb, 0, none⟩)] w fun e w' => ∃ v, e = .returned v ∧ Bx (PkP w B rb sb (k + 1) rest m b (.no 171) v w') := by
  have HBG : Bx _ := ⟨begin_yes w rb k nx line rest h h10 hk hlen⟩
  have hle := kindI_le (pieces 32 line).1
  have hrw := heap_lt h
  obtain ⟨pa, pc, hpv⟩ := hp.form
  have HI : Bx (∀ X, BgP w rb (k + 1) rest (pieces 32 line).2 X → PkI w B rb sb (k + 1) rest (pieces 32 line).2 m b pv ps X) := ⟨fun X hb => PkI.of hb h hs hp hne⟩
  obtain ⟨kd, hkd2⟩ : ∃ kd, kd = kindI (pieces 32 line).1 := ⟨_, rfl⟩
  rw [← hkd2] at hno
  have har := ar_le kd
  have HKD : Bx (∀ w1, BgP w rb (k + 1) rest (pieces 32 line).2 w1 → Calls Tryd.prog 32 #[strV (pieces 32 line).1] w1 fun e w' => e = .returned (.int .i64 (kd : Nat)) ∧ BgP w rb (k + 1) rest (pieces 32 line).2 w') := ⟨fun w1 hb => (kindOf_any (pieces 32 line).1 w1 (hL.on (hb.bel hB hrb)).here.shp).mono fun e w' h => ⟨by rw [h.1, hkd2], hb.more h.2⟩⟩
  have HSH : Bx (∀ X, BgP w rb (k + 1) rest (pieces 32 line).2 X → Calls Tryd.prog 33 #[.int .i64 (kd : Nat)] X fun e w' => e = .returned (.tuple #[.agg #[strV (shapeI kd).1, .int .i64 ((shapeI kd).2 : Nat)], .bool true]) ∧ Below X.heap.size X w') := ⟨fun X hb => shapeOf_yes kd X (hL.on (hb.bel hB hrb)).here.shp (by omega)⟩
  obtain ⟨Q0, hQ0⟩ : ∃ Q, Q = PkP w B rb sb (k + 1) rest m b (.no 171) := ⟨_, rfl⟩
  have HQ : Bx (∀ w', Below B w w' ∧ SB w' sb m b pv → Q0 (wrV (k + 1) 171) w') := ⟨fun w' h => by rw [hQ0]; exact ⟨h.1, rfl, pv, h.2, ⟨_, _, _, hpv⟩⟩⟩
  have HNU : Bx (∀ w2 w4 : World, ∀ sO, BgP w rb (k + 1) rest (pieces 32 line).2 w2 → Below (w2.alloc (.cells #[.int .i64 (kd : Nat), .int .i64 0, .int .i64 0] 39)).heap.size (w2.alloc (.cells #[.int .i64 (kd : Nat), .int .i64 0, .int .i64 0] 39)) w4 → Calls Tryd.prog 31 #[.pointer (some ⟨rb, 0, none⟩), .slice (some ⟨w4.heap.size + 1, 0, none⟩) (shapeI kd).2 2] ((w4.alloc sO).alloc (.cells #[.pointer (some ⟨w2.heap.size, 1, none⟩), .pointer (some ⟨w2.heap.size, 2, none⟩)] 91)) fun e w' => e = .returned (wrV (k + 1) 171) ∧ Bx (Below B w w' ∧ SB w' sb m b pv)) := ⟨fun w2 w4 sO hb h4 => by
    have := pick_nums (sO := sO) hL hB hrb hrw (HI.out w2 hb) har h4
    rw [hno] at this
    exact this⟩
  have HMO : Bx (∀ (X : World) o, BgP w rb (k + 1) rest (pieces 32 line).2 X → BgP w rb (k + 1) rest (pieces 32 line).2 (X.alloc o) ∧ (X.alloc o).cell? ⟨sb, 8, none⟩ = some (.slice pa ps.length pc)) := ⟨fun X o hb => ⟨hb.more (below1 X o), by have := (HI.out _ (hb.more (below1 X o))).sb.cell.1; rw [hpv] at this; exact this⟩⟩
  have HMB : Bx (∀ X Y : World, BgP w rb (k + 1) rest (pieces 32 line).2 X → Below X.heap.size X Y → BgP w rb (k + 1) rest (pieces 32 line).2 Y) := ⟨fun X Y hb h => hb.more h⟩
  rw [← hQ0]
  clear hQ0 h h10 hlen hL hkd hkd2 hs hp hpv HI hle hno
  generalize (pieces 32 line).2 = P at *
  generalize (pieces 32 line).1 = wd at *
  generalize (shapeI kd).1 = sw at *
  generalize (shapeI kd).2 = ar at *
  have n1 : (ps.length : Int) < 4096 := by omega
  have n2 : ((ps.length : Int) == 4096) = false := by simp; omega
  generalize ps.length = np at *
  have a1 : (0 : Int) ≤ (ar : Int) := by omega
  have a2 : (ar : Int) ≤ 2 := by omega
  go_enter Tryd.func20, Tryd.ntmps20
  go_wp2_with (first
    | (go_at_call 29; refine HBG.out.mono ?_; rintro e w1 ⟨rfl, H1⟩)
    | (go_at_call 32; refine (HKD.out w1 H1.out).mono ?_; rintro e w2 ⟨rfl, h2⟩; have H2 : Bx _ := ⟨h2⟩; clear h2)
    | (go_at_call 33; refine (HSH.out _ (HMO.out _ _ H2.out).1).mono ?_; rintro e w3 ⟨rfl, h3⟩; have H3 : Bx _ := ⟨h3⟩; clear h3; have x8 := (HMO.out _ (.cells #[strV sw, .int .i64 (ar : Nat)] 94) (HMB.out _ _ (HMO.out _ _ H2.out).1 H3.out)).2)
    | (go_at_call 31; refine (HNU.out w2 w3 _ H2.out H3.out).mono ?_; rintro e w4 ⟨rfl, H4⟩))
  go_ret
  exact ⟨_, rfl, ⟨HQ.out _ H4.out⟩⟩
end Go.Proofs.YtecpknpcjoiliabDoor
