import Derived.Test.YtecpknpcjoiliabDoorCUM
namespace Go.Proofs.YtecpknpcjoiliabDoor
open Go.RowKit
set_option linter.unusedVariables false
set_option linter.unusedSimpArgs false

theorem PkO.form {w : World} {B : Nat} {v : Value} {ps : List Pk} (h : PkO w B v ps) : ∃ pa pc, v = .slice pa ps.length pc := by
  rcases h.own.2 with ⟨rfl, hn⟩ | ⟨g, cap, cur, rfl, _⟩
  · exact ⟨none, 0, by rw [hn]⟩
  · exact ⟨_, _, rfl⟩
def zeroPk : Value := .agg #[.int .i64 0, .int .i64 0, .int .i64 0]
theorem infoPk : (Tryd.prog.info? 39).map (fun i => (i.zero, i.size, i.bytes)) = some (some zeroPk, 3, 24) := by kernel_rfl
theorem pk_news (X : World) (H : Nat) (hH : X.heap.size = H) (a b c : Value) : ∀ (j : Nat) (u : Value), [a, b, c][j]? = some u → (X.alloc (.cells #[a, b, c] 39)).drew.cell? ((⟨H, 0, none⟩ : Addr).add j) = some u := by
  subst hH
  have h := heap_alloc_new X (.cells #[a, b, c] 39)
  exact World.news_of_block (w := (X.alloc (.cells #[a, b, c] 39)).drew) (cs := #[a, b, c]) h
theorem pk_one (x y z : Int) : ∀ u ∈ [Value.int .i64 x, Value.int .i64 y, Value.int .i64 z], u.oneCell' = true := by
  intro u hu
  simp only [List.mem_cons, List.not_mem_nil, or_false] at hu
  rcases hu with rfl | rfl | rfl <;> rfl
theorem putA_pk (kd : Int) {l : List Int} (h : l.length ≤ 2) : putA #[.int .i64 kd, .int .i64 0, .int .i64 0] 1 l = #[.int .i64 kd, .int .i64 (l.getD 0 0), .int .i64 (l.getD 1 0)] := by
  match l, h with
  | [], _ => rfl
  | [x], _ => rfl
  | [x, y], _ => rfl
theorem SB.cell {w : World} {sb : Nat} {m : Lm} {b : Bool} {pv : Value} (h : SB w sb m b pv) : w.cell? ⟨sb, 8, none⟩ = some pv ∧ w.frozen? ⟨sb, 8, none⟩ = false := ⟨cell_blk h rfl, frz_blk h⟩
/-- what stands behind a pick's word -/
structure PkI (w : World) (B rb sb k : Nat) (rest : List UInt8) (P : List (List UInt8)) (m : Lm) (b : Bool) (pv : Value) (ps : List Pk) (X : World) : Prop where
  bg : BgP w rb k rest P X
  sb : SB X sb m b pv
  pk : PkO X B pv ps
theorem PkI.more {w X Y : World} {B rb sb k : Nat} {rest : List UInt8} {P : List (List UInt8)} {m : Lm} {b : Bool} {pv : Value} {ps : List Pk} (h : PkI w B rb sb k rest P m b pv ps X) (hb : Below X.heap.size X Y) : PkI w B rb sb k rest P m b pv ps Y :=
  ⟨h.bg.more hb, below_heap hb h.sb, owns_kx h.pk (Kx.new (P := fun _ => False) hb) fun _ _ h => h⟩
theorem PkI.of {w X : World} {B rb sb k k0 : Nat} {rest r0 : List UInt8} {P : List (List UInt8)} {m : Lm} {b : Bool} {pv nx : Value} {ps : List Pk} (h : BgP w rb k rest P X) (hr : RS w rb k0 nx r0) (hs : SB w sb m b pv) (hp : PkO w B pv ps) (hne : rb ≠ sb) : PkI w B rb sb k rest P m b pv ps X :=
  ⟨h, h.kx.at_ hs (fun e => hne e.symm), hp.kx h.kx hr⟩
set_option maxRecDepth 100000 in
set_option maxHeartbeats 4000000 in
theorem pick_many (w : World) (B rb sb k : Nat) (nx : Value) (line rest : List UInt8) (m : Lm) (b : Bool) (pv : Value) (ps : List Pk) (h : RS w rb k nx (line ++ 10 :: rest)) (h10 : (10 : UInt8) ∉ line) (hk : k ≤ 1152921504606846976) (hlen : (line ++ 10 :: rest).length ≤ 281474976710656)
    (hL : LB B w) (hB : B ≤ w.heap.size) (hrb : B ≤ rb) (hne : rb ≠ sb) (hs : SB w sb m b pv) (hp : PkO w B pv ps) (hkd : kindI (pieces 32 line).1 ≠ 0) (hps : ps.length = 4096) :
    Calls Tryd.prog 20 #[.pointer (some ⟨rb, 0, none⟩), .pointer (some ⟨sb, 0, none⟩)] w fun e w' => ∃ v, e = .returned v ∧ Bx (PkP w B rb sb (k + 1) rest m b (.no 172) v w') := by
  have HBG : Bx _ := ⟨begin_yes w rb k nx line rest h h10 hk hlen⟩
  have hle := kindI_le (pieces 32 line).1
  obtain ⟨pa, pc, hpv⟩ := hp.form
  rw [hps] at hpv
  have HI : Bx (∀ X, BgP w rb (k + 1) rest (pieces 32 line).2 X → PkI w B rb sb (k + 1) rest (pieces 32 line).2 m b pv ps X) := ⟨fun X hb => PkI.of hb h hs hp hne⟩
  obtain ⟨kd, hkd2⟩ : ∃ kd, kd = kindI (pieces 32 line).1 := ⟨_, rfl⟩
  have HKD : Bx (∀ w1, BgP w rb (k + 1) rest (pieces 32 line).2 w1 → Calls Tryd.prog 32 #[strV (pieces 32 line).1] w1 fun e w' => e = .returned (.int .i64 (kd : Nat)) ∧ BgP w rb (k + 1) rest (pieces 32 line).2 w') := ⟨fun w1 hb => (kindOf_any (pieces 32 line).1 w1 (hL.on (hb.bel hB hrb)).here.shp).mono fun e w' h => ⟨by rw [h.1, hkd2], hb.more h.2⟩⟩
  have HSH : Bx (∀ X, BgP w rb (k + 1) rest (pieces 32 line).2 X → Calls Tryd.prog 33 #[.int .i64 (kd : Nat)] X fun e w' => e = .returned (.tuple #[.agg #[strV (shapeI kd).1, .int .i64 ((shapeI kd).2 : Nat)], .bool true]) ∧ BgP w rb (k + 1) rest (pieces 32 line).2 w') := ⟨fun X hb => (shapeOf_yes kd X (hL.on (hb.bel hB hrb)).here.shp (by omega)).mono fun e w' h => ⟨h.1, hb.more h.2⟩⟩
  obtain ⟨Q0, hQ0⟩ : ∃ Q, Q = PkP w B rb sb (k + 1) rest m b (.no 172) := ⟨_, rfl⟩
  have HW : Bx (∀ X, BgP w rb (k + 1) rest (pieces 32 line).2 X → Calls Tryd.prog 30 #[.pointer (some ⟨rb, 0, none⟩), .int .i64 172] X fun e w' => ∃ v, e = .returned v ∧ Bx (Q0 v w')) := ⟨fun X hb => by
    obtain ⟨lb, mb, hr, hn, h1, h2⟩ := hb.ex
    refine (wrong_any X rb (k + 1) _ _ 172 hr).mono ?_
    rintro e w' ⟨rfl, rfl⟩
    rw [hQ0]
    exact ⟨_, rfl, ⟨hb.bel hB hrb, rfl, pv, hb.kx.at_ hs (fun e => hne e.symm), ⟨_, _, _, hpv⟩⟩⟩⟩
  have HMO : Bx (∀ (X : World) o, BgP w rb (k + 1) rest (pieces 32 line).2 X → BgP w rb (k + 1) rest (pieces 32 line).2 (X.alloc o) ∧ (X.alloc o).cell? ⟨sb, 8, none⟩ = some (.slice pa 4096 pc)) := ⟨fun X o hb => ⟨hb.more (below1 X o), by have := (HI.out _ (hb.more (below1 X o))).sb.cell.1; rw [hpv] at this; exact this⟩⟩
  rw [← hQ0]
  clear hQ0 h h10 hlen hL hkd hkd2 hs hp hps hpv HI hle
  generalize (pieces 32 line).2 = P at *
  generalize (pieces 32 line).1 = wd at *
  generalize (shapeI kd).1 = sw at *
  generalize (shapeI kd).2 = ar at *
  go_enter Tryd.func20, Tryd.ntmps20
  go_wp2_with (first
    | (go_at_call 29; refine HBG.out.mono ?_; rintro e w1 ⟨rfl, H1⟩)
    | (go_at_call 32; refine (HKD.out w1 H1.out).mono ?_; rintro e w2 ⟨rfl, h2⟩; have H2 : Bx _ := ⟨h2⟩; clear h2)
    | (go_at_call 33; refine (HSH.out _ (HMO.out _ _ H2.out).1).mono ?_; rintro e w3 ⟨rfl, h3⟩; have H3 : Bx _ := ⟨h3⟩; clear h3; have x8 := (HMO.out _ (.cells #[strV sw, .int .i64 (ar : Nat)] 94) H3.out).2)
    | (go_at_call 30; refine (HW.out _ (HMO.out _ _ H3.out).1).mono ?_; rintro e w4 ⟨v4, rfl, H4⟩))
  go_ret
  exact ⟨_, rfl, H4⟩
/-- what numbers answers of a pick -/
structure PnP (w : World) (B rb sb k pb : Nat) (rest : List UInt8) (m : Lm) (b : Bool) (pv : Value) (ps : List Pk) (p : Pk) (w' : World) : Prop where
  bel : Below B w w'
  rs : ∃ nx, RS w' rb k nx rest
  sb : SB w' sb m b pv
  pk : PkO w' B pv ps
  p : w'.heap[pb]? = some (.cells #[.int .i64 p.kind, .int .i64 p.n, .int .i64 p.v] 39 (0, 0))
set_option maxRecDepth 100000 in
/-- numbers of a pick, where it lies -/
theorem pick_nums {w w2 w4 : World} {B rb sb k : Nat} {rest : List UInt8} {P : List (List UInt8)} {m : Lm} {b : Bool} {pv : Value} {ps : List Pk} {kd : Int} {ar : Nat} {sO : Obj} (hL : LB B w) (hB : B ≤ w.heap.size) (hrb : B ≤ rb) (hrw : rb < w.heap.size) (h : PkI w B rb sb k rest P m b pv ps w2) (har : ar ≤ 2)
    (h4 : Below (w2.alloc (.cells #[.int .i64 kd, .int .i64 0, .int .i64 0] 39)).heap.size (w2.alloc (.cells #[.int .i64 kd, .int .i64 0, .int .i64 0] 39)) w4) :
    Calls Tryd.prog 31 #[.pointer (some ⟨rb, 0, none⟩), .slice (some ⟨w4.heap.size + 1, 0, none⟩) ar 2] ((w4.alloc sO).alloc (.cells #[.pointer (some ⟨w2.heap.size, 1, none⟩), .pointer (some ⟨w2.heap.size, 2, none⟩)] 91)) fun e w' => match numsP ar P with
      | none => e = .returned (wrV k 171) ∧ Bx (Below B w w' ∧ SB w' sb m b pv)
      | some l => e = .returned .nilIface ∧ Bx (PnP w B rb sb k w2.heap.size rest m b pv ps ⟨kd, l.getD 0 0, l.getD 1 0⟩ w') := by
  obtain ⟨pO, hpO⟩ : ∃ o : Obj, o = .cells #[.int .i64 kd, .int .i64 0, .int .i64 0] 39 := ⟨_, rfl⟩
  obtain ⟨iO, hiO⟩ : ∃ o : Obj, o = .cells #[.pointer (some ⟨w2.heap.size, 1, none⟩), .pointer (some ⟨w2.heap.size, 2, none⟩)] 91 := ⟨_, rfl⟩
  rw [← hpO] at h4
  rw [← hiO]
  obtain ⟨lb, mb, hr, hn, h1, h2⟩ := h.bg.ex
  have hl1 := heap_lt hn.l
  have hm1 := heap_lt hn.m
  have s4 := h4.size
  have s4' : w2.heap.size + 1 ≤ w4.heap.size := by simpa using s4
  have b2 : Below w2.heap.size w2 ((w4.alloc sO).alloc iO) := ((below1 w2 pO).trans (h4.mono (by simp))).trans (((below1 w4 sO).alloc (by simp) iO).mono (by omega))
  have sX : ((w4.alloc sO).alloc iO).heap.size = w4.heap.size + 2 := by simp
  have hw2 := h.bg.kx.size
  have hi := h.more b2
  obtain ⟨X, hX⟩ : ∃ X, X = (w4.alloc sO).alloc iO := ⟨_, rfl⟩
  have hib : X.heap[w4.heap.size + 1]? = some iO := by rw [hX]; exact heap_newH _ _ _ (by simp)
  have hpb : X.heap[w2.heap.size]? = some pO := by
    rw [hX]
    have e1 : w4.heap[w2.heap.size]? = some pO := below_heap h4 (heap_newH w2 pO _ rfl)
    exact below_heap (below1 _ _) (below_heap (below1 _ _) e1)
  rw [← hX] at hi b2 sX ⊢
  rw [hpO] at hpb
  rw [hiO] at hib
  refine (numbers_any X B rb k lb mb w2.heap.size 1 ar 2 rest P #[.int .i64 kd, .int .i64 0, .int .i64 0] 39 _ (hL.on (hi.bg.bel hB hrb)) (by omega) (by omega) (by omega) (by omega) (hr.below b2) (by omega) (by omega) (by omega) (hn.on (Kx.new (P := fun _ => False) b2) (fun h => h) (fun h => h)) hpb (by simp; omega) (fun h0 => ⟨_, _, rfl, by omega, by omega, by omega, heap_lt hib, fun j hj => ?_⟩) (by omega)).mono ?_
  · refine cell_blk hib ?_
    have : j = 0 ∨ j = 1 := by omega
    rcases this with rfl | rfl <;> rfl
  · rintro e w' ⟨q1, q2, q3⟩
    have kk : Kx (fun x => x = rb) w w' := hi.bg.kx.trans q1 fun x hx q => by omega
    have kX : ∀ x, x < w2.heap.size → x ≠ lb → x ≠ mb → w'.heap[x]? = X.heap[x]? := fun x hx n1 n2 => q1.blk x (by omega) (by omega)
    have hsl := heap_lt h.sb
    have hsbX : SB w' sb m b pv := by
      have n1 : sb ≠ lb := fun e => by
        have a1 := hn.l
        rw [← e] at a1
        have a2 := a1.symm.trans h.sb
        simp at a2
      have n2 : sb ≠ mb := fun e => by
        have a1 := hn.m
        rw [← e] at a1
        have a2 := a1.symm.trans h.sb
        simp at a2
      unfold SB
      rw [kX sb hsl n1 n2]
      exact hi.sb
    cases hq : numsP ar P with
    | none =>
      rw [hq] at q3
      exact ⟨q3.1, ⟨kk.below hB (fun x hx => by omega), hsbX⟩⟩
    | some l =>
      rw [hq] at q3
      obtain ⟨_, hl, _⟩ := numsP_some hq
      have hp1 := q3.2
      rw [putA_pk kd (by omega)] at hp1
      refine ⟨q3.1, ⟨kk.below hB (fun x hx => by omega), ⟨_, q2⟩, hsbX, ?_, hp1⟩⟩
      refine owns_kx hi.pk q1 fun g hg q => ?_
      obtain ⟨c, f, e1⟩ := owns_kind h.pk g hg
      have hgl := heap_lt e1
      rcases q with q | q | q
      · rw [q, hn.l] at e1; simp at e1
      · rw [q, hn.m] at e1; simp at e1
      · omega
end Go.Proofs.YtecpknpcjoiliabDoor
