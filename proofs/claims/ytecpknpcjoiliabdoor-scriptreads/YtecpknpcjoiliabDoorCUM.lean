import Derived.Test.YtecpknpcjoiliabDoorCUJ
import Derived.Deep.RegionLaw
import Derived.Deep.AppendLies
namespace Go.Proofs.YtecpknpcjoiliabDoor
open Go.RowKit
set_option linter.unusedVariables false
set_option linter.unusedSimpArgs false

def pkC (ps : List Pk) : List Value := ps.flatMap fun p => [.int .i64 p.kind, .int .i64 p.n, .int .i64 p.v]
theorem pkC_snoc (ps : List Pk) (p : Pk) : pkC (ps ++ [p]) = pkC ps ++ [.int .i64 p.kind, .int .i64 p.n, .int .i64 p.v] := by simp [pkC]
/-- picks in a row of one's own -/
def PkO (w : World) (B : Nat) (v : Value) (ps : List Pk) : Prop := w.ownsRow B 39 3 v ps.length (pkC ps)
theorem PkO.own {w : World} {B : Nat} {v : Value} {ps : List Pk} (h : PkO w B v ps) : w.ownsRow B 39 3 v ps.length (pkC ps) := h
theorem owns_kx {P : Nat → Prop} {w w' : World} {B : Nat} {e : TypeId} {s : Nat} {v : Value} {n : Nat} {cs : List Value} (h : w.ownsRow B e s v n cs) (hk : Kx P w w') (hp : ∀ g, v.ownBlock = some g → ¬ P g) : w'.ownsRow B e s v n cs := by
  refine ⟨h.1, ?_⟩
  rcases h.2 with hn | ⟨g, cap, cur, rfl, hB, hgg, rest⟩
  · exact .inl hn
  · exact .inr ⟨g, cap, cur, rfl, hB, hk.at_ hgg (hp g rfl), rest⟩
/-- the script under way -/
def SB (w : World) (sb : Nat) (m : Lm) (b : Bool) (pv : Value) : Prop := w.heap[sb]? = some (.cells #[.int .i64 m.a, .int .i64 m.b, .int .i64 m.c, .int .i64 m.d, .int .i64 m.e, .int .i64 m.f, .int .i64 m.g, .bool b, pv] 31 (0, 0))
theorem PkO.kx {w w' : World} {B rb : Nat} {C : Array Value} {fz : Nat × Nat} {v : Value} {ps : List Pk} (h : PkO w B v ps) (hk : Kx (fun x => x = rb) w w') (hr : w.heap[rb]? = some (.cells C 60 fz)) : PkO w' B v ps := owns_kx h hk fun g hg e => by
  obtain ⟨c, f, h1⟩ := owns_kind h g hg
  rw [e, hr] at h1
  simp at h1
/-- what a pick's step answers, and leaves -/
def PkP (w : World) (B rb sb k : Nat) (r : List UInt8) (m : Lm) (b : Bool) (g : Got (List Pk) Int) (v : Value) (w' : World) : Prop :=
  Below B w w' ∧ match g with
  | .no c => v = wrV k c ∧ ∃ pv, SB w' sb m b pv ∧ ∃ pa n pc, pv = .slice pa n pc
  | .yes ps => v = .nilIface ∧ ∃ nx pv, RS w' rb k nx r ∧ SB w' sb m b pv ∧ PkO w' B pv ps
set_option maxRecDepth 100000 in
set_option maxHeartbeats 2000000 in
theorem pick_no (w : World) (B rb sb k : Nat) (nx : Value) (rest : List UInt8) (m : Lm) (b : Bool) (pv : Value) (hs : SB w sb m b pv) (hpf : ∃ pa n pc, pv = .slice pa n pc) (hne : rb ≠ sb) (h : RS w rb k nx rest) (h10 : (10 : UInt8) ∉ rest) (hk : k ≤ 1152921504606846976) (hB : B ≤ w.heap.size) (hrb : B ≤ rb) (r : List UInt8) :
    Calls Tryd.prog 20 #[.pointer (some ⟨rb, 0, none⟩), .pointer (some ⟨sb, 0, none⟩)] w fun e w' => ∃ v, e = .returned v ∧ Bx (PkP w B rb sb (k + 1) r m b (.no 170) v w') := by
  have HBG : Bx _ := ⟨begin_no w rb k nx rest h h10 hk⟩
  obtain ⟨Q0, hQ0⟩ : ∃ Q, Q = PkP w B rb sb (k + 1) r m b (.no 170) := ⟨_, rfl⟩
  have HQ : Bx (∀ w', Kx (fun x => x = rb) w w' → Q0 (wrV (k + 1) 170) w') := ⟨fun w' h => by rw [hQ0]; exact ⟨h.below hB (fun x hx => by omega), rfl, pv, h.at_ hs (fun e => hne e.symm), hpf⟩⟩
  rw [← hQ0]
  clear hQ0 h h10
  go_enter Tryd.func20, Tryd.ntmps20
  go_wp2_with (go_at_call 29; refine HBG.out.mono ?_; rintro e w1 ⟨rfl, hk1⟩; have H1 : Bx _ := ⟨HQ.out w1 hk1⟩; clear hk1)
  go_ret
  exact ⟨_, rfl, H1⟩
/-- behind begin, whatever is new -/
theorem BgP.more {w w1 X : World} {rb k : Nat} {rest : List UInt8} {P : List (List UInt8)} (h : BgP w rb k rest P w1) (hX : Below w1.heap.size w1 X) : BgP w rb k rest P X := by
  obtain ⟨lb, mb, hr, hn, h1, h2⟩ := h.ex
  exact ⟨⟨lb, mb, hr.below hX, hn.on (Kx.new (P := fun _ => False) hX) (fun h => h) (fun h => h), h1, h2⟩, h.kx.trans (Kx.new (P := fun x => x = rb) hX) fun _ _ h => h⟩
theorem BgP.bel {w w1 : World} {B rb k : Nat} {rest : List UInt8} {P : List (List UInt8)} (h : BgP w rb k rest P w1) (hB : B ≤ w.heap.size) (hrb : B ≤ rb) : Below B w w1 := h.kx.below hB fun x hx => by omega
set_option maxRecDepth 100000 in
set_option maxHeartbeats 4000000 in
theorem pick_word (w : World) (B rb sb k : Nat) (nx : Value) (line rest : List UInt8) (m : Lm) (b : Bool) (h : RS w rb k nx (line ++ 10 :: rest)) (h10 : (10 : UInt8) ∉ line) (hk : k ≤ 1152921504606846976) (hlen : (line ++ 10 :: rest).length ≤ 281474976710656)
    (pv : Value) (hs : SB w sb m b pv) (hpf : ∃ pa n pc, pv = .slice pa n pc) (hne : rb ≠ sb) (hL : LB B w) (hB : B ≤ w.heap.size) (hrb : B ≤ rb) (hkd : kindI (pieces 32 line).1 = 0) :
    Calls Tryd.prog 20 #[.pointer (some ⟨rb, 0, none⟩), .pointer (some ⟨sb, 0, none⟩)] w fun e w' => ∃ v, e = .returned v ∧ Bx (PkP w B rb sb (k + 1) rest m b (.no 170) v w') := by
  have HBG : Bx _ := ⟨begin_yes w rb k nx line rest h h10 hk hlen⟩
  have HKD : Bx (∀ w1, BgP w rb (k + 1) rest (pieces 32 line).2 w1 → Calls Tryd.prog 32 #[strV (pieces 32 line).1] w1 fun e w' => e = .returned (.int .i64 0) ∧ BgP w rb (k + 1) rest (pieces 32 line).2 w') := ⟨fun w1 hb => (kindOf_any (pieces 32 line).1 w1 (hL.on (hb.bel hB hrb)).here.shp).mono fun e w' h => ⟨by rw [h.1, hkd]; rfl, hb.more h.2⟩⟩
  have HSH : Bx (∀ X, BgP w rb (k + 1) rest (pieces 32 line).2 X → Calls Tryd.prog 33 #[.int .i64 0] X fun e w' => e = .returned (.tuple #[.agg #[strV [], .int .i64 0], .bool false]) ∧ BgP w rb (k + 1) rest (pieces 32 line).2 w') := ⟨fun X hb => (shapeOf_no 0 X (Or.inl (by omega))).mono fun e w' h => ⟨h.1, hb.more h.2⟩⟩
  obtain ⟨Q0, hQ0⟩ : ∃ Q, Q = PkP w B rb sb (k + 1) rest m b (.no 170) := ⟨_, rfl⟩
  have HW : Bx (∀ X, BgP w rb (k + 1) rest (pieces 32 line).2 X → Calls Tryd.prog 30 #[.pointer (some ⟨rb, 0, none⟩), .int .i64 170] X fun e w' => ∃ v, e = .returned v ∧ Bx (Q0 v w')) := ⟨fun X hb => by
    obtain ⟨lb, mb, hr, hn, h1, h2⟩ := hb.ex
    refine (wrong_any X rb (k + 1) _ _ 170 hr).mono ?_
    rintro e w' ⟨rfl, rfl⟩
    rw [hQ0]
    exact ⟨_, rfl, ⟨hb.bel hB hrb, rfl, pv, hb.kx.at_ hs (fun e => hne e.symm), hpf⟩⟩⟩
  rw [← hQ0]
  clear hQ0 h h10 hlen hL hkd
  have HMO : Bx (∀ (X : World) o, BgP w rb (k + 1) rest (pieces 32 line).2 X → BgP w rb (k + 1) rest (pieces 32 line).2 (X.alloc o)) := ⟨fun X o hb => hb.more (below1 X o)⟩
  generalize (pieces 32 line).2 = P at *
  generalize (pieces 32 line).1 = wd at *
  go_enter Tryd.func20, Tryd.ntmps20
  go_wp2_with (first
    | (go_at_call 29; refine HBG.out.mono ?_; rintro e w1 ⟨rfl, H1⟩)
    | (go_at_call 32; refine (HKD.out w1 H1.out).mono ?_; rintro e w2 ⟨rfl, h2⟩; have H2 : Bx _ := ⟨h2⟩; clear h2)
    | (go_at_call 33; refine (HSH.out _ (HMO.out _ _ H2.out)).mono ?_; rintro e w3 ⟨rfl, h3⟩; have H3 : Bx _ := ⟨h3⟩; clear h3)
    | (go_at_call 30; refine (HW.out _ (HMO.out _ _ H3.out)).mono ?_; rintro e w4 ⟨v4, rfl, H4⟩))
  go_ret
  exact ⟨_, rfl, H4⟩
end Go.Proofs.YtecpknpcjoiliabDoor
