import Derived.Test.YtecpknpcjoiliabDoorCUH
import Derived.Deep.RegionHeld3
namespace Go.Proofs.YtecpknpcjoiliabDoor
open Go.RowKit
set_option linter.unusedVariables false
set_option linter.unusedSimpArgs false

/-- a script's cells -/
def ScF (C : Array Value) : Prop := ∃ (m : Lm) (b : Bool) (pa : Option Addr) (n pc : Nat), C = #[.int .i64 m.a, .int .i64 m.b, .int .i64 m.c, .int .i64 m.d, .int .i64 m.e, .int .i64 m.f, .int .i64 m.g, .bool b, .slice pa n pc]
theorem ScF.size {C : Array Value} (h : ScF C) : C.size = 9 := by
  obtain ⟨m, b, pa, n, pc, rfl⟩ := h
  rfl
theorem ScF.one {C : Array Value} (h : ScF C) {j : Nat} (hj : j < 7) (x : Int) : ScF (C.setIfInBounds j (.int .i64 x)) := by
  obtain ⟨m, b, pa, n, pc, rfl⟩ := h
  have : j = 0 ∨ j = 1 ∨ j = 2 ∨ j = 3 ∨ j = 4 ∨ j = 5 ∨ j = 6 := by omega
  rcases this with rfl | rfl | rfl | rfl | rfl | rfl | rfl
  · exact ⟨⟨x, m.b, m.c, m.d, m.e, m.f, m.g⟩, b, pa, n, pc, by simp⟩
  · exact ⟨⟨m.a, x, m.c, m.d, m.e, m.f, m.g⟩, b, pa, n, pc, by simp⟩
  · exact ⟨⟨m.a, m.b, x, m.d, m.e, m.f, m.g⟩, b, pa, n, pc, by simp⟩
  · exact ⟨⟨m.a, m.b, m.c, x, m.e, m.f, m.g⟩, b, pa, n, pc, by simp⟩
  · exact ⟨⟨m.a, m.b, m.c, m.d, x, m.f, m.g⟩, b, pa, n, pc, by simp⟩
  · exact ⟨⟨m.a, m.b, m.c, m.d, m.e, x, m.g⟩, b, pa, n, pc, by simp⟩
  · exact ⟨⟨m.a, m.b, m.c, m.d, m.e, m.f, x⟩, b, pa, n, pc, by simp⟩
theorem ScF.puts : ∀ (l : List Int) {C : Array Value} (o : Nat), ScF C → o + l.length ≤ 7 → ScF (putA C o l)
  | [], C, o, h, _ => h
  | x :: r, C, o, h, hl => by
    rw [List.length_cons] at hl
    exact ScF.puts r (o + 1) (h.one (by omega) x) (by omega)
theorem ScF.put {C : Array Value} (h : ScF C) {l : List Int} (hl : l.length ≤ 7) : ScF (putA C 0 l) := ScF.puts l 0 h (by omega)
theorem ScF.reap {C : Array Value} (h : ScF C) (c : Bool) : ScF (C.setIfInBounds 7 (.bool c)) := by
  obtain ⟨m, b, pa, n, pc, rfl⟩ := h
  exact ⟨m, c, pa, n, pc, by simp⟩
/-- what a line's step answers, and leaves: g: what the script's block (sb) is then, or what is wrong -/
def StP (w : World) (rb sb k : Nat) (r : List UInt8) (g : Got (Array Value) Int) (v : Value) (w' : World) : Prop :=
  Kx (fun x => x = rb ∨ x = sb) w w' ∧ match g with
  | .no c => v = wrV k c ∧ ∃ C', ScF C' ∧ w'.heap[sb]? = some (.cells C' 31 (0, 0))
  | .yes C => v = .nilIface ∧ (∃ nx, RS w' rb k nx r) ∧ w'.heap[sb]? = some (.cells C 31 (0, 0))
def numG (C : Array Value) (o n : Nat) (P : List (List UInt8)) : Got (Array Value) Int := match numsP n P with
  | none => .no 171
  | some l => .yes (putA C o l)
theorem num_step {w w1 X : World} {B rb k sb o n cap : Nat} {rest : List UInt8} {P : List (List UInt8)} {C : Array Value} {a : Option Addr} (hb : BgP w rb k rest P w1) (hX : Kx (fun x => x = sb) w1 X) (hL : LB B w) (hB : B ≤ w.heap.size) (hrb : B ≤ rb) (hsB : B ≤ sb) (hrw : rb < w.heap.size) (hsb : sb < w.heap.size) (hne : rb ≠ sb) (ht : X.heap[sb]? = some (.cells C 31 (0, 0))) (hC : o + n ≤ C.size) (hn : n ≤ 7) (hF : ∀ l', l'.length ≤ n → ScF (putA C o l'))
    (hp : 0 < n → ∃ ib, a = some ⟨ib, 0, none⟩ ∧ w1.heap.size ≤ ib ∧ ib < X.heap.size ∧ ∀ j, j < n → X.cell? ⟨ib, j, none⟩ = some (.pointer (some ⟨sb, o + j, none⟩))) :
    Calls Tryd.prog 31 #[.pointer (some ⟨rb, 0, none⟩), .slice a n cap] X fun e w' => ∃ v, e = .returned v ∧ Bx (StP w rb sb k rest (numG C o n P) v w') := by
  obtain ⟨lb, mb, hr, hnx, h1, h2⟩ := hb.ex
  have hl1 := heap_lt hnx.l
  have hm1 := heap_lt hnx.m
  have hbw : Below B w w1 := hb.kx.below hB fun x hx => by omega
  have hs := hb.kx.size
  have hbX : Below B w X := hbw.trans (hX.below (by omega) fun x hx => by omega)
  refine (numbers_any X B rb k lb mb sb o n cap rest P C 31 a (hL.on hbX) (Nat.le_trans hB (Nat.le_trans hs hX.size)) (by omega) (by omega) hsB (hX.at_ hr (by omega)) hne (by omega) (by omega) (hnx.on hX (by omega) (by omega)) ht hC ?_ hn).mono ?_
  · intro h0
    obtain ⟨ib, e, g1, g2, g3⟩ := hp h0
    exact ⟨ib, 0, e, by omega, by omega, by omega, g2, fun j hj => by rw [Nat.zero_add]; exact g3 j hj⟩
  · rintro e w' ⟨q1, q2, q3⟩
    have hk : Kx (fun x => x = rb ∨ x = sb) w w' := by
      refine ((Kx.refl (fun x => x = rb ∨ x = sb) w).trans hb.kx fun _ _ h => Or.inl h).trans (((Kx.refl (fun x => x = lb ∨ x = mb ∨ x = sb) w1).trans hX fun _ _ h => Or.inr (Or.inr h)).trans q1 fun _ _ h => h) fun x hx h => ?_
      omega
    unfold StP numG
    cases hq : numsP n P with
    | none =>
      rw [hq] at q3
      obtain ⟨q4, l', q5, q6⟩ := q3
      exact ⟨_, q4, ⟨hk, rfl, _, hF l' q5, q6⟩⟩
    | some l =>
      rw [hq] at q3
      exact ⟨_, q3.1, ⟨hk, rfl, ⟨_, q2⟩, q3.2⟩⟩
theorem wr_step {w w1 : World} {rb k sb : Nat} {rest : List UInt8} {P : List (List UInt8)} {C : Array Value} (hb : BgP w rb k rest P w1) (hsb : w.heap[sb]? = some (.cells C 31 (0, 0))) (hne : rb ≠ sb) (hC : ScF C) (c : Int) (r : List UInt8) :
    Calls Tryd.prog 30 #[.pointer (some ⟨rb, 0, none⟩), .int .i64 c] w1 fun e w' => ∃ v, e = .returned v ∧ Bx (StP w rb sb k r (.no c) v w') := by
  obtain ⟨lb, mb, hr, hnx, h1, h2⟩ := hb.ex
  refine (wrong_any w1 rb k _ _ c hr).mono ?_
  rintro e w' ⟨rfl, rfl⟩
  exact ⟨_, rfl, ⟨(Kx.refl (fun x => x = rb ∨ x = sb) w).trans hb.kx fun _ _ h => Or.inl h, rfl, C, hC, hb.kx.at_ hsb (fun e => hne e.symm)⟩⟩
def limG (C : Array Value) (line : List UInt8) : Got (Array Value) Int := match limL line with
  | .no c => .no c
  | .yes m => .yes (putA C 0 (lmL m))
theorem limG_no {C : Array Value} {line : List UInt8} (h : (pieces 32 line).1 ≠ limitsW) : limG C line = .no 170 := by
  unfold limG limL
  rw [if_neg h]
theorem limG_yes {C : Array Value} {line : List UInt8} (h : (pieces 32 line).1 = limitsW) : limG C line = numG C 0 7 (pieces 32 line).2 := by
  unfold limG limL numG
  rw [if_pos h]
  cases hq : numsP 7 (pieces 32 line).2 with
  | none => rfl
  | some l =>
    simp only []
    obtain ⟨_, h2, _⟩ := numsP_some hq
    match l, h2 with
    | [a, b, c, d, e, f, g], _ => rfl
set_option maxRecDepth 100000 in
set_option maxHeartbeats 2000000 in
theorem limits_no (w : World) (rb sb k : Nat) (nx : Value) (rest : List UInt8) (C : Array Value) (hsb : w.heap[sb]? = some (.cells C 31 (0, 0))) (hne : rb ≠ sb) (hC : ScF C) (h : RS w rb k nx rest) (h10 : (10 : UInt8) ∉ rest) (hk : k ≤ 1152921504606846976) (r : List UInt8) :
    Calls Tryd.prog 18 #[.pointer (some ⟨rb, 0, none⟩), .pointer (some ⟨sb, 0, none⟩)] w fun e w' => ∃ v, e = .returned v ∧ Bx (StP w rb sb (k + 1) r (.no 170) v w') := by
  have HBG : Bx _ := ⟨begin_no w rb k nx rest h h10 hk⟩
  obtain ⟨Q0, hQ0⟩ : ∃ Q, Q = StP w rb sb (k + 1) r (.no 170) := ⟨_, rfl⟩
  have HQ : Bx (∀ w', Kx (fun x => x = rb) w w' → Q0 (wrV (k + 1) 170) w') := ⟨fun w' h => by rw [hQ0]; exact ⟨(Kx.refl (fun x => x = rb ∨ x = sb) w).trans h fun _ _ h => Or.inl h, rfl, C, hC, h.at_ hsb (fun e => hne e.symm)⟩⟩
  rw [← hQ0]
  clear hQ0 h h10
  go_enter Tryd.func18, Tryd.ntmps18
  go_wp2_with (go_at_call 29; refine HBG.out.mono ?_; rintro e w1 ⟨rfl, hk1⟩; have H1 : Bx _ := ⟨HQ.out w1 hk1⟩; clear hk1)
  go_ret
  exact ⟨_, rfl, H1⟩
set_option maxRecDepth 100000 in
set_option maxHeartbeats 4000000 in
theorem limits_yes (w : World) (B rb sb k : Nat) (nx : Value) (line rest : List UInt8) (C : Array Value) (h : RS w rb k nx (line ++ 10 :: rest)) (h10 : (10 : UInt8) ∉ line) (hk : k ≤ 1152921504606846976) (hlen : (line ++ 10 :: rest).length ≤ 281474976710656)
    (hL : LB B w) (hB : B ≤ w.heap.size) (hrb : B ≤ rb) (hsB : B ≤ sb) (hsb : w.heap[sb]? = some (.cells C 31 (0, 0))) (hne : rb ≠ sb) (hC : ScF C) :
    Calls Tryd.prog 18 #[.pointer (some ⟨rb, 0, none⟩), .pointer (some ⟨sb, 0, none⟩)] w fun e w' => ∃ v, e = .returned v ∧ Bx (StP w rb sb (k + 1) rest (limG C line) v w') := by
  have HBG : Bx _ := ⟨begin_yes w rb k nx line rest h h10 hk hlen⟩
  have hrw := heap_lt h
  have hsw := heap_lt hsb
  by_cases hwd : (pieces 32 line).1 = limitsW
  · rw [limG_yes hwd]
    rw [hwd] at HBG
    obtain ⟨Q0, hQ0⟩ : ∃ Q, Q = StP w rb sb (k + 1) rest (numG C 0 7 (pieces 32 line).2) := ⟨_, rfl⟩
    have HN : Bx (∀ w1 X, BgP w rb (k + 1) rest (pieces 32 line).2 w1 → Below w1.heap.size w1 X → X.heap[w1.heap.size]? = some (.cells #[.pointer (some ⟨sb, 0, none⟩), .pointer (some ⟨sb, 1, none⟩), .pointer (some ⟨sb, 2, none⟩), .pointer (some ⟨sb, 3, none⟩), .pointer (some ⟨sb, 4, none⟩), .pointer (some ⟨sb, 5, none⟩), .pointer (some ⟨sb, 6, none⟩)] 91 (0, 0)) → Calls Tryd.prog 31 #[.pointer (some ⟨rb, 0, none⟩), .slice (some ⟨w1.heap.size, 0, none⟩) 7 7] X fun e w' => ∃ v, e = .returned v ∧ Bx (Q0 v w')) := ⟨fun w1 X hb hX hp => by
      rw [hQ0]
      have hs1 := hb.kx.at_ hsb (by omega)
      refine num_step hb (Kx.new hX) hL hB hrb hsB hrw hsw hne (below_heap hX hs1) (by have := hC.size; omega) (by omega) (fun l' h => hC.put h) fun _ => ⟨_, rfl, Nat.le_refl _, heap_lt hp, fun j hj => ?_⟩
      refine cell_blk hp ?_
      rw [Nat.zero_add]
      match j, hj with
      | 0, _ => rfl
      | 1, _ => rfl
      | 2, _ => rfl
      | 3, _ => rfl
      | 4, _ => rfl
      | 5, _ => rfl
      | 6, _ => rfl⟩
    rw [← hQ0]
    have hw : limitsW = [108, 105, 109, 105, 116, 115] := rfl
    rw [hw] at HBG
    clear hQ0 h h10 hlen hwd hL hsb hw
    generalize (pieces 32 line).2 = P at *
    go_enter Tryd.func18, Tryd.ntmps18
    go_wp2_with (go_at_call 29; refine HBG.out.mono ?_; rintro e w1 ⟨rfl, H1⟩)
    go_region_held3 (fun _ => True) (exact trivial) (first | (go_at_call 31; refine (HN.out w1 _ H1.out (by first | exact below1 _ _ | exact (below1 _ _).drew) (by first | exact heap_newH _ _ _ rfl)).mono ?_; rintro e w2 ⟨v2, rfl, H2⟩))
    go_wp2
    go_ret
    exact ⟨_, rfl, H2⟩
  · rw [limG_no hwd]
    have HW : Bx (∀ w1, BgP w rb (k + 1) rest (pieces 32 line).2 w1 → Calls Tryd.prog 30 #[.pointer (some ⟨rb, 0, none⟩), .int .i64 170] w1 fun e w' => ∃ v, e = .returned v ∧ Bx (StP w rb sb (k + 1) rest (.no 170) v w')) := ⟨fun w1 hb => wr_step hb hsb hne hC 170 rest⟩
    obtain ⟨Q0, hQ0⟩ : ∃ Q, Q = StP w rb sb (k + 1) rest (.no 170) := ⟨_, rfl⟩
    rw [← hQ0] at HW ⊢
    clear hQ0 h h10 hlen hL hsb
    have hw2 : ((pieces 32 line).1 == [108, 105, 109, 105, 116, 115]) = false := by simpa [limitsW] using hwd
    have hw3 : ¬ (pieces 32 line).1 = [108, 105, 109, 105, 116, 115] := hwd
    generalize (pieces 32 line).2 = P at *
    generalize (pieces 32 line).1 = wd at *
    clear hwd
    go_enter Tryd.func18, Tryd.ntmps18
    go_wp2_with (first
      | (go_at_call 29; refine HBG.out.mono ?_; rintro e w1 ⟨rfl, H1⟩)
      | (go_at_call 30; refine (HW.out w1 H1.out).mono ?_; rintro e w2 ⟨v2, rfl, H2⟩))
    go_ret
    exact ⟨_, rfl, H2⟩
end Go.Proofs.YtecpknpcjoiliabDoor
