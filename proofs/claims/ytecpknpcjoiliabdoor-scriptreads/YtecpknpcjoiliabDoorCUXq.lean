import Derived.Test.YtecpknpcjoiliabDoorCUXp
import Derived.Test.YtecpknpcjoiliabDoorCUKp
import Derived.Test.YtecpknpcjoiliabDoorCUSh
import Derived.Test.YtecpknpcjoiliabDoorCUBa
namespace Go.Proofs.YtecpknpcjoiliabDoor
open Go.RowKit Go.Shelf
set_option linter.unusedVariables false
set_option linter.unusedSimpArgs false

/-- what Parse tells, in one form -/
def resG : Got Sc (Nat × Int) → Sc × Nat × Int
  | .no e => (⟨zrM, false, []⟩, e.1, e.2)
  | .yes s => (s, 0, 0)
def ParG (w : World) (r : Sc × Nat × Int) (e : Ending) (w' : World) : Prop := ∃ a cp, e = .returned (.tuple #[scV r.1.lim r.1.reap (.slice a r.1.picks.length cp), .int .i64 ((r.2.1 : Nat) : Int), .int .i64 r.2.2]) ∧ Bx (Below w.heap.size w w' ∧ PkO w' w.heap.size (.slice a r.1.picks.length cp) r.1.picks)
theorem par_g {w w' : World} {g : Got Sc (Nat × Int)} {e : Ending} (h : ∃ v k c, e = .returned (.tuple #[v, .int .i64 ((k : Nat) : Int), .int .i64 c]) ∧ Bx (ParP w g v k c w')) : ParG w (resG g) e w' := by
  obtain ⟨v, k, c, h1, h2⟩ := h
  obtain ⟨hb, h3⟩ := h2.out
  cases g with
  | no e0 =>
    obtain ⟨rfl, rfl, rfl⟩ := h3
    exact ⟨none, 0, h1, ⟨hb, ⟨rfl, .inl ⟨rfl, rfl⟩⟩⟩⟩
  | yes s =>
    obtain ⟨rfl, rfl, a, cp, rfl, hp⟩ := h3
    exact ⟨a, cp, h1, ⟨hb, hp⟩⟩
theorem goS_few : ∀ (r : List (List UInt8)) (l : List UInt8) (i : Nat) (s s' : Sc), goS l r i s = .yes s' → s.picks.length ≤ 4096 → s'.picks.length ≤ 4096
  | [], l, i, s, s', h, hf => by
    rw [goS] at h
    split at h
    · injection h with h; subst h; exact hf
    · cases h
  | m :: r, l, i, s, s', h, hf => by
    rw [goS] at h
    cases hq : stepS i s l with
    | no c => rw [hq] at h; cases h
    | yes s2 => rw [hq] at h; exact goS_few r m (i + 1) s2 s' h (step_few hq hf)
theorem res_few (t : List UInt8) : (resG (readS t)).1.picks.length ≤ 4096 := by
  cases hr : readS t with
  | no e => exact Nat.zero_le _
  | yes s =>
    rw [readS_go] at hr
    exact goS_few _ _ _ _ _ hr (Nat.zero_le _)
/-- a list's block lies there -/
def Rng (v : Value) (lo hi : Nat) : Prop := ∀ g, v.ownBlock = some g → lo ≤ g ∧ g < hi
theorem Rng.apart {v u : Value} {a b c d : Nat} (h : Rng v a b) (k : Rng u c d) (hl : b ≤ c) : Apart v u := fun g h1 h2 => by
  have := (h g h1).2
  have := (k g h2).1
  omega
theorem PkO.rng {w : World} {B : Nat} {v : Value} {ps : List Pk} (h : PkO w B v ps) : Rng v B w.heap.size := fun g hg => owns_block h.own hg
theorem Rng.low {v : Value} {a b a' b' : Nat} (h : Rng v a b) (h1 : a' ≤ a) (h2 : b ≤ b') : Rng v a' b' := fun g hg => by
  have := h g hg
  omega
theorem PkO.keep {w w' : World} {B : Nat} {v : Value} {ps : List Pk} (h : PkO w B v ps) (hb : Below w.heap.size w w') : PkO w' B v ps := owns_same h fun q _ hq => hb.block q hq
/-- a script in a box, as a row -/
def boxR (k : Nat) (s : Sc) (v : Value) : BRow := ⟨31, 9, .slice (some ⟨k, 0, none⟩) 1 1, 1, [.int .i64 s.lim.a, .int .i64 s.lim.b, .int .i64 s.lim.c, .int .i64 s.lim.d, .int .i64 s.lim.e, .int .i64 s.lim.f, .int .i64 s.lim.g, .bool s.reap, v]⟩
theorem box_ok {w : World} {k B : Nat} {s : Sc} {v : Value} (h : w.heap[k]? = some (scB s.lim s.reap v)) (hB : B ≤ k) : (boxR k s v).ok w B := ⟨⟨rfl, .inr ⟨k, 1, _, rfl, hB, h, Nat.le_refl _, by simp [maxLen], rfl, rfl⟩⟩⟩
theorem box_of {w : World} {k B : Nat} {s : Sc} {v : Value} (h : (boxR k s v).ok w B) : w.heap[k]? = some (scB s.lim s.reap v) := by
  rcases h.own.2 with ⟨q, _⟩ | ⟨g, cap, cur, q, _, q2, _, _, q5, q6⟩
  · cases q
  · simp only [boxR, Value.slice.injEq, Option.some.injEq, Addr.mk.injEq] at q
    obtain ⟨⟨rfl, _⟩, _, rfl⟩ := q
    have hs : cur.size = 9 := q5
    have h6 : cur.toList.take 9 = (boxR k s v).xs := q6
    rw [List.take_of_length_le (by simp [hs])] at h6
    have : cur = (boxR k s v).xs.toArray := by rw [← h6]
    rw [q2, this]
    rfl
theorem pk_row {w : World} {B : Nat} {v : Value} {ps : List Pk} (h : PkO w B v ps) {B' : Nat} (hB : B' ≤ B) : (⟨39, 3, v, ps.length, pkC ps⟩ : BRow).ok w B' := ⟨owns_base h.own hB⟩
end Go.Proofs.YtecpknpcjoiliabDoor
namespace Go.Proofs.YtecpknpcjoiliabDoor
open Go.RowKit Go.Shelf
set_option linter.unusedVariables false
set_option linter.unusedSimpArgs false

abbrev vS (a : Option Addr) (s : Sc) (c : Nat) : Value := .slice a s.picks.length c
abbrev cS (s : Sc) (v : Value) : Value := scV s.lim s.reap v
def Tr (B : Nat) (w : World) (e : Ending) (w' : World) : Prop := e = .returned (.bool true) ∧ Bx (Below B w w')
abbrev hP (h : Nat) : Value := .pointer (some ⟨h, 0, none⟩)
/-- behind the last Parse -/
def K5 (Q : Ending → World → Prop) (b16 : Nat) (s : Sc) (vd vx : Value) (w6 : World) : Prop :=
  (w6.alloc (scB s.lim s.reap vd)).heap[b16]? = some (scB s.lim s.reap vx) ∧ Calls Tryd.prog 7 #[cS s vd, cS s vx] (w6.alloc (scB s.lim s.reap vd)) fun e y => e = .returned (.bool true) ∧ Bx (Q (.returned (.bool true)) y)
def K4 (Q : Ending → World → Prop) (t : Value) (b16 : Nat) (r : Sc × Nat × Int) (vx : Value) (z4 : World) : Prop :=
  Calls Tryd.prog 5 #[t] z4 fun e w6 => ∃ a cp, e = .returned (.tuple #[cS r.1 (vS a r.1 cp), .int .i64 ((r.2.1 : Nat) : Int), .int .i64 r.2.2]) ∧ Bx (K5 Q b16 r.1 (vS a r.1 cp) vx w6)
def K3 (Q : Ending → World → Prop) (hb : Nat) (t : Value) (b16 : Nat) (r : Sc × Nat × Int) (vx : Value) (z3 : World) : Prop :=
  Calls Tryd.prog 9 #[hP hb] z3 fun e z4 => e = .returned (.bool true) ∧ Bx (K4 Q t b16 r vx z4)
def K2 (Q : Ending → World → Prop) (hb : Nat) (t : Value) (b13 b16 : Nat) (r : Sc × Nat × Int) (vc vx : Value) (z2 : World) : Prop :=
  z2.cell? ⟨b13, 8, none⟩ = some vc ∧ Calls Tryd.prog 8 #[hP hb, vc] z2 fun e z3 => e = .returned (.tuple #[]) ∧ Bx (K3 Q hb t b16 r vx z3)
def K1 (Q : Ending → World → Prop) (hb : Nat) (t : Value) (b10 b13 b16 : Nat) (r : Sc × Nat × Int) (vb vc vx : Value) (z1 : World) : Prop :=
  z1.cell? ⟨b10, 8, none⟩ = some vb ∧ Calls Tryd.prog 8 #[hP hb, vb] z1 fun e z2 => e = .returned (.tuple #[]) ∧ Bx (K2 Q hb t b13 b16 r vc vx z2)
def K0 (Q : Ending → World → Prop) (hb : Nat) (t : Value) (b7 b10 b13 b16 b19 : Nat) (r q : Sc × Nat × Int) (va vb vc vx vy : Value) (W6 : World) : Prop :=
  ∀ Y, Below W6.heap.size W6 Y → (Y.heap[b7]? = some (scB r.1.lim r.1.reap va) ∧ Y.heap[b10]? = some (scB q.1.lim q.1.reap vb) ∧ Y.heap[b13]? = some (scB r.1.lim r.1.reap vc) ∧ Y.heap[b16]? = some (scB r.1.lim r.1.reap vx) ∧ Y.heap[b19]? = some (scB q.1.lim q.1.reap vy)) ∧
    Calls Tryd.prog 7 #[cS r.1 va, cS r.1 vx] Y (Tr W6.heap.size W6) ∧ Calls Tryd.prog 7 #[cS q.1 vb, cS q.1 vy] Y (Tr W6.heap.size W6) ∧ Calls Tryd.prog 7 #[cS r.1 vc, cS r.1 vx] Y (Tr W6.heap.size W6) ∧
    Calls Tryd.prog 8 #[hP hb, va] Y fun e z1 => e = .returned (.tuple #[]) ∧ Bx (K1 Q hb t b10 b13 b16 r vb vc vx z1)
/-- all that lies in memory when all is parsed -/
structure Six (w W : World) (Hw hb b7 b10 b13 b16 b19 : Nat) (r q : Sc × Nat × Int) (va vb vc vx vy : Value) (A1 A2 B1 B2 C1 C2 X1 X2 : Nat) : Prop where
  bel : Below Hw w W
  hw : Hw ≤ hb
  bk : W.heap[hb]? = some (.cells #[.slice none 0 0, .slice none 0 0, .int .i64 0] 26 (0, 0))
  k7 : W.heap[b7]? = some (scB r.1.lim r.1.reap va)
  k10 : W.heap[b10]? = some (scB q.1.lim q.1.reap vb)
  k13 : W.heap[b13]? = some (scB r.1.lim r.1.reap vc)
  k16 : W.heap[b16]? = some (scB r.1.lim r.1.reap vx)
  k19 : W.heap[b19]? = some (scB q.1.lim q.1.reap vy)
  o7 : hb ≤ b7
  o10 : hb ≤ b10
  o13 : hb ≤ b13
  o16 : hb ≤ b16
  pa : PkO W hb va r.1.picks
  pb : PkO W hb vb q.1.picks
  pc : PkO W hb vc r.1.picks
  px : PkO W hb vx r.1.picks
  py : PkO W hb vy q.1.picks
  ra : Rng va A1 A2
  rb : Rng vb B1 B2
  rc : Rng vc C1 C2
  rx : Rng vx X1 X2
  s1 : A2 ≤ B1
  s2 : B2 ≤ C1
  s3 : C2 ≤ X1
  s4 : B1 ≤ B2
  s5 : C1 ≤ C2
theorem same_pk {Y : World} {s : Sc} {a1 a2 : Option Addr} {c1 c2 B1 B2 : Nat} (h1 : PkO Y B1 (vS a1 s c1) s.picks) (h2 : PkO Y B2 (vS a2 s c2) s.picks) {B : Nat} {w : World} (hB : B ≤ Y.heap.size) (hb : Below B w Y) : Calls Tryd.prog 7 #[cS s (vS a1 s c1), cS s (vS a2 s c2)] Y (Tr B w) :=
  (same_yes Y s.lim s.reap a1 a2 c1 c2 s.picks h1.view h2.view).mono fun e w' h => ⟨h.1, ⟨hb.trans (h.2.out.mono hB)⟩⟩
theorem Apart.nilL (v : Value) : Apart (.slice none 0 0) v := fun g h => by cases h
set_option maxHeartbeats 4000000 in
theorem six_k0 (Q : Ending → World → Prop) (w : World) (Hw : Nat) (hHw : w.heap.size = Hw) (hL : LW w) (HQ : ∀ W, Below Hw w W → Q (.returned (.bool true)) W) (t : List UInt8) (ht : t.length ≤ 1099511627776) (q : Sc × Nat × Int) (hfq : q.1.picks.length ≤ 4096)
    {W : World} {hb b7 b10 b13 b16 b19 A1 A2 B1 B2 C1 C2 X1 X2 : Nat} {a1 a2 a3 a4 a5 : Option Addr} {c1 c2 c3 c4 c5 : Nat}
    (h : Six w W Hw hb b7 b10 b13 b16 b19 (resG (readS t)) q (vS a1 (resG (readS t)).1 c1) (vS a2 q.1 c2) (vS a3 (resG (readS t)).1 c3) (vS a4 (resG (readS t)).1 c4) (vS a5 q.1 c5) A1 A2 B1 B2 C1 C2 X1 X2) :
    K0 Q hb (strV t) b7 b10 b13 b16 b19 (resG (readS t)) q (vS a1 (resG (readS t)).1 c1) (vS a2 q.1 c2) (vS a3 (resG (readS t)).1 c3) (vS a4 (resG (readS t)).1 c4) (vS a5 q.1 c5) W := by
  have hfr := res_few t
  have HPD : ∀ W', Below Hw w W' → Calls Tryd.prog 5 #[strV t] W' (ParG W' (resG (readS t))) := fun W' hb' => (Parse_any W' (hL.below (by rw [hHw]; exact hb')) t (by omega)).mono fun e w' h => par_g h
  generalize resG (readS t) = r at *
  intro Y hY
  have hs := hY.size
  have hbW := heap_lt h.bk
  have pa := h.pa.keep hY
  have pb := h.pb.keep hY
  have pc := h.pc.keep hY
  have px := h.px.keep hY
  have py := h.py.keep hY
  have k7 := below_heap hY h.k7
  have k10 := below_heap hY h.k10
  have k13 := below_heap hY h.k13
  have k16 := below_heap hY h.k16
  have k19 := below_heap hY h.k19
  have bk := below_heap hY h.bk
  have hwY : Below Hw w Y := h.bel.trans (hY.mono (by have := h.hw; omega))
  refine ⟨⟨k7, k10, k13, k16, k19⟩, same_pk pa px hs hY, same_pk pb py hs hY, same_pk pc px hs hY, ?_⟩
  have hB0 : Bk Y hb hb (.slice none 0 0) (.slice none 0 0) 0 [] := ⟨⟨⟨rfl, .inr ⟨hb, 3, _, rfl, Nat.le_refl _, bk, Nat.le_refl _, by simp [maxLen], rfl, rfl⟩⟩⟩, ⟨⟨rfl, .inl ⟨rfl, rfl⟩⟩⟩, ⟨⟨rfl, .inl ⟨rfl, rfl⟩⟩⟩, fun e he => by simp at he, Apart.nilL _, fun e he => by simp at he, by simp⟩
  have bx10 := box_ok (B := hb) k10 h.o10
  have bx13 := box_ok (B := hb) k13 h.o13
  have bx16 := box_ok (B := hb) k16 h.o16
  have rb0 := pk_row pb (Nat.le_refl _)
  have rc0 := pk_row pc (Nat.le_refl _)
  have rx0 := pk_row px (Nat.le_refl _)
  have eS : ∀ (k : Nat) (s : Sc) (v : Value), (boxR k s v).e ≠ (26 : Nat) := fun k s v => by show (31 : Nat) ≠ 26; decide
  have eS2 : ∀ (k : Nat) (s : Sc) (v : Value), (boxR k s v).e ≠ (29 : Nat) := fun k s v => by show (31 : Nat) ≠ 29; decide
  have eS3 : ∀ (k : Nat) (s : Sc) (v : Value), (boxR k s v).e ≠ (39 : Nat) := fun k s v => by show (31 : Nat) ≠ 39; decide
  have eP : (39 : Nat) ≠ 26 := by decide
  have eP2 : (39 : Nat) ≠ 29 := by decide
  refine (keep_any hb hb _ _ _ 0 [] r.1.picks Y hB0 pa.own (by omega) (by simp)).mono ?_
  rintro e z1 ⟨rfl, vo1, vw1, m1, hB1, hK1, hf1⟩
  have y10 := hK1.rows _ bx10 (eS _ _ _) (eS2 _ _ _)
  have y13 := hK1.rows _ bx13 (eS _ _ _) (eS2 _ _ _)
  have y16 := hK1.rows _ bx16 (eS _ _ _) (eS2 _ _ _)
  have rb1 := hK1.rows _ rb0 eP eP2
  have rc1 := hK1.rows _ rc0 eP eP2
  have rx1 := hK1.rows _ rx0 eP eP2
  have hz1 := hK1.old.size
  refine ⟨rfl, ⟨(cells9 (box_of y10)).2.2.2.2.2.2.2.2, ?_⟩⟩
  refine (keep_any hb hb _ _ _ 0 _ q.1.picks z1 hB1 rb1.own (by omega) (by simp)).mono ?_
  rintro e z2 ⟨rfl, vo2, vw2, m2, hB2, hK2, hf2⟩
  have x13 := hK2.rows _ y13 (eS _ _ _) (eS2 _ _ _)
  have x16 := hK2.rows _ y16 (eS _ _ _) (eS2 _ _ _)
  have rc2 := hK2.rows _ rc1 eP eP2
  have rx2 := hK2.rows _ rx1 eP eP2
  have hz2 := hK2.old.size
  refine ⟨rfl, ⟨(cells9 (box_of x13)).2.2.2.2.2.2.2.2, ?_⟩⟩
  refine (keep_any hb hb _ _ _ 0 _ r.1.picks z2 hB2 rc2.own (by omega) (by simp)).mono ?_
  rintro e z3 ⟨rfl, vo3, vw3, m3, hB3, hK3, hf3⟩
  have u16 := hK3.rows _ x16 (eS _ _ _) (eS2 _ _ _)
  have rx3 := hK3.rows _ rx2 eP eP2
  have hz3 := hK3.old.size
  have hw3 : Below Hw w z3 := hwY.trans ((hK1.old.mono h.hw).trans ((hK2.old.mono h.hw).trans (hK3.old.mono h.hw)))
  -- where all lies
  have gm1 : Rng m1 Y.heap.size z1.heap.size := fun g hg => ⟨hf1 g hg, (((hB1.rows ⟨vS a1 r.1 c1, m1, r.1.picks⟩ (by simp)).2).own.lt g hg).2⟩
  have gm2 : Rng m2 z1.heap.size z2.heap.size := fun g hg => ⟨hf2 g hg, (((hB2.rows ⟨vS a2 q.1 c2, m2, q.1.picks⟩ (by simp)).2).own.lt g hg).2⟩
  have gm3 : Rng m3 z2.heap.size z3.heap.size := fun g hg => ⟨hf3 g hg, (((hB3.rows ⟨vS a3 r.1 c3, m3, r.1.picks⟩ (by simp)).2).own.lt g hg).2⟩
  have ga := h.ra
  have gb := h.rb
  have gc := h.rc
  have gx := h.rx
  have la : Rng (vS a1 r.1 c1) hb Y.heap.size := pa.rng
  have lb : Rng (vS a2 q.1 c2) hb Y.heap.size := pb.rng
  have lc : Rng (vS a3 r.1 c3) hb Y.heap.size := pc.rng
  have lx : Rng (vS a4 r.1 c4) hb Y.heap.size := px.rng
  have o1 := h.s1
  have o2 := h.s2
  have o3 := h.s3
  have o4 := h.s4
  have o5 := h.s5
  have ab := ga.apart gb o1
  have ac := ga.apart gc (by omega)
  have bc := gb.apart gc o2
  have ax := ga.apart gx (by omega)
  have bx := gb.apart gx (by omega)
  have cx := gc.apart gx o3
  have m12 := gm1.apart gm2 (Nat.le_refl _)
  have m13 := gm1.apart gm3 hz2
  have m23 := gm2.apart gm3 (Nat.le_refl _)
  have am : ∀ {v : Value}, Rng v hb Y.heap.size → Apart v m1 ∧ Apart v m2 ∧ Apart v m3 := fun hv => ⟨hv.apart gm1 (Nat.le_refl _), hv.apart gm2 hz1, hv.apart gm3 (by omega)⟩
  have hal : Alone ([] ++ [⟨vS a1 r.1 c1, m1, r.1.picks⟩] ++ [⟨vS a2 q.1 c2, m2, q.1.picks⟩] ++ [⟨vS a3 r.1 c3, m3, r.1.picks⟩]) := by
    intro k j hk hj
    simp only [List.nil_append, List.cons_append, List.length_cons, List.length_nil] at hk hj
    obtain rfl | rfl | rfl : k = 0 ∨ k = 1 ∨ k = 2 := by omega
    all_goals
      obtain rfl | rfl | rfl : j = 0 ∨ j = 1 ∨ j = 2 := by omega
    · exact ⟨fun h => absurd rfl h, (am la).1⟩
    · exact ⟨fun _ => ⟨ab, m12⟩, (am la).2.1⟩
    · exact ⟨fun _ => ⟨ac, m13⟩, (am la).2.2⟩
    · exact ⟨fun _ => ⟨ab.symm, m12.symm⟩, (am lb).1⟩
    · exact ⟨fun h => absurd rfl h, (am lb).2.1⟩
    · exact ⟨fun _ => ⟨bc, m23⟩, (am lb).2.2⟩
    · exact ⟨fun _ => ⟨ac.symm, m13.symm⟩, (am lc).1⟩
    · exact ⟨fun _ => ⟨bc.symm, m23.symm⟩, (am lc).2.1⟩
    · exact ⟨fun h => absurd rfl h, (am lc).2.2⟩
  have hXa : ∀ e ∈ ([] ++ [⟨vS a1 r.1 c1, m1, r.1.picks⟩] ++ [⟨vS a2 q.1 c2, m2, q.1.picks⟩] ++ [⟨vS a3 r.1 c3, m3, r.1.picks⟩] : List Ent), Apart e.x (vS a4 r.1 c4) ∧ Apart e.y (vS a4 r.1 c4) := by
    intro e he
    simp only [List.nil_append, List.cons_append, List.mem_cons, List.not_mem_nil, or_false] at he
    rcases he with rfl | rfl | rfl
    · exact ⟨ax, ((am lx).1).symm⟩
    · exact ⟨bx, ((am lx).2.1).symm⟩
    · exact ⟨cx, ((am lx).2.2).symm⟩
  refine ⟨rfl, ⟨?_⟩⟩
  refine (spoil_any ⟨39, 3, vS a4 r.1 c4, r.1.picks.length, pkC r.1.picks⟩ rfl hb hb 3 vo3 vw3 _ z3 hB3 rx3 hXa hal (by simp) (by omega) (fun e he => by
    simp only [List.nil_append, List.cons_append, List.mem_cons, List.not_mem_nil, or_false] at he
    rcases he with rfl | rfl | rfl
    · show r.1.picks.length ≤ _; omega
    · show q.1.picks.length ≤ _; omega
    · show r.1.picks.length ≤ _; omega)).mono ?_
  rintro e z4 ⟨rfl, hSp, rx4⟩
  have v16 := hSp.rows _ u16 (eS _ _ _) (eS2 _ _ _) (eS3 _ _ _)
  have hw4 : Below Hw w z4 := hw3.trans (hSp.old.mono h.hw)
  have px4 : PkO z4 hb (vS a4 r.1 c4) r.1.picks := rx4.own
  refine ⟨rfl, ⟨?_⟩⟩
  refine (HPD z4 hw4).mono ?_
  rintro e w6 ⟨a, cp, rfl, hd⟩
  obtain ⟨hb6, pd⟩ := hd.out
  refine ⟨a, cp, rfl, ⟨?_, ?_⟩⟩
  · exact below_heap (below1 w6 _) (below_heap hb6 (box_of v16))
  · have pd7 := pd.keep (below1 w6 (scB r.1.lim r.1.reap (vS a r.1 cp)))
    have px7 := (px4.keep hb6).keep (below1 w6 (scB r.1.lim r.1.reap (vS a r.1 cp)))
    have hz4 := hw4.size
    have hz6 := hb6.size
    have hw7 : Below Hw w (w6.alloc (scB r.1.lim r.1.reap (vS a r.1 cp))) := hw4.trans ((hb6.trans ((below1 w6 _).mono hz6)).mono (by omega))
    exact (same_pk pd7 px7 (B := Hw) (w := w) (by have := hw7.size; omega) hw7).mono fun e y hh => ⟨hh.1, ⟨HQ _ hh.2.out⟩⟩
end Go.Proofs.YtecpknpcjoiliabDoor
