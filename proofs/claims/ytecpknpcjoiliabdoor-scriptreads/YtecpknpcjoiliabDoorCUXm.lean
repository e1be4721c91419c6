import Derived.Test.YtecpknpcjoiliabDoorCUXj
import Derived.Laws.OwnMore
import Derived.Test.YtecpknpcjoiliabDoorCUXl
namespace Go.Proofs.YtecpknpcjoiliabDoor
open Go.RowKit Go.Shelf
set_option linter.unusedVariables false
set_option linter.unusedSimpArgs false

/-- what line tells of a pick -/
def RLpA (w : World) (B : Nat) (m : Lm) (b : Bool) (pv : Value) (ps : List Pk) (a : List UInt8) (r : List (List UInt8)) (e : Ending) (w' : World) : Prop :=
  match pickW ps.length a r with
  | .no c => (∃ m' b' a' n' c', e = .returned (.tuple #[scV m' b' (.slice a' n' c'), .int .i64 c])) ∧ Bx (w.grownBy w' pv.ownBlock)
  | .yes p => ∃ a' c', e = .returned (.tuple #[scV m b (.slice a' (ps ++ [p]).length c'), .int .i64 0]) ∧ Bx (PkO w' B (.slice a' (ps ++ [p]).length c') (ps ++ [p]) ∧ w.grownBy w' pv.ownBlock)
theorem grown_low {w w' : World} {B : Nat} {r : Option Nat} (h : Below B w w') (hB : w.heap.size ≤ B) : w.grownBy w' r := ⟨h.os, h.tape, h.output, h.size, fun k hk _ => h.block k (by omega)⟩
theorem grown_tr {a b c : World} {r : Option Nat} (h : a.grownBy b r) (g : b.grownBy c r) : a.grownBy c r :=
  ⟨g.os.trans h.os, g.tape.trans h.tape, g.output.trans h.output, Nat.le_trans h.size g.size, fun k hk hne => by rw [g.block k (Nat.lt_of_lt_of_le hk h.size) hne]; exact h.block k hk hne⟩
theorem grown_set {w : World} {W : World} {r : Option Nat} (h : w.grownBy W r) {g i : Nat} (hg : w.heap.size ≤ g) (v : Value) : w.grownBy (W.setCell ⟨g, i, none⟩ v) r :=
  ⟨h.os, h.tape, h.output, by simpa using h.size, fun k hk hne => by rw [Below.heap_setCell W ⟨g, i, none⟩ v k (by show k ≠ g; omega)]; exact h.block k hk hne⟩
theorem set9_own {W : World} {B s n bk : Nat} {e : TypeId} {v : Value} {cs : List Value} (h : W.ownsRow B e s v n cs) (hne : v.ownBlock ≠ some bk) (x0 x1 x2 x3 x4 x5 x6 x7 x8 : Value) : (set9 W bk x0 x1 x2 x3 x4 x5 x6 x7 x8).ownsRow B e s v n cs :=
  ownsRow_setCell_other (a := ⟨bk, 8, none⟩) (ownsRow_setCell_other (a := ⟨bk, 7, none⟩) (ownsRow_setCell_other (a := ⟨bk, 6, none⟩) (ownsRow_setCell_other (a := ⟨bk, 5, none⟩) (ownsRow_setCell_other (a := ⟨bk, 4, none⟩) (ownsRow_setCell_other (a := ⟨bk, 3, none⟩) (ownsRow_setCell_other (a := ⟨bk, 2, none⟩) (ownsRow_setCell_other (a := ⟨bk, 1, none⟩) (ownsRow_setCell_other (a := ⟨bk, 0, none⟩) h hne _) hne _) hne _) hne _) hne _) hne _) hne _) hne _) hne _
theorem set9_grown {w W : World} {r : Option Nat} (h : w.grownBy W r) {bk : Nat} (hg : w.heap.size ≤ bk) (x0 x1 x2 x3 x4 x5 x6 x7 x8 : Value) : w.grownBy (set9 W bk x0 x1 x2 x3 x4 x5 x6 x7 x8) r :=
  grown_set (grown_set (grown_set (grown_set (grown_set (grown_set (grown_set (grown_set (grown_set h hg _) hg _) hg _) hg _) hg _) hg _) hg _) hg _) hg _
set_option maxRecDepth 100000 in
set_option maxHeartbeats 4000000 in
theorem rline_core (w : World) (B g cap i : Nat) (m : Lm) (b : Bool) (pa : Option Addr) (np pc : Nat) (ps : List Pk) (a : List UInt8) (r : List (List UInt8)) (hw : Wds w g cap a r) (hrl : r.length ≤ 1099511627776) (hp : PkO w B (.slice pa np pc) ps) (hn : ps.length ≤ 4096) (hB : B ≤ w.heap.size) (hi : 2 ≤ i) (p : Pk) (c : Int)
    (HP : ∀ W, Below w.heap.size w W → Calls Tryd.prog 26 #[.slice (some ⟨g, 0, none⟩) (r.length + 1) cap, .int .i64 (ps.length : Int)] W fun e w' => e = .returned (.tuple #[.agg #[.int .i64 p.kind, .int .i64 p.n, .int .i64 p.v], .int .i64 c]) ∧ Bx (Below W.heap.size W w')) :
    Calls Tryd.prog 14 #[scV m b (.slice pa np pc), .int .i64 (i : Int), .slice (some ⟨g, 0, none⟩) (r.length + 1) cap] w fun e w' => ∃ a' c', e = .returned (.tuple #[scV m b (.slice a' (ps ++ [p]).length c'), .int .i64 c]) ∧ Bx (PkO w' B (.slice a' (ps ++ [p]).length c') (ps ++ [p]) ∧ w.grownBy w' (Value.slice pa np pc).ownBlock) := by
  obtain ⟨Q, hQ⟩ : ∃ Q : Ending → World → Prop, Q = fun e w' => ∃ a' c', e = .returned (.tuple #[scV m b (.slice a' (ps ++ [p]).length c'), .int .i64 c]) ∧ Bx (PkO w' B (.slice a' (ps ++ [p]).length c') (ps ++ [p]) ∧ w.grownBy w' (Value.slice pa np pc).ownBlock) := ⟨_, rfl⟩
  rw [← hQ]
  have HQ : Bx (∀ w' a' c', PkO w' B (.slice a' (ps ++ [p]).length c') (ps ++ [p]) → w.grownBy w' (Value.slice pa np pc).ownBlock → Q (.returned (.tuple #[scV m b (.slice a' (ps ++ [p]).length c'), .int .i64 c])) w') := ⟨fun w' a' c' h1 h2 => by rw [hQ]; exact ⟨a', c', rfl, ⟨h1, h2⟩⟩⟩
  clear hQ
  obtain ⟨H, hH⟩ : ∃ H, w.heap.size = H := ⟨_, rfl⟩
  have hnp : np = ps.length := by
    rcases hp.own.2 with ⟨q, q2⟩ | ⟨g, cap, cur, q, _⟩
    · simp only [Value.slice.injEq] at q
      omega
    · simp only [Value.slice.injEq] at q
      exact q.2.1
  subst hnp
  obtain ⟨W0, hW0⟩ : ∃ X, X = (w.alloc (.cells #[.int .i64 m.a, .int .i64 m.b, .int .i64 m.c, .int .i64 m.d, .int .i64 m.e, .int .i64 m.f, .int .i64 m.g, .bool b, .slice pa ps.length pc] 31)).alloc (.cells #[.int .i64 0, .int .i64 0, .int .i64 0, .int .i64 0, .int .i64 0, .int .i64 0, .int .i64 0, .bool false, .slice none 0 0] 31) := ⟨_, rfl⟩
  have hb0 : Below w.heap.size w W0 := by rw [hW0]; exact two_below w _ _
  have hs0 : W0.heap.size = H + 2 := by rw [hW0]; simp; omega
  have h0a : W0.heap[H]? = some (.cells #[.int .i64 m.a, .int .i64 m.b, .int .i64 m.c, .int .i64 m.d, .int .i64 m.e, .int .i64 m.f, .int .i64 m.g, .bool b, .slice pa ps.length pc] 31) := by
    rw [hW0, Below.heap_alloc _ _ H (by simp; omega), ← hH]
    exact heap_alloc_new w _
  have h0b : W0.heap[H + 1]? = some (.cells #[.int .i64 0, .int .i64 0, .int .i64 0, .int .i64 0, .int .i64 0, .int .i64 0, .int .i64 0, .bool false, .slice none 0 0] 31) := by
    rw [hW0]
    have := heap_alloc_new (w.alloc (.cells #[.int .i64 m.a, .int .i64 m.b, .int .i64 m.c, .int .i64 m.d, .int .i64 m.e, .int .i64 m.f, .int .i64 m.g, .bool b, .slice pa ps.length pc] 31)) (.cells #[.int .i64 0, .int .i64 0, .int .i64 0, .int .i64 0, .int .i64 0, .int .i64 0, .int .i64 0, .bool false, .slice none 0 0] 31)
    simpa [hH] using this
  obtain ⟨i0, hi0, hz0, hz1, hz2⟩ := info_parts infoPk
  have HC : Bx (∀ X, Below W0.heap.size W0 X → ∃ g' c' W3, (∀ ty, (Builtin.append_ #[29, 29] ty #[.slice pa ps.length pc, .slice (some ⟨X.heap.size + 1, 0, none⟩) 1 1]).run Tryd.prog ((X.alloc (.cells #[.int .i64 p.kind, .int .i64 p.n, .int .i64 p.v] 39)).alloc (.cells #[.int .i64 p.kind, .int .i64 p.n, .int .i64 p.v] 39)) = .ok (.slice (some ⟨g', 0, none⟩) (ps.length + 1) c') W3) ∧ Bx (g' ≠ H ∧ g' ≠ H + 1 ∧ W3.heap[H]? = some (.cells #[.int .i64 m.a, .int .i64 m.b, .int .i64 m.c, .int .i64 m.d, .int .i64 m.e, .int .i64 m.f, .int .i64 m.g, .bool b, .slice pa ps.length pc] 31) ∧ W3.heap[H + 1]? = some (.cells #[.int .i64 0, .int .i64 0, .int .i64 0, .int .i64 0, .int .i64 0, .int .i64 0, .int .i64 0, .bool false, .slice none 0 0] 31) ∧ PkO W3 B (.slice (some ⟨g', 0, none⟩) (ps.length + 1) c') (ps ++ [p]) ∧ w.grownBy W3 (Value.slice pa ps.length pc).ownBlock ∧ (X.alloc (.cells #[.int .i64 p.kind, .int .i64 p.n, .int .i64 p.v] 39)).cell? ⟨X.heap.size, 0, none⟩ = some (.int .i64 p.kind) ∧ (X.alloc (.cells #[.int .i64 p.kind, .int .i64 p.n, .int .i64 p.v] 39)).cell? ⟨X.heap.size, 1, none⟩ = some (.int .i64 p.n) ∧ (X.alloc (.cells #[.int .i64 p.kind, .int .i64 p.n, .int .i64 p.v] 39)).cell? ⟨X.heap.size, 2, none⟩ = some (.int .i64 p.v) ∧ (X.alloc (.cells #[.int .i64 p.kind, .int .i64 p.n, .int .i64 p.v] 39)).heap[H]? = some (.cells #[.int .i64 m.a, .int .i64 m.b, .int .i64 m.c, .int .i64 m.d, .int .i64 m.e, .int .i64 m.f, .int .i64 m.g, .bool b, .slice pa ps.length pc] 31))) := ⟨fun X hX => by
    have hsX := hX.size
    obtain ⟨Y, hY⟩ : ∃ Y, Y = X.alloc (.cells #[.int .i64 p.kind, .int .i64 p.n, .int .i64 p.v] 39) := ⟨_, rfl⟩
    have hXY : Below X.heap.size X Y := by rw [hY]; exact below1 _ _
    have h0Y : Below W0.heap.size W0 Y := hX.trans (hXY.mono hsX)
    have hwY : Below w.heap.size w Y := hb0.trans (h0Y.mono (by omega))
    have hsY : Y.heap.size = X.heap.size + 1 := by rw [hY]; simp
    have hpY : PkO Y B (.slice pa ps.length pc) ps := owns_same hp fun q _ hq => hwY.block q hq
    obtain ⟨g', c', W3, r1, r2, r3⟩ := app1 Tryd.underlying29 hi0 hz0 hz1 hz2 rfl (by decide) Y B _ ps.length _ hpY.own #[.int .i64 p.kind, .int .i64 p.n, .int .i64 p.v] rfl (by simp [Value.oneCell']) (by unfold maxLen; omega) (by omega) (by have := hwY.size; omega)
    have hnew : Y.heap[X.heap.size]? = some (.cells #[.int .i64 p.kind, .int .i64 p.n, .int .i64 p.v] 39) := by rw [hY]; exact heap_alloc_new X _
    have hwg : w.grownBy Y (Value.slice pa ps.length pc).ownBlock := grown_low hwY (Nat.le_refl _)
    have hob : ∀ k, (Value.slice pa ps.length pc).ownBlock = some k → k < H := fun k hk => by have := (owns_block hp.own hk).2; omega
    have hYa : Y.heap[H]? = _ := (h0Y.block H (by omega)).trans h0a
    have hYb : Y.heap[H + 1]? = _ := (h0Y.block (H + 1) (by omega)).trans h0b
    have h3a : W3.heap[H]? = _ := (r3.block H (heap_lt hYa) (fun e => by have := hob H e.symm; omega)).trans hYa
    have h3b : W3.heap[H + 1]? = _ := (r3.block (H + 1) (heap_lt hYb) (fun e => by have := hob (H + 1) e.symm; omega)).trans hYb
    rw [← hY, ← hsY]
    have hk : ∀ y C, W3.heap[y]? = some (.cells C 31) → g' ≠ y := fun y C hy e => by
      rcases r2.2 with ⟨q, _⟩ | ⟨g2, cap2, cur2, q, _, q2, _⟩
      · cases q
      · simp only [Value.slice.injEq, Option.some.injEq, Addr.mk.injEq] at q
        obtain ⟨⟨q3, _⟩, _⟩ := q
        rw [← q3, e, hy] at q2
        injection q2 with q2
        injection q2 with _ q2
        exact absurd q2 (by decide)
    refine ⟨g', c', W3, r1, ⟨hk H _ h3a, hk (H + 1) _ h3b, h3a, h3b, ?_, grown_tr hwg r3, cell_blk hnew rfl, cell_blk hnew rfl, cell_blk hnew rfl, hYa⟩⟩
    show W3.ownsRow B 39 3 _ (ps ++ [p]).length (pkC (ps ++ [p]))
    rw [List.length_append, pkC_snoc]
    exact r2⟩
  have HPK : Bx (Calls Tryd.prog 26 #[.slice (some ⟨g, 0, none⟩) (r.length + 1) cap, .int .i64 (ps.length : Int)] W0 fun e w' => e = .returned (.tuple #[.agg #[.int .i64 p.kind, .int .i64 p.n, .int .i64 p.v], .int .i64 c]) ∧ Bx (Below W0.heap.size W0 w')) := ⟨HP W0 hb0⟩
  subst hW0
  clear hp hw hb0 hs0 h0a h0b HP hi0 hz0 hz1 hz2
  have hi0 : ((i : Int) == 0) = false := by simp; omega
  have hi1 : ((i : Int) == 1) = false := by simp; omega
  have hi2 : ¬ (i : Int) = 0 := by omega
  have hi3 : ¬ (i : Int) = 1 := by omega
  go_enter Tryd.func14, Tryd.ntmps14
  go_wp2_with (first
    | (go_at_call 26; refine HPK.out.mono ?_; rintro e X ⟨rfl, HBX⟩
       obtain ⟨g', c', W3, r1, HD⟩ := HC.out X HBX.out
       obtain ⟨n1, n2, h3a, h3b, hP3, hG3, k0, k1, k2, hYa⟩ := HD.out
       obtain ⟨y0, y1, y2, y3, y4, y5, y6, y7, y8⟩ := cells9 hYa
       have x8 := (cells9 h3a).2.2.2.2.2.2.2.2
       have z8 := (frz9 h3a).2.2.2.2.2.2.2.2
       have hW3 := heap_lt h3b
       obtain ⟨W4, hW4⟩ : ∃ W4, W3.setCell ⟨H, 8, none⟩ (.slice (some ⟨g', 0, none⟩) (ps.length + 1) c') = W4 := ⟨_, rfl⟩
       have h4a : W4.heap[H]? = some (.cells #[.int .i64 m.a, .int .i64 m.b, .int .i64 m.c, .int .i64 m.d, .int .i64 m.e, .int .i64 m.f, .int .i64 m.g, .bool b, .slice (some ⟨g', 0, none⟩) (ps.length + 1) c'] 31) := (by
         rw [← hW4]
         have := Lib.heap_setCell_same (i := 8) h3a (.slice (some ⟨g', 0, none⟩) (ps.length + 1) c')
         simpa using this)
       have h4b : W4.heap[H + 1]? = some (.cells #[.int .i64 0, .int .i64 0, .int .i64 0, .int .i64 0, .int .i64 0, .int .i64 0, .int .i64 0, .bool false, .slice none 0 0] 31) := (by
         rw [← hW4, Below.heap_setCell W3 ⟨H, 8, none⟩ _ (H + 1) (by show H + 1 ≠ H; omega)]
         exact h3b)
       have hP4 : W4.ownsRow B 39 3 (.slice (some ⟨g', 0, none⟩) (ps.length + 1) c') (ps ++ [p]).length (pkC (ps ++ [p])) := (by rw [← hW4]; exact ownsRow_setCell_other (a := ⟨H, 8, none⟩) hP3.own (by show (some g' : Option Nat) ≠ some H; simpa using n1) _)
       have hG4 : w.grownBy W4 (Value.slice pa ps.length pc).ownBlock := (by rw [← hW4]; exact grown_set hG3 (by omega) _)
       have HE4 : Bx _ := ⟨And.intro hP4 hG4⟩
       obtain ⟨c0, c1, c2, c3, c4, c5, c6, c7, c8⟩ := cells9 h4a
       obtain ⟨d0, d1, d2, d3, d4, d5, d6, d7, d8⟩ := cells9 h4b
       obtain ⟨f0, f1, f2, f3, f4, f5, f6, f7, f8⟩ := frz9 h4b
       have hW44 := heap_lt h4b
       clear h4a h4b hP4 hG4 h3a h3b hP3 hG3 hYa HD)
    | (at_builtin; refine wpList_appI rfl (.tmp 84) (.tmp 86) 29 rfl rfl rfl r1 ?_))
  have hl : (ps ++ [p]).length = ps.length + 1 := by simp
  refine bodyPost_ret (v := .tuple #[scV m b (.slice (some ⟨g', 0, none⟩) (ps.length + 1) c'), .int .i64 c]) (by simp [results, Tryd.results14, go_sem, d0, d1, d2, d3, d4, d5, d6, d7, d8]) rfl ?_
  rw [hl] at HQ
  refine HQ.out _ _ _ ?_ ?_
  · have hne : (Value.slice (some ⟨g', 0, none⟩) (ps.length + 1) c').ownBlock ≠ some (H + 1) := by show (some g' : Option Nat) ≠ some (H + 1); simpa using n2
    exact set9_own HE4.out.1 hne _ _ _ _ _ _ _ _ _
  · exact set9_grown HE4.out.2 (by omega) _ _ _ _ _ _ _ _ _
end Go.Proofs.YtecpknpcjoiliabDoor
namespace Go.Proofs.YtecpknpcjoiliabDoor
open Go.RowKit Go.Shelf
set_option linter.unusedVariables false
set_option linter.unusedSimpArgs false

/-- a line, the i-th -/
def stepS (i : Nat) (s : Sc) (l : List UInt8) : Got Sc Int :=
  if i = 0 then match limL l with
    | .no c => .no c
    | .yes m => .yes ⟨m, s.reap, s.picks⟩
  else if i = 1 then match reapL l with
    | .no c => .no c
    | .yes b => .yes ⟨s.lim, b, s.picks⟩
  else match pickL s.picks.length l with
    | .no c => .no c
    | .yes p => .yes ⟨s.lim, s.reap, s.picks ++ [p]⟩
/-- the lines, one behind the other; the last one is not ended -/
def goS : List UInt8 → List (List UInt8) → Nat → Sc → Got Sc (Nat × Int)
  | l, [], i, s => if l = [] ∧ 2 ≤ i then .yes s else .no (i + 1, 170)
  | l, m :: r, i, s => match stepS i s l with
    | .no c => .no (i + 1, c)
    | .yes s' => goS m r (i + 1) s'
theorem goS_picks (m : Lm) (b : Bool) : ∀ (r : List (List UInt8)) (l : List UInt8) (ps : List Pk) (i : Nat), 2 ≤ i → goS l r i ⟨m, b, ps⟩ = (match readP l r ps (i + 1) with
    | .no e => .no e
    | .yes l => .yes ⟨m, b, l⟩)
  | [], l, ps, i, hi => by
    rw [goS, readP]
    by_cases h : l = []
    · rw [if_pos ⟨h, hi⟩, if_pos h]
    · rw [if_neg (fun e => h e.1), if_neg h]
  | x :: r, l, ps, i, hi => by
    rw [goS, readP]
    unfold stepS
    rw [if_neg (by omega), if_neg (by omega)]
    cases pickL ps.length l with
    | no c => rfl
    | yes p => exact goS_picks m b r x (ps ++ [p]) (i + 1) (by omega)
theorem readS_go (t : List UInt8) : readS t = goS (pieces 10 t).1 (pieces 10 t).2 0 ⟨zrM, false, []⟩ := by
  unfold readS
  by_cases h : (10 : UInt8) ∈ t
  · rw [if_pos h]
    obtain ⟨a, r, rfl, ha⟩ := cut_ten h
    rw [pieces_app ha]
    simp only [goS, stepS, if_true]
    cases limL a with
    | no c => rfl
    | yes m =>
      simp only []
      have hd : (a ++ 10 :: r).drop (a.length + 1) = r := by simp [List.drop_append]
      rw [hd]
      unfold rdR
      by_cases h2 : (10 : UInt8) ∈ r
      · rw [if_pos h2]
        obtain ⟨a2, r2, rfl, ha2⟩ := cut_ten h2
        rw [pieces_app ha2]
        simp only [goS, stepS, show ¬ (0 + 1 = 0) by omega, if_false, Nat.zero_add, if_true, Nat.one_ne_zero]
        cases reapL a2 with
        | no c => rfl
        | yes b =>
          simp only []
          have hd2 : (a2 ++ 10 :: r2).drop (a2.length + 1) = r2 := by simp [List.drop_append]
          rw [hd2, goS_picks m b _ _ _ 2 (by omega)]
          rfl
      · rw [if_neg h2, pieces_none h2]
        simp only [goS]
        rw [if_neg (by omega)]
  · rw [if_neg h, pieces_none h]
    simp only [goS]
    rw [if_neg (by omega)]
theorem nums_len : ∀ {ws : List (List UInt8)} {l : List Int}, numsOf ws = some l → l.length = ws.length
  | [], l, h => by simp [numsOf] at h; subst h; rfl
  | t :: r, l, h => by
    rw [numsOf] at h
    cases hq : numOf t with
    | none => rw [hq] at h; cases h
    | some x =>
      rw [hq] at h
      cases hr : numsOf r with
      | none => rw [hr] at h; cases h
      | some l2 =>
        rw [hr] at h
        simp only [Option.map_some, Option.some.injEq] at h
        subst h
        simp [nums_len hr]
theorem lm_seven {ws : List (List UInt8)} {l : List Int} (h : numsP 7 ws = some l) : l = lmL (lmOf l) := by
  unfold numsP at h
  split at h
  · rename_i h7
    have := nums_len h
    match l, (by omega : l.length = 7) with
    | [a, b, c, d, e, f, g], _ => rfl
  · cases h
/-- what line tells -/
def RLA (w : World) (B i : Nat) (s : Sc) (pv : Value) (l : List UInt8) (e : Ending) (w' : World) : Prop :=
  match stepS i s l with
  | .no c => c ≠ 0 ∧ (∃ m' b' a' n' c', e = .returned (.tuple #[scV m' b' (.slice a' n' c'), .int .i64 c])) ∧ Bx (w.grownBy w' pv.ownBlock)
  | .yes s' => ∃ a' n' c', e = .returned (.tuple #[scV s'.lim s'.reap (.slice a' n' c'), .int .i64 0]) ∧ Bx (PkO w' B (.slice a' n' c') s'.picks ∧ w.grownBy w' pv.ownBlock)
theorem rline_any (w : World) (B g cap i : Nat) (s : Sc) (pa : Option Addr) (np pc : Nat) (l : List UInt8) (hw : Wds w g cap (pieces 32 l).1 (pieces 32 l).2) (hl : l.length ≤ 1099511627776) (hp : PkO w B (.slice pa np pc) s.picks) (hn : s.picks.length ≤ 4096) (hB : B ≤ w.heap.size) :
    Calls Tryd.prog 14 #[scV s.lim s.reap (.slice pa np pc), .int .i64 (i : Int), .slice (some ⟨g, 0, none⟩) ((pieces 32 l).2.length + 1) cap] w (RLA w B i s (.slice pa np pc) l) := by
  have hrl : (pieces 32 l).2.length ≤ 1099511627776 := Nat.le_trans (pieces_len 32 l) hl
  have hrp : ∀ p ∈ (pieces 32 l).2, p.length ≤ 1099511627776 := fun p hp => Nat.le_trans ((piece_le 32 l).2 p hp) hl
  unfold RLA stepS
  by_cases h0 : i = 0
  · subst h0
    rw [if_pos rfl, limL_words]
    have hc : Calls Tryd.prog 14 #[scV s.lim s.reap (.slice pa np pc), .int .i64 0, .slice (some ⟨g, 0, none⟩) ((pieces 32 l).2.length + 1) cap] w (RLmA w s.lim s.reap (.slice pa np pc) (pieces 32 l).1 (pieces 32 l).2) := by
      by_cases h1 : (pieces 32 l).1 = limitsW
      · rw [h1] at hw ⊢
        cases hq : numsP 7 (pieces 32 l).2 with
        | none => exact rline_field w g cap _ _ _ _ hw hrl hrp ⟨_, _, _, rfl⟩ hq
        | some q => exact rline_lim w g cap _ _ _ _ hw hrl hrp ⟨_, _, _, rfl⟩ (lmOf q) (by rw [← lm_seven hq]; exact hq)
      · exact rline_word w g cap _ _ _ _ _ hw hrl ⟨_, _, _, rfl⟩ h1
    refine hc.mono fun e w' h => ?_
    unfold RLmA at h
    cases hq : limW (pieces 32 l).1 (pieces 32 l).2 with
    | no c =>
      rw [hq] at h
      refine ⟨?_, h.1, ⟨grown_low h.2.out (Nat.le_refl _)⟩⟩
      unfold limW at hq
      split at hq
      · split at hq
        · injection hq with hq; rw [← hq]; decide
        · cases hq
      · injection hq with hq; rw [← hq]; decide
    | yes k =>
      rw [hq] at h
      exact ⟨pa, np, pc, h.1, ⟨owns_same hp fun q _ hq => h.2.out.block q hq, grown_low h.2.out (Nat.le_refl _)⟩⟩
  · rw [if_neg h0]
    by_cases h1 : i = 1
    · subst h1
      rw [if_pos rfl, reapL_words]
      refine (rline_reap w g cap s.lim s.reap (.slice pa np pc) _ _ hw hrl ⟨_, _, _, rfl⟩).mono fun e w' h => ?_
      unfold RReA at h
      cases hq : reapW2 (pieces 32 l).1 (pieces 32 l).2 with
      | no c =>
        rw [hq] at h
        refine ⟨?_, h.1, ⟨grown_low h.2.out (Nat.le_refl _)⟩⟩
        unfold reapW2 at hq
        split at hq
        · split at hq
          · injection hq with hq; rw [← hq]; decide
          · cases hq
        · injection hq with hq; rw [← hq]; decide
      | yes k =>
        rw [hq] at h
        exact ⟨pa, np, pc, h.1, ⟨owns_same hp fun q _ hq => h.2.out.block q hq, grown_low h.2.out (Nat.le_refl _)⟩⟩
    · rw [if_neg h1]
      have e : pickL s.picks.length l = pickW s.picks.length (pieces 32 l).1 (pieces 32 l).2 := rfl
      rw [e]
      have hpk := fun W (hb : Below w.heap.size w W) => rpick_any W g cap s.picks.length (pieces 32 l).1 (pieces 32 l).2 (hw.below hw.lt hb) hrl hrp hn
      unfold RPkA at hpk
      cases hq : pickW s.picks.length (pieces 32 l).1 (pieces 32 l).2 with
      | no c =>
        rw [hq] at hpk
        refine (rline_core w B g cap i s.lim s.reap pa np pc s.picks _ _ hw hrl hp hn hB (by omega) ⟨0, 0, 0⟩ c hpk).mono fun e w' ⟨a', c', h1, h2⟩ => ?_
        refine ⟨?_, ⟨_, _, _, _, _, h1⟩, ⟨h2.out.2⟩⟩
        unfold pickW at hq
        split at hq
        · injection hq with hq; rw [← hq]; decide
        · split at hq
          · injection hq with hq; rw [← hq]; decide
          · split at hq
            · injection hq with hq; rw [← hq]; decide
            · cases hq
      | yes p =>
        rw [hq] at hpk
        refine (rline_core w B g cap i s.lim s.reap pa np pc s.picks _ _ hw hrl hp hn hB (by omega) p 0 hpk).mono fun e w' ⟨a', c', h1, h2⟩ => ?_
        exact ⟨a', _, c', h1, ⟨h2.out.1, h2.out.2⟩⟩
end Go.Proofs.YtecpknpcjoiliabDoor
