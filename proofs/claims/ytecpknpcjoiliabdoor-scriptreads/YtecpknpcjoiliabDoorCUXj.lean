import Derived.Test.YtecpknpcjoiliabDoorCUXg
namespace Go.Proofs.YtecpknpcjoiliabDoor
open Go.RowKit Go.Shelf
set_option linter.unusedVariables false
set_option linter.unusedSimpArgs false

/-- the second line by its words -/
def reapW2 (a : List UInt8) (r : List (List UInt8)) : Got Bool Int :=
  if a = keepW ∨ a = reapW then
    match numsP 0 r with
    | none => .no 171
    | some _ => .yes (decide (a = reapW))
  else .no 170
theorem reapL_words (line : List UInt8) : reapL line = reapW2 (pieces 32 line).1 (pieces 32 line).2 := rfl
def RReA (w : World) (m : Lm) (b : Bool) (pv : Value) (a : List UInt8) (r : List (List UInt8)) (e : Ending) (w' : World) : Prop :=
  match reapW2 a r with
  | .no c => (∃ m' b' a' n' c', e = .returned (.tuple #[scV m' b' (.slice a' n' c'), .int .i64 c])) ∧ Bx (Below w.heap.size w w')
  | .yes d => e = .returned (.tuple #[scV m d pv, .int .i64 0]) ∧ Bx (Below w.heap.size w w')
theorem two_below (w : World) (o p : Obj) : Below w.heap.size w ((w.alloc o).alloc p) := (below1 w o).trans ((below1 (w.alloc o) p).mono (below1 w o).size)
set_option maxRecDepth 100000 in
set_option maxHeartbeats 4000000 in
theorem rline_reap (w : World) (g cap : Nat) (m : Lm) (b : Bool) (pv : Value) (a : List UInt8) (r : List (List UInt8)) (hw : Wds w g cap a r) (hrl : r.length ≤ 1099511627776) (hpv : ∃ pa n pc, pv = .slice pa n pc) :
    Calls Tryd.prog 14 #[scV m b pv, .int .i64 1, .slice (some ⟨g, 0, none⟩) (r.length + 1) cap] w (RReA w m b pv a r) := by
  obtain ⟨pa, np, pc, rfl⟩ := hpv
  obtain ⟨Q, hQ⟩ : ∃ Q, Q = RReA w m b (.slice pa np pc) a r := ⟨_, rfl⟩
  have HQ : Bx (∀ e w', RReA w m b (.slice pa np pc) a r e w' → Q e w') := ⟨fun e w' h => by rw [hQ]; exact h⟩
  rw [← hQ]
  clear hQ
  have hf1 := hw.first
  have hgl := hw.lt
  by_cases h1 : a = keepW
  · subst h1
    by_cases hr : r = []
    · subst hr
      have HN : Bx (reapW2 keepW [] = .yes false) := ⟨rfl⟩
      clear hw
      unfold keepW at hf1
      go_enter Tryd.func14, Tryd.ntmps14
      go_wp2
      refine bodyPost_ret (v := .tuple #[scV m false (.slice pa np pc), .int .i64 0]) (by simp [results, Tryd.results14, go_sem]) rfl ?_
      refine HQ.out _ _ ?_
      unfold RReA
      rw [HN.out]
      exact ⟨rfl, ⟨two_below w _ _⟩⟩
    · have hr0 : 0 < r.length := List.length_pos_iff.2 hr
      have hrI : (1 : Int) < (r.length : Int) + 1 := by omega
      have HN : Bx (reapW2 keepW r = .no 171) := ⟨by unfold reapW2 numsP; rw [if_pos (Or.inl rfl), if_neg (by omega)]⟩
      clear hw
      unfold keepW at hf1
      go_enter Tryd.func14, Tryd.ntmps14
      go_wp2
      refine bodyPost_ret (v := .tuple #[scV m b (.slice pa np pc), .int .i64 171]) (by simp [results, Tryd.results14, go_sem]) rfl ?_
      refine HQ.out _ _ ?_
      unfold RReA
      rw [HN.out]
      exact ⟨⟨m, b, pa, np, pc, rfl⟩, ⟨two_below w _ _⟩⟩
  · by_cases h2 : a = reapW
    · subst h2
      by_cases hr : r = []
      · subst hr
        have HN : Bx (reapW2 reapW [] = .yes true) := ⟨rfl⟩
        clear hw
        unfold reapW at hf1
        go_enter Tryd.func14, Tryd.ntmps14
        go_wp2
        refine bodyPost_ret (v := .tuple #[scV m true (.slice pa np pc), .int .i64 0]) (by simp [results, Tryd.results14, go_sem]) rfl ?_
        refine HQ.out _ _ ?_
        unfold RReA
        rw [HN.out]
        exact ⟨rfl, ⟨two_below w _ _⟩⟩
      · have hr0 : 0 < r.length := List.length_pos_iff.2 hr
        have hrI : (1 : Int) < (r.length : Int) + 1 := by omega
        have HN : Bx (reapW2 reapW r = .no 171) := ⟨by unfold reapW2 numsP; rw [if_pos (Or.inr rfl), if_neg (by omega)]⟩
        clear hw
        unfold reapW at hf1
        go_enter Tryd.func14, Tryd.ntmps14
        go_wp2
        refine bodyPost_ret (v := .tuple #[scV m b (.slice pa np pc), .int .i64 171]) (by simp [results, Tryd.results14, go_sem]) rfl ?_
        refine HQ.out _ _ ?_
        unfold RReA
        rw [HN.out]
        exact ⟨⟨m, b, pa, np, pc, rfl⟩, ⟨two_below w _ _⟩⟩
    · have g1 : (a == [107, 101, 101, 112]) = false := by simp; exact h1
      have g2 : (a == [114, 101, 97, 112]) = false := by simp; exact h2
      have HN : Bx (reapW2 a r = .no 170) := ⟨by unfold reapW2; rw [if_neg (by rintro (h | h) <;> contradiction)]⟩
      clear h1 h2 hw
      go_enter Tryd.func14, Tryd.ntmps14
      go_wp2
      refine bodyPost_ret (v := .tuple #[scV m b (.slice pa np pc), .int .i64 170]) (by simp [results, Tryd.results14, go_sem]) rfl ?_
      refine HQ.out _ _ ?_
      unfold RReA
      rw [HN.out]
      exact ⟨⟨m, b, pa, np, pc, rfl⟩, ⟨two_below w _ _⟩⟩
end Go.Proofs.YtecpknpcjoiliabDoor
namespace Go.Proofs.YtecpknpcjoiliabDoor
open Go.RowKit Go.Shelf
set_option linter.unusedVariables false
set_option linter.unusedSimpArgs false

theorem below9 {B bk : Nat} {w X : World} (h : Below B w X) (hB : B ≤ bk) (x0 x1 x2 x3 x4 x5 x6 x7 x8 : Value) : Below B w (set9 X bk x0 x1 x2 x3 x4 x5 x6 x7 x8) :=
  ((((((((h.setCell (p := ⟨bk, 0, none⟩) hB x0).setCell (p := ⟨bk, 1, none⟩) hB x1).setCell (p := ⟨bk, 2, none⟩) hB x2).setCell (p := ⟨bk, 3, none⟩) hB x3).setCell (p := ⟨bk, 4, none⟩) hB x4).setCell (p := ⟨bk, 5, none⟩) hB x5).setCell (p := ⟨bk, 6, none⟩) hB x6).setCell (p := ⟨bk, 7, none⟩) hB x7).setCell (p := ⟨bk, 8, none⟩) hB x8
/-- the first line by its words -/
def limW (a : List UInt8) (r : List (List UInt8)) : Got Lm Int :=
  if a = limitsW then
    match numsP 7 r with
    | none => .no 171
    | some l => .yes (lmOf l)
  else .no 170
theorem limL_words (line : List UInt8) : limL line = limW (pieces 32 line).1 (pieces 32 line).2 := rfl
def RLmA (w : World) (m : Lm) (b : Bool) (pv : Value) (a : List UInt8) (r : List (List UInt8)) (e : Ending) (w' : World) : Prop :=
  match limW a r with
  | .no c => (∃ m' b' a' n' c', e = .returned (.tuple #[scV m' b' (.slice a' n' c'), .int .i64 c])) ∧ Bx (Below w.heap.size w w')
  | .yes k => e = .returned (.tuple #[scV k b pv, .int .i64 0]) ∧ Bx (Below w.heap.size w w')
set_option maxRecDepth 100000 in
set_option maxHeartbeats 4000000 in
theorem rline_word (w : World) (g cap : Nat) (m : Lm) (b : Bool) (pv : Value) (a : List UInt8) (r : List (List UInt8)) (hw : Wds w g cap a r) (hrl : r.length ≤ 1099511627776) (hpv : ∃ pa n pc, pv = .slice pa n pc) (h1 : ¬ a = limitsW) :
    Calls Tryd.prog 14 #[scV m b pv, .int .i64 0, .slice (some ⟨g, 0, none⟩) (r.length + 1) cap] w (RLmA w m b pv a r) := by
  obtain ⟨pa, np, pc, rfl⟩ := hpv
  obtain ⟨Q, hQ⟩ : ∃ Q, Q = RLmA w m b (.slice pa np pc) a r := ⟨_, rfl⟩
  have HQ : Bx (∀ e w', RLmA w m b (.slice pa np pc) a r e w' → Q e w') := ⟨fun e w' h => by rw [hQ]; exact h⟩
  rw [← hQ]
  clear hQ
  have hf1 := hw.first
  have hgl := hw.lt
  have g1 : (a == [108, 105, 109, 105, 116, 115]) = false := by simp; exact h1
  have HN : Bx (limW a r = .no 170) := ⟨by unfold limW; rw [if_neg h1]⟩
  clear h1 hw
  go_enter Tryd.func14, Tryd.ntmps14
  go_wp2
  refine bodyPost_ret (v := .tuple #[scV m b (.slice pa np pc), .int .i64 170]) (by simp [results, Tryd.results14, go_sem]) rfl ?_
  refine HQ.out _ _ ?_
  unfold RLmA
  rw [HN.out]
  exact ⟨⟨m, b, pa, np, pc, rfl⟩, ⟨two_below w _ _⟩⟩
set_option maxRecDepth 100000 in
set_option maxHeartbeats 4000000 in
theorem rline_field (w : World) (g cap : Nat) (m : Lm) (b : Bool) (pv : Value) (r : List (List UInt8)) (hw : Wds w g cap limitsW r) (hrl : r.length ≤ 1099511627776) (hrp : ∀ p ∈ r, p.length ≤ 1099511627776) (hpv : ∃ pa n pc, pv = .slice pa n pc) (hno : numsP 7 r = none) :
    Calls Tryd.prog 14 #[scV m b pv, .int .i64 0, .slice (some ⟨g, 0, none⟩) (r.length + 1) cap] w (RLmA w m b pv limitsW r) := by
  obtain ⟨pa, np, pc, rfl⟩ := hpv
  obtain ⟨Q, hQ⟩ : ∃ Q, Q = RLmA w m b (.slice pa np pc) limitsW r := ⟨_, rfl⟩
  have HQ : Bx (∀ w', Below w.heap.size w w' → Q (.returned (.tuple #[scV m b (.slice pa np pc), .int .i64 171])) w') := ⟨fun w' h => by rw [hQ]; unfold RLmA limW; rw [if_pos rfl, hno]; exact ⟨⟨m, b, pa, np, pc, rfl⟩, ⟨h⟩⟩⟩
  rw [← hQ]
  clear hQ
  obtain ⟨H, hH⟩ : ∃ H, w.heap.size = H := ⟨_, rfl⟩
  obtain ⟨W0, hW0⟩ : ∃ X, X = (w.alloc (.cells #[.int .i64 m.a, .int .i64 m.b, .int .i64 m.c, .int .i64 m.d, .int .i64 m.e, .int .i64 m.f, .int .i64 m.g, .bool b, .slice pa np pc] 31)).alloc (.cells #[.int .i64 0, .int .i64 0, .int .i64 0, .int .i64 0, .int .i64 0, .int .i64 0, .int .i64 0, .bool false, .slice none 0 0] 31) := ⟨_, rfl⟩
  have hb0 : Below w.heap.size w W0 := by rw [hW0]; exact two_below w _ _
  have hw0 : Wds W0 g cap limitsW r := hw.below hw.lt hb0
  have HNU0 := rnumbers_any W0 (if cap = 1 then some ⟨g, 0, none⟩ else some ⟨g, 1, none⟩) (cap - 1) 7 r hw0.tail2 (by omega) hrl hrp
  have hf1 := hw0.first
  rw [hW0] at hf1
  unfold limitsW at hf1
  have hgc := hw.cap
  have hgc2 : r.length ≤ cap - 1 := by omega
  have hgcI : ((r.length : Int) + 1) ≤ (cap : Int) := by omega
  have HC : Bx (∀ X, Below W0.heap.size W0 X → X.heap[H]? = some (.cells #[.int .i64 m.a, .int .i64 m.b, .int .i64 m.c, .int .i64 m.d, .int .i64 m.e, .int .i64 m.f, .int .i64 m.g, .bool b, .slice pa np pc] 31) ∧ X.heap[H + 1]? = some (.cells #[.int .i64 0, .int .i64 0, .int .i64 0, .int .i64 0, .int .i64 0, .int .i64 0, .int .i64 0, .bool false, .slice none 0 0] 31) ∧ H + 1 < X.heap.size ∧ Below w.heap.size w X) := ⟨fun X hX => by
    have hs : W0.heap.size = H + 2 := by rw [hW0]; simp; omega
    refine ⟨?_, ?_, ?_, hb0.trans (hX.mono (by omega))⟩
    · rw [hX.block H (by omega), hW0, Below.heap_alloc _ _ H (by simp; omega), ← hH]
      exact heap_alloc_new w _
    · rw [hX.block (H + 1) (by omega), hW0]
      have := heap_alloc_new (w.alloc (.cells #[.int .i64 m.a, .int .i64 m.b, .int .i64 m.c, .int .i64 m.d, .int .i64 m.e, .int .i64 m.f, .int .i64 m.g, .bool b, .slice pa np pc] 31)) (.cells #[.int .i64 0, .int .i64 0, .int .i64 0, .int .i64 0, .int .i64 0, .int .i64 0, .int .i64 0, .bool false, .slice none 0 0] 31)
      simpa [hH] using this
    · have := hX.size
      omega⟩
  have HNU : Bx (Calls Tryd.prog 25 #[.slice (if cap = 1 then some ⟨g, 0, none⟩ else some ⟨g, 1, none⟩) r.length (cap - 1), .int .i64 7] ((w.alloc (.cells #[.int .i64 m.a, .int .i64 m.b, .int .i64 m.c, .int .i64 m.d, .int .i64 m.e, .int .i64 m.f, .int .i64 m.g, .bool b, .slice pa np pc] 31)).alloc (.cells #[.int .i64 0, .int .i64 0, .int .i64 0, .int .i64 0, .int .i64 0, .int .i64 0, .int .i64 0, .bool false, .slice none 0 0] 31)) fun e w' => e = .returned (.tuple #[.slice none 0 0, .bool false]) ∧ Bx (Below W0.heap.size W0 w')) := ⟨by
    rw [← hW0]
    refine HNU0.mono fun e w' h => ?_
    unfold RNsA at h
    rw [hno] at h
    exact h⟩
  clear HNU0 hno hw hw0 hb0 hW0
  obtain ⟨ka, hka⟩ : ∃ x, (if cap = 1 then some (⟨g, 0, none⟩ : Addr) else some ⟨g, 1, none⟩) = x := ⟨_, rfl⟩
  rw [hka] at HNU
  go_enter Tryd.func14, Tryd.ntmps14
  go_wp2_with (go_at_call 25; refine HNU.out.mono ?_; rintro e w5 ⟨rfl, HB5⟩
               obtain ⟨hb5, hb6, hHl, hB⟩ := HC.out w5 HB5.out; have HB6 : Bx _ := ⟨hB⟩; obtain ⟨c0, c1, c2, c3, c4, c5, c6, c7, c8⟩ := cells9 hb5; obtain ⟨d0, d1, d2, d3, d4, d5, d6, d7, d8⟩ := cells9 hb6; obtain ⟨f0, f1, f2, f3, f4, f5, f6, f7, f8⟩ := frz9 hb6; clear hb5 hb6 hB)
  refine bodyPost_ret (v := .tuple #[scV m b (.slice pa np pc), .int .i64 171]) (by simp [results, Tryd.results14, go_sem, d0, d1, d2, d3, d4, d5, d6, d7, d8]) rfl ?_
  exact HQ.out _ (below9 HB6.out (by omega) _ _ _ _ _ _ _ _ _)
end Go.Proofs.YtecpknpcjoiliabDoor
