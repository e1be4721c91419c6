import Derived.Test.YtjabdhmkibahlaaCGUa
namespace Go.Proofs.Ytjabdhmkibahlaa
open Go.RowKit Go.MapKept Go.ChangeMaps Go.WideShapes
set_option linter.unusedVariables false
set_option linter.unusedSimpArgs false

/-- the agents of the document's examples -/
def exS : List Ag := [⟨0, true, [], [1, 2, 3]⟩, ⟨1, false, [⟨3, false⟩], [3]⟩, ⟨2, false, [⟨4, false⟩], [4]⟩, ⟨3, false, [⟨4, true⟩], [4, 5]⟩, ⟨4, false, [⟨0, false⟩], []⟩]
theorem exS_ok : stOk exS = true := by decide
theorem exS_few : Few exS := by
  intro a ha
  simp [exS] at ha
  rcases ha with rfl | rfl | rfl | rfl | rfl <;> simp
theorem exS_links : linksI exS = [⟨0, 1, 3⟩, ⟨3, 2, 4⟩, ⟨2, 3, 4⟩] := by rfl
theorem exS_fit : fitsF (whoI exS) ⟨3, 2, 4⟩ = true := by decide
theorem exS_not : fitsF (whoI exS) ⟨0, 2, 4⟩ = false := by decide
theorem own_blk {W : World} {g : Nat} {e : TypeId} {z n : Nat} {us : Array Value} (h : W.heap[g]? = some (.cells us e (0, 0))) (hs : us.size = n * z) (hn : n ≤ maxLen) : W.ownsRow 0 e z (.slice (some ⟨g, 0, none⟩) n n) n us.toList :=
  ⟨by simpa using hs, .inr ⟨g, n, us, rfl, Nat.zero_le _, h, Nat.le_refl _, hn, hs, List.take_of_length_le (by simp [hs])⟩⟩
theorem alloc_at {W : World} {us : Array Value} {t : TypeId} {g : Nat} (h : W.heap.size = g) : (W.alloc (.cells us t)).heap[g]? = some (.cells us t (0, 0)) := by subst h; exact World.alloc_heap_new _ _
theorem up {W : World} {o o' : Obj} {g : Nat} (h : W.heap[g]? = some o) : (W.alloc o').heap[g]? = some o := ((below1 W o').block g (Array.getElem?_eq_some_iff.1 h).1).trans h
def iV (k : Int) : Value := .int .i64 k
def pS (g n : Nat) : Value := .slice (some ⟨g, 0, none⟩) n n
theorem st_read {X : World} {g0 g1 g2 g3 g4 g5 g6 g7 g8 : Nat} (h0 : X.heap[g0]? = some (.cells #[iV 1, iV 2, iV 3] 3 (0, 0))) (h1 : X.heap[g1]? = some (.cells #[iV 3, .bool false] 58 (0, 0))) (h2 : X.heap[g2]? = some (.cells #[iV 3] 3 (0, 0)))
    (h3 : X.heap[g3]? = some (.cells #[iV 4, .bool false] 58 (0, 0))) (h4 : X.heap[g4]? = some (.cells #[iV 4] 3 (0, 0))) (h5 : X.heap[g5]? = some (.cells #[iV 4, .bool true] 58 (0, 0))) (h6 : X.heap[g6]? = some (.cells #[iV 4, iV 5] 3 (0, 0))) (h7 : X.heap[g7]? = some (.cells #[iV 0, .bool false] 58 (0, 0)))
    (h8 : X.heap[g8]? = some (.cells #[iV 0, .bool true, .slice none 0 0, pS g0 3, iV 1, .bool false, pS g1 1, pS g2 1, iV 2, .bool false, pS g3 1, pS g4 1, iV 3, .bool false, pS g5 1, pS g6 2, iV 4, .bool false, pS g7 1, .slice none 0 0] 53 (0, 0))) : AgsR X (some ⟨g8, 0, none⟩) 5 exS := by
  have e0 := own_blk (n := 3) (z := 1) h0 rfl (by decide)
  have e1 := own_blk (n := 1) (z := 2) h1 rfl (by decide)
  have e2 := own_blk (n := 1) (z := 1) h2 rfl (by decide)
  have e3 := own_blk (n := 1) (z := 2) h3 rfl (by decide)
  have e4 := own_blk (n := 1) (z := 1) h4 rfl (by decide)
  have e5 := own_blk (n := 1) (z := 2) h5 rfl (by decide)
  have e6 := own_blk (n := 2) (z := 1) h6 rfl (by decide)
  have e7 := own_blk (n := 1) (z := 2) h7 rfl (by decide)
  have e8 := own_blk (n := 5) (z := 4) h8 rfl (by decide)
  have n1 : X.ownsRow 0 58 2 (.slice none 0 0) 0 [] := ⟨rfl, .inl ⟨rfl, rfl⟩⟩
  have n2 : X.ownsRow 0 3 1 (.slice none 0 0) 0 [] := ⟨rfl, .inl ⟨rfl, rfl⟩⟩
  have hC : AgC X 0 exS #[iV 0, .bool true, .slice none 0 0, pS g0 3, iV 1, .bool false, pS g1 1, pS g2 1, iV 2, .bool false, pS g3 1, pS g4 1, iV 3, .bool false, pS g5 1, pS g6 2, iV 4, .bool false, pS g7 1, .slice none 0 0].toList := by
    refine ⟨_, _, rfl, ⟨none, 0, some ⟨g0, 0, none⟩, 3, rfl, by unfold I64; simp, by simp, by simp [I64], n1, e0⟩, ?_⟩
    refine ⟨_, _, rfl, ⟨some ⟨g1, 0, none⟩, 1, some ⟨g2, 0, none⟩, 1, rfl, by unfold I64; simp, by simp [I64], by simp [I64], e1, e2⟩, ?_⟩
    refine ⟨_, _, rfl, ⟨some ⟨g3, 0, none⟩, 1, some ⟨g4, 0, none⟩, 1, rfl, by unfold I64; simp, by simp [I64], by simp [I64], e3, e4⟩, ?_⟩
    refine ⟨_, _, rfl, ⟨some ⟨g5, 0, none⟩, 1, some ⟨g6, 0, none⟩, 2, rfl, by unfold I64; simp, by simp [I64], by simp [I64], e5, e6⟩, ?_⟩
    refine ⟨_, _, rfl, ⟨some ⟨g7, 0, none⟩, 1, none, 0, rfl, by unfold I64; simp, by simp [I64], by simp, e7, n2⟩, ?_⟩
    rfl
  obtain ⟨p, c, e, h⟩ := AgC.read e8 hC
  injection e with x1 x2 x3
  subst x1 x3
  exact h
/-- the links of the examples, where they lie -/
theorem links_at {W : World} {B : Nat} {v : Value} (h : W.ownsRow B 24 3 v 3 (lksC [⟨0, 1, 3⟩, ⟨3, 2, 4⟩, ⟨2, 3, 4⟩])) : ∃ g cap, v = .slice (some ⟨g, 0, none⟩) 3 cap ∧ 3 ≤ cap ∧ cap ≤ maxLen ∧ ∀ X, Below W.heap.size W X →
    (X.cell? ⟨g, 0, none⟩ = some (.int .i64 0) ∧ X.cell? ⟨g, 1, none⟩ = some (.int .i64 1) ∧ X.cell? ⟨g, 2, none⟩ = some (.int .i64 3)) ∧ (X.cell? ⟨g, 3, none⟩ = some (.int .i64 3) ∧ X.cell? ⟨g, 4, none⟩ = some (.int .i64 2) ∧ X.cell? ⟨g, 5, none⟩ = some (.int .i64 4)) ∧ (X.cell? ⟨g, 6, none⟩ = some (.int .i64 2) ∧ X.cell? ⟨g, 7, none⟩ = some (.int .i64 3) ∧ X.cell? ⟨g, 8, none⟩ = some (.int .i64 4)) := by
  have h' := h
  rcases h.2 with ⟨x1, x2⟩ | ⟨g, cap, cur, x1, x2, x3, x4, x5, x6, x7⟩
  · omega
  · refine ⟨g, cap, x1, x4, x5, fun X hX => ?_⟩
    rw [x1] at h'
    have hl := (Array.getElem?_eq_some_iff.1 x3).1
    have key : ∀ j u, j < 9 → (lksC [⟨0, 1, 3⟩, ⟨3, 2, 4⟩, ⟨2, 3, 4⟩])[j]? = some u → X.cell? ⟨g, j, none⟩ = some u := fun j u hj hu => by
      rw [hX.cell (p := ⟨g, j, none⟩) hl, h'.cellAt j (by omega)]
      exact hu
    exact ⟨⟨key 0 _ (by omega) rfl, key 1 _ (by omega) rfl, key 2 _ (by omega) rfl⟩, ⟨key 3 _ (by omega) rfl, key 4 _ (by omega) rfl, key 5 _ (by omega) rfl⟩, ⟨key 6 _ (by omega) rfl, key 7 _ (by omega) rfl, key 8 _ (by omega) rfl⟩⟩
/-- what Take makes of the examples, where it lies -/
theorem took_at {W : World} {B : Nat} {v : Value} {cs : List Value} (ho : W.ownsRow B 53 4 v 5 cs) (hC : AgC W B (exS.map (tkA ⟨3, 2, 4⟩)) cs) : ∃ g cap, v = .slice (some ⟨g, 0, none⟩) 5 cap ∧ 5 ≤ cap ∧ cap ≤ maxLen ∧ ∀ X, Below W.heap.size W X →
    X.cell? ⟨g, 9, none⟩ = some (.bool true) ∧ X.cell? ⟨g, 13, none⟩ = some (.bool true) ∧ X.cell? ⟨g, 5, none⟩ = some (.bool false) := by
  rcases ho.2 with ⟨x1, x2⟩ | ⟨g, cap, cur, x1, x2, x3, x4, x5, x6, x7⟩
  · omega
  · obtain ⟨p, c, e, h⟩ := AgC.read (gs := exS.map (tkA ⟨3, 2, 4⟩)) ho hC
    rw [x1] at e
    injection e with y1 y2 y3
    subst y1 y3
    refine ⟨g, cap, x1, x4, x5, fun X hX => ?_⟩
    obtain ⟨b1, o1, _, _, _, _, q1, _, h1⟩ := h.at_ 1 (by decide)
    obtain ⟨b2, o2, _, _, _, _, q2, _, h2⟩ := h.at_ 2 (by decide)
    obtain ⟨b3, o3, _, _, _, _, q3, _, h3⟩ := h.at_ 3 (by decide)
    cases q1
    cases q2
    cases q3
    exact ⟨(h2 X hX).2.1, (h3 X hX).2.1, (h1 X hX).2.1⟩
theorem l64a : Lk64 ⟨3, 2, 4⟩ := ⟨by unfold I64; simp, by unfold I64; simp, by unfold I64; simp⟩
theorem l64b : Lk64 ⟨0, 2, 4⟩ := ⟨by unfold I64; simp, by unfold I64; simp, by unfold I64; simp⟩
end Go.Proofs.Ytjabdhmkibahlaa
