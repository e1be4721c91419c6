import Derived.Test.YtecpknpcjoiliabDoorCUXd
namespace Go.Proofs.YtecpknpcjoiliabDoor
open Go.RowKit Go.Shelf
set_option linter.unusedVariables false
set_option linter.unusedSimpArgs false

theorem SRo.at2 {w : World} {B : Nat} {v : Value} {ws : List (List UInt8)} (h : SRo w B v ws) (h0 : 0 < ws.length) : ∃ g cap, v = .slice (some ⟨g, 0, none⟩) ws.length cap ∧ ws.length ≤ cap ∧ B ≤ g ∧ g < w.heap.size ∧ ∀ j (hj : j < ws.length), w.cell? ⟨g, j, none⟩ = some (strV ws[j]) := by
  obtain ⟨g, cap, rfl, h1, h2, h3⟩ := h.at_ h0
  refine ⟨g, cap, rfl, ?_, h1, h2, h3⟩
  have h' : w.ownsRow B 9 1 (.slice (some ⟨g, 0, none⟩) ws.length cap) ws.length (ws.map strV) := h
  rcases h'.2 with ⟨e, hn⟩ | ⟨g, cap, cur, e, hB, hg, q1, q2, q3, q4⟩
  · omega
  · injection e with _ _ e
    omega
/-- the words of a line, as a callee has them -/
structure Wds (w : World) (g cap : Nat) (a : List UInt8) (r : List (List UInt8)) : Prop where
  lt : g < w.heap.size
  cap : r.length + 1 ≤ cap
  first : w.cell? ⟨g, 0, none⟩ = some (strV a)
  rest : ∀ j (hj : j < r.length), w.cell? ⟨g, 1 + j, none⟩ = some (strV r[j])
theorem Wds.of {w : World} {g cap : Nat} {a : List UInt8} {r : List (List UInt8)} (h1 : g < w.heap.size) (h2 : r.length + 1 ≤ cap) (h : ∀ j (hj : j < (a :: r).length), w.cell? ⟨g, j, none⟩ = some (strV (a :: r)[j])) : Wds w g cap a r :=
  ⟨h1, h2, h 0 (by simp), fun j hj => by
    have := h (1 + j) (by simp; omega)
    rw [this]
    congr 2
    rw [List.getElem_cons]
    simp [show ¬ 1 + j = 0 by omega]⟩
theorem Wds.below {w w' : World} {B g cap : Nat} {a : List UInt8} {r : List (List UInt8)} (h : Wds w g cap a r) (hg : g < B) (hb : Below B w w') : Wds w' g cap a r :=
  ⟨Nat.lt_of_lt_of_le h.lt hb.size, h.cap, by rw [hb.cell (p := ⟨g, 0, none⟩) hg]; exact h.first, fun j hj => by rw [hb.cell (p := ⟨g, 1 + j, none⟩) hg]; exact h.rest j hj⟩
theorem Wds.tail {w : World} {g cap : Nat} {a : List UInt8} {r : List (List UInt8)} (h : Wds w g cap a r) : StV w (some ⟨g, 1, none⟩) r := .inr ⟨g, 1, rfl, h.lt, h.rest⟩
/-- a pick by its words -/
def pickW (n : Nat) (a : List UInt8) (r : List (List UInt8)) : Got Pk Int :=
  if kindI a = 0 then .no 170
  else if n = 4096 then .no 172
  else match numsP (shapeI (kindI a)).2 r with
    | none => .no 171
    | some l => .yes ⟨kindI a, l.getD 0 0, l.getD 1 0⟩
def RPkA (w : World) (n : Nat) (a : List UInt8) (r : List (List UInt8)) (e : Ending) (w' : World) : Prop :=
  match pickW n a r with
  | .no c => e = .returned (.tuple #[zeroPk, .int .i64 c]) ∧ Bx (Below w.heap.size w w')
  | .yes p => e = .returned (.tuple #[.agg #[.int .i64 p.kind, .int .i64 p.n, .int .i64 p.v], .int .i64 0]) ∧ Bx (Below w.heap.size w w')
set_option maxRecDepth 100000 in
set_option maxHeartbeats 4000000 in
theorem rpick_no (w : World) (g cap n : Nat) (a : List UInt8) (r : List (List UInt8)) (hw : Wds w g cap a r) (hrl : r.length ≤ 1099511627776) (hrp : ∀ p ∈ r, p.length ≤ 1099511627776) (hk : kindI a = 0) :
    Calls Tryd.prog 26 #[.slice (some ⟨g, 0, none⟩) (r.length + 1) cap, .int .i64 (n : Int)] w (RPkA w n a r) := by
  have HKd : Bx (∀ X, Calls Tryd.prog 38 #[strV a] X fun e w' => e = .returned (.tuple #[.int .i64 0, .int .i64 0]) ∧ w' = X) := ⟨fun X => (rkind_any a X).mono fun e w' h => by first | (rw [hk, if_pos rfl] at h; exact h) | (rw [if_neg hk] at h; exact h)⟩
  obtain ⟨Q, hQ⟩ : ∃ Q, Q = RPkA w n a r := ⟨_, rfl⟩
  have HQ : Bx (∀ w', Below w.heap.size w w' → Q (.returned (.tuple #[zeroPk, .int .i64 170])) w') := ⟨fun w' h => by rw [hQ]; unfold RPkA pickW; rw [if_pos hk]; exact ⟨rfl, ⟨h⟩⟩⟩
  rw [← hQ]
  clear hQ
  obtain ⟨H, hH⟩ : ∃ H, w.heap.size = H := ⟨_, rfl⟩
  obtain ⟨W0, hW0⟩ : ∃ X, X = w.alloc (.cells #[.int .i64 0, .int .i64 0, .int .i64 0] 39) := ⟨_, rfl⟩
  have hw0 : Wds W0 g cap a r := by rw [hW0]; exact hw.below hw.lt (below1 w _)
  have hf1 : (w.alloc (.cells #[.int .i64 0, .int .i64 0, .int .i64 0] 39)).cell? ⟨g, 0, none⟩ = some (strV a) := by rw [← hW0]; exact hw0.first
  have hgc := hw.cap
  have hgc2 : r.length ≤ cap - 1 := by omega
  have HB1 : Bx (∀ X, Below W0.heap.size W0 X → Below w.heap.size w X) := ⟨fun X hX => by
    have h1 := below1 w (.cells #[.int .i64 0, .int .i64 0, .int .i64 0] 39)
    rw [← hW0] at h1
    exact h1.trans (hX.mono h1.size)⟩
  have HC1 : Bx (∀ X, Below W0.heap.size W0 X → X.cell? ⟨H, 0, none⟩ = some (.int .i64 0) ∧ X.cell? ⟨H, 1, none⟩ = some (.int .i64 0) ∧ X.cell? ⟨H, 2, none⟩ = some (.int .i64 0)) := ⟨fun X hX => by
    have hs : H < W0.heap.size := by rw [hW0]; simp; omega
    have hb : X.heap[H]? = some (.cells #[.int .i64 0, .int .i64 0, .int .i64 0] 39) := by rw [hX.block H hs, hW0, ← hH]; exact heap_alloc_new w _
    exact ⟨cell_blk hb rfl, cell_blk hb rfl, cell_blk hb rfl⟩⟩
  clear hk
  clear hw hw0
  go_enter Tryd.func26, Tryd.ntmps26
  go_wp2_with (go_at_call 38; refine (HKd.out _).mono ?_; rintro e w1 ⟨rfl, rfl⟩)
  obtain ⟨q0, q1, q2⟩ := HC1.out W0 (Below.refl _ _)
  have hz := HB1.out W0 (Below.refl _ _)
  rw [hW0] at q0 q1 q2 hz
  refine bodyPost_ret (v := .tuple #[zeroPk, .int .i64 170]) (by simp [results, Tryd.results26, go_sem, q0, q1, q2, zeroPk]) rfl ?_
  exact HQ.out _ hz
set_option maxRecDepth 100000 in
set_option maxHeartbeats 4000000 in
theorem rpick_many (w : World) (g cap n : Nat) (a : List UInt8) (r : List (List UInt8)) (hw : Wds w g cap a r) (hrl : r.length ≤ 1099511627776) (hrp : ∀ p ∈ r, p.length ≤ 1099511627776) (hk : ¬ kindI a = 0) (hn : n = 4096) :
    Calls Tryd.prog 26 #[.slice (some ⟨g, 0, none⟩) (r.length + 1) cap, .int .i64 (n : Int)] w (RPkA w n a r) := by
  have HKd : Bx (∀ X, Calls Tryd.prog 38 #[strV a] X fun e w' => e = .returned (.tuple #[.int .i64 (kindI a : Nat), .int .i64 ((shapeI (kindI a)).2 : Nat)]) ∧ w' = X) := ⟨fun X => (rkind_any a X).mono fun e w' h => by first | (rw [hk, if_pos rfl] at h; exact h) | (rw [if_neg hk] at h; exact h)⟩
  obtain ⟨Q, hQ⟩ : ∃ Q, Q = RPkA w n a r := ⟨_, rfl⟩
  have HQ : Bx (∀ w', Below w.heap.size w w' → Q (.returned (.tuple #[zeroPk, .int .i64 172])) w') := ⟨fun w' h => by rw [hQ]; unfold RPkA pickW; rw [if_neg hk, if_pos hn]; exact ⟨rfl, ⟨h⟩⟩⟩
  rw [← hQ]
  clear hQ
  obtain ⟨H, hH⟩ : ∃ H, w.heap.size = H := ⟨_, rfl⟩
  obtain ⟨W0, hW0⟩ : ∃ X, X = w.alloc (.cells #[.int .i64 0, .int .i64 0, .int .i64 0] 39) := ⟨_, rfl⟩
  have hw0 : Wds W0 g cap a r := by rw [hW0]; exact hw.below hw.lt (below1 w _)
  have hf1 : (w.alloc (.cells #[.int .i64 0, .int .i64 0, .int .i64 0] 39)).cell? ⟨g, 0, none⟩ = some (strV a) := by rw [← hW0]; exact hw0.first
  have hgc := hw.cap
  have hgc2 : r.length ≤ cap - 1 := by omega
  have HB1 : Bx (∀ X, Below W0.heap.size W0 X → Below w.heap.size w X) := ⟨fun X hX => by
    have h1 := below1 w (.cells #[.int .i64 0, .int .i64 0, .int .i64 0] 39)
    rw [← hW0] at h1
    exact h1.trans (hX.mono h1.size)⟩
  have HC1 : Bx (∀ X, Below W0.heap.size W0 X → X.cell? ⟨H, 0, none⟩ = some (.int .i64 0) ∧ X.cell? ⟨H, 1, none⟩ = some (.int .i64 0) ∧ X.cell? ⟨H, 2, none⟩ = some (.int .i64 0)) := ⟨fun X hX => by
    have hs : H < W0.heap.size := by rw [hW0]; simp; omega
    have hb : X.heap[H]? = some (.cells #[.int .i64 0, .int .i64 0, .int .i64 0] 39) := by rw [hX.block H hs, hW0, ← hH]; exact heap_alloc_new w _
    exact ⟨cell_blk hb rfl, cell_blk hb rfl, cell_blk hb rfl⟩⟩
  have hkI : ((kindI a : Int) == 0) = false := by simp; exact hk
  have hkI2 : ¬ ((kindI a : Nat) : Int) = 0 := by omega
  generalize kindI a = kd at *
  generalize (shapeI kd).2 = m at *
  subst hn
  clear hw hw0
  go_enter Tryd.func26, Tryd.ntmps26
  go_wp2_with (go_at_call 38; refine (HKd.out _).mono ?_; rintro e w1 ⟨rfl, rfl⟩)
  obtain ⟨q0, q1, q2⟩ := HC1.out W0 (Below.refl _ _)
  have hz := HB1.out W0 (Below.refl _ _)
  rw [hW0] at q0 q1 q2 hz
  refine bodyPost_ret (v := .tuple #[zeroPk, .int .i64 172]) (by simp [results, Tryd.results26, go_sem, q0, q1, q2, zeroPk]) rfl ?_
  exact HQ.out _ hz
end Go.Proofs.YtecpknpcjoiliabDoor
namespace Go.Proofs.YtecpknpcjoiliabDoor
open Go.RowKit Go.Shelf
set_option linter.unusedVariables false
set_option linter.unusedSimpArgs false

theorem Wds.tail2 {w : World} {g cap : Nat} {a : List UInt8} {r : List (List UInt8)} (h : Wds w g cap a r) : StV w (if cap = 1 then some ⟨g, 0, none⟩ else some ⟨g, 1, none⟩) r := by
  by_cases hc : cap = 1
  · have := h.cap
    exact .inl (List.eq_nil_of_length_eq_zero (by omega))
  · rw [if_neg hc]
    exact h.tail
set_option maxRecDepth 100000 in
set_option maxHeartbeats 4000000 in
theorem rpick_field (w : World) (g cap n : Nat) (a : List UInt8) (r : List (List UInt8)) (hw : Wds w g cap a r) (hrl : r.length ≤ 1099511627776) (hrp : ∀ p ∈ r, p.length ≤ 1099511627776) (hk : ¬ kindI a = 0) (hn : n < 4096) (hm : (shapeI (kindI a)).2 ≤ 2) (hno : numsP (shapeI (kindI a)).2 r = none) :
    Calls Tryd.prog 26 #[.slice (some ⟨g, 0, none⟩) (r.length + 1) cap, .int .i64 (n : Int)] w (RPkA w n a r) := by
  have HKd : Bx (∀ X, Calls Tryd.prog 38 #[strV a] X fun e w' => e = .returned (.tuple #[.int .i64 (kindI a : Nat), .int .i64 ((shapeI (kindI a)).2 : Nat)]) ∧ w' = X) := ⟨fun X => (rkind_any a X).mono fun e w' h => by first | (rw [hk, if_pos rfl] at h; exact h) | (rw [if_neg hk] at h; exact h)⟩
  obtain ⟨Q, hQ⟩ : ∃ Q, Q = RPkA w n a r := ⟨_, rfl⟩
  have HQ : Bx (∀ w', Below w.heap.size w w' → Q (.returned (.tuple #[zeroPk, .int .i64 171])) w') := ⟨fun w' h => by rw [hQ]; unfold RPkA pickW; rw [if_neg hk, if_neg (by omega), hno]; exact ⟨rfl, ⟨h⟩⟩⟩
  rw [← hQ]
  clear hQ
  obtain ⟨H, hH⟩ : ∃ H, w.heap.size = H := ⟨_, rfl⟩
  obtain ⟨W0, hW0⟩ : ∃ X, X = w.alloc (.cells #[.int .i64 0, .int .i64 0, .int .i64 0] 39) := ⟨_, rfl⟩
  have hw0 : Wds W0 g cap a r := by rw [hW0]; exact hw.below hw.lt (below1 w _)
  have hf1 : (w.alloc (.cells #[.int .i64 0, .int .i64 0, .int .i64 0] 39)).cell? ⟨g, 0, none⟩ = some (strV a) := by rw [← hW0]; exact hw0.first
  have hgc := hw.cap
  have hgc2 : r.length ≤ cap - 1 := by omega
  have hgcI : ((r.length : Int) + 1) ≤ (cap : Int) := by omega
  have HB1 : Bx (∀ X, Below W0.heap.size W0 X → Below w.heap.size w X) := ⟨fun X hX => by
    have h1 := below1 w (.cells #[.int .i64 0, .int .i64 0, .int .i64 0] 39)
    rw [← hW0] at h1
    exact h1.trans (hX.mono h1.size)⟩
  have HC1 : Bx (∀ X, Below W0.heap.size W0 X → X.heap[H]? = some (.cells #[.int .i64 0, .int .i64 0, .int .i64 0] 39) ∧ X.cell? ⟨H, 0, none⟩ = some (.int .i64 0) ∧ X.cell? ⟨H, 1, none⟩ = some (.int .i64 0) ∧ X.cell? ⟨H, 2, none⟩ = some (.int .i64 0)) := ⟨fun X hX => by
    have hs : H < W0.heap.size := by rw [hW0]; simp; omega
    have hb : X.heap[H]? = some (.cells #[.int .i64 0, .int .i64 0, .int .i64 0] 39) := by rw [hX.block H hs, hW0, ← hH]; exact heap_alloc_new w _
    exact ⟨hb, cell_blk hb rfl, cell_blk hb rfl, cell_blk hb rfl⟩⟩
  have hkI : ((kindI a : Int) == 0) = false := by simp; exact hk
  have hkI2 : ¬ ((kindI a : Nat) : Int) = 0 := by omega
  have hnI : decide ((4096 : Int) ≤ (n : Int)) = false := by simp; omega
  have hnI2 : ¬ (4096 : Int) ≤ (n : Int) := by omega
  have hnI3 : (n : Int) < 4096 := by omega
  have HNU0 := rnumbers_any W0 (if cap = 1 then some ⟨g, 0, none⟩ else some ⟨g, 1, none⟩) (cap - 1) (shapeI (kindI a)).2 r hw0.tail2 (by omega) hrl hrp
  have HNU : Bx (Calls Tryd.prog 25 #[.slice (if cap = 1 then some ⟨g, 0, none⟩ else some ⟨g, 1, none⟩) r.length (cap - 1), .int .i64 ((shapeI (kindI a)).2 : Nat)] (w.alloc (.cells #[.int .i64 0, .int .i64 0, .int .i64 0] 39)) fun e w' => e = .returned (.tuple #[.slice none 0 0, .bool false]) ∧ Bx (Below W0.heap.size W0 w')) := ⟨by
    rw [← hW0]
    refine HNU0.mono fun e w' h => ?_
    unfold RNsA at h
    rw [hno] at h
    exact h⟩
  clear HNU0 hno hm
  obtain ⟨ka, hka⟩ : ∃ x, (if cap = 1 then some (⟨g, 0, none⟩ : Addr) else some ⟨g, 1, none⟩) = x := ⟨_, rfl⟩
  rw [hka] at HNU
  generalize kindI a = kd at *
  generalize (shapeI kd).2 = m at *
  clear hw hw0
  go_enter Tryd.func26, Tryd.ntmps26
  go_wp2_with (first
    | (go_at_call 38; refine (HKd.out _).mono ?_; rintro e w1 ⟨rfl, rfl⟩)
    | (go_at_call 25; refine HNU.out.mono ?_; rintro e w5 ⟨rfl, HB5⟩
       obtain ⟨hb5, q0, q1, q2⟩ := HC1.out w5 HB5.out; obtain ⟨f0, f1, f2⟩ : w5.frozen? ⟨H, 0, none⟩ = false ∧ w5.frozen? ⟨H, 1, none⟩ = false ∧ w5.frozen? ⟨H, 2, none⟩ = false := ⟨frz_blk hb5, frz_blk hb5, frz_blk hb5⟩; have HB6 : Bx (Below w.heap.size w w5) := ⟨HB1.out w5 HB5.out⟩; clear hb5))
  refine bodyPost_ret (v := .tuple #[zeroPk, .int .i64 171]) (by simp [results, Tryd.results26, go_sem, q0, q1, q2, zeroPk]) rfl ?_
  have hle : w.heap.size ≤ H := Nat.le_of_eq hH
  exact HQ.out _ (((HB6.out.setCell (p := ⟨H, 0, none⟩) hle _).setCell (p := ⟨H, 1, none⟩) hle _).setCell (p := ⟨H, 2, none⟩) hle _)
set_option maxRecDepth 100000 in
set_option maxHeartbeats 4000000 in
theorem rpick_0 (w : World) (g cap n : Nat) (a : List UInt8) (r : List (List UInt8)) (hw : Wds w g cap a r) (hrl : r.length ≤ 1099511627776) (hrp : ∀ p ∈ r, p.length ≤ 1099511627776) (hk : ¬ kindI a = 0) (hn : n < 4096) (hm : (shapeI (kindI a)).2 = 0) (hno : numsP (shapeI (kindI a)).2 r = some []) :
    Calls Tryd.prog 26 #[.slice (some ⟨g, 0, none⟩) (r.length + 1) cap, .int .i64 (n : Int)] w (RPkA w n a r) := by
  have HKd : Bx (∀ X, Calls Tryd.prog 38 #[strV a] X fun e w' => e = .returned (.tuple #[.int .i64 (kindI a : Nat), .int .i64 ((shapeI (kindI a)).2 : Nat)]) ∧ w' = X) := ⟨fun X => (rkind_any a X).mono fun e w' h => by first | (rw [hk, if_pos rfl] at h; exact h) | (rw [if_neg hk] at h; exact h)⟩
  obtain ⟨Q, hQ⟩ : ∃ Q, Q = RPkA w n a r := ⟨_, rfl⟩
  have HQ : Bx (∀ w', Below w.heap.size w w' → Q (.returned (.tuple #[.agg #[.int .i64 (kindI a : Nat), .int .i64 0, .int .i64 0], .int .i64 0])) w') := ⟨fun w' h => by rw [hQ]; unfold RPkA pickW; rw [if_neg hk, if_neg (by omega), hno]; exact ⟨rfl, ⟨h⟩⟩⟩
  rw [← hQ]
  clear hQ
  obtain ⟨H, hH⟩ : ∃ H, w.heap.size = H := ⟨_, rfl⟩
  obtain ⟨W0, hW0⟩ : ∃ X, X = w.alloc (.cells #[.int .i64 0, .int .i64 0, .int .i64 0] 39) := ⟨_, rfl⟩
  have hw0 : Wds W0 g cap a r := by rw [hW0]; exact hw.below hw.lt (below1 w _)
  have hf1 : (w.alloc (.cells #[.int .i64 0, .int .i64 0, .int .i64 0] 39)).cell? ⟨g, 0, none⟩ = some (strV a) := by rw [← hW0]; exact hw0.first
  have hgc := hw.cap
  have hgc2 : r.length ≤ cap - 1 := by omega
  have hgcI : ((r.length : Int) + 1) ≤ (cap : Int) := by omega
  have HB1 : Bx (∀ X, Below W0.heap.size W0 X → Below w.heap.size w X) := ⟨fun X hX => by
    have h1 := below1 w (.cells #[.int .i64 0, .int .i64 0, .int .i64 0] 39)
    rw [← hW0] at h1
    exact h1.trans (hX.mono h1.size)⟩
  have HC1 : Bx (∀ X, Below W0.heap.size W0 X → X.heap[H]? = some (.cells #[.int .i64 0, .int .i64 0, .int .i64 0] 39) ∧ X.cell? ⟨H, 0, none⟩ = some (.int .i64 0) ∧ X.cell? ⟨H, 1, none⟩ = some (.int .i64 0) ∧ X.cell? ⟨H, 2, none⟩ = some (.int .i64 0)) := ⟨fun X hX => by
    have hs : H < W0.heap.size := by rw [hW0]; simp; omega
    have hb : X.heap[H]? = some (.cells #[.int .i64 0, .int .i64 0, .int .i64 0] 39) := by rw [hX.block H hs, hW0, ← hH]; exact heap_alloc_new w _
    exact ⟨hb, cell_blk hb rfl, cell_blk hb rfl, cell_blk hb rfl⟩⟩
  have hkI : ((kindI a : Int) == 0) = false := by simp; exact hk
  have hkI2 : ¬ ((kindI a : Nat) : Int) = 0 := by omega
  have hnI : decide ((4096 : Int) ≤ (n : Int)) = false := by simp; omega
  have hnI2 : ¬ (4096 : Int) ≤ (n : Int) := by omega
  have hnI3 : (n : Int) < 4096 := by omega
  have HNU0 := rnumbers_any W0 (if cap = 1 then some ⟨g, 0, none⟩ else some ⟨g, 1, none⟩) (cap - 1) (shapeI (kindI a)).2 r hw0.tail2 (by omega) hrl hrp
  have HNU : Bx (Calls Tryd.prog 25 #[.slice (if cap = 1 then some ⟨g, 0, none⟩ else some ⟨g, 1, none⟩) r.length (cap - 1), .int .i64 ((shapeI (kindI a)).2 : Nat)] (w.alloc (.cells #[.int .i64 0, .int .i64 0, .int .i64 0] 39)) fun e w' => ∃ v, e = .returned (.tuple #[v, .bool true]) ∧ Bx (NRo w' W0.heap.size v [] ∧ Below W0.heap.size W0 w')) := ⟨by
    rw [← hW0]
    refine HNU0.mono fun e w' h => ?_
    unfold RNsA at h
    rw [hno] at h
    exact h⟩
  clear HNU0 hno
  rw [hm] at HNU HKd
  clear hm
  obtain ⟨ka, hka⟩ : ∃ x, (if cap = 1 then some (⟨g, 0, none⟩ : Addr) else some ⟨g, 1, none⟩) = x := ⟨_, rfl⟩
  rw [hka] at HNU
  generalize kindI a = kd at *
  clear hw hw0
  go_enter Tryd.func26, Tryd.ntmps26
  go_wp2_with (first
    | (go_at_call 38; refine (HKd.out _).mono ?_; rintro e w1 ⟨rfl, rfl⟩)
    | (go_at_call 25; refine HNU.out.mono ?_; rintro e w5 ⟨v5, rfl, HN5⟩
       obtain ⟨hb5, q0, q1, q2⟩ := HC1.out w5 HN5.out.2; obtain ⟨f0, f1, f2⟩ : w5.frozen? ⟨H, 0, none⟩ = false ∧ w5.frozen? ⟨H, 1, none⟩ = false ∧ w5.frozen? ⟨H, 2, none⟩ = false := ⟨frz_blk hb5, frz_blk hb5, frz_blk hb5⟩; have HB6 : Bx (Below w.heap.size w w5) := ⟨HB1.out w5 HN5.out.2⟩; have hHlt : H < w5.heap.size := (Array.getElem?_eq_some_iff.1 hb5).1; clear hb5))
  have hle : w.heap.size ≤ H := Nat.le_of_eq hH
  refine bodyPost_ret (v := .tuple #[.agg #[.int .i64 (kd : Nat), .int .i64 0, .int .i64 0], .int .i64 0]) (by simp [results, Tryd.results26, go_sem, q0, q1, q2, hHlt]) rfl ?_
  exact HQ.out _ ((((HB6.out.setCell (p := ⟨H, 0, none⟩) hle _).setCell (p := ⟨H, 1, none⟩) hle _).setCell (p := ⟨H, 2, none⟩) hle _).alloc (by have := HB6.out.size; simpa [World.setCell] using this) _)
set_option maxRecDepth 100000 in
set_option maxHeartbeats 4000000 in
theorem rpick_1 (w : World) (g cap n : Nat) (a : List UInt8) (r : List (List UInt8)) (hw : Wds w g cap a r) (hrl : r.length ≤ 1099511627776) (hrp : ∀ p ∈ r, p.length ≤ 1099511627776) (hk : ¬ kindI a = 0) (hn : n < 4096) (x : Int) (hm : (shapeI (kindI a)).2 = 1) (hno : numsP (shapeI (kindI a)).2 r = some [x]) :
    Calls Tryd.prog 26 #[.slice (some ⟨g, 0, none⟩) (r.length + 1) cap, .int .i64 (n : Int)] w (RPkA w n a r) := by
  have HKd : Bx (∀ X, Calls Tryd.prog 38 #[strV a] X fun e w' => e = .returned (.tuple #[.int .i64 (kindI a : Nat), .int .i64 ((shapeI (kindI a)).2 : Nat)]) ∧ w' = X) := ⟨fun X => (rkind_any a X).mono fun e w' h => by first | (rw [hk, if_pos rfl] at h; exact h) | (rw [if_neg hk] at h; exact h)⟩
  obtain ⟨Q, hQ⟩ : ∃ Q, Q = RPkA w n a r := ⟨_, rfl⟩
  have HQ : Bx (∀ w', Below w.heap.size w w' → Q (.returned (.tuple #[.agg #[.int .i64 (kindI a : Nat), .int .i64 x, .int .i64 0], .int .i64 0])) w') := ⟨fun w' h => by rw [hQ]; unfold RPkA pickW; rw [if_neg hk, if_neg (by omega), hno]; exact ⟨rfl, ⟨h⟩⟩⟩
  rw [← hQ]
  clear hQ
  obtain ⟨H, hH⟩ : ∃ H, w.heap.size = H := ⟨_, rfl⟩
  obtain ⟨W0, hW0⟩ : ∃ X, X = w.alloc (.cells #[.int .i64 0, .int .i64 0, .int .i64 0] 39) := ⟨_, rfl⟩
  have hw0 : Wds W0 g cap a r := by rw [hW0]; exact hw.below hw.lt (below1 w _)
  have hf1 : (w.alloc (.cells #[.int .i64 0, .int .i64 0, .int .i64 0] 39)).cell? ⟨g, 0, none⟩ = some (strV a) := by rw [← hW0]; exact hw0.first
  have hgc := hw.cap
  have hgc2 : r.length ≤ cap - 1 := by omega
  have hgcI : ((r.length : Int) + 1) ≤ (cap : Int) := by omega
  have HB1 : Bx (∀ X, Below W0.heap.size W0 X → Below w.heap.size w X) := ⟨fun X hX => by
    have h1 := below1 w (.cells #[.int .i64 0, .int .i64 0, .int .i64 0] 39)
    rw [← hW0] at h1
    exact h1.trans (hX.mono h1.size)⟩
  have HC1 : Bx (∀ X, Below W0.heap.size W0 X → X.heap[H]? = some (.cells #[.int .i64 0, .int .i64 0, .int .i64 0] 39) ∧ X.cell? ⟨H, 0, none⟩ = some (.int .i64 0) ∧ X.cell? ⟨H, 1, none⟩ = some (.int .i64 0) ∧ X.cell? ⟨H, 2, none⟩ = some (.int .i64 0)) := ⟨fun X hX => by
    have hs : H < W0.heap.size := by rw [hW0]; simp; omega
    have hb : X.heap[H]? = some (.cells #[.int .i64 0, .int .i64 0, .int .i64 0] 39) := by rw [hX.block H hs, hW0, ← hH]; exact heap_alloc_new w _
    exact ⟨hb, cell_blk hb rfl, cell_blk hb rfl, cell_blk hb rfl⟩⟩
  have hkI : ((kindI a : Int) == 0) = false := by simp; exact hk
  have hkI2 : ¬ ((kindI a : Nat) : Int) = 0 := by omega
  have hnI : decide ((4096 : Int) ≤ (n : Int)) = false := by simp; omega
  have hnI2 : ¬ (4096 : Int) ≤ (n : Int) := by omega
  have hnI3 : (n : Int) < 4096 := by omega
  have HNU0 := rnumbers_any W0 (if cap = 1 then some ⟨g, 0, none⟩ else some ⟨g, 1, none⟩) (cap - 1) (shapeI (kindI a)).2 r hw0.tail2 (by omega) hrl hrp
  have HNU : Bx (Calls Tryd.prog 25 #[.slice (if cap = 1 then some ⟨g, 0, none⟩ else some ⟨g, 1, none⟩) r.length (cap - 1), .int .i64 ((shapeI (kindI a)).2 : Nat)] (w.alloc (.cells #[.int .i64 0, .int .i64 0, .int .i64 0] 39)) fun e w' => ∃ v, e = .returned (.tuple #[v, .bool true]) ∧ Bx (NRo w' W0.heap.size v [x] ∧ Below W0.heap.size W0 w')) := ⟨by
    rw [← hW0]
    refine HNU0.mono fun e w' h => ?_
    unfold RNsA at h
    rw [hno] at h
    exact h⟩
  clear HNU0 hno
  rw [hm] at HNU HKd
  clear hm
  obtain ⟨ka, hka⟩ : ∃ x, (if cap = 1 then some (⟨g, 0, none⟩ : Addr) else some ⟨g, 1, none⟩) = x := ⟨_, rfl⟩
  rw [hka] at HNU
  generalize kindI a = kd at *
  clear hw hw0
  go_enter Tryd.func26, Tryd.ntmps26
  go_wp2_with (first
    | (go_at_call 38; refine (HKd.out _).mono ?_; rintro e w1 ⟨rfl, rfl⟩)
    | (go_at_call 25; refine HNU.out.mono ?_; rintro e w5 ⟨v5, rfl, HN5⟩
       obtain ⟨hb5, q0, q1, q2⟩ := HC1.out w5 HN5.out.2; obtain ⟨f0, f1, f2⟩ : w5.frozen? ⟨H, 0, none⟩ = false ∧ w5.frozen? ⟨H, 1, none⟩ = false ∧ w5.frozen? ⟨H, 2, none⟩ = false := ⟨frz_blk hb5, frz_blk hb5, frz_blk hb5⟩; have HB6 : Bx (Below w.heap.size w w5) := ⟨HB1.out w5 HN5.out.2⟩; obtain ⟨gn, cn, rfl, hgn, hgn2, hcn⟩ := HN5.out.1.at_ (by simp); have c0 : w5.cell? ⟨gn, 0, none⟩ = some (.int .i64 x) := hcn 0 (by simp); clear hcn; have hHlt : H < w5.heap.size := (Array.getElem?_eq_some_iff.1 hb5).1; clear hb5))
  have hle : w.heap.size ≤ H := Nat.le_of_eq hH
  refine bodyPost_ret (v := .tuple #[.agg #[.int .i64 (kd : Nat), .int .i64 x, .int .i64 0], .int .i64 0]) (by simp [results, Tryd.results26, go_sem, q0, q1, q2, hHlt]) rfl ?_
  exact HQ.out _ ((((HB6.out.setCell (p := ⟨H, 0, none⟩) hle _).setCell (p := ⟨H, 1, none⟩) hle _).setCell (p := ⟨H, 2, none⟩) hle _).alloc (by have := HB6.out.size; simpa [World.setCell] using this) _)
set_option maxRecDepth 100000 in
set_option maxHeartbeats 4000000 in
theorem rpick_2 (w : World) (g cap n : Nat) (a : List UInt8) (r : List (List UInt8)) (hw : Wds w g cap a r) (hrl : r.length ≤ 1099511627776) (hrp : ∀ p ∈ r, p.length ≤ 1099511627776) (hk : ¬ kindI a = 0) (hn : n < 4096) (x y : Int) (hm : (shapeI (kindI a)).2 = 2) (hno : numsP (shapeI (kindI a)).2 r = some [x, y]) :
    Calls Tryd.prog 26 #[.slice (some ⟨g, 0, none⟩) (r.length + 1) cap, .int .i64 (n : Int)] w (RPkA w n a r) := by
  have HKd : Bx (∀ X, Calls Tryd.prog 38 #[strV a] X fun e w' => e = .returned (.tuple #[.int .i64 (kindI a : Nat), .int .i64 ((shapeI (kindI a)).2 : Nat)]) ∧ w' = X) := ⟨fun X => (rkind_any a X).mono fun e w' h => by first | (rw [hk, if_pos rfl] at h; exact h) | (rw [if_neg hk] at h; exact h)⟩
  obtain ⟨Q, hQ⟩ : ∃ Q, Q = RPkA w n a r := ⟨_, rfl⟩
  have HQ : Bx (∀ w', Below w.heap.size w w' → Q (.returned (.tuple #[.agg #[.int .i64 (kindI a : Nat), .int .i64 x, .int .i64 y], .int .i64 0])) w') := ⟨fun w' h => by rw [hQ]; unfold RPkA pickW; rw [if_neg hk, if_neg (by omega), hno]; exact ⟨rfl, ⟨h⟩⟩⟩
  rw [← hQ]
  clear hQ
  obtain ⟨H, hH⟩ : ∃ H, w.heap.size = H := ⟨_, rfl⟩
  obtain ⟨W0, hW0⟩ : ∃ X, X = w.alloc (.cells #[.int .i64 0, .int .i64 0, .int .i64 0] 39) := ⟨_, rfl⟩
  have hw0 : Wds W0 g cap a r := by rw [hW0]; exact hw.below hw.lt (below1 w _)
  have hf1 : (w.alloc (.cells #[.int .i64 0, .int .i64 0, .int .i64 0] 39)).cell? ⟨g, 0, none⟩ = some (strV a) := by rw [← hW0]; exact hw0.first
  have hgc := hw.cap
  have hgc2 : r.length ≤ cap - 1 := by omega
  have hgcI : ((r.length : Int) + 1) ≤ (cap : Int) := by omega
  have HB1 : Bx (∀ X, Below W0.heap.size W0 X → Below w.heap.size w X) := ⟨fun X hX => by
    have h1 := below1 w (.cells #[.int .i64 0, .int .i64 0, .int .i64 0] 39)
    rw [← hW0] at h1
    exact h1.trans (hX.mono h1.size)⟩
  have HC1 : Bx (∀ X, Below W0.heap.size W0 X → X.heap[H]? = some (.cells #[.int .i64 0, .int .i64 0, .int .i64 0] 39) ∧ X.cell? ⟨H, 0, none⟩ = some (.int .i64 0) ∧ X.cell? ⟨H, 1, none⟩ = some (.int .i64 0) ∧ X.cell? ⟨H, 2, none⟩ = some (.int .i64 0)) := ⟨fun X hX => by
    have hs : H < W0.heap.size := by rw [hW0]; simp; omega
    have hb : X.heap[H]? = some (.cells #[.int .i64 0, .int .i64 0, .int .i64 0] 39) := by rw [hX.block H hs, hW0, ← hH]; exact heap_alloc_new w _
    exact ⟨hb, cell_blk hb rfl, cell_blk hb rfl, cell_blk hb rfl⟩⟩
  have hkI : ((kindI a : Int) == 0) = false := by simp; exact hk
  have hkI2 : ¬ ((kindI a : Nat) : Int) = 0 := by omega
  have hnI : decide ((4096 : Int) ≤ (n : Int)) = false := by simp; omega
  have hnI2 : ¬ (4096 : Int) ≤ (n : Int) := by omega
  have hnI3 : (n : Int) < 4096 := by omega
  have HNU0 := rnumbers_any W0 (if cap = 1 then some ⟨g, 0, none⟩ else some ⟨g, 1, none⟩) (cap - 1) (shapeI (kindI a)).2 r hw0.tail2 (by omega) hrl hrp
  have HNU : Bx (Calls Tryd.prog 25 #[.slice (if cap = 1 then some ⟨g, 0, none⟩ else some ⟨g, 1, none⟩) r.length (cap - 1), .int .i64 ((shapeI (kindI a)).2 : Nat)] (w.alloc (.cells #[.int .i64 0, .int .i64 0, .int .i64 0] 39)) fun e w' => ∃ v, e = .returned (.tuple #[v, .bool true]) ∧ Bx (NRo w' W0.heap.size v [x, y] ∧ Below W0.heap.size W0 w')) := ⟨by
    rw [← hW0]
    refine HNU0.mono fun e w' h => ?_
    unfold RNsA at h
    rw [hno] at h
    exact h⟩
  clear HNU0 hno
  rw [hm] at HNU HKd
  clear hm
  obtain ⟨ka, hka⟩ : ∃ x, (if cap = 1 then some (⟨g, 0, none⟩ : Addr) else some ⟨g, 1, none⟩) = x := ⟨_, rfl⟩
  rw [hka] at HNU
  generalize kindI a = kd at *
  clear hw hw0
  go_enter Tryd.func26, Tryd.ntmps26
  go_wp2_with (first
    | (go_at_call 38; refine (HKd.out _).mono ?_; rintro e w1 ⟨rfl, rfl⟩)
    | (go_at_call 25; refine HNU.out.mono ?_; rintro e w5 ⟨v5, rfl, HN5⟩
       obtain ⟨hb5, q0, q1, q2⟩ := HC1.out w5 HN5.out.2; obtain ⟨f0, f1, f2⟩ : w5.frozen? ⟨H, 0, none⟩ = false ∧ w5.frozen? ⟨H, 1, none⟩ = false ∧ w5.frozen? ⟨H, 2, none⟩ = false := ⟨frz_blk hb5, frz_blk hb5, frz_blk hb5⟩; have HB6 : Bx (Below w.heap.size w w5) := ⟨HB1.out w5 HN5.out.2⟩; obtain ⟨gn, cn, rfl, hgn, hgn2, hcn⟩ := HN5.out.1.at_ (by simp); have c0 : w5.cell? ⟨gn, 0, none⟩ = some (.int .i64 x) := hcn 0 (by simp); have c1 : w5.cell? ⟨gn, 1, none⟩ = some (.int .i64 y) := hcn 1 (by simp); clear hcn; have hHlt : H < w5.heap.size := (Array.getElem?_eq_some_iff.1 hb5).1; clear hb5))
  have hle : w.heap.size ≤ H := Nat.le_of_eq hH
  refine bodyPost_ret (v := .tuple #[.agg #[.int .i64 (kd : Nat), .int .i64 x, .int .i64 y], .int .i64 0]) (by simp [results, Tryd.results26, go_sem, q0, q1, q2, hHlt]) rfl ?_
  exact HQ.out _ ((((HB6.out.setCell (p := ⟨H, 0, none⟩) hle _).setCell (p := ⟨H, 1, none⟩) hle _).setCell (p := ⟨H, 2, none⟩) hle _).alloc (by have := HB6.out.size; simpa [World.setCell] using this) _)
end Go.Proofs.YtecpknpcjoiliabDoor
namespace Go.Proofs.YtecpknpcjoiliabDoor
open Go.RowKit Go.Shelf
set_option linter.unusedVariables false
set_option linter.unusedSimpArgs false

theorem shape_few (a : List UInt8) : (shapeI (kindI a)).2 ≤ 2 := by
  unfold kindI
  split
  · decide
  · split
    · decide
    · split
      · decide
      · split <;> decide
theorem rpick_any (w : World) (g cap n : Nat) (a : List UInt8) (r : List (List UInt8)) (hw : Wds w g cap a r) (hrl : r.length ≤ 1099511627776) (hrp : ∀ p ∈ r, p.length ≤ 1099511627776) (hn : n ≤ 4096) :
    Calls Tryd.prog 26 #[.slice (some ⟨g, 0, none⟩) (r.length + 1) cap, .int .i64 (n : Int)] w (RPkA w n a r) := by
  by_cases hk : kindI a = 0
  · exact rpick_no w g cap n a r hw hrl hrp hk
  · by_cases hn2 : n = 4096
    · exact rpick_many w g cap n a r hw hrl hrp hk hn2
    · have hm := shape_few a
      cases hq : numsP (shapeI (kindI a)).2 r with
      | none => exact rpick_field w g cap n a r hw hrl hrp hk (by omega) hm hq
      | some l =>
        have hl := (numsP_some hq).2.1
        match l, hl with
        | [], hl => exact rpick_0 w g cap n a r hw hrl hrp hk (by omega) hl.symm hq
        | [x], hl => exact rpick_1 w g cap n a r hw hrl hrp hk (by omega) x hl.symm hq
        | [x, y], hl => exact rpick_2 w g cap n a r hw hrl hrp hk (by omega) x y hl.symm hq
        | x :: y :: z :: l, hl => simp at hl; omega
end Go.Proofs.YtecpknpcjoiliabDoor
