import Derived.Test.YtllgaholkminnaaDoorCKMem
import Derived.Test.YtllgaholkminnaaDoorCKVal
import Derived.Deep.AppendLies
import Derived.Deep.LoopGhost
import Derived.Deep.RegionHeld
namespace Go.Proofs.YtllgaholkminnaaDoor
open Go.RowKit
set_option linter.unusedVariables false
set_option linter.unusedSimpArgs false

set_option maxHeartbeats 1000000 in
theorem headOf_any (w : World) (kd : Int) (ka : Option Addr) (n kc : Nat) (r : Bool) :
    Calls Tryd.prog 25 #[.agg #[.int .i64 kd, .slice ka n kc, .bool r]] w fun e w' => e = .returned (.agg #[.int .i64 kd, .int .i64 n, .bool r]) ∧ Below w.heap.size w w' := by
  have hb1 := below1 w (.cells #[.int .i64 kd, .slice ka n kc, .bool r] 32)
  have HB : Bx (∀ o, Below w.heap.size w ((w.alloc (.cells #[.int .i64 kd, .slice ka n kc, .bool r] 32)).alloc o)) := ⟨fun o => hb1.trans ((below1 _ o).mono (by simp))⟩
  clear hb1
  go_enter Tryd.func25, Tryd.ntmps25
  go_wp2
  try simp only [Exit.inBlock, Exit.then]
  refine bodyPost_ret (v := .agg #[.int .i64 kd, .int .i64 n, .bool r]) (by simp [results, Tryd.results25, go_sem]) rfl ⟨rfl, ?_⟩
  exact HB.out _

def pairC (p : Nat × Nat) : List Value := [.int .i64 (p.1 : Nat), .int .i64 (p.2 : Nat)]
def pairsC (ps : List (Nat × Nat)) : List Value := ps.flatMap pairC
theorem pairsC_len (ps : List (Nat × Nat)) : (pairsC ps).length = ps.length * 2 := by
  induction ps with
  | nil => rfl
  | cons p r ih => simp [pairsC, pairC] at *; omega
theorem pairsC_snoc (ps : List (Nat × Nat)) (p : Nat × Nat) : pairsC (ps ++ [p]) = pairsC ps ++ pairC p := by simp [pairsC]
theorem infoPair : (Tryd.prog.info? 50).map (fun i => (i.zero, i.size, i.bytes)) = some (some (.agg #[.int .i64 0, .int .i64 0]), 2, 16) := by kernel_rfl
theorem pair_news (X : World) (H : Nat) (hH : X.heap.size = H) (a b : Value) : ∀ (j : Nat) (u : Value), [a, b][j]? = some u → (X.alloc (.cells #[a, b] 50)).cell? ((⟨H, 0, none⟩ : Addr).add j) = some u := by
  subst hH
  exact World.news_of_block (w := X.alloc (.cells #[a, b] 50)) (cs := #[a, b]) (heap_alloc_new X (.cells #[a, b] 50))
theorem pair_one (x y : Int) : ∀ u ∈ [Value.int .i64 x, Value.int .i64 y], u.oneCell' = true := by
  intro u hu
  simp at hu
  rcases hu with rfl | rfl <;> rfl
theorem owns_same {W W' : World} {B : Nat} {e : TypeId} {s : Nat} {v : Value} {n : Nat} {cs : List Value} (h : W.ownsRow B e s v n cs) (hb : ∀ g, B ≤ g → g < W.heap.size → W'.heap[g]? = W.heap[g]?) : W'.ownsRow B e s v n cs := by
  refine ⟨h.1, ?_⟩
  rcases h.2 with hn | ⟨g, cap, cur, rfl, hB, hgg, rest⟩
  · exact .inl hn
  · exact .inr ⟨g, cap, cur, rfl, hB, by rw [hb g hB (Array.getElem?_eq_some_iff.1 hgg).1]; exact hgg, rest⟩
theorem owns_block {W : World} {B : Nat} {e : TypeId} {s : Nat} {v : Value} {n : Nat} {cs : List Value} (h : W.ownsRow B e s v n cs) {g : Nat} (hg : v.ownBlock = some g) : B ≤ g ∧ g < W.heap.size := by
  rcases h.2 with ⟨rfl, _⟩ | ⟨g', cap, cur, rfl, hB, hgg, rest⟩
  · cases hg
  · simp only [Value.ownBlock, Option.some.injEq] at hg
    subst hg
    exact ⟨hB, (Array.getElem?_eq_some_iff.1 hgg).1⟩

/-- the memory in the midst of Same: the table below fb, the row of roots at fb, the pairs behind it -/
structure SmW (w0 W : World) (fb N : Nat) (v : Value) (ys : List Nat) (ps : List (Nat × Nat)) : Prop where
  bel : Below fb w0 W
  row : NRow W fb ys
  len : ys.length = N
  own : W.ownsRow (fb + 1) 50 2 v ps.length (pairsC ps)
theorem SmW.ext {w0 W W' : World} {fb N : Nat} {v : Value} {ys : List Nat} {ps : List (Nat × Nat)} (h : SmW w0 W fb N v ys ps) (hb : Below W.heap.size W W') : SmW w0 W' fb N v ys ps :=
  ⟨h.bel.trans (hb.mono (Nat.le_of_lt h.row.lt)), h.row.below hb, h.len, owns_same h.own fun g _ hg => hb.block g hg⟩
theorem SmW.only {w0 W W' : World} {fb N : Nat} {v : Value} {ys zs : List Nat} {ps : List (Nat × Nat)} (h : SmW w0 W fb N v ys ps) (ho : Only fb W W') (hr : NRow W' fb zs) (hl : zs.length = N) : SmW w0 W' fb N v zs ps :=
  ⟨ho.bel fb w0 (Nat.le_refl _) h.bel, hr, hl, owns_same h.own fun g hB _ => ho.block g (by omega)⟩
theorem SmW.pop {w0 W : World} {fb N : Nat} {v : Value} {ys : List Nat} {ps : List (Nat × Nat)} {p : Nat × Nat} (h : SmW w0 W fb N v ys (ps ++ [p])) :
    ∃ g cap, v = .slice (some ⟨g, 0, none⟩) (ps.length + 1) cap ∧ ps.length + 1 ≤ cap ∧ cap ≤ maxLen ∧ g < W.heap.size ∧ W.cell? ⟨g, ps.length * 2, none⟩ = some (.int .i64 (p.1 : Nat)) ∧ W.cell? ⟨g, ps.length * 2 + 1, none⟩ = some (.int .i64 (p.2 : Nat)) ∧ SmW w0 W fb N (.slice (some ⟨g, 0, none⟩) ps.length cap) ys ps := by
  obtain ⟨h1, h2, h3, h4, h5⟩ := h
  rcases h5 with ⟨_, hn⟩ | ⟨g, cap, cur, rfl, hB, hgg, q1, q2, q3, q4⟩
  · simp at hn
  · simp only [List.length_append, List.length_singleton] at *
    rw [pairsC_snoc] at q4
    have hat : ∀ j, j < (ps.length + 1) * 2 → cur[j]? = (pairsC ps ++ pairC p)[j]? := fun j hj => by
      rw [← q4, List.getElem?_take_of_lt hj, Array.getElem?_toList]
    have e0 : (pairsC ps ++ pairC p)[ps.length * 2]? = some (.int .i64 (p.1 : Nat)) := by
      rw [← pairsC_len, List.getElem?_append_right (Nat.le_refl _)]; simp [pairC]
    have e1 : (pairsC ps ++ pairC p)[ps.length * 2 + 1]? = some (.int .i64 (p.2 : Nat)) := by
      rw [← pairsC_len, List.getElem?_append_right (by omega)]; simp [pairC]
    refine ⟨g, cap, rfl, q1, q2, (Array.getElem?_eq_some_iff.1 hgg).1, ?_, ?_, h1, h2, h3, pairsC_len ps, .inr ⟨g, cap, cur, rfl, hB, hgg, by omega, q2, q3, ?_⟩⟩
    · rw [cell_of_row W g _ cur _ (0, 0) hgg, hat _ (by omega), e0]
    · rw [cell_of_row W g _ cur _ (0, 0) hgg, hat _ (by omega), e1]
    · have : cur.toList.take (ps.length * 2) = (cur.toList.take ((ps.length + 1) * 2)).take (ps.length * 2) := by
        rw [List.take_take]; congr 1; omega
      rw [this, q4, ← pairsC_len, List.take_left]
theorem SmW.push {w0 W w4 : World} {fb N : Nat} {v : Value} {ys : List Nat} {ps : List (Nat × Nat)} {p : Nat × Nat} {o : Obj} (h : SmW w0 W fb N v ys ps) (hg : (W.alloc o).grownBy w4 v.ownBlock) {g cap : Nat}
    (hown : w4.ownsRow (fb + 1) 50 2 (.slice (some ⟨g, 0, none⟩) (ps.length + 1) cap) (ps.length + 1) (pairsC ps ++ pairC p)) : SmW w0 w4 fb N (.slice (some ⟨g, 0, none⟩) (ps.length + 1) cap) ys (ps ++ [p]) := by
  have hlt := h.row.lt
  have hz := hg.size
  have hne : some fb ≠ v.ownBlock := fun e => by have := (owns_block h.own e.symm).1; omega
  refine ⟨?_, h.row.same ?_, h.len, ?_⟩
  · exact (h.bel.trans ((below1 W o).mono (by omega))).grown hg (by simp; omega) (fun k hk => by have := (owns_block h.own hk).1; omega)
  · rw [hg.block fb (by simp; omega) hne, (below1 W o).block fb hlt]
  · rw [pairsC_snoc, List.length_append]
    exact hown
theorem SmW.setc {w0 W : World} {fb N : Nat} {v : Value} {ys : List Nat} {ps : List (Nat × Nat)} (h : SmW w0 W fb N v ys ps) (x y : Nat) (hx : x < N) : SmW w0 (W.setCell ⟨fb, x, none⟩ (.int .i64 (y : Nat))) fb N v (ys.set x y) ps :=
  h.only (Only.set _ _ _ _) (h.row.set x y (by rw [h.len]; exact hx)) (by simpa using h.len)
end Go.Proofs.YtllgaholkminnaaDoor
