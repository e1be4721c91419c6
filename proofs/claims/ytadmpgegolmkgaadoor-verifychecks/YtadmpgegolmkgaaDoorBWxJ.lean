import Derived.Test.YtadmpgegolmkgaaDoorBWxH
import Derived.Test.YtadmpgegolmkgaaDoorBWzL
import Derived.Test.YtadmpgegolmkgaaDoorBWhE
import Derived.Test.YtadmpgegolmkgaaDoorBYV
set_option linter.unusedVariables false
set_option linter.unusedSimpArgs false
set_option maxHeartbeats 4000000
set_option maxRecDepth 100000
namespace Go.Proofs.YtadmpgegolmkgaaDoor
open Go.RowKit
theorem kw {p : CPg} : ∀ {l : List CPg}, p ∈ l -> p.code.length <= bL l
 | q :: r, h => by
  unfold bL
  rw [List.map_cons, List.sum_cons]
  rcases List.mem_cons.1 h with e | e
  ·subst e
   omega
  ·have := kw e
   unfold bL at this
   omega
theorem LtU.bR {W : World} {B : Nat} {pa ta : Option Addr} {pc tc : Nat} {u : CUn} {G : List (Nat × Nat)} {C : List PG} (h : LtU W B pa ta pc tc u G C) {k : Nat} (hk : k < u.ae.length) : ∃ g, pa = some ⟨g, 0, none⟩ /\ g < W.heap.size /\ B <= g /\ ∃ (hk2 : k < C.length), W.cell? ⟨g, k * 5 + 4, none⟩ = some (.slice (some ⟨C[k].1.1, 0, none⟩) u.ae[k].code.length C[k].1.2) := by
 have hk2 : k < C.length := by have := h.len; omega
 have hpl := h.all.1
 rcases h.all.2 with ⟨e, hn⟩ | ⟨g, cap, cur, e, hB, hg, q1, q2, q3, q4⟩
 ·omega
 ·simp only [Value.slice.injEq, true_and] at e
  obtain ⟨e1, e2⟩ := e
  subst e1 e2
  refine ⟨g, rfl, ah hg, hB, hk2, ?_⟩
  rw [h.all.cellAt (k * 5 + 4) (by omega)]
  exact lq _ _ k hk hk2 4 (by omega)
theorem LtU.bF {W : World} {B : Nat} {pa ta : Option Addr} {pc tc : Nat} {u : CUn} {G : List (Nat × Nat)} {C : List PG} (h : LtU W B pa ta pc tc u G C) {k m : Nat} (hk : k < u.ae.length) (hk2 : k < C.length) (hm : m < u.ae[k].code.length) : C[k].1.1 < W.heap.size /\ (∀ i, W.frozen? ⟨C[k].1.1, i, none⟩ = false) /\ ∃ ka kc, W.cell? ⟨C[k].1.1, m * 4, none⟩ = some (.int .i64 u.ae[k].code[m].op) /\ W.cell? ⟨C[k].1.1, m * 4 + 1, none⟩ = some (.int .i64 u.ae[k].code[m].a) /\ W.cell? ⟨C[k].1.1, m * 4 + 2, none⟩ = some (.int .i64 u.ae[k].code[m].b) /\ W.cell? ⟨C[k].1.1, m * 4 + 3, none⟩ = some (.slice ka u.ae[k].code[m].list.length kc) := by
 have hc := h.cod k hk hk2
 have hm2 : m < C[k].2.length := by have := hc.len; omega
 obtain ⟨cs, hb⟩ := hc.blk
 have q := fun j hj => hc.at_ m hm hm2 j hj
 exact ⟨hc.lt, fun i => aL hb, some ⟨C[k].2[m].1, 0, none⟩, C[k].2[m].2, q 0 (by omega), q 1 (by omega), q 2 (by omega), q 3 (by omega)⟩
theorem UnW.more {u : CUn} (h : UnW u) : UnW (lg u) := by
 refine ⟨fun p hp x hx => ?_, fun p hp x hx => ?_, h.tl, h.sk⟩
 all_goals
  rcases List.mem_append.1 hp with hp | hp
 ·exact h.wf p hp x hx
 ·simp at hp
  subst hp
  simp [qP] at hx
  subst hx
  exact ⟨by unfold I64; decide, by unfold I64; decide, by unfold I64; decide, fun k hk => by simp at hk⟩
 ·exact h.ls p hp x hx
 ·simp at hp
  subst hp
  simp [qP] at hx
  subst hx
  exact Nat.zero_le _
end Go.Proofs.YtadmpgegolmkgaaDoor
