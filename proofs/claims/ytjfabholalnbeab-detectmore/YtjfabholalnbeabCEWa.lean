import Derived.Test.YtjfabholalnbeabCEU
import Derived.ArgAppend
namespace Go.Proofs.Ytjfabholalnbeab
open Go.RowKit Go.MapKept Go.ChangeMaps Go.WideShapes
set_option linter.unusedVariables false
set_option linter.unusedSimpArgs false

structure ShA (w W1 : World) : Prop where
  bel : Below w.heap.size w W1
  siz : W1.heap.size = w.heap.size + 3
  b0 : W1.heap[w.heap.size]? = some (.cells #[iV 3, .bool false] 53 (0, 0))
  b1 : W1.heap[w.heap.size + 1]? = some (.cells #[iV 3] 3 (0, 0))
  b2 : W1.heap[w.heap.size + 2]? = some (.cells #[iV 0, .bool false, pS w.heap.size 1, pS (w.heap.size + 1) 1] 32 (0, 0))
theorem sh_start (w : World) : ShA w (((w.alloc (.cells #[.int .i64 3, .bool false] 53)).alloc (.cells #[.int .i64 3] 3)).alloc (.cells #[.int .i64 0, .bool false, .slice (some ⟨w.heap.size, 0, none⟩) 1 1, .slice (some ⟨w.heap.size + 1, 0, none⟩) 1 1] 32)) := by
  refine ⟨(((Below.refl _ _).alloc (by simp) _).alloc (by simp) _).alloc (by simp <;> omega) _, by simp, ?_, ?_, ?_⟩ <;> simp only [iV, pS] <;> repeat (first | exact alloc_at (by simp) | refine up ?_)
/-- what came of the append -/
theorem sh_more {w W1 w2 W3 w4 : World} {v : Value} (h : ShA w W1) (hb : Below W1.heap.size W1 w2) (h3 : (w2.alloc (.cells #[.int .i64 3] 3)).alloc (.cells #[.int .i64 1, .bool true, .slice none 0 0, .slice (some ⟨w2.heap.size, 0, none⟩) 1 1] 32) = W3) (ho : w4.ownsRow W3.heap.size 32 4 v 2 (cA w.heap.size (w.heap.size + 1) ++ cB w2.heap.size)) (hg : W3.grownBy w4 none) : (∃ gg gc, v = .slice (some ⟨gg, 0, none⟩) 2 gc ∧ 2 ≤ gc ∧ gc ≤ 9223372036854775807 ∧ AgsR w4 (some ⟨gg, 0, none⟩) gc exB) ∧ Below w2.heap.size w2 w4 := by
  have hb3 : Below w2.heap.size w2 W3 := by rw [← h3]; exact two_new _ _ _
  have hb4 : Below w2.heap.size w2 w4 := hb3.grown hg hb3.size (fun k e => by cases e)
  have hs := h.siz
  have hz := hb.size
  have hk : ∀ {g : Nat} {o : Obj}, W1.heap[g]? = some o → w4.heap[g]? = some o := fun {g o} e => by
    have hl := (Array.getElem?_eq_some_iff.1 e).1
    rw [hb4.block g (by omega), hb.block g hl]
    exact e
  have h2 : w4.heap[w2.heap.size]? = some (.cells #[iV 3] 3 (0, 0)) := by
    have e : W3.heap[w2.heap.size]? = some (.cells #[iV 3] 3 (0, 0)) := by rw [← h3]; exact up (World.alloc_heap_new _ _)
    rw [hg.block _ (Array.getElem?_eq_some_iff.1 e).1 (by simp)]
    exact e
  refine ⟨?_, hb4⟩
  rcases ho.2 with ⟨_, x⟩ | ⟨g, cap, cur, rfl, _, _, x4, x5, _⟩
  · cases x
  · exact ⟨g, cap, rfl, x4, by unfold maxLen at x5; omega, shB_read (hk h.b0) (hk h.b1) h2 ho⟩
theorem sh_olds {w W1 w2 : World} (h : ShA w W1) (hb : Below W1.heap.size W1 w2) (o o' : Obj) : ∀ j u, (cA w.heap.size (w.heap.size + 1))[j]? = some u → ((w2.alloc o).alloc o').cell? ⟨w.heap.size + 1 + 1, 0 + j, none⟩ = some u := fun j u hu => by
  have e := (hb.block _ (Array.getElem?_eq_some_iff.1 h.b2).1).trans h.b2
  rw [Nat.zero_add]
  refine cell_of (up (up e)) ?_
  rw [← Array.getElem?_toList]
  exact hu
theorem sh_far {a b c d : World} (h1 : Below a.heap.size a b) (h2 : Below b.heap.size b c) (h3 : Below c.heap.size c d) (o : Obj) : Below a.heap.size a (d.alloc o) := by
  have h12 := h1.trans (h2.mono h1.size)
  have h13 := h12.trans (h3.mono h12.size)
  exact h13.trans ((below1 _ _).mono h13.size)
theorem sh_end {w W1 w2 w4 w5 w6 w7 w8 : World} (h : ShA w W1) (h2 : Below W1.heap.size W1 w2) (h4 : Below w2.heap.size w2 w4) (h5 : Below w4.heap.size w4 w5) (h6 : Below w5.heap.size w5 w6) (h7 : Below w6.heap.size w6 w7) (h8 : Below w7.heap.size w7 w8) : Below w.heap.size w w8 := by
  have a1 := h.bel
  have a2 := a1.trans (h2.mono a1.size)
  have a3 := a2.trans (h4.mono a2.size)
  have a4 := a3.trans (h5.mono a3.size)
  have a5 := a4.trans (h6.mono a4.size)
  have a6 := a5.trans (h7.mono a5.size)
  exact a6.trans (h8.mono a6.size)
theorem cB_one (g : Nat) : ∀ u ∈ cB g, u.oneCell' = true := fun u hu => by
  unfold cB at hu
  simp only [List.mem_cons, List.not_mem_nil, or_false] at hu
  rcases hu with rfl | rfl | rfl | rfl <;> rfl
theorem int0 (X : World) : IntsR (X.alloc (.cells #[.int .i64 0] 3)) (some ⟨X.heap.size, 0, none⟩) 1 [0] := ints_read (l := [0]) (own_blk (n := 1) (z := 1) (World.alloc_heap_new X (.cells #[.int .i64 0] 3)) rfl (by decide)) (fun x hx => by
  rw [List.mem_singleton.1 hx]
  exact ⟨by decide, by decide⟩)
theorem lk1 (X : World) : LksR (X.alloc (.cells #[.int .i64 1, .int .i64 0, .int .i64 3] 38)) (some ⟨X.heap.size, 0, none⟩) 1 [⟨1, 0, 3⟩] := by
  obtain ⟨p, c, e, h⟩ := lks_read (l := [⟨1, 0, 3⟩]) (own_blk (n := 1) (z := 3) (World.alloc_heap_new X (.cells #[.int .i64 1, .int .i64 0, .int .i64 3] 38)) rfl (by decide)) (fun x hx => by
    rw [List.mem_singleton.1 hx]
    exact ⟨⟨by decide, by decide⟩, ⟨by decide, by decide⟩, ⟨by decide, by decide⟩⟩)
  injection e with x1 x2 x3
  subst x1 x3
  exact h
set_option maxRecDepth 100000 in
set_option maxHeartbeats 1000000 in
theorem shown15_any (w : World) : Calls Try.prog 9 #[] w fun e w' => e = .returned (.bool true) ∧ Below w.heap.size w w' := by
  obtain ⟨i0, hi, iz0, iz1, iz2⟩ := info_parts infoG
  have HA : Bx _ := ⟨sh_start w⟩
  obtain ⟨W1, hW1⟩ : ∃ W1, ((w.alloc (.cells #[.int .i64 3, .bool false] 53)).alloc (.cells #[.int .i64 3] 3)).alloc (.cells #[.int .i64 0, .bool false, .slice (some ⟨w.heap.size, 0, none⟩) 1 1, .slice (some ⟨w.heap.size + 1, 0, none⟩) 1 1] 32) = W1 := ⟨_, rfl⟩
  rw [hW1] at HA
  have HW1 : Bx (_ = W1) := ⟨hW1⟩
  clear hW1
  go_enter Try.func9, Try.ntmps9
  go_wp2_with (first
    | (go_at_call 10; rw [HW1.out]; refine Calls.mono (deadA (shA_read HA.out.b0 HA.out.b1 HA.out.b2)) ?_; rintro e w2 ⟨q2, d2, rfl, hi2, hb2⟩; have I2 : Bx (IntsR w2 q2 d2 [0] ∧ Below W1.heap.size W1 w2) := ⟨hi2, hb2⟩; clear hi2 hb2 HW1)
    | (go_at_call 10; refine Calls.mono (deadB I4.out.1) ?_; rintro e w5 ⟨q5, d5, rfl, hb5⟩; have I5 : Bx (Below w4.heap.size w4 w5) := ⟨hb5⟩; clear hb5)
    | (at_builtin; refine wpList_append_arg _ rfl (.tmp 19) (.tmp 22) 22 rfl 32 i0 (.agg #[.int .i64 0, .bool false, .slice none 0 0, .slice none 0 0]) 4 64 Try.underlying22 hi iz0 iz1 iz2 rfl (by decide) (w.heap.size + 1 + 1) 0 1 1 (cA w.heap.size (w.heap.size + 1)) rfl rfl (sh_olds HA.out I2.out.2 _ _) ⟨w2.heap.size + 1, 0, none⟩ 1 1 (cB w2.heap.size) rfl rfl (block_cells _ _ _ 32 (alloc_at (by simp))) (cB_one _) (fun h => by omega) (by unfold maxLen; omega) (by omega) (fun h => by omega) (fun _ v4 w4 ho4 hg4 => ?_); obtain ⟨⟨gg, gc, rfl, hc1, hc2, hA4⟩, hb4⟩ := sh_more HA.out I2.out.2 rfl ho4 hg4; have I4 : Bx (AgsR w4 (some ⟨gg, 0, none⟩) gc exB ∧ Below w2.heap.size w2 w4) := ⟨hA4, hb4⟩; clear ho4 hg4 hA4 hb4)
    | (go_at_call 12; refine Calls.mono (chainB (I4.out.1.later I5.out)) ?_; rintro e w6 ⟨q6, d6, rfl, hl6, hb6⟩; have I6 : Bx (LksR w6 q6 d6 [⟨1, 0, 3⟩] ∧ Below w5.heap.size w5 w6) := ⟨hl6, hb6⟩; clear hl6 hb6)
    | (go_at_call 19; refine Calls.mono (numbers_yes _ q2 (some ⟨w6.heap.size, 0, none⟩) d2 1 [0] (I2.out.1.later (sh_far I4.out.2 I5.out I6.out.2 _)) (int0 w6)) ?_; rintro e w7 ⟨rfl, k7, hk7⟩; have I7 : Bx (Below w6.heap.size w6 w7) := ⟨by rw [hk7]; exact below_drewN (below1 _ _) k7⟩; clear hk7)
    | (go_at_call 21; refine Calls.mono (chains_yes _ q6 (some ⟨w7.heap.size, 0, none⟩) d6 1 [⟨1, 0, 3⟩] (I6.out.1.later (I7.out.trans ((below1 _ _).mono I7.out.size))) (lk1 w7)) ?_; rintro e w8 ⟨rfl, k8, hk8⟩; have I8 : Bx (Below w7.heap.size w7 w8) := ⟨by rw [hk8]; exact below_drewN (below1 _ _) k8⟩; clear hk8))
  go_ret
  exact ⟨rfl, sh_end HA.out I2.out.2 I4.out.2 I5.out I6.out.2 I7.out I8.out⟩
end Go.Proofs.Ytjfabholalnbeab
