import Derived.Test.YtecpknpcjoiliaaDoorCJTb
import Derived.Test.YtecpknpcjoiliaaDoorCJPa
import Derived.Test.YtecpknpcjoiliaaDoorCJSh
namespace Go.Proofs.YtecpknpcjoiliaaDoor
open Go.RowKit Go.Shelf
set_option linter.unusedVariables false
set_option linter.unusedSimpArgs false

theorem run_append_zero {P : Program} {w : World} (base : Nat) (t ty e : TypeId) (i : TypeInfo) (size : Nat) (ht : P.underlying t = some (.slice e)) (hi : P.info? e = some i)
    (v : Value) (n : Nat) (xs : List Value) (hown : w.ownsRow base e size v n xs) (p : Option Addr) (c : Nat) :
    (Builtin.append_ #[t, t] ty #[v, .slice p 0 c]).run P w = .ok v w := by
  have hl : ∀ a : Addr, (Go.loadCells a 0).run P w = .ok #[] w := fun a => by
    have := run_loadCells_list (P := P) w a [] (by simp)
    simpa using this
  rcases hown.2 with ⟨rfl, rfl⟩ | ⟨g, cap, cur, rfl, _, _, hnc, _⟩
  · cases p <;> simp [Builtin.append_, run_underlying ht, sizeOf, typeInfo, hi, Builtin.lenOf, Builtin.firstCells, storeCells, hl]
  · cases p <;> simp [Builtin.append_, run_underlying ht, sizeOf, typeInfo, hi, Builtin.lenOf, Builtin.firstCells, storeCells, hl, hnc]
/-- events that are to be read, as cells -/
theorem evs_src {w : World} {B : Nat} {a : Option Addr} {es : List Ev} (h : EvsV w B a es) : ∃ ls : List (Option Addr × Nat), ls.length = es.length ∧ (∀ i (h1 : i < es.length) (h2 : i < ls.length), IntsV w B ls[i].1 ls[i].2 es[i].list) ∧ (0 < es.length → ∃ b o, a = some ⟨b, o, none⟩ ∧ b < B ∧ ∀ j u, (evCs es ls)[j]? = some u → w.cell? ⟨b, o + j, none⟩ = some u) := by
  by_cases h0 : 0 < es.length
  · obtain ⟨b, o, rfl, hb, hc⟩ := h.at_ h0
    let f : Nat → Option Addr × Nat := fun i => if h : i < es.length then ((hc i h).choose, (hc i h).choose_spec.choose) else (none, 0)
    have hf : ∀ i (hi : i < es.length), EvAt w B b (o + i * 8) es[i] (f i).1 (f i).2 := fun i hi => by
      have : f i = ((hc i hi).choose, (hc i hi).choose_spec.choose) := by simp [f, hi]
      rw [this]
      exact (hc i hi).choose_spec.choose_spec
    have hll : ((List.range es.length).map f).length = es.length := by simp
    have hget : ∀ i (hi : i < ((List.range es.length).map f).length), ((List.range es.length).map f)[i] = f i := fun i hi => by simp
    refine ⟨(List.range es.length).map f, hll, fun i h1 h2 => by rw [hget]; exact (hf i h1).li, fun _ => ⟨b, o, rfl, hb, fun j u hj => ?_⟩⟩
    have hlen := evCs_len hll
    have hjl : j < es.length * 8 := by rw [← hlen]; exact (List.getElem?_eq_some_iff.1 hj).1
    have hi : j / 8 < es.length := by omega
    have e := evCs_at hll (j / 8) hi (j % 8) (by omega)
    have ej : j / 8 * 8 + j % 8 = j := by omega
    rw [ej, hj] at e
    have hev := hf (j / 8) hi
    rw [hget] at e
    have ej2 : o + j = o + j / 8 * 8 + j % 8 := by omega
    rw [ej2]
    have hm : j % 8 = 0 ∨ j % 8 = 1 ∨ j % 8 = 2 ∨ j % 8 = 3 ∨ j % 8 = 4 ∨ j % 8 = 5 ∨ j % 8 = 6 ∨ j % 8 = 7 := by omega
    rcases hm with h' | h' | h' | h' | h' | h' | h' | h' <;> rw [h'] at e ⊢ <;> simp at e <;> subst e
    · exact hev.c0
    · exact hev.c1
    · exact hev.c2
    · exact hev.c3
    · exact hev.c4
    · exact hev.c5
    · exact hev.c6
    · exact hev.c7
  · have : es = [] := List.eq_nil_of_length_eq_zero (by omega)
    subst this
    exact ⟨[], rfl, fun i h1 => by simp at h1, fun h => absurd h (by simp)⟩
/-- events laid behind one another in a row of one's own; their lists are others' -/
structure EvR (W : World) (H : Nat) (vv : Value) (es : List Ev) (ls : List (Option Addr × Nat)) : Prop where
  len : ls.length = es.length
  row : W.ownsRow H 24 8 vv es.length (evCs es ls)
  lst : ∀ i (h1 : i < es.length) (h2 : i < ls.length), IntsV W H ls[i].1 ls[i].2 es[i].list
theorem evCs_one (es : List Ev) (ls : List (Option Addr × Nat)) : ∀ u ∈ evCs es ls, u.oneCell' = true := by
  intro u hu
  unfold evCs at hu
  rw [List.mem_flatMap] at hu
  obtain ⟨x, _, hu⟩ := hu
  simp only [List.mem_cons, List.not_mem_nil, or_false] at hu
  rcases hu with rfl | rfl | rfl | rfl | rfl | rfl | rfl | rfl <;> rfl
theorem evCs_app {es es2 : List Ev} {ls ls2 : List (Option Addr × Nat)} (h : ls.length = es.length) : evCs (es ++ es2) (ls ++ ls2) = evCs es ls ++ evCs es2 ls2 := by
  unfold evCs
  rw [List.zip_append h.symm, List.flatMap_append]
theorem EvR.view {W : World} {H : Nat} {a : Option Addr} {n cap : Nat} {es : List Ev} {ls : List (Option Addr × Nat)} (h : EvR W H (.slice a n cap) es ls) (hH : H ≤ W.heap.size) : n = es.length ∧ EvsV W W.heap.size a es := by
  have hl := h.len
  rcases h.row.2 with ⟨e, hn⟩ | ⟨g, c, cur, e, hB, hg, q1, q2, q3, q4⟩
  · simp only [Value.slice.injEq] at e
    obtain ⟨rfl, rfl, rfl⟩ := e
    have : es = [] := List.eq_nil_of_length_eq_zero hn
    subst this
    exact ⟨rfl, evsV_nil _ _ _⟩
  · simp only [Value.slice.injEq] at e
    obtain ⟨rfl, rfl, rfl⟩ := e
    refine ⟨rfl, by omega, fun _ => ⟨g, 0, rfl, heap_lt hg, fun i hi => ⟨(ls[i]'(by omega)).1, (ls[i]'(by omega)).2, ?_⟩⟩⟩
    have hlen := evCs_len hl
    have key : ∀ j, j < 8 → W.cell? ⟨g, 0 + i * 8 + j, none⟩ = [Value.int .i64 es[i].kind, .int .i64 es[i].p, .int .i64 es[i].i, .int .i64 es[i].q, .int .i64 es[i].j, .int .i64 es[i].c, .int .i64 es[i].num, .slice (ls[i]'(by omega)).1 es[i].list.length (ls[i]'(by omega)).2][j]? := fun j hj => by
      rw [← evCs_at hl i hi j hj, Nat.zero_add, World.cell?]
      simp only [hg]
      have e4 := congrArg (fun L => L[i * 8 + j]?) q4
      rw [List.getElem?_take_of_lt (by omega), Array.getElem?_toList] at e4
      exact e4
    exact ⟨key 0 (by omega), key 1 (by omega), key 2 (by omega), key 3 (by omega), key 4 (by omega), key 5 (by omega), key 6 (by omega), key 7 (by omega), (h.lst i hi (by omega)).up hH⟩
theorem EvR.below {W W' : World} {H : Nat} {vv : Value} {es : List Ev} {ls : List (Option Addr × Nat)} (h : EvR W H vv es ls) (hH : H ≤ W.heap.size) (hb : Below W.heap.size W W') : EvR W' H vv es ls :=
  ⟨h.len, owns_same h.row fun g _ hg => hb.block g hg, fun i h1 h2 => (h.lst i h1 h2).below (hb.mono hH)⟩
theorem EvR.app {W : World} {H : Nat} {vv : Value} {es : List Ev} {ls : List (Option Addr × Nat)} (h : EvR W H vv es ls) (hH : H ≤ W.heap.size) {a : Option Addr} {es2 : List Ev} (cap : Nat) (hs : EvsV W H a es2) (hn : es.length + es2.length ≤ 1099511627776) :
    ∃ v' W3 ls3, (∀ ty, (Builtin.append_ #[29, 29] ty #[vv, .slice a es2.length cap]).run Tryd.prog W = .ok v' W3) ∧ EvR W3 H v' (es ++ es2) ls3 ∧ Below H W W3 := by
  obtain ⟨i0, hi0, hz0, hz1, hz2⟩ := info_parts infoEv
  obtain ⟨ls2, k1, k2, k3⟩ := evs_src hs
  by_cases h0 : 0 < es2.length
  · obtain ⟨b, o, rfl, hb, hc⟩ := k3 h0
    obtain ⟨g, c, W3, r1, r2, r3, r4, r5⟩ := run_append_lies (P := Tryd.prog) W 29 24 H 24 i0 _ 8 80 Tryd.underlying29 hi0 hz0 hz1 hz2 rfl (by decide) vv es.length _ h.row ⟨b, o, none⟩ es2.length cap (evCs es2 ls2) (evCs_len k1) (fun j u hj => by
      have e : (⟨b, o, none⟩ : Addr).add j = ⟨b, o + j, none⟩ := by unfold Addr.add; split <;> simp_all
      rw [e]; exact hc j u hj) (evCs_one _ _) h0 (by unfold maxLen; omega) (by omega) hH W.heap.size rfl
    have hbel : Below H W W3 := (Below.refl H W).grown r3 hH fun k hk => (owns_block h.row hk).1
    refine ⟨_, W3, ls ++ ls2, fun ty => r1, ⟨by simp [h.len, k1], ?_, fun i h1 h2 => ?_⟩, hbel⟩
    · rw [List.length_append, evCs_app h.len]
      exact r2
    · by_cases hi : i < es.length
      · have hl : i < ls.length := by rw [h.len]; exact hi
        simp only [List.getElem_append_left hi, List.getElem_append_left hl]
        exact (h.lst i hi hl).below hbel
      · have hl := h.len
        have e1 : (ls ++ ls2)[i]'h2 = ls2[i - es.length]'(by simp at h1; omega) := by
          rw [List.getElem_append_right (by omega)]
          simp only [hl]
        have e2 : (es ++ es2)[i]'h1 = es2[i - es.length]'(by simp at h1; omega) := by rw [List.getElem_append_right (by omega)]
        rw [e1, e2]
        exact (k2 _ _ _).below hbel
  · have hx : es2 = [] := List.eq_nil_of_length_eq_zero (by omega)
    subst hx
    refine ⟨vv, W, ls, fun ty => run_append_zero (P := Tryd.prog) (w := W) H 29 ty 24 i0 8 Tryd.underlying29 hi0 vv es.length _ h.row a cap, ?_, Below.refl _ _⟩
    rw [List.append_nil]
    exact h
theorem evR_new (w : World) (H : Nat) (hH : w.heap.size = H) : EvR (w.alloc (.cells #[] 24)) H (.slice (some ⟨H, 0, none⟩) 0 0) [] [] := by
  subst hH
  exact ⟨rfl, ⟨rfl, .inr ⟨w.heap.size, 0, #[], rfl, Nat.le_refl _, heap_alloc_new w _, Nat.le_refl _, by simp [maxLen], rfl, rfl⟩⟩, fun i h => by simp at h⟩
theorem print_ok {l : List Ev} (h : (printE l).2 = 0) : l.all evOk = true ∧ printE l = (evsT l, 0) := by
  unfold printE at h ⊢
  split
  · rename_i h1; exact ⟨h1, rfl⟩
  · rename_i h1; rw [if_neg h1] at h; cases h
theorem print_no {l : List Ev} (h : (printE l).2 ≠ 0) : l.all evOk = false ∧ printE l = ([], 180) := by
  unfold printE at h ⊢
  split
  · rename_i h1; rw [if_pos h1] at h; exact absurd rfl h
  · rename_i h1; exact ⟨by simpa using h1, rfl⟩
end Go.Proofs.YtecpknpcjoiliaaDoor
