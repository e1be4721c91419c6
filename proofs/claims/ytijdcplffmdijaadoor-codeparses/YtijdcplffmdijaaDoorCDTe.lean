import Derived.Test.YtijdcplffmdijaaDoorCDTa
namespace Go.Proofs.YtijdcplffmdijaaDoor
open Go.RowKit
set_option linter.unusedVariables false
set_option linter.unusedSimpArgs false

theorem wpList_appI {P : Program} {w w' : World} {ops : Array Oper} {rest : List Oper} {o : Oper} {a : Act} {Q : Exit → Act → World → Prop} (hgd : o.guard = none) (s x : Operand) (t : TypeId)
    (ho : o.op = .call { callee := .builtin .append, args := #[s, x], argTypes := #[t, t] }) {v u r : Value} (hs : a.eval s = v) (hx : a.eval x = u) (hr : ∀ ty, (Builtin.append_ #[t, t] ty #[v, u]).run P w = .ok r w')
    (h : wpList P ops Q rest (a.put o.dst r) w') : wpList P ops Q (o :: rest) a w := by
  refine wpList_plain hgd fun K hK => ?_
  unfold Oper.wp
  simp [execOp, ho, resolve, invoke, builtin, hs, hx, hr, Result.andThen]
  exact hK _ _ h
/-- numbers behind none, in a row of one's own -/
theorem app_ints (W : World) (g0 B : Nat) (ka : Option Addr) (kc : Nat) (ks : List Int) (hg : W.heap[g0]? = some (.cells #[] 3 (0, 0))) (hi : IntsV W B ka kc ks) (hl : ks.length ≤ 17592186044414) :
    ∃ g c W3, (∀ ty, (Builtin.append_ #[26, 26] ty #[.slice (some ⟨g0, 0, none⟩) 0 0, .slice ka ks.length kc]).run Tryd.prog W = .ok (.slice (some ⟨g, 0, none⟩) ks.length c) W3) ∧ W3.ownsRow g0 3 1 (.slice (some ⟨g, 0, none⟩) ks.length c) ks.length (ks.map (Value.int .i64)) ∧ W.grownBy W3 (some g0) ∧ (g0 = g ∨ g = W.heap.size) ∧ g < W3.heap.size := by
  obtain ⟨i0, hi0, hz0, hz1, hz2⟩ := info_parts infoInt
  have hg0 : g0 < W.heap.size := (Array.getElem?_eq_some_iff.1 hg).1
  have hown : W.ownsRow g0 3 1 (.slice (some ⟨g0, 0, none⟩) 0 0) 0 [] := ⟨rfl, .inr ⟨g0, 0, #[], rfl, Nat.le_refl _, hg, Nat.le_refl _, by simp [maxLen], rfl, rfl⟩⟩
  by_cases h0 : 0 < ks.length
  · obtain ⟨b, o, rfl, hb, hc⟩ := hi.at_ h0
    obtain ⟨g, c, W3, r1, r2, r3, r4, r5⟩ := run_append_lies (P := Tryd.prog) W 26 3 g0 3 i0 (.int .i64 0) 1 8 Tryd.underlying26 hi0 hz0 hz1 hz2 rfl (by decide) _ _ _ hown ⟨b, o, none⟩ ks.length kc (ks.map (Value.int .i64)) (by simp) (by
      intro j u hu
      have hj : j < ks.length := by
        rcases Nat.lt_or_ge j ks.length with e | e
        · exact e
        · rw [List.getElem?_eq_none (by simp; exact e)] at hu; cases hu
      have ha : (⟨b, o, none⟩ : Addr).add j = ⟨b, o + j, none⟩ := by unfold Addr.add; split <;> simp_all
      rw [ha, hc j hj]
      simpa [hj] using hu) (by
      intro u hu
      rw [List.mem_map] at hu
      obtain ⟨x, _, rfl⟩ := hu
      rfl) h0 (by unfold maxLen; omega) (by omega) (by omega) W.heap.size rfl
    rw [Nat.zero_add] at r1 r2
    refine ⟨g, c, W3, fun ty => r1, by simpa using r2, r3, ?_, r5⟩
    rcases r4 with e | e
    · left; simpa [Value.ownBlock] using e
    · exact .inr e
  · have hx : ks = [] := List.eq_nil_of_length_eq_zero (by omega)
    subst hx
    refine ⟨g0, 0, W, fun ty => ?_, hown, ⟨rfl, rfl, rfl, Nat.le_refl _, fun _ _ _ => rfl⟩, .inl rfl, hg0⟩
    have hu : (Tryd.prog.underlying 26) = some (.slice 3) := Tryd.underlying26
    cases ka with
    | none => simp [Builtin.append_, run_underlying hu, sizeOf, typeInfo, hi0, Builtin.lenOf, Builtin.firstCells, storeCells]
    | some a => simp [Builtin.append_, run_underlying hu, sizeOf, typeInfo, hi0, Builtin.lenOf, Builtin.firstCells, storeCells, loadCells, loadCellsFrom]
theorem two_newsI (X : World) (x y : Value) (t : TypeId) : ∀ (j : Nat) (u : Value), [x, y][j]? = some u → (X.alloc (.cells #[x, y] t)).cell? ((⟨X.heap.size, 0, none⟩ : Addr).add j) = some u :=
  World.news_of_block (cs := #[x, y]) (heap_alloc_new X _)
theorem grown_belI {B : Nat} {w0 w w' : World} {row : Option Nat} (hb : Below B w0 w) (hg : w.grownBy w' row) (hs : B ≤ w.heap.size) (hr : ∀ k, row = some k → B ≤ k) : Below B w0 w' :=
  hb.trans ⟨hg.os, hg.tape, hg.output, hg.size, fun k hk => hg.block k (by omega) fun e => by have := hr k e.symm; omega⟩
/-- a list that was lent: a copy with two marks behind it -/
structure LentI (w w' : World) (ks : List Int) (g c : Nat) : Prop where
  cap : ks.length + 2 ≤ c
  max : ks.length + 2 ≤ maxLen
  new : w.heap.size ≤ g
  lt : g < w'.heap.size
  cell : ∀ i (h : i < ks.length), w'.cell? ⟨g, i, none⟩ = some (.int .i64 ks[i])
  m1 : w'.cell? ⟨g, ks.length, none⟩ = some (.int .i64 (-77))
  m2 : w'.cell? ⟨g, ks.length + 1, none⟩ = some (.int .i64 (-78))
  bel : Below w.heap.size w w'
theorem LentI.below {w w1 w2 : World} {ks : List Int} {g c : Nat} (h : LentI w w1 ks g c) (hb : Below w1.heap.size w1 w2) : LentI w w2 ks g c := by
  have hlt := h.lt
  refine ⟨h.cap, h.max, h.new, Nat.lt_of_lt_of_le h.lt hb.size, fun i hi => ?_, ?_, ?_, h.bel.trans (hb.mono h.bel.size)⟩
  · rw [hb.cell (p := ⟨g, i, none⟩) hlt]; exact h.cell i hi
  · rw [hb.cell (p := ⟨g, _, none⟩) hlt]; exact h.m1
  · rw [hb.cell (p := ⟨g, _, none⟩) hlt]; exact h.m2
theorem LentI.ints {w w' : World} {ks : List Int} {g c c' : Nat} (h : LentI w w' ks g c) (hc : ks.length ≤ c') : IntsV w' w'.heap.size (some ⟨g, 0, none⟩) c' ks :=
  ⟨hc, by have := h.max; omega, fun _ => ⟨g, 0, rfl, h.lt, fun i hi => by rw [Nat.zero_add]; exact h.cell i hi⟩⟩
theorem lent_steps (w : World) (B : Nat) (ka : Option Addr) (kc : Nat) (ks : List Int) (hi : IntsV w B ka kc ks) (hB : B ≤ w.heap.size) (hl : ks.length ≤ 17592186044414) :
    ∃ g1 c1 W3, (∀ ty, (Builtin.append_ #[26, 26] ty #[.slice (some ⟨w.heap.size, 0, none⟩) 0 0, .slice ka ks.length kc]).run Tryd.prog (w.alloc (.cells #[] 3)) = .ok (.slice (some ⟨g1, 0, none⟩) ks.length c1) W3) ∧
    ∃ W4, W3.alloc (.cells #[.int .i64 (-77), .int .i64 (-78)] 3) = W4 ∧
    ∃ g2 c2 W5, (∀ ty, (Builtin.append_ #[26, 26] ty #[.slice (some ⟨g1, 0, none⟩) ks.length c1, .slice (some ⟨W3.heap.size, 0, none⟩) 2 2]).run Tryd.prog W4 = .ok (.slice (some ⟨g2, 0, none⟩) (ks.length + 2) c2) W5) ∧ Bx (LentI w W5 ks g2 c2) := by
  obtain ⟨i0, hi0, hz0, hz1, hz2⟩ := info_parts infoInt
  generalize hW2 : w.alloc (.cells #[] 3) = W2
  have s2 : W2.heap.size = w.heap.size + 1 := by rw [← hW2]; simp
  have b2 : Below w.heap.size w W2 := by rw [← hW2]; exact below1 w _
  have e2 : W2.heap[w.heap.size]? = some (.cells #[] 3 (0, 0)) := by rw [← hW2]; exact heap_alloc_new w _
  obtain ⟨g1, c1, W3, r1, o1, gr1, at1, lt1⟩ := app_ints W2 w.heap.size B ka kc ks e2 (hi.below (b2.mono hB)) hl
  have b3 : Below w.heap.size W2 W3 := grown_belI (Below.refl _ _) gr1 (by omega) (fun k hk => by cases hk; exact Nat.le_refl _)
  have s3 := b3.size
  have o1' : (W3.alloc (.cells #[.int .i64 (-77), .int .i64 (-78)] 3)).ownsRow w.heap.size 3 1 (.slice (some ⟨g1, 0, none⟩) ks.length c1) ks.length (ks.map (Value.int .i64)) := o1.alloc _
  obtain ⟨g2, c2, W5, r2, o2, gr2, at2, lt2⟩ := run_append_lies (P := Tryd.prog) (W3.alloc (.cells #[.int .i64 (-77), .int .i64 (-78)] 3)) 26 3 w.heap.size 3 i0 (.int .i64 0) 1 8 Tryd.underlying26 hi0 hz0 hz1 hz2 rfl (by decide) _ _ _ o1' ⟨W3.heap.size, 0, none⟩ 2 2 [.int .i64 (-77), .int .i64 (-78)] rfl (two_newsI W3 _ _ _) (by intro u hu; simp at hu; rcases hu with rfl | rfl <;> rfl) (by decide) (by unfold maxLen; omega) (by omega) (by simp; omega) _ rfl
  have g1b : ∀ k, (Value.slice (some ⟨g1, 0, none⟩) ks.length c1).ownBlock = some k → w.heap.size ≤ k := fun k hk => by
    have : g1 = k := by simpa [Value.ownBlock] using hk
    rcases at1 with e | e <;> omega
  have b5 : Below w.heap.size W2 W5 := grown_belI (b3.trans (((Below.refl _ _).alloc (Nat.le_refl _) _).mono (by omega))) gr2 (by simp; omega) g1b
  refine ⟨g1, c1, W3, r1, _, rfl, g2, c2, W5, fun ty => r2, ⟨?_⟩⟩
  rcases o2.2 with ⟨h, _⟩ | ⟨g', c', cur, e, hge, hblk, hle, hcm, hsz, htk⟩
  · cases h
  · simp only [Value.slice.injEq, Option.some.injEq, Addr.mk.injEq] at e
    obtain ⟨⟨rfl, _⟩, _, rfl⟩ := e
    have hc : ∀ i (u : Value), (ks.map (Value.int .i64) ++ [.int .i64 (-77), .int .i64 (-78)])[i]? = some u → W5.cell? ⟨g2, i, none⟩ = some u := fun i u hu => by
      have hi : i < ks.length + 2 := by
        rcases Nat.lt_or_ge i (ks.length + 2) with e | e
        · exact e
        · rw [List.getElem?_eq_none (by simp; exact e)] at hu; cases hu
      rw [World.cell?]
      simp only [hblk]
      rw [← htk, List.getElem?_take_of_lt (by omega), Array.getElem?_toList] at hu
      simpa using hu
    refine ⟨hle, by unfold maxLen; omega, hge, lt2, fun i hi => hc i _ ?_, hc _ _ ?_, hc _ _ ?_, b2.trans b5⟩
    · rw [List.getElem?_append_left (by simpa using hi)]; simp [hi]
    · rw [List.getElem?_append_right (by simp)]; simp
    · rw [List.getElem?_append_right (by simp)]; simp
set_option maxHeartbeats 1000000 in
theorem lentInts_any (w : World) (B : Nat) (ka : Option Addr) (kc : Nat) (ks : List Int) (hi : IntsV w B ka kc ks) (hB : B ≤ w.heap.size) (hl : ks.length ≤ 17592186044414) :
    Calls Tryd.prog 14 #[.slice ka ks.length kc] w fun e w' => ∃ g c, e = .returned (.slice (some ⟨g, 0, none⟩) ((ks.length + 2 : Nat)) c) ∧ Bx (LentI w w' ks g c) := by
  obtain ⟨g1, c1, W3, run1, _, rfl, g2, c2, W5, run2, HL⟩ := lent_steps w B ka kc ks hi hB hl
  clear hi hl
  generalize ks.length = n at run1 run2 ⊢
  go_enter Tryd.func14, Tryd.ntmps14
  go_wp2_with (first
    | (at_builtin; refine wpList_appI rfl (.tmp 5) (.tmp 6) 26 rfl rfl rfl run1 ?_; clear run1)
    | (at_builtin; refine wpList_appI rfl (.tmp 8) (.tmp 9) 26 rfl rfl rfl run2 ?_; clear run2))
  go_ret
  exact ⟨g2, c2, rfl, HL⟩
end Go.Proofs.YtijdcplffmdijaaDoor
