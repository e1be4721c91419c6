import Derived.Test.YtjabdhmkibahlaaCGLa
namespace Go.Proofs.Ytjabdhmkibahlaa
open Go.RowKit Go.MapKept Go.ChangeMaps Go.WideShapes
set_option linter.unusedVariables false
set_option linter.unusedSimpArgs false

theorem run_append_zero {P : Program} {w : World} (base : Nat) (t ty e : TypeId) (i : TypeInfo) (size : Nat) (ht : P.underlying t = some (.slice e)) (hi : P.info? e = some i)
    (v : Value) (n : Nat) (xs : List Value) (hown : w.ownsRow base e size v n xs) (p : Option Addr) (c : Nat) :
    (Builtin.append_ #[t, t] ty #[v, .slice p 0 c]).run P w = .ok v w := by
  have hl : ∀ a : Addr, (Go.loadCells a 0).run P w = .ok #[] w := fun a => by
    have := run_loadCells_list (P := P) w a [] (by simp)
    simpa using this
  rcases hown.2 with ⟨rfl, rfl⟩ | ⟨g, cap, cur, rfl, _, _, hnc, _⟩
  · cases p <;> simp [Builtin.append_, run_underlying ht, sizeOf, typeInfo, hi, Builtin.lenOf, Builtin.firstCells, storeCells, hl]
  · cases p <;> simp [Builtin.append_, run_underlying ht, sizeOf, typeInfo, hi, Builtin.lenOf, Builtin.firstCells, storeCells, hl, hnc]
theorem wpList_app0 {P : Program} (w : World) {ops : Array Oper} {rest : List Oper} {o : Oper} {a : Act} {Q : Exit → Act → World → Prop}
    (hg : o.guard = none) (s x : Operand) (t : TypeId) (hop : o.op = Op.call { callee := Callee.builtin Builtin.append, args := #[s, x], argTypes := #[t, t] })
    (e : TypeId) (i : TypeInfo) (size : Nat) (h1 : P.underlying t = some (.slice e)) (h2 : P.info? e = some i) (hs : a.eval s = .slice none 0 0) (p : Option Addr) (c : Nat) (hx : a.eval x = .slice p 0 c)
    (hK : wpList P ops Q rest (a.put o.dst (.slice none 0 0)) w) : wpList P ops Q (o :: rest) a w := by
  refine wpList_plain hg fun K hK' => ?_
  have hrun := run_append_zero (P := P) (w := w) 0 t o.type e i size h1 h2 (.slice none 0 0) 0 [] ⟨by simp, .inl ⟨rfl, rfl⟩⟩ p c
  unfold Oper.wp
  simp [execOp, hop, resolve, invoke, builtin, hs, hx, hrun, Result.andThen]
  exact hK' _ _ hK
def hdC (h : Hd) : List Value := [.int .i64 h.chan, .bool h.send]
def hdsC (l : List Hd) : List Value := l.flatMap hdC
theorem hdsC_len (l : List Hd) : (hdsC l).length = l.length * 2 := by
  induction l with
  | nil => rfl
  | cons x r ih => simp only [hdsC, List.flatMap_cons, List.length_append] at ih ⊢; rw [ih]; simp [hdC]; omega
theorem hdsC_at : ∀ (l : List Hd) (i : Nat) (h : i < l.length), (hdsC l)[i * 2]? = some (.int .i64 l[i].chan) ∧ (hdsC l)[i * 2 + 1]? = some (.bool l[i].send)
  | x :: r, 0, h => ⟨rfl, rfl⟩
  | x :: r, i + 1, h => by
    have ih := hdsC_at r i (by simpa using h)
    have e : ∀ j, (hdsC (x :: r))[j + 2]? = (hdsC r)[j]? := fun j => rfl
    rw [show (i + 1) * 2 = i * 2 + 2 by omega, show i * 2 + 2 + 1 = i * 2 + 1 + 2 by omega, e, e]
    exact ih
theorem hdsC_one (l : List Hd) : ∀ u ∈ hdsC l, u.oneCell' = true := fun u hu => by
  obtain ⟨h, _, hh⟩ := List.mem_flatMap.1 hu
  simp [hdC] at hh
  rcases hh with rfl | rfl <;> rfl
theorem infoH : (Try.prog.info? 58).map (fun i => (i.zero, i.size, i.bytes)) = some (some (.agg #[.int .i64 0, .bool false]), 2, 16) := by kernel_rfl
theorem infoG : (Try.prog.info? 53).map (fun i => (i.zero, i.size, i.bytes)) = some (some (.agg #[.int .i64 0, .bool false, .slice none 0 0, .slice none 0 0]), 4, 64) := by kernel_rfl
theorem add_off (b o j : Nat) : (⟨b, o, none⟩ : Addr).add j = ⟨b, o + j, none⟩ := by cases j <;> simp [Addr.add]
theorem ints_own {W : World} {B g cap : Nat} {l : List Int} (h : W.ownsRow B 3 1 (.slice (some ⟨g, 0, none⟩) l.length cap) l.length (rowC l)) (h64 : ∀ x ∈ l, I64 x) : IntsR W (some ⟨g, 0, none⟩) cap l := by
  have h' := h
  rcases h.2 with ⟨x1, _⟩ | ⟨g', cap', cur, x1, x2, x3, x4, x5, x6, x7⟩
  · cases x1
  · cases x1
    refine ⟨x4, x5, fun i hi => ⟨g, 0, rfl, h64 _ (List.getElem_mem hi), fun X hX => ?_⟩⟩
    rw [Nat.zero_add, hX.cell (p := ⟨g, i, none⟩) (Array.getElem?_eq_some_iff.1 x3).1, h'.cellAt i (by omega)]
    simp [rowC, hi]
theorem hds_own {W : World} {B g cap : Nat} {l : List Hd} (h : W.ownsRow B 58 2 (.slice (some ⟨g, 0, none⟩) l.length cap) l.length (hdsC l)) (h64 : ∀ x ∈ l, I64 x.chan) : HdsR W (some ⟨g, 0, none⟩) cap l := by
  have h' := h
  rcases h.2 with ⟨x1, _⟩ | ⟨g', cap', cur, x1, x2, x3, x4, x5, x6, x7⟩
  · cases x1
  · cases x1
    refine ⟨x4, x5, fun i hi => ⟨g, 0, rfl, h64 _ (List.getElem_mem hi), fun X hX => ?_⟩⟩
    obtain ⟨e1, e2⟩ := hdsC_at l i hi
    have hl := (Array.getElem?_eq_some_iff.1 x3).1
    rw [Nat.zero_add]
    exact ⟨by rw [hX.cell (p := ⟨g, i * 2, none⟩) hl, h'.cellAt (i * 2) (by omega)]; exact e1, by rw [hX.cell (p := ⟨g, i * 2 + 1, none⟩) hl, h'.cellAt (i * 2 + 1) (by omega)]; exact e2⟩
set_option maxRecDepth 100000 in
theorem freshI_any (w : World) (p : Option Addr) (c : Nat) (l : List Int) (h : IntsR w p c l) (hl : l.length ≤ 2147483647) :
    Calls Try.prog 49 #[.slice p l.length c] w fun e w' => ∃ p' c', e = .returned (.slice p' l.length c') ∧ (w'.ownsRow w.heap.size 3 1 (.slice p' l.length c') l.length (rowC l) ∧ IntsR w' p' c' l) ∧ Below w.heap.size w w' := by
  obtain ⟨i0, hi, iz0, iz1, iz2⟩ := info_parts infoI
  by_cases h0 : l.length = 0
  · obtain rfl : l = [] := List.eq_nil_of_length_eq_zero h0
    go_enter Try.func49, Try.ntmps49
    go_wp2_with (first | (at_builtin; refine wpList_app0 _ rfl (.const (.slice none 0 0)) (.tmp 3) 45 rfl 3 i0 1 Try.underlying45 hi rfl p c rfl ?_))
    go_ret
    exact ⟨none, 0, rfl, ⟨⟨rfl, .inl ⟨rfl, rfl⟩⟩, by simp, by simp [maxLen], fun i hi => by simp at hi⟩, Below.refl _ _⟩
  · obtain ⟨b, o, rfl, _, _⟩ := h.at_ 0 (by omega)
    have HC : Bx (∀ j u, (rowC l)[j]? = some u → w.cell? ((⟨b, o, none⟩ : Addr).add j) = some u) := ⟨fun j u hj => by
      have hjl : j < l.length := by have := (List.getElem?_eq_some_iff.1 hj).1; simpa [rowC] using this
      obtain ⟨b', o', e, _, h1⟩ := h.at_ j hjl
      cases e
      rw [add_off, h1 w (Below.refl _ _)]
      simp [rowC, hjl] at hj
      rw [← hj]⟩
    have H64 : Bx (∀ x ∈ l, I64 x) := ⟨fun x hx => by
      obtain ⟨j, hj, rfl⟩ := List.mem_iff_getElem.1 hx
      obtain ⟨_, _, _, h1, _⟩ := h.at_ j hj
      exact h1⟩
    have hl0 : 0 < l.length := by omega
    go_enter Try.func49, Try.ntmps49
    go_wp2_with (first | (at_builtin; refine wpList_app _ rfl (.const (.slice none 0 0)) (.tmp 3) 45 rfl w.heap.size 3 i0 (.int .i64 0) 1 8 Try.underlying45 hi iz0 iz1 iz2 rfl (by decide) (.slice none 0 0) 0 [] rfl ⟨rfl, .inl ⟨rfl, rfl⟩⟩ ⟨b, o, none⟩ l.length c (rowC l) rfl (by simp [rowC]) HC.out (by simp [rowC, Value.oneCell']) hl0 (by unfold maxLen; omega) (by omega) (Nat.le_refl _) w.heap.size rfl ?_; intro gg gcap w4 hown hgrow hgi hgl; have HO : Bx (w4.ownsRow w.heap.size 3 1 (.slice (some ⟨gg, 0, none⟩) l.length gcap) l.length (rowC l)) := ⟨(by simpa using hown)⟩; have HG : Bx _ := ⟨hgrow⟩; clear hown hgrow hgi))
    go_ret
    exact ⟨some ⟨gg, 0, none⟩, gcap, by simp, ⟨HO.out, ints_own HO.out H64.out⟩, (Below.refl _ _).grown HG.out (Nat.le_refl _) (fun r e => by cases e)⟩
set_option maxRecDepth 100000 in
theorem freshH_any (w : World) (p : Option Addr) (c : Nat) (l : List Hd) (h : HdsR w p c l) (hl : l.length ≤ 2147483647) :
    Calls Try.prog 48 #[.slice p l.length c] w fun e w' => ∃ p' c', e = .returned (.slice p' l.length c') ∧ (w'.ownsRow w.heap.size 58 2 (.slice p' l.length c') l.length (hdsC l) ∧ HdsR w' p' c' l) ∧ Below w.heap.size w w' := by
  obtain ⟨i0, hi, iz0, iz1, iz2⟩ := info_parts infoH
  by_cases h0 : l.length = 0
  · obtain rfl : l = [] := List.eq_nil_of_length_eq_zero h0
    go_enter Try.func48, Try.ntmps48
    go_wp2_with (first | (at_builtin; refine wpList_app0 _ rfl (.const (.slice none 0 0)) (.tmp 3) 51 rfl 58 i0 2 Try.underlying51 hi rfl p c rfl ?_))
    go_ret
    exact ⟨none, 0, rfl, ⟨⟨rfl, .inl ⟨rfl, rfl⟩⟩, by simp, by simp [maxLen], fun i hi => by simp at hi⟩, Below.refl _ _⟩
  · obtain ⟨b, o, rfl, _, _⟩ := h.at_ 0 (by omega)
    have HC : Bx (∀ j u, (hdsC l)[j]? = some u → w.cell? ((⟨b, o, none⟩ : Addr).add j) = some u) := ⟨fun j u hj => by
      have hjl : j < l.length * 2 := by rw [← hdsC_len]; exact (List.getElem?_eq_some_iff.1 hj).1
      obtain ⟨b', o', e, _, h1⟩ := h.at_ (j / 2) (by omega)
      cases e
      obtain ⟨e1, e2⟩ := hdsC_at l (j / 2) (by omega)
      obtain ⟨g1, g2⟩ := h1 w (Below.refl _ _)
      rw [add_off]
      by_cases hp : j % 2 = 0
      · rw [show j / 2 * 2 = j by omega] at e1 g1
        rw [e1] at hj
        rw [g1, hj]
      · rw [show j / 2 * 2 + 1 = j by omega] at e2
        rw [e2] at hj
        rw [show o + j = o + j / 2 * 2 + 1 by omega, g2, hj]⟩
    have H64 : Bx (∀ x ∈ l, I64 x.chan) := ⟨fun x hx => by
      obtain ⟨j, hj, rfl⟩ := List.mem_iff_getElem.1 hx
      obtain ⟨_, _, _, h1, _⟩ := h.at_ j hj
      exact h1⟩
    have hl0 : 0 < l.length := by omega
    go_enter Try.func48, Try.ntmps48
    go_wp2_with (first | (at_builtin; refine wpList_app _ rfl (.const (.slice none 0 0)) (.tmp 3) 51 rfl w.heap.size 58 i0 (.agg #[.int .i64 0, .bool false]) 2 16 Try.underlying51 hi iz0 iz1 iz2 rfl (by decide) (.slice none 0 0) 0 [] rfl ⟨rfl, .inl ⟨rfl, rfl⟩⟩ ⟨b, o, none⟩ l.length c (hdsC l) rfl (hdsC_len l) HC.out (hdsC_one l) hl0 (by unfold maxLen; omega) (by omega) (Nat.le_refl _) w.heap.size rfl ?_; intro gg gcap w4 hown hgrow hgi hgl; have HO : Bx (w4.ownsRow w.heap.size 58 2 (.slice (some ⟨gg, 0, none⟩) l.length gcap) l.length (hdsC l)) := ⟨(by simpa using hown)⟩; have HG : Bx _ := ⟨hgrow⟩; clear hown hgrow hgi))
    go_ret
    exact ⟨some ⟨gg, 0, none⟩, gcap, by simp, ⟨HO.out, hds_own HO.out H64.out⟩, (Below.refl _ _).grown HG.out (Nat.le_refl _) (fun r e => by cases e)⟩
end Go.Proofs.Ytjabdhmkibahlaa
