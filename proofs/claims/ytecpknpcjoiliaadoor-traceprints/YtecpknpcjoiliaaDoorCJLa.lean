import Derived.Test.YtecpknpcjoiliaaDoorCJJa
import Derived.Test.YtecpknpcjoiliaaDoorCJRg
namespace Go.Proofs.YtecpknpcjoiliaaDoor
open Go.RowKit Go.Shelf
set_option linter.unusedVariables false
set_option linter.unusedSimpArgs false

/-- numbers laid behind those of a row of one's own -/
theorem app_ints (W : World) (B : Nat) (v : Value) (ks : List Int) (ho : NRo W B v ks) (hB : B ≤ W.heap.size) {a : Option Addr} {cap : Nat} {xs : List Int} {C : Nat} (hx : IntsV W C a cap xs) (hl : ks.length + xs.length ≤ 8796093022200) :
    ∃ v' W3, (∀ ty, (Builtin.append_ #[22, 22] ty #[v, .slice a xs.length cap]).run Tryd.prog W = .ok v' W3) ∧ NRo W3 B v' (ks ++ xs) ∧ W.grownBy W3 v.ownBlock ∧ W.heap.size ≤ W3.heap.size := by
  obtain ⟨i0, hi0, hz0, hz1, hz2⟩ := info_parts infoIn
  have ho' : W.ownsRow B 3 1 v ks.length (ks.map (Value.int .i64)) := ho
  by_cases h0 : 0 < xs.length
  · obtain ⟨b, o, rfl, hb, hc⟩ := hx.at_ h0
    obtain ⟨g, c, W3, r1, r2, r3, r4, r5⟩ := run_append_lies (P := Tryd.prog) W 22 3 B 3 i0 _ 1 8 Tryd.underlying22 hi0 hz0 hz1 hz2 rfl (by decide) v ks.length _ ho' ⟨b, o, none⟩ xs.length cap (xs.map (Value.int .i64)) (by simp) (fun j u hj => by
      have e : (⟨b, o, none⟩ : Addr).add j = ⟨b, o + j, none⟩ := by unfold Addr.add; split <;> simp_all
      rw [e]
      rw [List.getElem?_map] at hj
      by_cases hjl : j < xs.length
      · rw [List.getElem?_eq_getElem hjl] at hj
        simp only [Option.map_some, Option.some.injEq] at hj
        rw [hc j hjl, hj]
      · rw [List.getElem?_eq_none (by omega)] at hj
        cases hj) (fun u hu => by
      rw [List.mem_map] at hu
      obtain ⟨n, _, rfl⟩ := hu
      rfl) h0 (by unfold maxLen; omega) (by omega) hB W.heap.size rfl
    refine ⟨_, W3, fun ty => r1, ?_, r3, ((Below.refl B W).grown r3 hB fun k hk => (owns_block ho' hk).1).size⟩
    unfold NRo
    rw [List.map_append, List.length_append]
    exact r2
  · have hx : xs = [] := List.eq_nil_of_length_eq_zero (by omega)
    subst hx
    refine ⟨v, W, fun ty => run_append_zero (P := Tryd.prog) (w := W) B 22 ty 3 i0 1 Tryd.underlying22 hi0 v ks.length _ ho' a cap, ?_, ?_, Nat.le_refl _⟩
    · rw [List.append_nil]
      exact ho
    · exact World.grownBy.refl _ _
/-- a list's beginning -/
theorem NRo.cut {w : World} {B g n cap : Nat} {ks xs : List Int} (h : NRo w B (.slice (some ⟨g, 0, none⟩) n cap) (ks ++ xs)) : NRo w B (.slice (some ⟨g, 0, none⟩) ks.length cap) ks := by
  have h' : w.ownsRow B 3 1 (.slice (some ⟨g, 0, none⟩) n cap) (ks ++ xs).length ((ks ++ xs).map (Value.int .i64)) := h
  rcases h'.2 with ⟨e, _⟩ | ⟨g', cap', cur, e, hB, hg, q1, q2, q3, q4⟩
  · cases e
  · simp only [Value.slice.injEq, Option.some.injEq, Addr.mk.injEq] at e
    obtain ⟨⟨rfl, _⟩, _, rfl⟩ := e
    rw [List.length_append] at q1 q4
    refine ⟨by simp, .inr ⟨g, cap, cur, rfl, hB, hg, by omega, q2, q3, ?_⟩⟩
    rw [Nat.mul_one] at q4 ⊢
    have e2 := congrArg (List.take ks.length) q4
    have e3 : min ks.length (ks.length + xs.length) = ks.length := by omega
    rw [List.take_take, e3, List.map_append, List.take_append_of_le_length (by simp)] at e2
    rw [e2]
    exact List.take_of_length_le (by simp)
end Go.Proofs.YtecpknpcjoiliaaDoor
namespace Go.Proofs.YtecpknpcjoiliaaDoor
open Go.RowKit Go.Shelf
set_option linter.unusedVariables false
set_option linter.unusedSimpArgs false

/-- a row stays where one of another kind grows -/
theorem owns_grown {W W' : World} {B s n : Nat} {t t' : TypeId} {v vv : Value} {cs : List Value} (h : W.ownsRow B t s v n cs) (hg : W.grownBy W' vv.ownBlock) (ht : t' ≠ t) (hne : ∀ g, vv.ownBlock = some g → ∃ c fz, W.heap[g]? = some (.cells c t' fz)) : W'.ownsRow B t s v n cs := by
  refine ⟨h.1, ?_⟩
  rcases h.2 with hn | ⟨g, cap, cur, rfl, hB, hgg, rest⟩
  · exact .inl hn
  · refine .inr ⟨g, cap, cur, rfl, hB, ?_, rest⟩
    rw [hg.block g (heap_lt hgg) (fun e => by
      obtain ⟨c, fz, h2⟩ := hne g e.symm
      rw [h2] at hgg
      injection hgg with hgg
      injection hgg with _ hgg
      exact absurd hgg ht)]
    exact hgg
def lsC (es : List Ev) (gs : List (Nat × Nat)) : List Value := (es.zip gs).map fun x => .slice (some ⟨x.2.1, 0, none⟩) (x.1.list.length + 1) x.2.2
def gsL (gs : List (Nat × Nat)) : List (Option Addr × Nat) := gs.map fun p => (some ⟨p.1, 0, none⟩, p.2)
theorem lsC_snoc {es : List Ev} {gs : List (Nat × Nat)} (h : gs.length = es.length) (e : Ev) (p : Nat × Nat) : lsC (es ++ [e]) (gs ++ [p]) = lsC es gs ++ [.slice (some ⟨p.1, 0, none⟩) (e.list.length + 1) p.2] := by
  unfold lsC
  rw [List.zip_append h.symm, List.map_append]
  rfl
/-- events that are lent: a row of them, a row of their lists, a mark behind each list -/
structure Lnd (W : World) (B : Nat) (es : List Ev) (va vl : Value) (gs : List (Nat × Nat)) : Prop where
  len : gs.length = es.length
  evo : EvO W B va es (gsL gs)
  row : W.ownsRow B 22 1 vl es.length (lsC es gs)
  two : ∀ i (h1 : i < es.length) (h2 : i < gs.length), NRo W B (.slice (some ⟨gs[i].1, 0, none⟩) (es[i].list.length + 1) gs[i].2) (es[i].list ++ [-77])
theorem Lnd.nil (W : World) (B : Nat) : Lnd W B [] (.slice none 0 0) (.slice none 0 0) [] := ⟨rfl, EvO.nil _ _, ⟨rfl, .inl ⟨rfl, rfl⟩⟩, fun i h => by simp at h⟩
theorem Lnd.on {W W' : World} {B : Nat} {es : List Ev} {va vl : Value} {gs : List (Nat × Nat)} (h : Lnd W B es va vl gs) (hb : ∀ g, B ≤ g → g < W.heap.size → W'.heap[g]? = W.heap[g]?) : Lnd W' B es va vl gs :=
  ⟨h.len, h.evo.on fun g h1 h2 _ => hb g h1 h2, owns_same h.row hb, fun i h1 h2 => owns_same (h.two i h1 h2) hb⟩
theorem infoSl : (Tryd.prog.info? 22).map (fun i => (i.zero, i.size, i.bytes)) = some (some (.slice none 0 0), 1, 24) := by kernel_rfl
/-- a list more -/
theorem Lnd.list {W : World} {B : Nat} {es : List Ev} {va vl : Value} {gs : List (Nat × Nat)} (h : Lnd W B es va vl gs) (hB : B ≤ W.heap.size) (hn : es.length ≤ 1099511627776) (e : Ev) (g cap : Nat) :
    ∃ vl' W', (∀ ty, (Builtin.append_ #[31, 31] ty #[vl, .slice (some ⟨W.heap.size, 0, none⟩) 1 1]).run Tryd.prog (W.alloc (.cells #[.slice (some ⟨g, 0, none⟩) (e.list.length + 1) cap] 22)) = .ok vl' W') ∧ W'.ownsRow B 22 1 vl' (es.length + 1) (lsC (es ++ [e]) (gs ++ [(g, cap)])) ∧ W.grownBy W' vl.ownBlock := by
  obtain ⟨i0, hi0, hz0, hz1, hz2⟩ := info_parts infoSl
  obtain ⟨g2, c, W3, h1, h2, h3⟩ := app1 Tryd.underlying31 hi0 hz0 hz1 hz2 rfl (by decide) W B vl es.length _ h.row #[.slice (some ⟨g, 0, none⟩) (e.list.length + 1) cap] rfl (by simp [Value.oneCell']) (by unfold maxLen; omega) (by omega) hB
  refine ⟨_, W3, h1, ?_, h3⟩
  rw [lsC_snoc h.len]
  exact h2
theorem EvO.grown {W W' : World} {H : Nat} {vv v2 : Value} {es : List Ev} {ls : List (Option Addr × Nat)} (h : EvO W H vv es ls) (hg : W.grownBy W' v2.ownBlock) (hne : ∀ g, v2.ownBlock = some g → ∃ c fz, W.heap[g]? = some (.cells c 22 fz)) : EvO W' H vv es ls :=
  ⟨h.len, owns_grown h.row hg (by decide) hne, fun i h1 h2 => owns_grown (h.lst i h1 h2) hg (by decide) hne, h.inc⟩
set_option maxHeartbeats 2000000 in
/-- an event more, with its list -/
theorem Lnd.app {W : World} {B : Nat} {es : List Ev} {va vl : Value} {gs : List (Nat × Nat)} (h : Lnd W B es va vl gs) (hB : B ≤ W.heap.size) (hn : es.length ≤ 1099511627776) (X : Nat) (hX : X < B) (e : Ev) (g cap G : Nat) (hr : NRo W B (.slice (some ⟨g, 0, none⟩) (e.list.length + 1) cap) (e.list ++ [-77])) (hnew : G ≤ g) (hold : ∀ i (hi : i < gs.length), gs[i].1 < G) :
    ∃ vl' W6, (∀ ty, (Builtin.append_ #[31, 31] ty #[vl, .slice (some ⟨W.heap.size, 0, none⟩) 1 1]).run Tryd.prog (W.alloc (.cells #[.slice (some ⟨g, 0, none⟩) (e.list.length + 1) cap] 22)) = .ok vl' W6) ∧ W.grownBy W6 vl.ownBlock ∧
      ∃ va' W8, (∀ ty, (Builtin.append_ #[29, 29] ty #[va, .slice (some ⟨(W6.setCell ⟨X, 1, none⟩ vl').heap.size, 0, none⟩) 1 1]).run Tryd.prog ((W6.setCell ⟨X, 1, none⟩ vl').alloc (evB e (.slice (some ⟨g, 0, none⟩) e.list.length cap))) = .ok va' W8) ∧ (W6.setCell ⟨X, 1, none⟩ vl').grownBy W8 va.ownBlock ∧ Lnd (W8.setCell ⟨X, 0, none⟩ va') B (es ++ [e]) va' vl' (gs ++ [(g, cap)]) := by
  obtain ⟨vl', W6, r1, r2, r3⟩ := h.list hB hn e g cap
  have k1 := owns_kind h.row
  have hsz6 : W.heap.size ≤ W6.heap.size := r3.size
  have hs7 : ∀ y, B ≤ y → (W6.setCell ⟨X, 1, none⟩ vl').heap[y]? = W6.heap[y]? := fun y hy => Below.heap_setCell W6 ⟨X, 1, none⟩ vl' y (by show y ≠ X; omega)
  have hsz7 : (W6.setCell ⟨X, 1, none⟩ vl').heap.size = W6.heap.size := by simp
  have he7 : EvO (W6.setCell ⟨X, 1, none⟩ vl') B va es (gsL gs) := (h.evo.grown r3 k1).on fun y hy _ _ => hs7 y hy
  have hr7 : NRo (W6.setCell ⟨X, 1, none⟩ vl') B (.slice (some ⟨g, 0, none⟩) (e.list.length + 1) cap) (e.list ++ [-77]) := owns_same (owns_grown hr r3 (by decide) k1) fun y hy _ => hs7 y hy
  have ht7 : ∀ i (h1 : i < es.length) (h2 : i < gs.length), NRo (W6.setCell ⟨X, 1, none⟩ vl') B (.slice (some ⟨gs[i].1, 0, none⟩) (es[i].list.length + 1) gs[i].2) (es[i].list ++ [-77]) := fun i h1 h2 => owns_same (owns_grown (h.two i h1 h2) r3 (by decide) k1) fun y hy _ => hs7 y hy
  have hrow7 : (W6.setCell ⟨X, 1, none⟩ vl').ownsRow B 22 1 vl' (es.length + 1) (lsC (es ++ [e]) (gs ++ [(g, cap)])) := owns_same r2 fun y hy _ => hs7 y hy
  obtain ⟨W7, hW7⟩ : ∃ W7, W7 = W6.setCell ⟨X, 1, none⟩ vl' := ⟨_, rfl⟩
  rw [← hW7] at hs7 hsz7 he7 hr7 ht7 hrow7
  obtain ⟨va', W8, q1, q2, q3⟩ := he7.app (by omega) e (some ⟨g, 0, none⟩) cap hr7.cut G (fun y hy => by simp only [Value.ownBlock, Option.some.injEq] at hy; omega) (fun i hi n y hy => by
    unfold gsL at hi hy
    rw [List.getElem_map] at hy
    simp only [Value.ownBlock, Option.some.injEq] at hy
    rw [List.length_map] at hi
    have := hold i hi
    omega) hn
  have k7 := owns_kind he7.row
  have hs9 : ∀ y, B ≤ y → y < W8.heap.size → (W8.setCell ⟨X, 0, none⟩ va').heap[y]? = W8.heap[y]? := fun y hy _ => Below.heap_setCell W8 ⟨X, 0, none⟩ va' y (by show y ≠ X; omega)
  have HL : Lnd (W8.setCell ⟨X, 0, none⟩ va') B (es ++ [e]) va' vl' (gs ++ [(g, cap)]) := by
   refine ⟨by simp [h.len], ?_, ?_, fun i h1 h2 => ?_⟩
   · have e1 : gsL (gs ++ [(g, cap)]) = gsL gs ++ [(some ⟨g, 0, none⟩, cap)] := by simp [gsL]
     rw [e1]
     exact q2.on fun y h1 h2 _ => hs9 y h1 h2
   · rw [List.length_append]
     exact owns_same (owns_grown hrow7 q3 (by decide) k7) hs9
   · by_cases hi : i < es.length
     · have hl : i < gs.length := by rw [h.len]; exact hi
       simp only [List.getElem_append_left hi, List.getElem_append_left hl]
       exact owns_same (owns_grown (ht7 i hi hl) q3 (by decide) k7) hs9
     · have hie : i = es.length := by simp at h1; omega
       subst hie
       have hl := h.len
       simp only [List.getElem_append_right (Nat.le_refl _), List.getElem_append_right (show gs.length ≤ es.length by omega), hl, Nat.sub_self, List.getElem_cons_zero]
       exact owns_same (owns_grown hr7 q3 (by decide) k7) hs9
  subst hW7
  exact ⟨vl', W6, r1, r3, va', W8, q1, q3, HL⟩
end Go.Proofs.YtecpknpcjoiliaaDoor
