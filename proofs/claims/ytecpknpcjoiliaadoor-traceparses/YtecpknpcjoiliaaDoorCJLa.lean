import Derived.Test.YtecpknpcjoiliaaDoorCJJa
import Derived.Test.YtecpknpcjoiliaaDoorCJRg
namespace Go.Proofs.YtecpknpcjoiliaaDoor
open Go.RowKit Go.Shelf
set_option linter.unusedVariables false
set_option linter.unusedSimpArgs false

/-- numbers laid behind those of a row of one's own -/
theorem app_ints (W : World) (B : Nat) (v : Value) (ks : List Int) (ho : NRo W B v ks) (hB : B ≤ W.heap.size) {a : Option Addr} {cap : Nat} {xs : List Int} {C : Nat} (hx : IntsV W C a cap xs) (hl : ks.length + xs.length ≤ 8796093022200) :
    ∃ v' W3, (∀ ty, (Builtin.append_ #[22, 22] ty #[v, .slice a xs.length cap]).run Tryd.prog W = .ok v' W3) ∧ NRo W3 B v' (ks ++ xs) ∧ W.grownBy W3 v.ownBlock ∧ W.heap.size ≤ W3.heap.size := by
  obtain ⟨i0, hi0, hz0, hz1, hz2⟩ := info_parts infoIn
  have ho' : W.ownsRow B 3 1 v ks.length (ks.map (Value.int .i64)) := ho
  by_cases h0 : 0 < xs.length
  · obtain ⟨b, o, rfl, hb, hc⟩ := hx.at_ h0
    obtain ⟨g, c, W3, r1, r2, r3, r4, r5⟩ := run_append_lies (P := Tryd.prog) W 22 3 B 3 i0 _ 1 8 Tryd.underlying22 hi0 hz0 hz1 hz2 rfl (by decide) v ks.length _ ho' ⟨b, o, none⟩ xs.length cap (xs.map (Value.int .i64)) (by simp) (fun j u hj => by
      have e : (⟨b, o, none⟩ : Addr).add j = ⟨b, o + j, none⟩ := by unfold Addr.add; split <;> simp_all
      rw [e]
      rw [List.getElem?_map] at hj
      by_cases hjl : j < xs.length
      · rw [List.getElem?_eq_getElem hjl] at hj
        simp only [Option.map_some, Option.some.injEq] at hj
        rw [hc j hjl, hj]
      · rw [List.getElem?_eq_none (by omega)] at hj
        cases hj) (fun u hu => by
      rw [List.mem_map] at hu
      obtain ⟨n, _, rfl⟩ := hu
      rfl) h0 (by unfold maxLen; omega) (by omega) hB W.heap.size rfl
    refine ⟨_, W3, fun ty => r1, ?_, r3, ((Below.refl B W).grown r3 hB fun k hk => (owns_block ho' hk).1).size⟩
    unfold NRo
    rw [List.map_append, List.length_append]
    exact r2
  · have hx : xs = [] := List.eq_nil_of_length_eq_zero (by omega)
    subst hx
    refine ⟨v, W, fun ty => run_append_zero (P := Tryd.prog) (w := W) B 22 ty 3 i0 1 Tryd.underlying22 hi0 v ks.length _ ho' a cap, ?_, ?_, Nat.le_refl _⟩
    · rw [List.append_nil]
      exact ho
    · exact World.grownBy.refl _ _
/-- a list's beginning -/
theorem NRo.cut {w : World} {B g n cap : Nat} {ks xs : List Int} (h : NRo w B (.slice (some ⟨g, 0, none⟩) n cap) (ks ++ xs)) : NRo w B (.slice (some ⟨g, 0, none⟩) ks.length cap) ks := by
  have h' : w.ownsRow B 3 1 (.slice (some ⟨g, 0, none⟩) n cap) (ks ++ xs).length ((ks ++ xs).map (Value.int .i64)) := h
  rcases h'.2 with ⟨e, _⟩ | ⟨g', cap', cur, e, hB, hg, q1, q2, q3, q4⟩
  · cases e
  · simp only [Value.slice.injEq, Option.some.injEq, Addr.mk.injEq] at e
    obtain ⟨⟨rfl, _⟩, _, rfl⟩ := e
    rw [List.length_append] at q1 q4
    refine ⟨by simp, .inr ⟨g, cap, cur, rfl, hB, hg, by omega, q2, q3, ?_⟩⟩
    rw [Nat.mul_one] at q4 ⊢
    have e2 := congrArg (List.take ks.length) q4
    have e3 : min ks.length (ks.length + xs.length) = ks.length := by omega
    rw [List.take_take, e3, List.map_append, List.take_append_of_le_length (by simp)] at e2
    rw [e2]
    exact List.take_of_length_le (by simp)
end Go.Proofs.YtecpknpcjoiliaaDoor
namespace Go.Proofs.YtecpknpcjoiliaaDoor
open Go.RowKit Go.Shelf
set_option linter.unusedVariables false
set_option linter.unusedSimpArgs false

/-- a row stays where one of another kind grows -/
theorem owns_grown {W W' : World} {B s n : Nat} {t t' : TypeId} {v vv : Value} {cs : List Value} (h : W.ownsRow B t s v n cs) (hg : W.grownBy W' vv.ownBlock) (ht : t' ≠ t) (hne : ∀ g, vv.ownBlock = some g → ∃ c fz, W.heap[g]? = some (.cells c t' fz)) : W'.ownsRow B t s v n cs := by
  refine ⟨h.1, ?_⟩
  rcases h.2 with hn | ⟨g, cap, cur, rfl, hB, hgg, rest⟩
  · exact .inl hn
  · refine .inr ⟨g, cap, cur, rfl, hB, ?_, rest⟩
    rw [hg.block g (heap_lt hgg) (fun e => by
      obtain ⟨c, fz, h2⟩ := hne g e.symm
      rw [h2] at hgg
      injection hgg with hgg
      injection hgg with _ hgg
      exact absurd hgg ht)]
    exact hgg
def lsC (es : List Ev) (gs : List (Nat × Nat)) : List Value := (es.zip gs).map fun x => .slice (some ⟨x.2.1, 0, none⟩) (x.1.list.length + 1) x.2.2
def gsL (gs : List (Nat × Nat)) : List (Option Addr × Nat) := gs.map fun p => (some ⟨p.1, 0, none⟩, p.2)
theorem lsC_snoc {es : List Ev} {gs : List (Nat × Nat)} (h : gs.length = es.length) (e : Ev) (p : Nat × Nat) : lsC (es ++ [e]) (gs ++ [p]) = lsC es gs ++ [.slice (some ⟨p.1, 0, none⟩) (e.list.length + 1) p.2] := by
  unfold lsC
  rw [List.zip_append h.symm, List.map_append]
  rfl
/-- events that are lent: a row of them, a row of their lists, a mark behind each list -/
structure Lnd (W : World) (B : Nat) (es : List Ev) (va vl : Value) (gs : List (Nat × Nat)) : Prop where
  len : gs.length = es.length
  evo : EvO W B va es (gsL gs)
  row : W.ownsRow B 22 1 vl es.length (lsC es gs)
  two : ∀ i (h1 : i < es.length) (h2 : i < gs.length), NRo W B (.slice (some ⟨gs[i].1, 0, none⟩) (es[i].list.length + 1) gs[i].2) (es[i].list ++ [-77])
theorem Lnd.nil (W : World) (B : Nat) : Lnd W B [] (.slice none 0 0) (.slice none 0 0) [] := ⟨rfl, EvO.nil _ _, ⟨rfl, .inl ⟨rfl, rfl⟩⟩, fun i h => by simp at h⟩
theorem Lnd.on {W W' : World} {B : Nat} {es : List Ev} {va vl : Value} {gs : List (Nat × Nat)} (h : Lnd W B es va vl gs) (hb : ∀ g, B ≤ g → g < W.heap.size → W'.heap[g]? = W.heap[g]?) : Lnd W' B es va vl gs :=
  ⟨h.len, h.evo.on fun g h1 h2 _ => hb g h1 h2, owns_same h.row hb, fun i h1 h2 => owns_same (h.two i h1 h2) hb⟩
theorem infoSl : (Tryd.prog.info? 22).map (fun i => (i.zero, i.size, i.bytes)) = some (some (.slice none 0 0), 1, 24) := by kernel_rfl
/-- a list more -/
theorem Lnd.list {W : World} {B : Nat} {es : List Ev} {va vl : Value} {gs : List (Nat × Nat)} (h : Lnd W B es va vl gs) (hB : B ≤ W.heap.size) (hn : es.length ≤ 1099511627776) (e : Ev) (g cap : Nat) :
    ∃ vl' W', (∀ ty, (Builtin.append_ #[31, 31] ty #[vl, .slice (some ⟨W.heap.size, 0, none⟩) 1 1]).run Tryd.prog (W.alloc (.cells #[.slice (some ⟨g, 0, none⟩) (e.list.length + 1) cap] 22)) = .ok vl' W') ∧ W'.ownsRow B 22 1 vl' (es.length + 1) (lsC (es ++ [e]) (gs ++ [(g, cap)])) ∧ W.grownBy W' vl.ownBlock := by
  obtain ⟨i0, hi0, hz0, hz1, hz2⟩ := info_parts infoSl
  obtain ⟨g2, c, W3, h1, h2, h3⟩ := app1 Tryd.underlying31 hi0 hz0 hz1 hz2 rfl (by decide) W B vl es.length _ h.row #[.slice (some ⟨g, 0, none⟩) (e.list.length + 1) cap] rfl (by simp [Value.oneCell']) (by unfold maxLen; omega) (by omega) hB
  refine ⟨_, W3, h1, ?_, h3⟩
  rw [lsC_snoc h.len]
  exact h2
theorem EvO.grown {W W' : World} {H : Nat} {vv v2 : Value} {es : List Ev} {ls : List (Option Addr × Nat)} (h : EvO W H vv es ls) (hg : W.grownBy W' v2.ownBlock) (hne : ∀ g, v2.ownBlock = some g → ∃ c fz, W.heap[g]? = some (.cells c 22 fz)) : EvO W' H vv es ls :=
  ⟨h.len, owns_grown h.row hg (by decide) hne, fun i h1 h2 => owns_grown (h.lst i h1 h2) hg (by decide) hne, h.inc⟩
set_option maxHeartbeats 2000000 in
/-- an event more, with its list -/
theorem Lnd.app {W : World} {B : Nat} {es : List Ev} {va vl : Value} {gs : List (Nat × Nat)} (h : Lnd W B es va vl gs) (hB : B ≤ W.heap.size) (hn : es.length ≤ 1099511627776) (X : Nat) (hX : X < B) (e : Ev) (g cap G : Nat) (hr : NRo W B (.slice (some ⟨g, 0, none⟩) (e.list.length + 1) cap) (e.list ++ [-77])) (hnew : G ≤ g) (hold : ∀ i (hi : i < gs.length), gs[i].1 < G) :
    ∃ vl' W6, (∀ ty, (Builtin.append_ #[31, 31] ty #[vl, .slice (some ⟨W.heap.size, 0, none⟩) 1 1]).run Tryd.prog (W.alloc (.cells #[.slice (some ⟨g, 0, none⟩) (e.list.length + 1) cap] 22)) = .ok vl' W6) ∧ W.grownBy W6 vl.ownBlock ∧
      ∃ va' W8, (∀ ty, (Builtin.append_ #[29, 29] ty #[va, .slice (some ⟨(W6.setCell ⟨X, 1, none⟩ vl').heap.size, 0, none⟩) 1 1]).run Tryd.prog ((W6.setCell ⟨X, 1, none⟩ vl').alloc (evB e (.slice (some ⟨g, 0, none⟩) e.list.length cap))) = .ok va' W8) ∧ (W6.setCell ⟨X, 1, none⟩ vl').grownBy W8 va.ownBlock ∧ Lnd (W8.setCell ⟨X, 0, none⟩ va') B (es ++ [e]) va' vl' (gs ++ [(g, cap)]) := by
  obtain ⟨vl', W6, r1, r2, r3⟩ := h.list hB hn e g cap
  have k1 := owns_kind h.row
  have hsz6 : W.heap.size ≤ W6.heap.size := r3.size
  have hs7 : ∀ y, B ≤ y → (W6.setCell ⟨X, 1, none⟩ vl').heap[y]? = W6.heap[y]? := fun y hy => Below.heap_setCell W6 ⟨X, 1, none⟩ vl' y (by show y ≠ X; omega)
  have hsz7 : (W6.setCell ⟨X, 1, none⟩ vl').heap.size = W6.heap.size := by simp
  have he7 : EvO (W6.setCell ⟨X, 1, none⟩ vl') B va es (gsL gs) := (h.evo.grown r3 k1).on fun y hy _ _ => hs7 y hy
  have hr7 : NRo (W6.setCell ⟨X, 1, none⟩ vl') B (.slice (some ⟨g, 0, none⟩) (e.list.length + 1) cap) (e.list ++ [-77]) := owns_same (owns_grown hr r3 (by decide) k1) fun y hy _ => hs7 y hy
  have ht7 : ∀ i (h1 : i < es.length) (h2 : i < gs.length), NRo (W6.setCell ⟨X, 1, none⟩ vl') B (.slice (some ⟨gs[i].1, 0, none⟩) (es[i].list.length + 1) gs[i].2) (es[i].list ++ [-77]) := fun i h1 h2 => owns_same (owns_grown (h.two i h1 h2) r3 (by decide) k1) fun y hy _ => hs7 y hy
  have hrow7 : (W6.setCell ⟨X, 1, none⟩ vl').ownsRow B 22 1 vl' (es.length + 1) (lsC (es ++ [e]) (gs ++ [(g, cap)])) := owns_same r2 fun y hy _ => hs7 y hy
  obtain ⟨W7, hW7⟩ : ∃ W7, W7 = W6.setCell ⟨X, 1, none⟩ vl' := ⟨_, rfl⟩
  rw [← hW7] at hs7 hsz7 he7 hr7 ht7 hrow7
  obtain ⟨va', W8, q1, q2, q3⟩ := he7.app (by omega) e (some ⟨g, 0, none⟩) cap hr7.cut G (fun y hy => by simp only [Value.ownBlock, Option.some.injEq] at hy; omega) (fun i hi n y hy => by
    unfold gsL at hi hy
    rw [List.getElem_map] at hy
    simp only [Value.ownBlock, Option.some.injEq] at hy
    rw [List.length_map] at hi
    have := hold i hi
    omega) hn
  have k7 := owns_kind he7.row
  have hs9 : ∀ y, B ≤ y → y < W8.heap.size → (W8.setCell ⟨X, 0, none⟩ va').heap[y]? = W8.heap[y]? := fun y hy _ => Below.heap_setCell W8 ⟨X, 0, none⟩ va' y (by show y ≠ X; omega)
  have HL : Lnd (W8.setCell ⟨X, 0, none⟩ va') B (es ++ [e]) va' vl' (gs ++ [(g, cap)]) := by
   refine ⟨by simp [h.len], ?_, ?_, fun i h1 h2 => ?_⟩
   · have e1 : gsL (gs ++ [(g, cap)]) = gsL gs ++ [(some ⟨g, 0, none⟩, cap)] := by simp [gsL]
     rw [e1]
     exact q2.on fun y h1 h2 _ => hs9 y h1 h2
   · rw [List.length_append]
     exact owns_same (owns_grown hrow7 q3 (by decide) k7) hs9
   · by_cases hi : i < es.length
     · have hl : i < gs.length := by rw [h.len]; exact hi
       simp only [List.getElem_append_left hi, List.getElem_append_left hl]
       exact owns_same (owns_grown (ht7 i hi hl) q3 (by decide) k7) hs9
     · have hie : i = es.length := by simp at h1; omega
       subst hie
       have hl := h.len
       simp only [List.getElem_append_right (Nat.le_refl _), List.getElem_append_right (show gs.length ≤ es.length by omega), hl, Nat.sub_self, List.getElem_cons_zero]
       exact owns_same (owns_grown hr7 q3 (by decide) k7) hs9
  subst hW7
  exact ⟨vl', W6, r1, r3, va', W8, q1, q3, HL⟩
end Go.Proofs.YtecpknpcjoiliaaDoor
namespace Go.Proofs.YtecpknpcjoiliaaDoor
open Go.RowKit Go.Shelf
set_option linter.unusedVariables false
set_option linter.unusedSimpArgs false

abbrev lnX (a b : Value) : Obj := .cells #[a, b] 33 (0, 0)
/-- lend under way -/
structure Lst (w W : World) (H : Nat) (es : List Ev) (va vl : Value) (gs : List (Nat × Nat)) : Prop where
  bel : Below H w W
  r0 : W.heap[H]? = some (lnX (.slice none 0 0) (.slice none 0 0))
  rx : W.heap[H + 1]? = some (lnX va vl)
  lnd : Lnd W (H + 2) es va vl gs
theorem Lst.sz {w W : World} {H : Nat} {es : List Ev} {va vl : Value} {gs : List (Nat × Nat)} (h : Lst w W H es va vl gs) : H + 2 ≤ W.heap.size := heap_lt h.rx
/-- the worlds of a round -/
structure Rnd (w W0 W2 W3 W4 W5 W6 W7 W8 W9 : World) (H n : Nat) (es : List Ev) (e : Ev) (v3 va vl va' vl' : Value) (la : Option Addr) (lc g c : Nat) (gs : List (Nat × Nat)) : Prop where
  w2 : (W0.alloc (evB e (.slice la n lc))).alloc (.cells #[] 3) = W2
  c2 : W2.cell? ⟨W0.heap.size, 7, none⟩ = some (.slice la n lc)
  r3 : ∀ ty, (Builtin.append_ #[22, 22] ty #[.slice (some ⟨W0.heap.size + 1, 0, none⟩) 0 0, .slice la n lc]).run Tryd.prog W2 = .ok v3 W3
  r4 : ∀ ty, (Builtin.append_ #[22, 22] ty #[v3, .slice (some ⟨W3.heap.size, 0, none⟩) 1 1]).run Tryd.prog (W3.alloc (.cells #[.int .i64 (-77)] 3)) = .ok (.slice (some ⟨g, 0, none⟩) (n + 1) c) W4
  cp : n + 1 ≤ c
  c4 : W4.cell? ⟨W0.heap.size, 7, none⟩ = some (.slice la n lc)
  f4 : W4.frozen? ⟨W0.heap.size, 7, none⟩ = false
  w5 : W4.setCell ⟨W0.heap.size, 7, none⟩ (.slice (some ⟨g, 0, none⟩) n c) = W5
  c5 : W5.cell? ⟨H + 1, 1, none⟩ = some vl
  r6 : ∀ ty, (Builtin.append_ #[31, 31] ty #[vl, .slice (some ⟨W5.heap.size, 0, none⟩) 1 1]).run Tryd.prog (W5.alloc (.cells #[.slice (some ⟨g, 0, none⟩) (n + 1) c] 22)) = .ok vl' W6
  c6 : W6.cell? ⟨H + 1, 1, none⟩ = some vl
  f6 : W6.frozen? ⟨H + 1, 1, none⟩ = false
  w7 : W6.setCell ⟨H + 1, 1, none⟩ vl' = W7
  c7 : W7.cell? ⟨H + 1, 0, none⟩ = some va
  b7 : W7.heap[W0.heap.size]? = some (evB e (.slice (some ⟨g, 0, none⟩) n c))
  r8 : ∀ ty, (Builtin.append_ #[29, 29] ty #[va, .slice (some ⟨W7.heap.size, 0, none⟩) 1 1]).run Tryd.prog (W7.alloc (evB e (.slice (some ⟨g, 0, none⟩) n c))) = .ok va' W8
  c8 : W8.cell? ⟨H + 1, 0, none⟩ = some va
  f8 : W8.frozen? ⟨H + 1, 0, none⟩ = false
  w9 : W8.setCell ⟨H + 1, 0, none⟩ va' = W9
  st : Lst w W9 H (es ++ [e]) va' vl' (gs ++ [(g, c)])
theorem grown_at {W W' : World} {r : Option Nat} (hg : W.grownBy W' r) {b : Nat} {o : Obj} (h : W.heap[b]? = some o) (hr : ∀ k, r = some k → b < k) : W'.heap[b]? = some o := by
  rw [hg.block b (heap_lt h) (fun e => by have := hr b e.symm; omega)]; exact h
set_option maxHeartbeats 2000000 in
theorem Lst.round {w W0 : World} {H : Nat} {es : List Ev} {va vl : Value} {gs : List (Nat × Nat)} (h : Lst w W0 H es va vl gs) (hw : w.heap.size = H) (e : Ev) (n : Nat) (hn : n = e.list.length) (la : Option Addr) (lc : Nat) (hi : IntsV W0 H la lc e.list) (hll : n ≤ 8796093022000) (hes : es.length ≤ 1099511627776) :
    ∃ W2 W3 W4 W5 W6 W7 W8 W9 v3 va' vl' g c, Rnd w W0 W2 W3 W4 W5 W6 W7 W8 W9 H n es e v3 va vl va' vl' la lc g c gs := by
  subst hn
  have hz := h.sz
  obtain ⟨E, hE⟩ : ∃ E, E = W0.heap.size := ⟨_, rfl⟩
  obtain ⟨W1, hW1⟩ : ∃ W1, W0.alloc (evB e (.slice la e.list.length lc)) = W1 := ⟨_, rfl⟩
  have hs1 : W1.heap.size = E + 1 := by rw [← hW1, hE]; simp
  have b1 : Below E W0 W1 := by rw [← hW1, hE]; exact below1 _ _
  have he1 : W1.heap[E]? = some (evB e (.slice la e.list.length lc)) := by rw [← hW1, hE]; exact heap_newH _ _ _ rfl
  obtain ⟨W2, hW2⟩ : ∃ W2, W1.alloc (.cells #[] 3) = W2 := ⟨_, rfl⟩
  have hs2 : W2.heap.size = E + 2 := by rw [← hW2]; simp [hs1]
  have b2 : Below (E + 1) W1 W2 := by rw [← hW2, ← hs1]; exact below1 _ _
  have n2 : NRo W2 (E + 1) (.slice (some ⟨E + 1, 0, none⟩) 0 0) [] := by rw [← hW2]; exact NRo.mk0 W1 (E + 1) hs1
  have hb02 : Below E W0 W2 := b1.trans (b2.mono (by omega))
  have hi2 : IntsV W2 H la lc e.list := hi.below (hb02.mono (by omega))
  obtain ⟨v3, W3, r3, n3, g3, z3⟩ := app_ints W2 (E + 1) _ [] n2 (by omega) hi2 (by simp; omega)
  rw [List.nil_append] at n3
  have b3 : Below (E + 1) W2 W3 := (Below.refl _ _).grown g3 (by omega) fun k hk => (n2.lt hk).1
  obtain ⟨v4, W4, r4, n4, g4⟩ := app_nro W3 (E + 1) v3 e.list n3 (-77) (by omega) (by omega)
  have b4 : Below (E + 1) W3 W4 := (Below.refl _ _).grown g4 (by omega) fun k hk => (n3.lt hk).1
  obtain ⟨g, c, rfl, hg1, hg2, hgc⟩ := n4.at_ (by simp)
  have hcc : e.list.length + 1 ≤ c := by
    have h' : W4.ownsRow (E + 1) 3 1 (.slice (some ⟨g, 0, none⟩) (e.list ++ [-77]).length c) (e.list ++ [-77]).length ((e.list ++ [-77]).map (Value.int .i64)) := n4
    rcases h'.2 with ⟨e1, _⟩ | ⟨g', cap', cur, e1, _, _, q1, _⟩
    · cases e1
    · simp only [Value.slice.injEq] at e1
      obtain ⟨_, _, rfl⟩ := e1
      simpa using q1
  have b14 : Below (E + 1) W1 W4 := b2.trans (b3.trans b4)
  have he2 : W2.heap[E]? = some (evB e (.slice la e.list.length lc)) := by rw [b2.block E (by omega)]; exact he1
  have he4 : W4.heap[E]? = some (evB e (.slice la e.list.length lc)) := by rw [b14.block E (by omega)]; exact he1
  obtain ⟨W5, hW5⟩ : ∃ W5, W4.setCell ⟨E, 7, none⟩ (.slice (some ⟨g, 0, none⟩) e.list.length c) = W5 := ⟨_, rfl⟩
  have hk5 : ∀ y, y ≠ E → W5.heap[y]? = W4.heap[y]? := fun y hy => by rw [← hW5]; exact Below.heap_setCell W4 ⟨E, 7, none⟩ _ y hy
  have hs5 : W5.heap.size = W4.heap.size := by rw [← hW5]; simp
  have hb4 : Below E W0 W4 := b1.trans (b14.mono (by omega))
  have hb5 : Below E W0 W5 := by rw [← hW5]; exact hb4.trans ((Below.refl E W4).setCell (p := ⟨E, 7, none⟩) (Nat.le_refl _) _)
  have he5 : W5.heap[E]? = some (evB e (.slice (some ⟨g, 0, none⟩) e.list.length c)) := by
    rw [← hW5]
    have := Lib.heap_setCell_same (i := 7) he4 (.slice (some ⟨g, 0, none⟩) e.list.length c)
    simpa using this
  have hx5 : W5.heap[H + 1]? = some (lnX va vl) := by rw [hb5.block _ (by omega)]; exact h.rx
  have h05 : W5.heap[H]? = some (lnX (.slice none 0 0) (.slice none 0 0)) := by rw [hb5.block _ (by omega)]; exact h.r0
  have l5 : Lnd W5 (H + 2) es va vl gs := h.lnd.on fun y _ hy => hb5.block y (by omega)
  have hn5 : NRo W5 (H + 2) (.slice (some ⟨g, 0, none⟩) (e.list.length + 1) c) (e.list ++ [-77]) := by
    have e1 : e.list.length + 1 = (e.list ++ [-77]).length := by simp
    rw [e1]
    have h1 : NRo W5 (E + 1) (.slice (some ⟨g, 0, none⟩) (e.list ++ [-77]).length c) (e.list ++ [-77]) := owns_same n4 fun y hy _ => hk5 y (by omega)
    refine ⟨h1.1, ?_⟩
    rcases h1.2 with q | ⟨g', cap', cur, q0, q1, q2⟩
    · exact .inl q
    · exact .inr ⟨g', cap', cur, q0, by omega, q2⟩
  have hold : ∀ i (hi : i < gs.length), gs[i].1 < E + 1 := fun i hi => by
    have := (h.lnd.two i (by rw [← h.lnd.len]; exact hi) hi).lt (g := gs[i].1) rfl
    omega
  have hsz5 : E + 1 ≤ W5.heap.size := heap_lt he5
  obtain ⟨vl', W6, r6, g6, va', W8, r8, g8, l9⟩ := l5.app (by omega) hes (H + 1) (by omega) e g c (E + 1) hn5 hg1 hold
  have o5 : ∀ k, vl.ownBlock = some k → H + 2 ≤ k ∧ k < E := fun k hk => by have := owns_block h.lnd.row hk; omega
  have oa : ∀ k, va.ownBlock = some k → H + 2 ≤ k ∧ k < E := fun k hk => by have := owns_block h.lnd.evo.row hk; omega
  have hx6 := grown_at g6 hx5 fun k hk => by have := o5 k hk; omega
  have h06 := grown_at g6 h05 fun k hk => by have := o5 k hk; omega
  have he6 : W6.heap[E]? = some (evB e (.slice (some ⟨g, 0, none⟩) e.list.length c)) := by
    rw [g6.block E hsz5 (fun q => by have := o5 E q.symm; omega)]; exact he5
  have b6 : Below H W5 W6 := (Below.refl _ _).grown g6 (by omega) fun k hk => by have := o5 k hk; omega
  obtain ⟨W7, hW7⟩ : ∃ W7, W6.setCell ⟨H + 1, 1, none⟩ vl' = W7 := ⟨_, rfl⟩
  have hk7 : ∀ y, y ≠ H + 1 → W7.heap[y]? = W6.heap[y]? := fun y hy => by rw [← hW7]; exact Below.heap_setCell W6 ⟨H + 1, 1, none⟩ _ y hy
  have hs7 : W7.heap.size = W6.heap.size := by rw [← hW7]; simp
  have hx7 : W7.heap[H + 1]? = some (lnX va vl') := by
    rw [← hW7]
    have := Lib.heap_setCell_same (i := 1) hx6 vl'
    simpa using this
  have h07 : W7.heap[H]? = some (lnX (.slice none 0 0) (.slice none 0 0)) := by rw [hk7 H (by omega)]; exact h06
  have he7 : W7.heap[E]? = some (evB e (.slice (some ⟨g, 0, none⟩) e.list.length c)) := by rw [hk7 E (by omega)]; exact he6
  have b7 : Below H W6 W7 := by rw [← hW7]; exact (Below.refl H W6).setCell (p := ⟨H + 1, 1, none⟩) (Nat.le_succ _) _
  rw [hW7] at r8 g8
  have hx8 := grown_at g8 hx7 fun k hk => by have := oa k hk; omega
  have h08 := grown_at g8 h07 fun k hk => by have := oa k hk; omega
  have hz6 := heap_lt he6
  have b8 : Below H W7 W8 := (Below.refl _ _).grown g8 (by omega) fun k hk => by have := oa k hk; omega
  obtain ⟨W9, hW9⟩ : ∃ W9, W8.setCell ⟨H + 1, 0, none⟩ va' = W9 := ⟨_, rfl⟩
  rw [hW9] at l9
  have hx9 : W9.heap[H + 1]? = some (lnX va' vl') := by
    rw [← hW9]
    have := Lib.heap_setCell_same (i := 0) hx8 va'
    simpa using this
  have h09 : W9.heap[H]? = some (lnX (.slice none 0 0) (.slice none 0 0)) := by
    rw [← hW9, Below.heap_setCell W8 ⟨H + 1, 0, none⟩ va' H (by show H ≠ H + 1; omega)]; exact h08
  have b9 : Below H W8 W9 := by rw [← hW9]; exact (Below.refl H W8).setCell (p := ⟨H + 1, 0, none⟩) (Nat.le_succ _) _
  have bel9 : Below H w W9 := h.bel.trans ((hb5.mono (by omega)).trans (b6.trans (b7.trans (b8.trans b9))))
  have e1 : (e.list ++ [-77]).length = e.list.length + 1 := by simp
  rw [e1] at r4
  refine ⟨W2, W3, W4, W5, W6, W7, W8, W9, v3, va', vl', g, c, ?_⟩
  subst hE
  exact ⟨by rw [hW1]; exact hW2, cell_blk he2 rfl, r3, r4, hcc, cell_blk he4 rfl, frz_blk he4, hW5, cell_blk hx5 rfl, r6, cell_blk hx6 rfl, frz_blk hx6, hW7, cell_blk hx7 rfl, he7, r8, cell_blk hx8 rfl, frz_blk hx8, hW9, ⟨bel9, h09, hx9, l9⟩⟩
end Go.Proofs.YtecpknpcjoiliaaDoor
