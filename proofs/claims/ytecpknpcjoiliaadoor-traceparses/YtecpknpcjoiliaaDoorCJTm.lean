import Derived.Test.YtecpknpcjoiliaaDoorCJPb
import Derived.Test.YtecpknpcjoiliaaDoorCJLe
import Derived.Deep.DeepAppendRoom
namespace Go.Proofs.YtecpknpcjoiliaaDoor
open Go.RowKit Go.Shelf
set_option linter.unusedVariables false
set_option linter.unusedSimpArgs false

/-- one element behind a row of one's own: in its spare room, or in a new block, and then the old one stays -/
theorem app2 {e t : TypeId} {i0 : TypeInfo} {z : Value} {s bt : Nat} (ht : Tryd.prog.underlying t = some (.slice e)) (hi : Tryd.prog.info? e = some i0) (hz : i0.zero = some z) (hs : i0.size = s) (hb : i0.bytes = bt) (hzs : z.cells.size = s) (hs0 : 0 < s)
    (W : World) (B : Nat) (v : Value) (n : Nat) (xs : List Value) (ho : W.ownsRow B e s v n xs) (cs : Array Value) (hcs : cs.toList.length = s) (h1 : ∀ u ∈ cs.toList, u.oneCell' = true) (hn : n + 1 ≤ maxLen) (hby : (n + 1) * bt ≤ 140737488355328) (hB : B ≤ W.heap.size) :
    ∃ g c W3, (∀ ty, (Builtin.append_ #[t, t] ty #[v, .slice (some ⟨W.heap.size, 0, none⟩) 1 1]).run Tryd.prog (W.alloc (.cells cs e)) = .ok (.slice (some ⟨g, 0, none⟩) (n + 1) c) W3) ∧ W3.ownsRow B e s (.slice (some ⟨g, 0, none⟩) (n + 1) c) (n + 1) (xs ++ cs.toList) ∧ ((v = .slice (some ⟨g, 0, none⟩) n c ∧ W.grownBy W3 (some g)) ∨ (W.heap.size ≤ g ∧ W.grownBy W3 none)) := by
  have ho' : (W.alloc (.cells cs e)).ownsRow B e s v n xs := ho.alloc _
  have hw : ∀ (W3 : World) (r : Option Nat), (W.alloc (.cells cs e)).grownBy W3 r → W.grownBy W3 r := fun W3 r r3 => ⟨r3.os, r3.tape, r3.output, Nat.le_trans (by simp) r3.size, fun k hk hne => by
    rw [r3.block k (by simp; omega) hne, Below.heap_alloc W _ k hk]⟩
  obtain ⟨g', c', W3, r1, r2, r3, r4, r5⟩ := run_append_lies (P := Tryd.prog) (W.alloc (.cells cs e)) t e B e i0 z s bt ht hi hz hs hb hzs hs0 v n xs ho' ⟨W.heap.size, 0, none⟩ 1 1 cs.toList (by omega) (World.news_of_block (heap_alloc_new W _)) h1 (by omega) hn hby (by simp; omega) _ rfl
  rcases ho.2 with ⟨rfl, rfl⟩ | ⟨g, cap, cur, rfl, hBg, hg, q1, q2, q3, q4⟩
  · refine ⟨g', c', W3, fun ty => r1, r2, .inr ⟨?_, hw _ _ r3⟩⟩
    rcases r4 with h | h
    · cases h
    · rw [h]; simp
  · by_cases hroom : n + 1 ≤ cap
    · obtain ⟨w', hr, h2, h3⟩ := run_append_own_spare (P := Tryd.prog) (W.alloc (.cells cs e)) B t e e i0 s ht hi hs g n cap xs ho' ⟨W.heap.size, 0, none⟩ 1 1 cs.toList (by omega) (World.news_of_block (heap_alloc_new W _)) h1 hroom
      exact ⟨g, cap, w', fun ty => hr, h2, .inl ⟨rfl, hw _ _ h3⟩⟩
    · subst hs hb
      have holds : ∀ j u, xs[j]? = some u → (W.alloc (.cells cs e)).cell? ((⟨g, 0, none⟩ : Addr).add j) = some u := ho'.cells (g := g) rfl
      have hr := run_append_grow (P := Tryd.prog) (W.alloc (.cells cs e)) t e e i0 z ht hi hz ⟨g, 0, none⟩ n cap xs ho.1 holds ⟨W.heap.size, 0, none⟩ 1 1 cs.toList (by omega) (World.news_of_block (heap_alloc_new W _)) (by omega) (by simp only [maxLen] at hn; omega) (growslice_fits (by omega) hby)
      rw [hr] at r1
      injection r1 with r1 rw3
      injection r1 with r1 _ rc
      injection r1 with r1
      injection r1 with r1
      refine ⟨g', c', W3, fun ty => ?_, r2, .inr ⟨?_, hw _ _ ?_⟩⟩
      · rw [← r1, ← rc, ← rw3]; exact hr
      · rw [← r1]; simp
      · rw [← rw3]
        exact ⟨rfl, rfl, rfl, by simp, fun k hk _ => Below.heap_alloc (W.alloc (.cells cs e)).drew _ k hk⟩
theorem owns_gr {w w' : World} {row : Option Nat} {B s n : Nat} {e : TypeId} {v : Value} {xs : List Value} (h : w.ownsRow B e s v n xs) (hg : w.grownBy w' row) (hr : ∀ b, v.ownBlock = some b → row ≠ some b) : w'.ownsRow B e s v n xs := by
  refine ⟨h.1, ?_⟩
  rcases h.2 with hn | ⟨g, cap, cur, rfl, hB, hgg, rest⟩
  · exact .inl hn
  · exact .inr ⟨g, cap, cur, rfl, hB, (hg.block g (Array.getElem?_eq_some_iff.1 hgg).1 fun e => hr g rfl e.symm).trans hgg, rest⟩
theorem gr_trans {a b c : World} {r q : Option Nat} (h : a.grownBy b r) (g : b.grownBy c q) (hq : ∀ x, q = some x → r = some x ∨ a.heap.size ≤ x) : a.grownBy c r :=
  ⟨g.os.trans h.os, g.tape.trans h.tape, g.output.trans h.output, Nat.le_trans h.size g.size, fun k hk hne => by
    rw [g.block k (Nat.lt_of_lt_of_le hk h.size) (fun e => by
      rcases hq k e.symm with h | h
      · exact hne h.symm
      · omega)]
    exact h.block k hk hne⟩
theorem gr_refl (w : World) (r : Option Nat) : w.grownBy w r := ⟨rfl, rfl, rfl, Nat.le_refl _, fun _ _ _ => rfl⟩
/-- a list that grows, and the one that it grew out of -/
structure Grw (e : TypeId) (s B : Nat) (v : Value) (n : Nat) (xs : List Value) (w0 : World) (k : Nat) (vk : Value) (wk : World) : Prop where
  own : ∃ zs, wk.ownsRow B e s vk (n + k) (xs ++ zs)
  old : wk.ownsRow B e s v n xs
  gr : w0.grownBy wk v.ownBlock
  lt : ∀ b, v.ownBlock = some b → b < w0.heap.size
  at_ : ∀ g, vk.ownBlock = some g → (∃ c, v = .slice (some ⟨g, 0, none⟩) n c ∧ vk = .slice (some ⟨g, 0, none⟩) (n + k) c) ∨ w0.heap.size ≤ g
theorem Grw.start {e : TypeId} {s B : Nat} {v : Value} {n : Nat} {xs : List Value} {w0 w : World} (h : w.ownsRow B e s v n xs) (hg : w0.grownBy w v.ownBlock) (hl : ∀ b, v.ownBlock = some b → b < w0.heap.size) : Grw e s B v n xs w0 0 v w := by
  refine ⟨⟨[], by simpa using h⟩, h, hg, hl, fun g hgg => .inl ?_⟩
  rcases h.2 with ⟨rfl, _⟩ | ⟨g', cap, cur, rfl, rest⟩
  · cases hgg
  · simp only [Value.ownBlock, Option.some.injEq] at hgg
    subst hgg
    exact ⟨cap, rfl, rfl⟩
theorem Grw.step {e t : TypeId} {i0 : TypeInfo} {z : Value} {s bt : Nat} (ht : Tryd.prog.underlying t = some (.slice e)) (hi : Tryd.prog.info? e = some i0) (hz : i0.zero = some z) (hs : i0.size = s) (hb : i0.bytes = bt) (hzs : z.cells.size = s) (hs0 : 0 < s)
    {B : Nat} {v : Value} {n : Nat} {xs : List Value} {w0 : World} {k : Nat} {vk : Value} {wk : World} (h : Grw e s B v n xs w0 k vk wk) (cs : Array Value) (hcs : cs.toList.length = s) (h1 : ∀ u ∈ cs.toList, u.oneCell' = true) (hn : n + k + 1 ≤ maxLen) (hby : (n + k + 1) * bt ≤ 140737488355328) (hB : B ≤ w0.heap.size) :
    ∃ g c W3, (∀ ty, (Builtin.append_ #[t, t] ty #[vk, .slice (some ⟨wk.heap.size, 0, none⟩) 1 1]).run Tryd.prog (wk.alloc (.cells cs e)) = .ok (.slice (some ⟨g, 0, none⟩) (n + k + 1) c) W3) ∧ Grw e s B v n xs w0 (k + 1) (.slice (some ⟨g, 0, none⟩) (n + k + 1) c) W3 := by
  obtain ⟨zs, ho⟩ := h.own
  have hsz := h.gr.size
  obtain ⟨g, c, W3, r1, r2, r3⟩ := app2 ht hi hz hs hb hzs hs0 wk B vk (n + k) (xs ++ zs) ho cs hcs h1 hn hby (by omega)
  refine ⟨g, c, W3, r1, ?_⟩
  have hxl : xs.length = n * s := h.old.1
  rcases r3 with ⟨rfl, hg⟩ | ⟨hge, hg⟩
  · rcases h.at_ g rfl with ⟨c', e1, e2⟩ | hge
    · have hc : c' = c := by
        have := congrArg (fun v : Value => match v with | .slice _ _ c => c | _ => 0) e2
        exact this.symm
      subst hc
      subst e1
      refine ⟨⟨zs ++ cs.toList, by rw [← List.append_assoc]; exact r2⟩, ?_, gr_trans h.gr hg (fun x hx => .inl hx), h.lt, fun g' hg' => ?_⟩
      · rcases r2.2 with ⟨hh, _⟩ | ⟨g2, cap2, cur, e3, q1, q2, q3, q4, q5, q6⟩
        · cases hh
        · injection e3 with e3 _ e4
          injection e3 with e3
          injection e3 with e3
          subst e3 e4
          refine ⟨hxl, .inr ⟨g, c', cur, rfl, q1, q2, ?_, q4, q5, ?_⟩⟩
          · omega
          · have e5 := congrArg (List.take (n * s)) q6
            rw [List.take_take, Nat.min_eq_left (Nat.mul_le_mul_right _ (by omega)), List.append_assoc, ← hxl, List.take_left] at e5
            rw [← hxl]
            exact e5
      · simp only [Value.ownBlock, Option.some.injEq] at hg'
        subst hg'
        exact .inl ⟨c', rfl, rfl⟩
    · refine ⟨⟨zs ++ cs.toList, by rw [← List.append_assoc]; exact r2⟩, owns_gr h.old hg (fun b hb e => ?_), gr_trans h.gr hg (fun x hx => .inr ?_), h.lt, fun g' hg' => .inr ?_⟩
      · injection e with e
        have := h.lt b hb
        omega
      · injection hx with hx
        omega
      · simp only [Value.ownBlock, Option.some.injEq] at hg'
        omega
  · refine ⟨⟨zs ++ cs.toList, by rw [← List.append_assoc]; exact r2⟩, owns_gr h.old hg (fun b hb e => by cases e), gr_trans h.gr hg (fun x hx => by cases hx), h.lt, fun g' hg' => .inr ?_⟩
    simp only [Value.ownBlock, Option.some.injEq] at hg'
    omega
/-- a mark more -/
theorem mark_step {W : World} {B g n cap k : Nat} {e : TypeId} {m : Value} {xs : List Value} (h : W.ownsRow B e 1 (.slice (some ⟨g, 0, none⟩) n cap) n (List.replicate k m ++ xs.drop k)) (hk : k < n) (hx : xs.length = n) : (W.setCell ⟨g, k, none⟩ m).ownsRow B e 1 (.slice (some ⟨g, 0, none⟩) n cap) n (List.replicate (k + 1) m ++ xs.drop (k + 1)) := by
  rcases h.2 with ⟨hh, _⟩ | ⟨g2, cap2, cur, e3, q1, q2, q3, q4, q5, q6⟩
  · cases hh
  · injection e3 with e3 _ e4
    injection e3 with e3
    injection e3 with e3
    subst e3 e4
    refine ⟨by simp; omega, .inr ⟨g, cap, cur.setIfInBounds k m, rfl, q1, heap_setCell_same W g k _ _ m q2, q3, q4, by simpa using q5, ?_⟩⟩
    rw [Array.toList_setIfInBounds, List.take_set, q6, List.set_append_right _ _ (by simp), List.length_replicate, Nat.sub_self, List.drop_eq_getElem_cons (by omega), List.set_cons_zero, List.replicate_succ', List.append_assoc]
    rfl
theorem mark_cell {W : World} {B g n cap k : Nat} {e : TypeId} {m : Value} {xs : List Value} (h : W.ownsRow B e 1 (.slice (some ⟨g, 0, none⟩) n cap) n xs) (hk : k < n) : (∃ v, W.cell? ⟨g, k, none⟩ = some v) ∧ W.frozen? ⟨g, k, none⟩ = false ∧ g < W.heap.size ∧ n ≤ cap := by
  rcases h.2 with ⟨hh, _⟩ | ⟨g2, cap2, cur, e3, q1, q2, q3, q4, q5, q6⟩
  · cases hh
  · injection e3 with e3 _ e4
    injection e3 with e3
    injection e3 with e3
    subst e3 e4
    exact ⟨⟨_, cell_blk q2 (Array.getElem?_eq_getElem (by omega))⟩, by simp [World.frozen?, q2], (Array.getElem?_eq_some_iff.1 q2).1, q3⟩
theorem int_oneM (x : Int) : ∀ u ∈ (#[Value.int .i64 x] : Array Value).toList, u.oneCell' = true := by
  intro u hu
  simp only [List.mem_cons, List.not_mem_nil, or_false] at hu
  subst hu
  rfl

/-- blocks below B, and from E on, stay -/
structure SpF (B E : Nat) (X Y : World) : Prop where
  bel : Below B X Y
  up : ∀ x, E ≤ x → x < X.heap.size → Y.heap[x]? = X.heap[x]?
theorem SpF.refl (B E : Nat) (X : World) : SpF B E X X := ⟨Below.refl _ _, fun _ _ _ => rfl⟩
theorem SpF.trans {B E : Nat} {X Y Z : World} (h : SpF B E X Y) (g : SpF B E Y Z) : SpF B E X Z :=
  ⟨h.bel.trans g.bel, fun x h1 h2 => (g.up x h1 (Nat.lt_of_lt_of_le h2 h.bel.size)).trans (h.up x h1 h2)⟩
theorem SpF.gr {B E : Nat} {X Y : World} {row : Option Nat} (hg : X.grownBy Y row) (hB : B ≤ X.heap.size) (hr : ∀ g, row = some g → B ≤ g ∧ g < E) : SpF B E X Y :=
  ⟨(Below.refl B X).grown hg hB fun k hk => (hr k hk).1, fun x h1 h2 => hg.block x h2 fun e => by have := hr x e.symm; omega⟩
theorem SpF.set {B E : Nat} {X : World} {g i : Nat} {v : Value} (h1 : B ≤ g) (h2 : g < E) : SpF B E X (X.setCell ⟨g, i, none⟩ v) :=
  ⟨(Below.refl B X).setCell (p := ⟨g, i, none⟩) h1 v, fun x hx _ => Below.heap_setCell X ⟨g, i, none⟩ v x (by show x ≠ g; omega)⟩
/-- events of one's own, all below E -/
structure EvX (W : World) (H E : Nat) (vv : Value) (es : List Ev) (ls : List (Option Addr × Nat)) : Prop where
  evo : EvO W H vv es ls
  rb : ∀ g, vv.ownBlock = some g → g < E
  lb : ∀ i (hi : i < ls.length) n g, (Value.slice ls[i].1 n ls[i].2).ownBlock = some g → g < E
section
variable {W W' : World} {H E : Nat} {vv : Value} {es : List Ev} {ls : List (Option Addr × Nat)}
theorem own_at {a : Option Addr} {c n n' g : Nat} (h : (Value.slice a n c).ownBlock = some g) : (Value.slice a n' c).ownBlock = some g := by
  cases a with
  | none => simp [Value.ownBlock] at h
  | some ad => exact h
theorem EvO.x (h : EvO W H vv es ls) : EvX W H W.heap.size vv es ls :=
  ⟨h, fun g hg => (owns_block h.row hg).2, fun i hi n g hg => ((h.lst i (by rw [← h.len]; exact hi) hi).lt (own_at hg)).2⟩
theorem owns_keep {e : TypeId} {s n : Nat} {v : Value} {cs : List Value} (h : W.ownsRow H e s v n cs) (hb : ∀ g, v.ownBlock = some g → W'.heap[g]? = W.heap[g]?) : W'.ownsRow H e s v n cs := by
  refine ⟨h.1, ?_⟩
  rcases h.2 with hn | ⟨g, cap, cur, rfl, hB, hgg, rest⟩
  · exact .inl hn
  · exact .inr ⟨g, cap, cur, rfl, hB, by rw [hb g rfl]; exact hgg, rest⟩
theorem EvX.keep (h : EvX W H E vv es ls) (hb : ∀ g, H ≤ g → g < E → W'.heap[g]? = W.heap[g]?) : EvX W' H E vv es ls := by
  refine ⟨⟨h.evo.len, owns_keep h.evo.row fun g hg => hb g (owns_block h.evo.row hg).1 (h.rb g hg), fun i h1 h2 => ?_, h.evo.inc⟩, h.rb, h.lb⟩
  have h3 := h.evo.lst i h1 h2
  exact owns_keep h3 fun g hg => hb g (h3.lt hg).1 (h.lb i h2 _ g hg)
theorem EvX.below (h : EvX W H E vv es ls) (hE : E ≤ W.heap.size) (hb : Below W.heap.size W W') : EvX W' H E vv es ls := h.keep fun g _ hg => hb.block g (by omega)
/-- rows of two kinds lie in two blocks -/
theorem row_list_ne (h : EvO W H vv es ls) {i : Nat} (hi : i < ls.length) {g g' n : Nat} (h1 : vv.ownBlock = some g) (h2 : (Value.slice ls[i].1 n ls[i].2).ownBlock = some g') : g ≠ g' := fun e => by
  subst e
  have h3 := h.lst i (by rw [← h.len]; exact hi) hi
  obtain ⟨c1, f1, q1⟩ := owns_kind h.row g h1
  have h3' : W.ownsRow H 3 1 (.slice ls[i].1 (es[i]'(by rw [← h.len]; exact hi)).list.length ls[i].2) _ _ := h3
  obtain ⟨c2, f2, q2⟩ := owns_kind h3' g (own_at h2)
  rw [q1] at q2
  injection q2 with q2
  injection q2 with _ q2
  exact absurd q2 (by decide)
theorem EvO.list_ne (h : EvO W H vv es ls) {i j : Nat} (hi : i < ls.length) (hj : j < ls.length) (hij : i ≠ j) {g g' n n' : Nat} (h1 : (Value.slice ls[i].1 n ls[i].2).ownBlock = some g) (h2 : (Value.slice ls[j].1 n' ls[j].2).ownBlock = some g') : g ≠ g' := by
  rcases Nat.lt_or_gt_of_ne hij with hlt | hlt
  · have := h.inc i j hi hj hlt g g' n n' h1 h2
    omega
  · have := h.inc j i hj hi hlt g' g n' n h2 h1
    omega
/-- a list grows in its spare room, or elsewhere -/
theorem EvX.growL (h : EvX W H E vv es ls) {i : Nat} (hi : i < ls.length) (hie : i < es.length) (hg : W.grownBy W' (Value.slice ls[i].1 es[i].list.length ls[i].2).ownBlock) (hr : NRo W' H (.slice ls[i].1 es[i].list.length ls[i].2) es[i].list) : EvX W' H E vv es ls := by
  refine ⟨⟨h.evo.len, owns_keep h.evo.row fun g hgg => hg.block g (owns_block h.evo.row hgg).2 (fun e => row_list_ne h.evo hi hgg e.symm rfl), fun j h1 h2 => ?_, h.evo.inc⟩, h.rb, h.lb⟩
  by_cases hji : j = i
  · subst hji
    exact hr
  · have h3 := h.evo.lst j h1 h2
    exact owns_keep h3 fun g hgg => hg.block g (h3.lt hgg).2 (fun e => h.evo.list_ne h2 hi hji hgg e.symm rfl)
theorem EvX.growR (h : EvX W H E vv es ls) (hg : W.grownBy W' vv.ownBlock) (hr : W'.ownsRow H 24 8 vv es.length (evCs es ls)) : EvX W' H E vv es ls := by
  refine ⟨⟨h.evo.len, hr, fun j h1 h2 => ?_, h.evo.inc⟩, h.rb, h.lb⟩
  have h3 := h.evo.lst j h1 h2
  exact owns_keep h3 fun g hgg => hg.block g (h3.lt hgg).2 (fun e => row_list_ne h.evo h2 e.symm hgg rfl)
end
theorem evCs_cons (e : Ev) (es : List Ev) (l : Option Addr × Nat) (ls : List (Option Addr × Nat)) : evCs (e :: es) (l :: ls) = [.int .i64 e.kind, .int .i64 e.p, .int .i64 e.i, .int .i64 e.q, .int .i64 e.j, .int .i64 e.c, .int .i64 e.num, .slice l.1 e.list.length l.2] ++ evCs es ls := by simp [evCs]
theorem evCs_kind : ∀ {es : List Ev} {ls : List (Option Addr × Nat)} (h : ls.length = es.length) (i : Nat) (hi : i < es.length) (m : Int), (evCs es ls).set (i * 8) (.int .i64 m) = evCs (es.set i { es[i] with kind := m }) ls
  | e :: es, l :: ls, h, 0, _, m => by
    simp only [List.set_cons_zero, List.getElem_cons_zero, evCs_cons]
    rfl
  | e :: es, l :: ls, h, i + 1, hi, m => by
    have ih := evCs_kind (es := es) (ls := ls) (by simpa using h) i (by simpa using hi) m
    simp only [List.set_cons_succ, List.getElem_cons_succ, evCs_cons]
    rw [← ih, List.set_append_right _ _ (by simp; omega)]
    congr 2
    simp
    omega
theorem evCs_list : ∀ {es : List Ev} {ls : List (Option Addr × Nat)} (h : ls.length = es.length) (i : Nat) (hi : i < es.length) (l2 : List Int) (hl : l2.length = es[i].list.length), evCs (es.set i { es[i] with list := l2 }) ls = evCs es ls
  | e :: es, l :: ls, h, 0, _, l2, hl => by
    simp only [List.set_cons_zero, List.getElem_cons_zero, evCs_cons] at hl ⊢
    rw [hl]
  | e :: es, l :: ls, h, i + 1, hi, l2, hl => by
    have ih := evCs_list (es := es) (ls := ls) (by simpa using h) i (by simpa using hi) l2 (by simpa using hl)
    simp only [List.set_cons_succ, List.getElem_cons_succ, evCs_cons]
    rw [ih]
section
variable {W : World} {H E : Nat} {es : List Ev} {ls : List (Option Addr × Nat)} {g n c : Nat}
theorem EvX.kind (h : EvX W H E (.slice (some ⟨g, 0, none⟩) n c) es ls) {i : Nat} (hi : i < es.length) (m : Int) : EvX (W.setCell ⟨g, i * 8, none⟩ (.int .i64 m)) H E (.slice (some ⟨g, 0, none⟩) n c) (es.set i { es[i] with kind := m }) ls := by
  have hl := h.evo.len
  have hk : ∀ y, y ≠ g → (W.setCell ⟨g, i * 8, none⟩ (.int .i64 m)).heap[y]? = W.heap[y]? := fun y hy => Below.heap_setCell W ⟨g, i * 8, none⟩ _ y hy
  refine ⟨⟨by rw [List.length_set]; exact hl, ?_, fun j h1 h2 => ?_, h.evo.inc⟩, h.rb, h.lb⟩
  · rw [List.length_set, ← evCs_kind hl i hi m]
    have hr := h.evo.row
    refine ⟨by rw [List.length_set]; exact hr.1, ?_⟩
    rcases hr.2 with ⟨e, _⟩ | ⟨g', cap, cur, e, q1, q2, q3, q4, q5, q6⟩
    · cases e
    · simp only [Value.slice.injEq, Option.some.injEq, Addr.mk.injEq] at e
      obtain ⟨⟨rfl, _⟩, rfl, rfl⟩ := e
      refine .inr ⟨g, c, cur.setIfInBounds (i * 8) (.int .i64 m), rfl, q1, Lib.heap_setCell_same q2 _, q3, q4, by simpa using q5, ?_⟩
      rw [Array.toList_setIfInBounds, List.take_set, q6]
  · have h1' : j < es.length := by simpa using h1
    have h3 := h.evo.lst j h1' h2
    have el : (es.set i { es[i] with kind := m })[j].list = es[j].list := by
      rw [List.getElem_set]
      split
      · rename_i e; subst e; rfl
      · rfl
    rw [el]
    exact owns_keep h3 fun g' hgg => hk g' (fun e => row_list_ne h.evo h2 rfl hgg e.symm)
theorem EvX.num (h : EvX W H E (.slice (some ⟨g, 0, none⟩) n c) es ls) {i : Nat} (hi : i < es.length) (hil : i < ls.length) {gi k : Nat} (ha : ls[i].1 = some ⟨gi, 0, none⟩) (x : Int) : EvX (W.setCell ⟨gi, k, none⟩ (.int .i64 x)) H E (.slice (some ⟨g, 0, none⟩) n c) (es.set i { es[i] with list := es[i].list.set k x }) ls := by
  have hl := h.evo.len
  have hk : ∀ y, y ≠ gi → (W.setCell ⟨gi, k, none⟩ (.int .i64 x)).heap[y]? = W.heap[y]? := fun y hy => Below.heap_setCell W ⟨gi, k, none⟩ _ y hy
  have hob : ∀ n, (Value.slice ls[i].1 n ls[i].2).ownBlock = some gi := fun n => by rw [ha]; rfl
  refine ⟨⟨by rw [List.length_set]; exact hl, ?_, fun j h1 h2 => ?_, h.evo.inc⟩, h.rb, h.lb⟩
  · rw [List.length_set, evCs_list hl i hi _ (by simp)]
    exact owns_keep h.evo.row fun g' hgg => hk g' (fun e => row_list_ne h.evo hil hgg (hob 0) e)
  · have h1' : j < es.length := by simpa using h1
    by_cases hji : i = j
    · subst hji
      have h3 : W.ownsRow H 3 1 (.slice ls[i].1 es[i].list.length ls[i].2) es[i].list.length (es[i].list.map (Value.int .i64)) := h.evo.lst i h1' h2
      have e2 : (es.set i { es[i] with list := es[i].list.set k x })[i].list = es[i].list.set k x := by rw [List.getElem_set_self]
      rw [e2]
      unfold NRo
      rw [List.length_set, List.map_set]
      refine ⟨by rw [List.length_set]; exact h3.1, ?_⟩
      rcases h3.2 with ⟨e, _⟩ | ⟨g', cap, cur, e, q1, q2, q3, q4, q5, q6⟩
      · rw [ha] at e; cases e
      · rw [ha] at e ⊢
        simp only [Value.slice.injEq, Option.some.injEq, Addr.mk.injEq] at e
        obtain ⟨⟨rfl, _⟩, _, hc⟩ := e
        refine .inr ⟨gi, cap, cur.setIfInBounds k (.int .i64 x), by rw [hc], q1, Lib.heap_setCell_same q2 _, q3, q4, by simpa using q5, ?_⟩
        rw [Array.toList_setIfInBounds, List.take_set, q6]
    · have h3 := h.evo.lst j h1' h2
      have el : (es.set i { es[i] with list := es[i].list.set k x })[j] = es[j] := by rw [List.getElem_set_ne hji]
      rw [el]
      exact owns_keep h3 fun g' hgg => hk g' (fun e => h.evo.list_ne hil h2 hji (hob 0) hgg e.symm)
end
end Go.Proofs.YtecpknpcjoiliaaDoor
