import Derived.Test.YtikijkpklneihaaCVDq
namespace Go.Proofs.Ytikijkpklneihaa
open Go.RowKit
set_option linter.unusedVariables false
set_option linter.unusedSimpArgs false

def slOf (p : Nat × List V) : Value := .slice (some ⟨p.1, 0, none⟩) p.2.length p.2.length
/-- own, in the midst of its work: what is left is st; ex: the list that is being gone through -/
structure DpI (w wr : World) (A B : Nat) (x : V) (q : Option Addr) (c : Nat) (G : Gm) (d : Nat → Nat) (ex : Nat → Prop) (v : Value) (st : List (Nat × List V)) : Prop where
  m : OwM wr (A + 2) B G d
  stk : wr.ownsRow (A + 2) 22 1 v st.length (st.map slOf)
  mem : ∀ p ∈ st, (∃ π, G p.1 = some (π, p.2)) ∧ d p.1 = 0 ∧ ¬ ex p.1
  nd : (st.map Prod.fst).Nodup
  fin : ∀ b π l, G b = some (π, l) → d b = l.length ∨ b ∈ st.map Prod.fst ∨ ex b
  root : ChG G [] q c x.l
  bel : Below A w wr
  a0 : wr.heap[A]? = some (.cells #[.int .i64 x.k, .int .i64 x.n, .slice q x.l.length c] 24 (0, 0))
  a1 : wr.heap[A + 1]? = some z3
  siz : A + 2 ≤ wr.heap.size
theorem own_ty {W : World} {base : Nat} {e : TypeId} {s : Nat} {v : Value} {n : Nat} {cs : List Value} (h : W.ownsRow base e s v n cs) {g : Nat} (hg : v.ownBlock = some g) : ∃ cur, W.heap[g]? = some (.cells cur e (0, 0)) := by
  rcases h.2 with ⟨rfl, _⟩ | ⟨g', cap, cur, rfl, _, h3, _⟩
  · cases hg
  · cases hg
    exact ⟨cur, h3⟩
theorem own_ne {W : World} {base : Nat} {v : Value} {n : Nat} {cs : List Value} (h : W.ownsRow base 22 1 v n cs) {b : Nat} {cur : Array Value} (hb : W.heap[b]? = some (.cells cur 24 (0, 0))) : v.ownBlock ≠ some b := by
  intro e
  obtain ⟨cur', h2⟩ := own_ty h e
  rw [hb] at h2
  injection h2 with h2
  injection h2 with _ h2 _
  exact absurd h2 (by decide)
theorem DpI.bare {w wr : World} {A B : Nat} {x : V} {q : Option Addr} {c : Nat} {G : Gm} {d : Nat → Nat} {v : Value} {st : List (Nat × List V)} {b i : Nat} {π : List Nat} {l : List V} (h : DpI w wr A B x q c G d (· = b) v st) (hg : G b = some (π, l)) (hd : d b = i) (hi : i < l.length) (he : l[i].l = []) (hB : B ≤ A) : DpI w (wr.setCell ⟨b, i * 3 + 2, none⟩ (.slice none 0 0)) A B x q c G (upN d b (i + 1)) (· = b) v st := by
  have hr := h.m b π l hg
  obtain ⟨cur, hb1, _⟩ := hr.blk
  have hge := hr.ge
  have hm := h.m.put hg hd hi (q := Option.none) (c := 0) (.inl ⟨he, rfl, rfl⟩) (by omega)
  have hln : l[i].l.length = 0 := by rw [he]; rfl
  rw [hln] at hm
  have ho : ∀ y, y ≠ b → (wr.setCell ⟨b, i * 3 + 2, Option.none⟩ (.slice Option.none 0 0)).heap[y]? = wr.heap[y]? := fun y hy => Below.heap_setCell _ _ _ _ hy
  refine ⟨hm, own_same h.stk fun g o hgo hh => (ho g (fun e => own_ne h.stk hb1 (e ▸ hgo))).trans hh, fun p hp => ?_, h.nd, fun b' π' l' hg' => ?_, h.root, h.bel.setCell (p := ⟨b, i * 3 + 2, Option.none⟩) (by show A ≤ b; omega) _, (ho A (by omega)).trans h.a0, (ho (A + 1) (by omega)).trans h.a1, by rw [World.size_setCell]; exact h.siz⟩
  · obtain ⟨h1, h2, h3⟩ := h.mem p hp
    exact ⟨h1, by simp only [upN]; rw [if_neg h3]; exact h2, h3⟩
  · by_cases hbb : b' = b
    · exact .inr (.inr hbb)
    · rcases h.fin b' π' l' hg' with h1 | h1 | h1
      · exact .inl (by simp only [upN]; rw [if_neg hbb]; exact h1)
      · exact .inr (.inl h1)
      · exact .inr (.inr h1)
theorem DpI.full {w wr w1 X w' : World} {A B : Nat} {x : V} {q : Option Addr} {c : Nat} {G : Gm} {d : Nat → Nat} {v v' : Value} {st : List (Nat × List V)} {b i : Nat} {π : List Nat} {l : List V} {xs : List Value} (h : DpI w wr A B x q c G d (· = b) v st) (hg : G b = some (π, l)) (hd : d b = i) (hi : i < l.length) (he : 0 < l[i].l.length) (hB : B ≤ A)
    (hrow : RowV wr B l[i].l xs) (hx : w1.heap[wr.heap.size]? = some (.cells xs.toArray 24 (0, 0))) (hb1 : Below wr.heap.size wr w1)
    (hX : Below w1.heap.size (w1.setCell ⟨b, i * 3 + 2, Option.none⟩ (.slice (some ⟨wr.heap.size, 0, Option.none⟩) l[i].l.length l[i].l.length)) X)
    (hown : w'.ownsRow (A + 2) 22 1 v' (st.length + 1) (st.map slOf ++ [slOf (wr.heap.size, l[i].l)])) (hgr : X.grownBy w' v.ownBlock) :
    DpI w w' A B x q c (upG G wr.heap.size (π ++ [i], l[i].l)) (upN (upN d wr.heap.size 0) b (i + 1)) (· = b) v' (st ++ [(wr.heap.size, l[i].l)]) := by
  have hr := h.m b π l hg
  have hblt := hr.lt
  have hge := hr.ge
  have hsiz := h.siz
  have hnw := h.m.new_none
  have h1s := hb1.size
  have hm1 := h.m.new (σ := π ++ [i]) hb1 hrow hx he (by omega) (by omega)
  have hgg : GE G (upG G wr.heap.size (π ++ [i], l[i].l)) := upG_ge hnw
  have hself : upG G wr.heap.size (π ++ [i], l[i].l) wr.heap.size = Option.some (π ++ [i], l[i].l) := by simp [upG]
  have hdb : upN d wr.heap.size 0 b = i := by simp only [upN]; rw [if_neg (by omega)]; exact hd
  have hm2 := hm1.put (hgg _ _ hg) hdb hi (q := Option.some ⟨wr.heap.size, 0, Option.none⟩) (c := l[i].l.length) (.inr ⟨_, rfl, rfl, hself⟩) (by omega)
  have hX' : ∀ y, y < w1.heap.size → y ≠ b → X.heap[y]? = w1.heap[y]? := fun y hy hyb => (hX.block y hy).trans (Below.heap_setCell _ _ _ _ hyb)
  have hXb : X.heap[b]? = (w1.setCell ⟨b, i * 3 + 2, Option.none⟩ (.slice (Option.some ⟨wr.heap.size, 0, Option.none⟩) l[i].l.length l[i].l.length)).heap[b]? := hX.block b (by omega)
  have hXs := hX.size
  rw [World.size_setCell] at hXs
  -- what the row that grows is not
  have hkeep : ∀ y o, X.heap[y]? = Option.some o → v.ownBlock ≠ Option.some y → w'.heap[y]? = Option.some o := fun y o hy hn => grownBy_other hgr hy hn
  have hnv : ∀ y, v.ownBlock = Option.some y → ∃ cur, wr.heap[y]? = Option.some (.cells cur 22 (0, 0)) := fun y hy => own_ty h.stk hy
  have hold : ∀ y o, y < wr.heap.size → y ≠ b → wr.heap[y]? = Option.some o → v.ownBlock ≠ Option.some y → w'.heap[y]? = Option.some o := fun y o hy hyb ho hn => hkeep y o ((hX' y (by omega) hyb).trans ((hb1.block y hy).trans ho)) hn
  have hbw : Below A wr w' := by
    have e1 : Below A wr X := (hb1.mono (by omega)).trans (((Below.refl A w1).setCell (p := ⟨b, i * 3 + 2, Option.none⟩) (by show A ≤ b; omega) (.slice (Option.some ⟨wr.heap.size, 0, Option.none⟩) l[i].l.length l[i].l.length)).trans (hX.mono (by omega)))
    exact e1.grown hgr (by omega) fun k e => by have := own_base h.stk k e; omega
  have hmX : OwM X (A + 2) B (upG G wr.heap.size (π ++ [i], l[i].l)) (upN (upN d wr.heap.size 0) b (i + 1)) := hm2.keep (fun y p hy => by
    have := hm2.lt hy
    rw [World.size_setCell] at this
    exact hX.block y (by omega)) (Lo.blocks fun y hy => hX.block y (by omega))
  have hmw : OwM w' (A + 2) B (upG G wr.heap.size (π ++ [i], l[i].l)) (upN (upN d wr.heap.size 0) b (i + 1)) := hmX.keep (fun y p hy => by
    obtain ⟨cur, e1, _⟩ := (hmX y p.1 p.2 hy).blk
    rw [e1]
    refine hkeep y _ e1 fun e => ?_
    obtain ⟨cur', e2⟩ := hnv y e
    have hy' : y < wr.heap.size := (Array.getElem?_eq_some_iff.1 e2).1
    have hne : y ≠ b := by
      intro e3
      subst e3
      obtain ⟨cur3, e4, _⟩ := hr.blk
      rw [e2] at e4
      injection e4 with e4
      injection e4 with _ e4 _
      exact absurd e4 (by decide)
    rw [hX' y (by omega) hne, hb1.block y hy', e2] at e1
    injection e1 with e1
    injection e1 with _ e1 _
    exact absurd e1 (by decide)) (Lo.blocks fun y hy => hgr.block y (by omega) (fun e => by have := own_base h.stk y e.symm; omega))
  refine ⟨hmw, ?_, fun p hp => ?_, ?_, fun b' π' l' hg' => ?_, ?_, h.bel.trans hbw, ?_, ?_, ?_⟩
  · simpa using hown
  · rcases List.mem_append.1 hp with hp | hp
    · obtain ⟨⟨π', h1⟩, h2, h3⟩ := h.mem p hp
      have hlt := h.m.lt h1
      refine ⟨⟨π', hgg _ _ h1⟩, ?_, h3⟩
      simp only [upN]
      rw [if_neg h3, if_neg (by omega)]
      exact h2
    · simp at hp
      subst hp
      refine ⟨⟨_, hself⟩, ?_, by show wr.heap.size ≠ b; omega⟩
      simp only [upN]
      rw [if_neg (by omega)]
      simp
  · rw [List.map_append, List.nodup_append]
    refine ⟨h.nd, by simp, fun y hy z hz => ?_⟩
    simp at hz
    subst hz
    obtain ⟨p, hp, rfl⟩ := List.mem_map.1 hy
    obtain ⟨⟨π', h1⟩, _⟩ := h.mem p hp
    have := h.m.lt h1
    omega
  · by_cases hb' : b' = wr.heap.size
    · exact .inr (.inl (by simp [hb']))
    · have : upG G wr.heap.size (π ++ [i], l[i].l) b' = G b' := by simp [upG, hb']
      rw [this] at hg'
      by_cases hbb : b' = b
      · exact .inr (.inr hbb)
      · rcases h.fin b' π' l' hg' with h1 | h1 | h1
        · exact .inl (by simp only [upN]; rw [if_neg hbb, if_neg hb']; exact h1)
        · exact .inr (.inl (by rw [List.map_append]; exact List.mem_append_left _ h1))
        · exact .inr (.inr h1)
  · exact h.root.ge hgg
  · exact hold A _ (by omega) (by omega) h.a0 fun e => by have := own_base h.stk A e; omega
  · exact hold (A + 1) _ (by omega) (by omega) h.a1 fun e => by have := own_base h.stk (A + 1) e; omega
  · have := hgr.size
    omega
theorem DpI.pop {w wr : World} {A B : Nat} {x : V} {q : Option Addr} {c : Nat} {G : Gm} {d : Nat → Nat} {v : Value} {st : List (Nat × List V)} {b : Nat} {l : List V} (h : DpI w wr A B x q c G d (fun _ => False) v (st ++ [(b, l)])) :
    ∃ g cap, v = .slice (some ⟨g, 0, Option.none⟩) (st.length + 1) cap ∧ st.length + 1 ≤ cap ∧ cap ≤ maxLen ∧ g < wr.heap.size ∧ wr.cell? ⟨g, st.length, Option.none⟩ = Option.some (.slice (some ⟨b, 0, Option.none⟩) l.length l.length) ∧ (∃ π, G b = some (π, l)) ∧ d b = 0 ∧ DpI w wr A B x q c G d (· = b) (.slice (some ⟨g, 0, Option.none⟩) st.length cap) st := by
  obtain ⟨q1, q2⟩ := h.stk
  have hmem := h.mem (b, l) (by simp)
  have hnd := h.nd
  rw [List.map_append, List.nodup_append] at hnd
  rcases q2 with ⟨_, h5⟩ | ⟨g, cap, cur, rfl, q3, q4, q5, q6, q7, q8⟩
  · simp at h5
  · simp only [List.length_append, List.length_singleton, Nat.mul_one, List.map_append, List.map_cons, List.map_nil, List.length_map] at q1 q5 q7 q8 ⊢
    have hcur : ∀ j, j < st.length + 1 → cur[j]? = (st.map slOf ++ [slOf (b, l)])[j]? := fun j hj => by
      rw [← q8, List.getElem?_take_of_lt hj, Array.getElem?_toList]
    refine ⟨g, cap, rfl, q5, q6, (Array.getElem?_eq_some_iff.1 q4).1, ?_, hmem.1, hmem.2.1, ⟨h.m, ⟨by simp, .inr ⟨g, cap, cur, rfl, q3, q4, by omega, q6, by omega, ?_⟩⟩, fun p hp => ?_, hnd.1, fun b' π' l' hg' => ?_, h.root, h.bel, h.a0, h.a1, h.siz⟩⟩
    · simp only [World.cell?, q4]
      rw [hcur _ (by omega)]
      simp [slOf]
    · apply List.ext_getElem?
      intro j
      by_cases hj : j < st.length
      · rw [List.getElem?_take_of_lt (by omega), Array.getElem?_toList, hcur j (by omega), List.getElem?_append_left (by simpa using hj)]
      · rw [List.getElem?_eq_none (by simp; omega), List.getElem?_eq_none (by simp; omega)]
    · obtain ⟨h1, h2, _⟩ := h.mem p (List.mem_append_left _ hp)
      refine ⟨h1, h2, fun e => ?_⟩
      exact hnd.2.2 p.1 (List.mem_map_of_mem hp) b (by simp) e
    · rcases h.fin b' π' l' hg' with h1 | h1 | h1
      · exact .inl h1
      · rw [List.map_append] at h1
        rcases List.mem_append.1 h1 with h1 | h1
        · exact .inr (.inl h1)
        · simp at h1
          exact .inr (.inr h1)
      · exact h1.elim
theorem DpI.close {w wr : World} {A B : Nat} {x : V} {q : Option Addr} {c : Nat} {G : Gm} {d : Nat → Nat} {v : Value} {st : List (Nat × List V)} {b : Nat} {π : List Nat} {l : List V} (h : DpI w wr A B x q c G d (· = b) v st) (hg : G b = some (π, l)) (hd : d b = l.length) : DpI w wr A B x q c G d (fun _ => False) v st :=
  ⟨h.m, h.stk, fun p hp => ⟨(h.mem p hp).1, (h.mem p hp).2.1, fun e => e⟩, h.nd, fun b' π' l' hg' => by
    rcases h.fin b' π' l' hg' with h1 | h1 | h1
    · exact .inl h1
    · exact .inr (.inl h1)
    · subst h1
      rw [hg] at hg'
      injection hg' with hg'
      injection hg' with e1 e2
      subst e2
      exact .inl hd, h.root, h.bel, h.a0, h.a1, h.siz⟩
theorem DpI.done {w wr : World} {A B : Nat} {x : V} {q : Option Addr} {c : Nat} {G : Gm} {d : Nat → Nat} {v : Value} (h : DpI w wr A B x q c G d (fun _ => False) v []) : OwT wr (A + 2) G :=
  h.m.all fun b π l hg => by
    rcases h.fin b π l hg with h1 | h1 | h1
    · exact h1
    · simp at h1
    · exact h1.elim
/-- an element of the list that is being gone through -/
theorem DpI.at_ {w wr : World} {A B : Nat} {x : V} {q : Option Addr} {c : Nat} {G : Gm} {d : Nat → Nat} {ex : Nat → Prop} {v : Value} {st : List (Nat × List V)} {b i : Nat} {π : List Nat} {l : List V} (h : DpI w wr A B x q c G d ex v st) (hg : G b = some (π, l)) (hd : d b = i) (hi : i < l.length) : ∃ p e, wr.cell? ⟨b, i * 3 + 2, Option.none⟩ = Option.some (.slice p l[i].l.length e) ∧ SlV wr B p e l[i].l ∧ wr.frozen? ⟨b, i * 3 + 2, Option.none⟩ = false ∧ b < wr.heap.size ∧ A + 2 ≤ b := by
  have hr := h.m b π l hg
  rw [hd] at hr
  obtain ⟨p, e, h1, h2, _⟩ := (hr.el i hi).c2
  obtain ⟨cur, h3, _⟩ := hr.blk
  exact ⟨p, e, h1, h2 (Nat.le_refl _), by simp [World.frozen?, h3], hr.lt, hr.ge⟩
end Go.Proofs.Ytikijkpklneihaa
