import Derived.Test.YtijdcplffmdijaaDoorCDKm
namespace Go.Proofs.YtijdcplffmdijaaDoor
open Go.RowKit
set_option linter.unusedVariables false
set_option linter.unusedSimpArgs false

/-- a slice, as it stands -/
structure Sl where
  a : Option Addr
  n : Nat
  c : Nat
abbrev Sl.v (l : Sl) : Value := .slice l.a l.n l.c
/-- a row of one's own in a block below E, which T marks by its length -/
def RW (e : TypeId) (s B E : Nat) (T : Nat → Nat) (w : World) (l : Sl) : Prop := (∃ xs, w.ownsRow B e s l.v l.n xs) ∧ (∀ g, l.v.ownBlock = some g → T g = l.n ∧ g < E) ∧ l.n ≤ 1099511627776
theorem RW.form {e : TypeId} {s B E : Nat} {T : Nat → Nat} {w : World} {l : Sl} (h : RW e s B E T w l) {g : Nat} (hg : l.v.ownBlock = some g) : ∃ cur, l.a = some ⟨g, 0, none⟩ ∧ B ≤ g ∧ g < E ∧ w.heap[g]? = some (.cells cur e (0, 0)) ∧ l.n ≤ l.c ∧ l.c ≤ maxLen ∧ cur.size = l.c * s ∧ T g = l.n := by
  obtain ⟨⟨xs, h1⟩, h2, h3⟩ := h
  rcases h1.2 with ⟨hv, _⟩ | ⟨g', cap, cur, hv, q1, q2, q3, q4, q5, q6⟩
  · rw [hv] at hg; cases hg
  · obtain ⟨e1, _, e2⟩ := Value.slice.inj hv
    subst e2
    have hgg : g' = g := by
      rw [hv] at hg
      exact Option.some.inj hg
    subst hgg
    exact ⟨cur, e1, q1, (h2 g' hg).2, q2, q3, q4, q5, (h2 g' hg).1⟩
theorem RW.pos {e : TypeId} {s B E : Nat} {T : Nat → Nat} {w : World} {l : Sl} (h : RW e s B E T w l) (hn : 0 < l.n) : ∃ g, l.a = some ⟨g, 0, none⟩ ∧ l.v.ownBlock = some g := by
  obtain ⟨⟨xs, h1⟩, h2, h3⟩ := h
  rcases h1.2 with ⟨hv, h0⟩ | ⟨g', cap, cur, hv, _⟩
  · omega
  · obtain ⟨e1, _, e2⟩ := Value.slice.inj hv
    exact ⟨g', e1, by rw [hv]; rfl⟩
theorem own_a {l : Sl} {g : Nat} (h : l.a = some ⟨g, 0, none⟩) : l.v.ownBlock = some g := by
  show (Value.slice l.a l.n l.c).ownBlock = some g
  rw [h]; rfl
theorem RW.mk' {e : TypeId} {s B E g : Nat} {T : Nat → Nat} {w : World} {l : Sl} {cur : Array Value} (ha : l.a = some ⟨g, 0, none⟩) (hB : B ≤ g) (hE : g < E) (hg : w.heap[g]? = some (.cells cur e (0, 0))) (hn : l.n ≤ l.c) (hm : l.c ≤ maxLen) (hs : cur.size = l.c * s) (hT : T g = l.n) (hz : l.n ≤ 1099511627776) : RW e s B E T w l := by
  refine ⟨⟨cur.toList.take (l.n * s), ?_, .inr ⟨g, l.c, cur, ?_, hB, hg, hn, hm, hs, rfl⟩⟩, fun x hx => ?_, hz⟩
  · rw [List.length_take, Array.length_toList, hs, Nat.min_eq_left (Nat.mul_le_mul_right _ hn)]
  · show Value.slice l.a l.n l.c = _
    rw [ha]
  · rw [own_a ha] at hx
    cases hx
    exact ⟨hT, hE⟩
theorem RW.gr {e : TypeId} {s B E : Nat} {T : Nat → Nat} {w w' : World} {l : Sl} {row : Option Nat} (h : RW e s B E T w l) (hg : w.grownBy w' row) (hr : ∀ g, l.v.ownBlock = some g → row ≠ some g) : RW e s B E T w' l := by
  obtain ⟨⟨xs, h1⟩, h2⟩ := h
  exact ⟨⟨xs, owns_gr h1 hg hr⟩, h2⟩
theorem RW.kp {P : Nat → TypeId → Prop} {e : TypeId} {s B E : Nat} {T : Nat → Nat} {w w' : World} {l : Sl} (h : RW e s B E T w l) (hk : Kp P w w') (hp : ∀ g, P g e) : RW e s B E T w' l := by
  obtain ⟨⟨xs, h1⟩, h2⟩ := h
  exact ⟨⟨xs, owns_on h1 hk fun g _ => hp g⟩, h2⟩
theorem RW.set {e : TypeId} {s B E g i : Nat} {T : Nat → Nat} {w : World} {l : Sl} {v : Value} (h : RW e s B E T w l) : RW e s B E T (w.setCell ⟨g, i, none⟩ v) l := by
  by_cases hl : l.v.ownBlock = some g
  · obtain ⟨cur, h1, h2, h3, h4, h5, h6, h7, h8⟩ := h.form hl
    exact RW.mk' h1 h2 h3 (heap_setCell_same w g i _ _ v h4) h5 h6 (by simpa using h7) h8 h.2.2
  · exact h.gr (gr_set w g i v) fun x hx e => hl (by rw [hx, e])
/-- two in one block are one -/
theorem RW.same {e : TypeId} {s B E g : Nat} {T : Nat → Nat} {w : World} {l l' : Sl} (hs : 0 < s) (h : RW e s B E T w l) (h' : RW e s B E T w l') (hg : l.v.ownBlock = some g) (hg' : l'.v.ownBlock = some g) : l = l' := by
  obtain ⟨cur, h1, h2, h3, h4, h5, h6, h7, h8⟩ := h.form hg
  obtain ⟨cur', g1, g2, g3, g4, g5, g6, g7, g8⟩ := h'.form hg'
  rw [h4] at g4
  injection g4 with g4
  injection g4 with g4 _ _
  subst g4
  have hc : l.c = l'.c := Nat.eq_of_mul_eq_mul_right hs (h7.symm.trans g7)
  obtain ⟨a, n, c⟩ := l
  obtain ⟨a', n', c'⟩ := l'
  simp only [] at *
  subst hc
  rw [h1, g1, ← h8, ← g8]
theorem owns_cell {w : World} {B s n c g : Nat} {e : TypeId} {xs : List Value} (h : w.ownsRow B e s (.slice (some ⟨g, 0, none⟩) n c) n xs) {j : Nat} {u : Value} (hj : xs[j]? = some u) : w.cell? ⟨g, j, none⟩ = some u := by
  have := h.cells (g := g) rfl j u hj
  have ha : (⟨g, 0, none⟩ : Addr).add j = ⟨g, j, none⟩ := by unfold Addr.add; split <;> simp_all
  rwa [ha] at this
theorem owns_cell' {w w' : World} {B s n c g : Nat} {e : TypeId} {xs : List Value} (h : w.ownsRow B e s (.slice (some ⟨g, 0, none⟩) n c) n xs) (h' : w'.ownsRow B e s (.slice (some ⟨g, 0, none⟩) n c) n xs) {j : Nat} (hj : j < n * s) : w'.cell? ⟨g, j, none⟩ = w.cell? ⟨g, j, none⟩ := by
  have hl : j < xs.length := by rw [h.1]; exact hj
  rw [owns_cell h (List.getElem?_eq_getElem hl), owns_cell h' (List.getElem?_eq_getElem hl)]
theorem RW.cell_kp {P : Nat → TypeId → Prop} {e : TypeId} {s B E g i : Nat} {T : Nat → Nat} {w w' : World} {l : Sl} (h : RW e s B E T w l) (hk : Kp P w w') (hp : ∀ g, P g e) (ha : l.a = some ⟨g, 0, none⟩) : w'.cell? ⟨g, i, none⟩ = w.cell? ⟨g, i, none⟩ := by
  obtain ⟨cur, h1, h2, h3, h4, _⟩ := h.form (own_a ha)
  exact World.cell?_of_block (a := ⟨g, i, none⟩) (hk.blk g _ _ _ h4 (hp g))
theorem set_cell {w : World} {g g' i j : Nat} {v : Value} (h : g ≠ g' ∨ i ≠ j) : (w.setCell ⟨g, i, none⟩ v).cell? ⟨g', j, none⟩ = w.cell? ⟨g', j, none⟩ := by
  by_cases hg : g = g'
  · subst hg
    have hi : i ≠ j := by
      rcases h with h | h
      · exact absurd rfl h
      · exact h
    exact World.cell?_setCell_other _ _ _ _ (fun e => hi (Addr.mk.inj e).2.1)
  · exact World.cell?_setCell_far w ⟨g, i, none⟩ ⟨g', j, none⟩ v hg
theorem Kp.setX {w : World} {b i : Nat} {v : Value} {C : Array Value} {t : TypeId} (h : w.heap[b]? = some (.cells C t (0, 0))) : Kp (fun _ u => u ≠ t) w (w.setCell ⟨b, i, none⟩ v) := Kp.set h

/-- a list of numbers; marked, if m -/
def IM (L : Nat → Nat) (B E : Nat) (mark : Int) (m : Prop) (w : World) (l : Sl) : Prop := RW 3 1 B E L w l ∧ (m → ∀ k, k < l.n → ∀ g, l.a = some ⟨g, 0, none⟩ → w.cell? ⟨g, k, none⟩ = some (.int .i64 mark))
theorem IM.kp {P : Nat → TypeId → Prop} {L : Nat → Nat} {B E : Nat} {mark : Int} {m : Prop} {w w' : World} {l : Sl} (h : IM L B E mark m w l) (hk : Kp P w w') (hp : ∀ g, P g 3) : IM L B E mark m w' l :=
  ⟨h.1.kp hk hp, fun hm k hkk g hg => by rw [h.1.cell_kp hk hp hg]; exact h.2 hm k hkk g hg⟩
theorem IM.imp {L : Nat → Nat} {B E : Nat} {mark : Int} {m m' : Prop} {w : World} {l : Sl} (h : IM L B E mark m w l) (hm : m' → m) : IM L B E mark m' w l := ⟨h.1, fun x => h.2 (hm x)⟩
theorem IM.new {L : Nat → Nat} {B E : Nat} {mark : Int} {w w' : World} {l0 : Sl} (h0 : RW 3 1 B E L w l0) (hn : w'.ownsRow B 3 1 l0.v l0.n (List.replicate l0.n (.int .i64 mark))) : IM L B E mark True w' l0 := by
  refine ⟨⟨⟨_, hn⟩, h0.2⟩, fun _ k hk g hg => ?_⟩
  obtain ⟨a, n, c⟩ := l0
  simp only at hg hk
  subst hg
  exact owns_cell hn (by rw [List.getElem?_replicate, if_pos hk])
/-- a list is marked: all others stay as they are, or are that one -/
theorem IM.mark {L : Nat → Nat} {B E : Nat} {mark : Int} {m : Prop} {w w' : World} {l l0 : Sl} (h : IM L B E mark m w l) (h0 : RW 3 1 B E L w l0) (hg : w.grownBy w' l0.v.ownBlock) (hn : w'.ownsRow B 3 1 l0.v l0.n (List.replicate l0.n (.int .i64 mark))) : IM L B E mark m w' l := by
  by_cases hs : ∃ g, l.v.ownBlock = some g ∧ l0.v.ownBlock = some g
  · obtain ⟨g, e1, e2⟩ := hs
    have := h.1.same (by decide) h0 e1 e2
    subst this
    exact (IM.new h0 hn).imp fun _ => trivial
  · have hr : ∀ g, l.v.ownBlock = some g → l0.v.ownBlock ≠ some g := fun g e1 e2 => hs ⟨g, e1, e2⟩
    refine ⟨h.1.gr hg hr, fun hm k hk g ha => ?_⟩
    obtain ⟨cur, _, _, _, h4, _⟩ := h.1.form (own_a ha)
    rw [World.cell?_of_block (a := ⟨g, k, none⟩) (hg.block g (Array.getElem?_eq_some_iff.1 h4).1 fun e => hr g (own_a ha) e.symm)]
    exact h.2 hm k hk g ha
/-- a prog's code -/
def CdM (L K : Nat → Nat) (B E : Nat) (mark : Int) (m : Nat → Prop) (w : World) (l : Sl) (ik : Nat → Sl) : Prop := RW 28 4 B E K w l ∧ ∀ k, k < l.n → ∀ g, l.a = some ⟨g, 0, none⟩ → w.cell? ⟨g, k * 4 + 3, none⟩ = some (ik k).v ∧ IM L B E mark (m k) w (ik k) ∧ (m k → w.cell? ⟨g, k * 4 + 1, none⟩ = some (.int .i64 mark))
/-- a unit that is being written over -/
structure SpS (L K : Nat → Nat) (B E : Nat) (mark : Int) (tl pl : Sl) (tk pk : Nat → Sl) (ik : Nat → Nat → Sl) (mt mp : Nat → Prop) (mi : Nat → Nat → Prop) (w : World) : Prop where
  tr : RW 54 3 B E (fun _ => tl.n) w tl
  pr : RW 57 5 B E (fun _ => pl.n) w pl
  ty : ∀ j, j < tl.n → ∀ g, tl.a = some ⟨g, 0, none⟩ → w.cell? ⟨g, j * 3 + 1, none⟩ = some (tk j).v ∧ IM L B E mark (mt j) w (tk j) ∧ (mt j → w.cell? ⟨g, j * 3, none⟩ = some (.int .i64 mark))
  pg : ∀ j, j < pl.n → ∀ g, pl.a = some ⟨g, 0, none⟩ → w.cell? ⟨g, j * 5 + 4, none⟩ = some (pk j).v ∧ CdM L K B E mark (mi j) w (pk j) (ik j) ∧ (mp j → w.cell? ⟨g, j * 5, none⟩ = some (.int .i64 mark))
theorem CdM.to {P : Nat → TypeId → Prop} {L K : Nat → Nat} {B E : Nat} {mark : Int} {m : Nat → Prop} {w w' : World} {l : Sl} {ik : Nat → Sl} (h : CdM L K B E mark m w l ik) (hI : ∀ m l, IM L B E mark m w l → IM L B E mark m w' l) (hk : Kp P w w') (hp : ∀ g, P g 28) : CdM L K B E mark m w' l ik := by
  refine ⟨h.1.kp hk hp, fun k hkk g hg => ?_⟩
  obtain ⟨h1, h2, h3⟩ := h.2 k hkk g hg
  exact ⟨by rw [h.1.cell_kp hk hp hg]; exact h1, hI _ _ h2, fun hm => by rw [h.1.cell_kp hk hp hg]; exact h3 hm⟩
theorem CdM.imp {L K : Nat → Nat} {B E : Nat} {mark : Int} {m m' : Nat → Prop} {w : World} {l : Sl} {ik : Nat → Sl} (h : CdM L K B E mark m w l ik) (hm : ∀ k, k < l.n → m' k → m k) : CdM L K B E mark m' w l ik := by
  refine ⟨h.1, fun k hkk g hg => ?_⟩
  obtain ⟨h1, h2, h3⟩ := h.2 k hkk g hg
  exact ⟨h1, h2.imp (hm k hkk), fun x => h3 (hm k hkk x)⟩
theorem SpS.imp {L K : Nat → Nat} {B E : Nat} {mark : Int} {tl pl : Sl} {tk pk : Nat → Sl} {ik : Nat → Nat → Sl} {mt mp mt' mp' : Nat → Prop} {mi mi' : Nat → Nat → Prop} {w : World} (h : SpS L K B E mark tl pl tk pk ik mt mp mi w) (h1 : ∀ j, j < tl.n → mt' j → mt j) (h2 : ∀ j, j < pl.n → mp' j → mp j) (h3 : ∀ j k, j < pl.n → k < (pk j).n → mi' j k → mi j k) : SpS L K B E mark tl pl tk pk ik mt' mp' mi' w := by
  refine ⟨h.tr, h.pr, fun j hj g hg => ?_, fun j hj g hg => ?_⟩
  · obtain ⟨q1, q2, q3⟩ := h.ty j hj g hg
    exact ⟨q1, q2.imp (h1 j hj), fun x => q3 (h1 j hj x)⟩
  · obtain ⟨q1, q2, q3⟩ := h.pg j hj g hg
    exact ⟨q1, q2.imp fun k hk => h3 j k hj hk, fun x => q3 (h2 j hj x)⟩
/-- numbers alone change -/
theorem SpS.ints {L K : Nat → Nat} {B E : Nat} {mark : Int} {tl pl : Sl} {tk pk : Nat → Sl} {ik : Nat → Nat → Sl} {mt mp : Nat → Prop} {mi : Nat → Nat → Prop} {w w' : World} (h : SpS L K B E mark tl pl tk pk ik mt mp mi w) (hk : Kp (fun _ t => t ≠ 3) w w') (hI : ∀ m l, IM L B E mark m w l → IM L B E mark m w' l) : SpS L K B E mark tl pl tk pk ik mt mp mi w' := by
  refine ⟨h.tr.kp hk fun _ => by decide, h.pr.kp hk fun _ => by decide, fun j hj g hg => ?_, fun j hj g hg => ?_⟩
  · obtain ⟨q1, q2, q3⟩ := h.ty j hj g hg
    exact ⟨by rw [h.tr.cell_kp hk (fun _ => by decide) hg]; exact q1, hI _ _ q2, fun x => by rw [h.tr.cell_kp hk (fun _ => by decide) hg]; exact q3 x⟩
  · obtain ⟨q1, q2, q3⟩ := h.pg j hj g hg
    exact ⟨by rw [h.pr.cell_kp hk (fun _ => by decide) hg]; exact q1, q2.to hI hk fun _ => by decide, fun x => by rw [h.pr.cell_kp hk (fun _ => by decide) hg]; exact q3 x⟩
/-- a list is marked -/
theorem SpS.mark {L K : Nat → Nat} {B E : Nat} {mark : Int} {tl pl : Sl} {tk pk : Nat → Sl} {ik : Nat → Nat → Sl} {mt mp : Nat → Prop} {mi : Nat → Nat → Prop} {w w' : World} {l0 : Sl} (h : SpS L K B E mark tl pl tk pk ik mt mp mi w) (h0 : RW 3 1 B E L w l0) (hg : w.grownBy w' l0.v.ownBlock) (hn : w'.ownsRow B 3 1 l0.v l0.n (List.replicate l0.n (.int .i64 mark))) : SpS L K B E mark tl pl tk pk ik mt mp mi w' := by
  have hk : Kp (fun _ t => t ≠ 3) w w' := (Kp.gr (e := 3) hg fun b hb => by
    obtain ⟨cur, _, _, _, h4, _⟩ := h0.form hb
    exact ⟨cur, _, h4⟩).mono fun b t ht => .inl ht
  exact h.ints hk fun m l hl => hl.mark h0 hg hn
/-- a type's kind -/
theorem SpS.setT {L K : Nat → Nat} {B E : Nat} {mark : Int} {tl pl : Sl} {tk pk : Nat → Sl} {ik : Nat → Nat → Sl} {mt mp : Nat → Prop} {mi : Nat → Nat → Prop} {w : World} {g i : Nat} (h : SpS L K B E mark tl pl tk pk ik mt mp mi w) (hi : i < tl.n) (ha : tl.a = some ⟨g, 0, none⟩) (hm : IM L B E mark True w (tk i)) : SpS L K B E mark tl pl tk pk ik (fun j => mt j ∨ j = i) mp mi (w.setCell ⟨g, i * 3, none⟩ (.int .i64 mark)) := by
  obtain ⟨cur, _, _, _, h4, h5, _, h7, _⟩ := h.tr.form (own_a ha)
  have hk := Kp.set (i := i * 3) (v := .int .i64 mark) h4
  have hI : ∀ m l, IM L B E mark m w l → IM L B E mark m (w.setCell ⟨g, i * 3, none⟩ (.int .i64 mark)) l := fun m l hl => hl.kp hk fun _ => by decide
  have hc : (w.setCell ⟨g, i * 3, none⟩ (.int .i64 mark)).cell? ⟨g, i * 3, none⟩ = some (.int .i64 mark) := by
    refine cell_blk (heap_setCell_same w g (i * 3) _ _ _ h4) ?_
    rw [Array.getElem?_setIfInBounds_self, if_pos (by omega)]
  refine ⟨h.tr.set, h.pr.kp hk fun _ => by decide, fun j hj g' hg => ?_, fun j hj g' hg => ?_⟩
  · have hgg : g' = g := by rw [ha] at hg; exact (Addr.mk.inj (Option.some.inj hg)).1.symm
    subst hgg
    obtain ⟨q1, q2, q3⟩ := h.ty j hj g' hg
    refine ⟨by rw [set_cell (.inr (by omega))]; exact q1, ?_, ?_⟩
    · by_cases he : j = i
      · subst he
        exact (hI _ _ hm).imp fun _ => trivial
      · exact (hI _ _ q2).imp fun x => by
          rcases x with x | x
          · exact x
          · exact absurd x he
    · intro x
      by_cases he : j = i
      · subst he
        exact hc
      · rw [set_cell (.inr (by omega))]
        rcases x with x | x
        · exact q3 x
        · exact absurd x he
  · obtain ⟨q1, q2, q3⟩ := h.pg j hj g' hg
    exact ⟨by rw [h.pr.cell_kp hk (fun _ => by decide) hg]; exact q1, q2.to hI hk fun _ => by decide, fun x => by rw [h.pr.cell_kp hk (fun _ => by decide) hg]; exact q3 x⟩
/-- a prog's parameters -/
theorem SpS.setP {L K : Nat → Nat} {B E : Nat} {mark : Int} {tl pl : Sl} {tk pk : Nat → Sl} {ik : Nat → Nat → Sl} {mt mp : Nat → Prop} {mi : Nat → Nat → Prop} {w : World} {g i : Nat} (h : SpS L K B E mark tl pl tk pk ik mt mp mi w) (hi : i < pl.n) (ha : pl.a = some ⟨g, 0, none⟩) : SpS L K B E mark tl pl tk pk ik mt (fun j => mp j ∨ j = i) mi (w.setCell ⟨g, i * 5, none⟩ (.int .i64 mark)) := by
  obtain ⟨cur, _, _, _, h4, h5, _, h7, _⟩ := h.pr.form (own_a ha)
  have hk := Kp.set (i := i * 5) (v := .int .i64 mark) h4
  have hI : ∀ m l, IM L B E mark m w l → IM L B E mark m (w.setCell ⟨g, i * 5, none⟩ (.int .i64 mark)) l := fun m l hl => hl.kp hk fun _ => by decide
  have hc : (w.setCell ⟨g, i * 5, none⟩ (.int .i64 mark)).cell? ⟨g, i * 5, none⟩ = some (.int .i64 mark) := by
    refine cell_blk (heap_setCell_same w g (i * 5) _ _ _ h4) ?_
    rw [Array.getElem?_setIfInBounds_self, if_pos (by omega)]
  refine ⟨h.tr.kp hk fun _ => by decide, h.pr.set, fun j hj g' hg => ?_, fun j hj g' hg => ?_⟩
  · obtain ⟨q1, q2, q3⟩ := h.ty j hj g' hg
    exact ⟨by rw [h.tr.cell_kp hk (fun _ => by decide) hg]; exact q1, hI _ _ q2, fun x => by rw [h.tr.cell_kp hk (fun _ => by decide) hg]; exact q3 x⟩
  · have hgg : g' = g := by rw [ha] at hg; exact (Addr.mk.inj (Option.some.inj hg)).1.symm
    subst hgg
    obtain ⟨q1, q2, q3⟩ := h.pg j hj g' hg
    refine ⟨by rw [set_cell (.inr (by omega))]; exact q1, q2.to hI hk fun _ => by decide, ?_⟩
    intro x
    by_cases he : j = i
    · subst he
      exact hc
    · rw [set_cell (.inr (by omega))]
      rcases x with x | x
      · exact q3 x
      · exact absurd x he
/-- an instruction's A -/
theorem SpS.setI {L K : Nat → Nat} {B E : Nat} {mark : Int} {tl pl : Sl} {tk pk : Nat → Sl} {ik : Nat → Nat → Sl} {mt mp : Nat → Prop} {mi : Nat → Nat → Prop} {w : World} {g i k : Nat} (h : SpS L K B E mark tl pl tk pk ik mt mp mi w) (hR : RW 28 4 B E K w (pk i)) (hk : k < (pk i).n) (ha : (pk i).a = some ⟨g, 0, none⟩) (hm : IM L B E mark True w (ik i k)) : SpS L K B E mark tl pl tk pk ik mt mp (fun j q => mi j q ∨ (j = i ∧ q = k)) (w.setCell ⟨g, k * 4 + 1, none⟩ (.int .i64 mark)) := by
  obtain ⟨cur, _, _, _, h4, h5, _, h7, _⟩ := hR.form (own_a ha)
  have hkp := Kp.set (i := k * 4 + 1) (v := .int .i64 mark) h4
  have hI : ∀ m l, IM L B E mark m w l → IM L B E mark m (w.setCell ⟨g, k * 4 + 1, none⟩ (.int .i64 mark)) l := fun m l hl => hl.kp hkp fun _ => by decide
  have hc : (w.setCell ⟨g, k * 4 + 1, none⟩ (.int .i64 mark)).cell? ⟨g, k * 4 + 1, none⟩ = some (.int .i64 mark) := by
    refine cell_blk (heap_setCell_same w g (k * 4 + 1) _ _ _ h4) ?_
    rw [Array.getElem?_setIfInBounds_self, if_pos (by omega)]
  refine ⟨h.tr.kp hkp fun _ => by decide, h.pr.kp hkp fun _ => by decide, fun j hj g' hg => ?_, fun j hj g' hg => ?_⟩
  · obtain ⟨q1, q2, q3⟩ := h.ty j hj g' hg
    exact ⟨by rw [h.tr.cell_kp hkp (fun _ => by decide) hg]; exact q1, hI _ _ q2, fun x => by rw [h.tr.cell_kp hkp (fun _ => by decide) hg]; exact q3 x⟩
  · obtain ⟨q1, q2, q3⟩ := h.pg j hj g' hg
    refine ⟨by rw [h.pr.cell_kp hkp (fun _ => by decide) hg]; exact q1, ⟨q2.1.set, fun q hq b hb => ?_⟩, fun x => by rw [h.pr.cell_kp hkp (fun _ => by decide) hg]; exact q3 x⟩
    obtain ⟨r1, r2, r3⟩ := q2.2 q hq b hb
    refine ⟨by rw [set_cell (.inr (by omega))]; exact r1, ?_, ?_⟩
    · by_cases he : j = i ∧ q = k
      · obtain ⟨rfl, rfl⟩ := he
        exact (hI _ _ hm).imp fun _ => trivial
      · exact (hI _ _ r2).imp fun x => by
          rcases x with x | x
          · exact x
          · exact absurd x he
    · intro x
      by_cases hb' : g = b ∧ q = k
      · obtain ⟨rfl, rfl⟩ := hb'
        exact hc
      · rw [set_cell (by
          by_cases e : g = b
          · right; intro e2; exact hb' ⟨e, by omega⟩
          · exact .inl e)]
        rcases x with x | ⟨rfl, rfl⟩
        · exact r3 x
        · rw [ha] at hb
          exact absurd ⟨(Addr.mk.inj (Option.some.inj hb)).1, rfl⟩ hb'
/-- a code's list grows -/
theorem SpS.grow {L K : Nat → Nat} {B E : Nat} {mark : Int} {tl pl : Sl} {tk pk : Nat → Sl} {ik : Nat → Nat → Sl} {mt mp : Nat → Prop} {mi : Nat → Nat → Prop} {w w' : World} {l0 : Sl} {xs : List Value} (h : SpS L K B E mark tl pl tk pk ik mt mp mi w) (h0 : RW 28 4 B E K w l0) (hx : w.ownsRow B 28 4 l0.v l0.n xs) (hg : w.grownBy w' l0.v.ownBlock) (hn : w'.ownsRow B 28 4 l0.v l0.n xs) : SpS L K B E mark tl pl tk pk ik mt mp mi w' := by
  have hkp : Kp (fun _ t => t ≠ 28) w w' := (Kp.gr (e := 28) hg fun b hb => by
    obtain ⟨cur, _, _, _, h4, _⟩ := h0.form hb
    exact ⟨cur, _, h4⟩).mono fun b t ht => .inl ht
  have hI : ∀ m l, IM L B E mark m w l → IM L B E mark m w' l := fun m l hl => hl.kp hkp fun _ => by decide
  refine ⟨h.tr.kp hkp fun _ => by decide, h.pr.kp hkp fun _ => by decide, fun j hj g' hg => ?_, fun j hj g' hg' => ?_⟩
  · obtain ⟨q1, q2, q3⟩ := h.ty j hj g' hg
    exact ⟨by rw [h.tr.cell_kp hkp (fun _ => by decide) hg]; exact q1, hI _ _ q2, fun x => by rw [h.tr.cell_kp hkp (fun _ => by decide) hg]; exact q3 x⟩
  · obtain ⟨q1, q2, q3⟩ := h.pg j hj g' hg'
    refine ⟨by rw [h.pr.cell_kp hkp (fun _ => by decide) hg']; exact q1, ?_, fun x => by rw [h.pr.cell_kp hkp (fun _ => by decide) hg']; exact q3 x⟩
    by_cases hs : ∃ b, (pk j).v.ownBlock = some b ∧ l0.v.ownBlock = some b
    · obtain ⟨b, e1, e2⟩ := hs
      have := q2.1.same (by decide) h0 e1 e2
      rw [this] at q2 ⊢
      refine ⟨⟨⟨xs, hn⟩, h0.2⟩, fun k hk c hc => ?_⟩
      obtain ⟨r1, r2, r3⟩ := q2.2 k hk c hc
      have hcell : ∀ i, i < l0.n * 4 → w'.cell? ⟨c, i, none⟩ = w.cell? ⟨c, i, none⟩ := fun i hi => by
        obtain ⟨a, n, cc⟩ := l0
        simp only at hc hi
        subst hc
        exact owns_cell' hx hn hi
      exact ⟨by rw [hcell _ (by omega)]; exact r1, hI _ _ r2, fun x => by rw [hcell _ (by omega)]; exact r3 x⟩
    · have hr : ∀ b, (pk j).v.ownBlock = some b → l0.v.ownBlock ≠ some b := fun b e1 e2 => hs ⟨b, e1, e2⟩
      refine ⟨q2.1.gr hg hr, fun k hk c hc => ?_⟩
      obtain ⟨r1, r2, r3⟩ := q2.2 k hk c hc
      obtain ⟨cur, _, _, _, h4, _⟩ := q2.1.form (own_a hc)
      have hcell : ∀ i, w'.cell? ⟨c, i, none⟩ = w.cell? ⟨c, i, none⟩ := fun i => World.cell?_of_block (a := ⟨c, i, none⟩) (hg.block c (Array.getElem?_eq_some_iff.1 h4).1 fun e => hr c (own_a hc) e.symm)
      exact ⟨by rw [hcell]; exact r1, hI _ _ r2, fun x => by rw [hcell]; exact r3 x⟩
end Go.Proofs.YtijdcplffmdijaaDoor
namespace Go.Proofs.YtijdcplffmdijaaDoor
open Go.RowKit
set_option linter.unusedVariables false
set_option linter.unusedSimpArgs false

/-- blocks below B, and from E on, stay -/
structure SpF (B E : Nat) (X Y : World) : Prop where
  bel : Below B X Y
  up : ∀ x, E ≤ x → x < X.heap.size → Y.heap[x]? = X.heap[x]?
theorem SpF.refl (B E : Nat) (X : World) : SpF B E X X := ⟨Below.refl _ _, fun _ _ _ => rfl⟩
theorem SpF.trans {B E : Nat} {X Y Z : World} (h : SpF B E X Y) (g : SpF B E Y Z) : SpF B E X Z :=
  ⟨h.bel.trans g.bel, fun x h1 h2 => (g.up x h1 (Nat.lt_of_lt_of_le h2 h.bel.size)).trans (h.up x h1 h2)⟩
theorem SpF.gr {B E : Nat} {X Y : World} {row : Option Nat} (hg : X.grownBy Y row) (hB : B ≤ X.heap.size) (hr : ∀ g, row = some g → B ≤ g ∧ g < E) : SpF B E X Y :=
  ⟨grown_belI (Below.refl B X) hg hB fun k hk => (hr k hk).1, fun x h1 h2 => hg.block x h2 fun e => by have := hr x e.symm; omega⟩
theorem SpF.of {B E : Nat} {X Y : World} (h : Below X.heap.size X Y) (hB : B ≤ X.heap.size) : SpF B E X Y := ⟨h.mono hB, fun x _ h2 => h.block x h2⟩
theorem SpS.below {L K : Nat → Nat} {B E : Nat} {mark : Int} {tl pl : Sl} {tk pk : Nat → Sl} {ik : Nat → Nat → Sl} {mt mp : Nat → Prop} {mi : Nat → Nat → Prop} {w w' : World} (h : SpS L K B E mark tl pl tk pk ik mt mp mi w) (hb : Below w.heap.size w w') : SpS L K B E mark tl pl tk pk ik mt mp mi w' :=
  h.ints (Kp.of hb) fun m l hl => hl.kp (P := fun _ _ => True) (Kp.of hb) fun _ => trivial
theorem RW.row {e : TypeId} {s B E : Nat} {T : Nat → Nat} {w : World} {l : Sl} (h : RW e s B E T w l) : ∀ g, l.v.ownBlock = some g → B ≤ g ∧ g < E := fun g hg => by
  obtain ⟨_, _, h1, h2, _⟩ := h.form hg
  exact ⟨h1, h2⟩
theorem RW.wr {e : TypeId} {s B E g i : Nat} {T : Nat → Nat} {w : World} {l : Sl} (h : RW e s B E T w l) (ha : l.a = some ⟨g, 0, none⟩) (hi : i < l.n * s) : (∃ v, w.cell? ⟨g, i, none⟩ = some v) ∧ w.frozen? ⟨g, i, none⟩ = false ∧ g < w.heap.size ∧ l.n ≤ l.c := by
  obtain ⟨cur, _, _, _, h4, h5, _, h7, _⟩ := h.form (own_a ha)
  have : l.n * s ≤ l.c * s := Nat.mul_le_mul_right _ h5
  exact ⟨⟨_, cell_blk h4 (Array.getElem?_eq_getElem (by omega))⟩, by simp [World.frozen?, h4], (Array.getElem?_eq_some_iff.1 h4).1, h5⟩
theorem in_oneM (x : Int) : ∀ u ∈ (#[Value.int .i64 0, .int .i64 x, .int .i64 0, .slice none 0 0] : Array Value).toList, u.oneCell' = true := by
  intro u hu
  simp only [List.mem_cons, List.not_mem_nil, or_false] at hu
  rcases hu with rfl | rfl | rfl | rfl <;> rfl
set_option maxRecDepth 100000 in
set_option maxHeartbeats 8000000 in
theorem spoil_any (w : World) (L K : Nat → Nat) (B E : Nat) (mark : Int) (hm : -1000 ≤ mark ∧ mark ≤ 1000) (ta pa : Option Addr) (nt tc np pc : Nat) (tk pk : Nat → Sl) (ik : Nat → Nat → Sl) (hS : SpS L K B E mark ⟨ta, nt, tc⟩ ⟨pa, np, pc⟩ tk pk ik (fun _ => False) (fun _ => False) (fun _ _ => False) w) (hBE : B ≤ w.heap.size) (hE : E ≤ w.heap.size) :
    Calls Tryd.prog 29 #[.agg #[.slice pa np pc, .slice ta nt tc], .int .i64 mark] w fun e w' => e = .returned (.tuple #[]) ∧ Bx (SpS L K B E mark ⟨ta, nt, tc⟩ ⟨pa, np, pc⟩ tk pk ik (fun _ => True) (fun _ => True) (fun _ _ => True) w' ∧ SpF B E w w') := by
  obtain ⟨i0, hi0, hz0, hz1, hz2⟩ := info_parts infoIn
  obtain ⟨X, hX⟩ : ∃ X, w.alloc (.cells #[.slice pa np pc, .slice ta nt tc] 36) = X := ⟨_, rfl⟩
  obtain ⟨H, hH⟩ : ∃ H, w.heap.size = H := ⟨_, rfl⟩
  have b1 : Below w.heap.size w X := by rw [← hX]; exact below1 w _
  have x1 : X.heap[H]? = some (.cells #[.slice pa np pc, .slice ta nt tc] 36 (0, 0)) := by rw [← hX]; exact heap_newH w _ H hH
  have s1 := hS.below b1
  have hXs : H < X.heap.size := (Array.getElem?_eq_some_iff.1 x1).1
  have hm1 : IntKind.i64.wrap (mark - 1) = mark - 1 := by
    have e : IntKind.i64.bits = 64 := rfl
    unfold IntKind.wrap
    simp [e, IntKind.signed]
    omega
  have HU : Bx (∀ Y, SpF B E X Y → Y.cell? ⟨H, 0, none⟩ = some (.slice pa np pc) ∧ Y.cell? ⟨H, 1, none⟩ = some (.slice ta nt tc) ∧ H < Y.heap.size) := ⟨fun Y hY => by
    have e := (hY.up H (by omega) hXs).trans x1
    exact ⟨cell_blk e rfl, cell_blk e rfl, (Array.getElem?_eq_some_iff.1 e).1⟩⟩
  have HEND : Bx (∀ Y, SpF B E X Y → SpF B E w Y) := ⟨fun Y hY => (SpF.of b1 (by omega)).trans hY⟩
  have hnt : nt ≤ 1099511627776 := s1.tr.2.2
  have hnp : np ≤ 1099511627776 := s1.pr.2.2
  have HM : Bx (∀ Y l, SpF B E X Y → RW 3 1 B E L Y l → Calls Tryd.prog 52 #[.slice l.a l.n l.c, .int .i64 mark] Y fun e w' => e = .returned (.tuple #[]) ∧ Bx ((w'.ownsRow B 3 1 l.v l.n (List.replicate l.n (.int .i64 mark)) ∧ Y.grownBy w' l.v.ownBlock) ∧ SpF B E X w')) := ⟨fun Y l hY hl => by
    have hs := hY.bel.size
    obtain ⟨xs, hxs⟩ := hl.1
    refine (markAll_any Y B l.a l.n l.c xs mark hm hxs (by omega) hl.2.2).mono ?_
    rintro e w' ⟨rfl, h⟩
    exact ⟨rfl, ⟨h.out, hY.trans (SpF.gr h.out.2 (by omega) hl.row)⟩⟩⟩
  have HT : Bx (∀ i Y, i < nt → SpS L K B E mark ⟨ta, nt, tc⟩ ⟨pa, np, pc⟩ tk pk ik (fun j => j < i) (fun _ => False) (fun _ _ => False) Y → SpF B E X Y → ∃ tb ka kn kc, ta = some ⟨tb, 0, none⟩ ∧ (Y.cell? ⟨tb, i * 3 + 1, none⟩ = some (.slice ka kn kc) ∧ tb < Y.heap.size ∧ nt ≤ tc) ∧ Calls Tryd.prog 52 #[.slice ka kn kc, .int .i64 mark] Y fun e Y' => e = .returned (.tuple #[]) ∧ Bx ((Y'.cell? ⟨H, 0, none⟩ = some (.slice pa np pc) ∧ Y'.cell? ⟨H, 1, none⟩ = some (.slice ta nt tc) ∧ H < Y'.heap.size) ∧ ((∃ v, Y'.cell? ⟨tb, i * 3, none⟩ = some v) ∧ Y'.frozen? ⟨tb, i * 3, none⟩ = false ∧ tb < Y'.heap.size) ∧ SpS L K B E mark ⟨ta, nt, tc⟩ ⟨pa, np, pc⟩ tk pk ik (fun j => j < i + 1) (fun _ => False) (fun _ _ => False) (Y'.setCell ⟨tb, i * 3, none⟩ (.int .i64 mark)) ∧ SpF B E X (Y'.setCell ⟨tb, i * 3, none⟩ (.int .i64 mark)))) := ⟨fun i Y hi hs hY => by
    obtain ⟨tb, ha, hown⟩ := hs.tr.pos (show 0 < nt by omega)
    obtain ⟨q1, q2, _⟩ := hs.ty i hi tb ha
    have hwr := hs.tr.wr (i := i * 3) ha (by show i * 3 < nt * 3; omega)
    refine ⟨tb, (tk i).a, (tk i).n, (tk i).c, ha, ⟨q1, hwr.2.2.1, hwr.2.2.2⟩, (HM.out Y (tk i) hY q2.1).mono ?_⟩
    rintro e Y' ⟨rfl, h⟩
    have hs' := hs.mark q2.1 h.out.1.2 h.out.1.1
    have hwr' := hs'.tr.wr (i := i * 3) ha (by show i * 3 < nt * 3; omega)
    have hsz := h.out.2.bel.size
    refine ⟨rfl, ⟨HU.out Y' h.out.2, ⟨hwr'.1, hwr'.2.1, hwr'.2.2.1⟩, (hs'.setT hi ha (IM.new q2.1 h.out.1.1)).imp (fun j _ hj => by omega) (fun _ _ h => h) (fun _ _ _ _ h => h), h.out.2.trans (SpF.gr (gr_set _ _ _ _) (by omega) fun g hg => ?_)⟩⟩
    cases hg
    exact hs.tr.row tb hown⟩
  have HI : Bx (∀ i k Y, i < np → k < (pk i).n → SpS L K B E mark ⟨ta, nt, tc⟩ ⟨pa, np, pc⟩ tk pk ik (fun _ => True) (fun j => j < i) (fun j q => j < i ∨ (j = i ∧ q < k)) Y → SpF B E X Y → ∃ cb ka kn kc, (pk i).a = some ⟨cb, 0, none⟩ ∧ (Y.cell? ⟨cb, k * 4 + 3, none⟩ = some (.slice ka kn kc) ∧ cb < Y.heap.size ∧ (pk i).n ≤ (pk i).c) ∧ Calls Tryd.prog 52 #[.slice ka kn kc, .int .i64 mark] Y fun e Y' => e = .returned (.tuple #[]) ∧ Bx ((Y'.cell? ⟨H, 0, none⟩ = some (.slice pa np pc) ∧ Y'.cell? ⟨H, 1, none⟩ = some (.slice ta nt tc) ∧ H < Y'.heap.size) ∧ ((∃ v, Y'.cell? ⟨cb, k * 4 + 1, none⟩ = some v) ∧ Y'.frozen? ⟨cb, k * 4 + 1, none⟩ = false ∧ cb < Y'.heap.size) ∧ SpS L K B E mark ⟨ta, nt, tc⟩ ⟨pa, np, pc⟩ tk pk ik (fun _ => True) (fun j => j < i) (fun j q => j < i ∨ (j = i ∧ q < k + 1)) (Y'.setCell ⟨cb, k * 4 + 1, none⟩ (.int .i64 mark)) ∧ SpF B E X (Y'.setCell ⟨cb, k * 4 + 1, none⟩ (.int .i64 mark)))) := ⟨fun i k Y hi hk hs hY => by
    obtain ⟨pb, hpa, _⟩ := hs.pr.pos (show 0 < np by omega)
    obtain ⟨_, q2, _⟩ := hs.pg i hi pb hpa
    obtain ⟨cb, ha, hown⟩ := q2.1.pos (show 0 < (pk i).n by omega)
    obtain ⟨r1, r2, _⟩ := q2.2 k hk cb ha
    have hwr := q2.1.wr (i := k * 4 + 1) ha (by omega)
    refine ⟨cb, (ik i k).a, (ik i k).n, (ik i k).c, ha, ⟨r1, hwr.2.2.1, hwr.2.2.2⟩, (HM.out Y (ik i k) hY r2.1).mono ?_⟩
    rintro e Y' ⟨rfl, h⟩
    have hs' := hs.mark r2.1 h.out.1.2 h.out.1.1
    have hR := (hs'.pg i hi pb hpa).2.1.1
    have hwr' := hR.wr (i := k * 4 + 1) ha (by omega)
    have hsz := h.out.2.bel.size
    refine ⟨rfl, ⟨HU.out Y' h.out.2, ⟨hwr'.1, hwr'.2.1, hwr'.2.2.1⟩, (hs'.setI hR hk ha (IM.new r2.1 h.out.1.1)).imp (fun j _ h => h) (fun _ _ h => h) (fun j q _ _ h => by omega), h.out.2.trans (SpF.gr (gr_set _ _ _ _) (by omega) fun g hg => ?_)⟩⟩
    cases hg
    exact q2.1.row cb hown⟩
  have HC : Bx (∀ i Y, i < np → SpS L K B E mark ⟨ta, nt, tc⟩ ⟨pa, np, pc⟩ tk pk ik (fun _ => True) (fun j => j < i) (fun j q => j < i) Y → SpF B E X Y → ∃ pb, pa = some ⟨pb, 0, none⟩ ∧ Y.cell? ⟨pb, i * 5 + 4, none⟩ = some (.slice (pk i).a (pk i).n (pk i).c) ∧ pb < Y.heap.size ∧ np ≤ pc ∧ (pk i).n ≤ 1099511627776) := ⟨fun i Y hi hs hY => by
    obtain ⟨pb, ha, hown⟩ := hs.pr.pos (show 0 < np by omega)
    obtain ⟨q1, q2, _⟩ := hs.pg i hi pb ha
    have hwr := hs.pr.wr (i := i * 5) ha (by show i * 5 < np * 5; omega)
    exact ⟨pb, ha, q1, hwr.2.2.1, hwr.2.2.2, q2.1.2.2⟩⟩
  have HD : Bx (∀ i Y, i < np → SpS L K B E mark ⟨ta, nt, tc⟩ ⟨pa, np, pc⟩ tk pk ik (fun _ => True) (fun j => j < i) (fun j q => j < i ∨ (j = i ∧ q < (pk i).n)) Y → SpF B E X Y → ∃ xs, Grw 28 4 B (pk i).v (pk i).n xs Y 0 (pk i).v Y ∧ (∀ k vk Y', k < 9 → Grw 28 4 B (pk i).v (pk i).n xs Y k vk Y' → ∃ g c W3, (∀ ty, (Builtin.append_ #[55, 55] ty #[vk, .slice (some ⟨Y'.heap.size, 0, none⟩) 1 1]).run Tryd.prog (Y'.alloc (.cells #[.int .i64 0, .int .i64 (mark - 1), .int .i64 0, .slice none 0 0] 28)) = .ok (.slice (some ⟨g, 0, none⟩) ((pk i).n + k + 1) c) W3) ∧ Grw 28 4 B (pk i).v (pk i).n xs Y (k + 1) (.slice (some ⟨g, 0, none⟩) ((pk i).n + k + 1) c) W3) ∧
      ∀ k vk Y', Grw 28 4 B (pk i).v (pk i).n xs Y k vk Y' → (Y'.cell? ⟨H, 0, none⟩ = some (.slice pa np pc) ∧ Y'.cell? ⟨H, 1, none⟩ = some (.slice ta nt tc) ∧ H < Y'.heap.size) ∧ ∃ pb, pa = some ⟨pb, 0, none⟩ ∧ ((∃ v, Y'.cell? ⟨pb, i * 5, none⟩ = some v) ∧ Y'.frozen? ⟨pb, i * 5, none⟩ = false ∧ pb < Y'.heap.size ∧ np ≤ pc) ∧ SpS L K B E mark ⟨ta, nt, tc⟩ ⟨pa, np, pc⟩ tk pk ik (fun _ => True) (fun j => j < i + 1) (fun j q => j < i + 1) (Y'.setCell ⟨pb, i * 5, none⟩ (.int .i64 mark)) ∧ SpF B E X (Y'.setCell ⟨pb, i * 5, none⟩ (.int .i64 mark))) := ⟨fun i Y hi hs hY => by
    obtain ⟨pb, ha, hown⟩ := hs.pr.pos (show 0 < np by omega)
    obtain ⟨_, q2, _⟩ := hs.pg i hi pb ha
    obtain ⟨xs, hxs⟩ := q2.1.1
    have hsz := hY.bel.size
    have hz := q2.1.2.2
    refine ⟨xs, Grw.start hxs (gr_refl _ _) (fun b hb => (owns_block hxs hb).2), fun k vk Y' hk hg => hg.step Tryd.underlying55 hi0 hz0 hz1 hz2 rfl (by decide) _ rfl (in_oneM _) (by unfold maxLen; omega) (by omega) (by omega), fun k vk Y' hg => ?_⟩
    have hs' := hs.grow q2.1 hxs hg.gr hg.old
    have hY' : SpF B E X Y' := hY.trans (SpF.gr hg.gr (by omega) q2.1.row)
    have hsz' := hY'.bel.size
    have hwr := hs'.pr.wr (i := i * 5) ha (by show i * 5 < np * 5; omega)
    refine ⟨HU.out Y' hY', pb, ha, hwr, (hs'.setP hi ha).imp (fun _ _ h => h) (fun j _ h => by omega) (fun j q _ hq h => ?_), hY'.trans (SpF.gr (gr_set _ _ _ _) (by omega) fun g hgg => ?_)⟩
    · by_cases he : j = i
      · subst he
        exact .inr ⟨rfl, hq⟩
      · exact .inl (by omega)
    · cases hgg
      exact hs.pr.row pb hown⟩
  have H0 : Bx (SpS L K B E mark ⟨ta, nt, tc⟩ ⟨pa, np, pc⟩ tk pk ik (fun j => j < 0) (fun _ => False) (fun _ _ => False) X ∧ SpF B E X X) := ⟨s1.imp (fun _ _ h => absurd h (by omega)) (fun _ _ h => h) (fun _ _ _ _ h => h), SpF.refl _ _ _⟩
  clear hS b1 x1 s1 hXs HM
  go_enter Tryd.func29, Tryd.ntmps29
  go_wp2
  clear hX
  go_loopw [4] (fun x wr => ∃ i : Nat, i ≤ nt ∧ x = .int .i64 i ∧ Bx (SpS L K B E mark ⟨ta, nt, tc⟩ ⟨pa, np, pc⟩ tk pk ik (fun j => j < i) (fun _ => False) (fun _ _ => False) wr ∧ SpF B E X wr)) (fun x _ => nt - (intOf x).toNat)
  case atStart => exact ⟨0, Nat.zero_le _, rfl, H0⟩
  case round =>
    obtain ⟨i, hi, rfl, HR⟩ := hrel
    clear H0
    obtain ⟨y0, y1, yH⟩ := HU.out wr HR.out.2
    by_cases hlt : i < nt
    · obtain ⟨tb, ka, kn, kc, hta, ⟨z1, z2, z3⟩, HY⟩ := HT.out i wr hlt HR.out.1 HR.out.2
      subst hta
      have HYB : Bx _ := ⟨HY⟩
      have q1 : (i : Int) < (nt : Int) := by omega
      have q2 : (0 : Int) ≤ (i : Int) := by omega
      clear HY HR HT HI HC HD HU HEND
      go_wp2_with (first
        | (go_at_call 52; refine HYB.out.mono ?_; clear HYB; rintro e Y' ⟨rfl, HN⟩
           obtain ⟨⟨u0, u1, uH⟩, ⟨⟨v, v1⟩, v2, v3⟩, _⟩ := HN.out
           clear y0 y1 yH z1 z2))
      go_roundw
      case rel => exact ⟨i + 1, by omega, by go_num, ⟨HN.out.2.2⟩⟩
      case measure => simp [intOf]; omega
    · have q1 : ¬ (i : Int) < (nt : Int) := by omega
      have H1 : Bx (SpS L K B E mark ⟨ta, nt, tc⟩ ⟨pa, np, pc⟩ tk pk ik (fun _ => True) (fun j => j < 0) (fun j q => j < 0) wr ∧ SpF B E X wr) := ⟨HR.out.1.imp (fun j hj _ => by show j < i; have : j < nt := hj; omega) (fun _ _ h => absurd h (by omega)) (fun _ _ _ _ h => absurd h (by omega)), HR.out.2⟩
      clear HR HT
      go_wp2
      clear y0 y1 yH
      go_loopw [5] (fun x wr => ∃ i : Nat, i ≤ np ∧ x = .int .i64 i ∧ Bx (SpS L K B E mark ⟨ta, nt, tc⟩ ⟨pa, np, pc⟩ tk pk ik (fun _ => True) (fun j => j < i) (fun j q => j < i) wr ∧ SpF B E X wr)) (fun x _ => np - (intOf x).toNat)
      case atStart => exact ⟨0, Nat.zero_le _, rfl, H1⟩
      case round =>
        clear hi q1
        obtain ⟨i, hi, rfl, HR⟩ := hrel
        clear H1
        obtain ⟨y0, y1, yH⟩ := HU.out wr HR.out.2
        by_cases hlt : i < np
        · obtain ⟨pb, hpa, z1, z2, z3, z4⟩ := HC.out i wr hlt HR.out.1 HR.out.2
          subst hpa
          have q1 : (i : Int) < (np : Int) := by omega
          have q2 : (0 : Int) ≤ (i : Int) := by omega
          have HIi : Bx _ := ⟨fun k Y => HI.out i k Y hlt⟩
          have HDi : Bx _ := ⟨fun Y => HD.out i Y hlt⟩
          have H2 : Bx (SpS L K B E mark ⟨ta, nt, tc⟩ ⟨some ⟨pb, 0, none⟩, np, pc⟩ tk pk ik (fun _ => True) (fun j => j < i) (fun j q => j < i ∨ (j = i ∧ q < 0)) wr ∧ SpF B E X wr) := ⟨HR.out.1.imp (fun _ _ h => h) (fun _ _ h => h) (fun _ _ _ _ h => by omega), HR.out.2⟩
          clear HR HC HI HD
          generalize hpk : pk i = ck at HIi HDi z1 z4 ⊢
          obtain ⟨ca, cn, cc⟩ := ck
          simp only [] at HIi HDi z1 z4 ⊢
          go_wp2
          clear y0 y1 yH z1 z2
          go_loopw [7] (fun x wr => ∃ k : Nat, k ≤ cn ∧ x = .int .i64 k ∧ Bx (SpS L K B E mark ⟨ta, nt, tc⟩ ⟨some ⟨pb, 0, none⟩, np, pc⟩ tk pk ik (fun _ => True) (fun j => j < i) (fun j q => j < i ∨ (j = i ∧ q < k)) wr ∧ SpF B E X wr)) (fun x _ => cn - (intOf x).toNat)
          case atStart => exact ⟨0, Nat.zero_le _, rfl, H2⟩
          case round =>
            obtain ⟨k, hk, rfl, HR⟩ := hrel
            clear H2
            by_cases hlk : k < cn
            · obtain ⟨cb, ka, kn, kc, hca, ⟨z1, z2, z5⟩, HY⟩ := HIi.out k wr hlk HR.out.1 HR.out.2
              subst hca
              have HYB : Bx _ := ⟨HY⟩
              have q3 : (k : Int) < (cn : Int) := by omega
              have q4 : (0 : Int) ≤ (k : Int) := by omega
              clear HY HR HIi HDi HU HEND
              go_wp2_with (first
                | (go_at_call 52; refine HYB.out.mono ?_; clear HYB; rintro e Y' ⟨rfl, HN⟩
                   obtain ⟨⟨u0, u1, uH⟩, ⟨⟨v, v1⟩, v2, v3⟩, _⟩ := HN.out
                   clear z1 z2))
              go_roundw
              case rel => exact ⟨k + 1, by omega, by go_num, ⟨HN.out.2.2⟩⟩
              case measure => simp [intOf]; omega
            · have q3 : ¬ (k : Int) < (cn : Int) := by omega
              have hkn : k = cn := by omega
              subst hkn
              obtain ⟨xs, g0, HG, HF⟩ := HDi.out wr HR.out.1 HR.out.2
              have HGB : Bx _ := ⟨HG⟩
              have HFB : Bx _ := ⟨HF⟩
              have H3 : Bx _ := ⟨g0⟩
              clear HG HF g0 HR HIi HDi
              go_wp2
              go_loopw [8, 9] (fun y x wq => ∃ q : Nat, q ≤ 9 ∧ x = .int .i64 q ∧ Bx (Grw 28 4 B (.slice ca k cc) k xs wr q y wq)) (fun _ x _ => 9 - (intOf x).toNat)
              case atStart => exact ⟨0, Nat.zero_le _, rfl, H3⟩
              case round =>
                obtain ⟨q, hq, rfl, HR⟩ := hrel
                clear H3
                by_cases hlq : q < 9
                · obtain ⟨g, c, W3, r1, r2⟩ := HGB.out q _ _ hlq HR.out
                  have HNX : Bx _ := ⟨r2⟩
                  have q5 : (q : Int) < 9 := by omega
                  clear r2 HR HGB HFB HU HEND
                  go_wp2_with (first
                    | (refine wpList_appI rfl _ _ _ rfl rfl rfl r1 ?_))
                  go_roundw
                  case rel => exact ⟨q + 1, by omega, by go_num, HNX⟩
                  case measure => simp [intOf]; omega
                · obtain ⟨⟨u0, u1, uH⟩, pb', hpb, ⟨⟨v, v1⟩, v2, v3, v4⟩, HN⟩ := HFB.out q _ _ HR.out
                  injection hpb with hpb
                  injection hpb with hpb
                  subst hpb
                  have HNX : Bx _ := ⟨HN⟩
                  have q5 : ¬ (q : Int) < 9 := by omega
                  clear HN HR HGB HFB HU HEND
                  go_wp2
                  go_roundw
                  case rel => exact ⟨i + 1, by omega, by go_num, HNX⟩
                  case measure => simp [intOf]; omega
        · have q1 : ¬ (i : Int) < (np : Int) := by omega
          have HE : Bx (SpS L K B E mark ⟨ta, nt, tc⟩ ⟨pa, np, pc⟩ tk pk ik (fun _ => True) (fun _ => True) (fun _ _ => True) wr ∧ SpF B E w wr) := ⟨HR.out.1.imp (fun _ _ h => h) (fun j hj _ => by show j < i; have : j < np := hj; omega) (fun j q hj _ _ => by show j < i; have : j < np := hj; omega), HEND.out _ HR.out.2⟩
          clear HR HI HC HD
          go_wp2
          refine bodyPost_end (v := .tuple #[]) (by simp [results, Tryd.results29, go_sem]) rfl ?_
          exact ⟨rfl, HE⟩
end Go.Proofs.YtijdcplffmdijaaDoor
namespace Go.Proofs.YtijdcplffmdijaaDoor
open Go.RowKit
set_option linter.unusedVariables false
set_option linter.unusedSimpArgs false

set_option maxRecDepth 100000 in
set_option maxHeartbeats 2000000 in
/-- all places are marked -/
theorem full_yes (w : World) (a : Option Addr) (n c : Nat) (mark : Int) (hn : n ≤ c) (hz : n ≤ 1099511627776) (ha : 0 < n → ∃ g, a = some ⟨g, 0, none⟩) (hc : ∀ k, k < n → ∀ g, a = some ⟨g, 0, none⟩ → w.cell? ⟨g, k, none⟩ = some (.int .i64 mark)) :
    Calls Tryd.prog 53 #[.slice a n c, .int .i64 mark] w fun e w' => e = .returned (.bool true) ∧ w = w' := by
  have HA : Bx _ := ⟨ha⟩
  have HC : Bx _ := ⟨hc⟩
  clear ha hc
  go_enter Tryd.func53, Tryd.ntmps53
  go_wp2
  go_loopw [5] (fun x wr => ∃ k : Nat, k ≤ n ∧ x = .int .i64 k ∧ w = wr) (fun x _ => n - (intOf x).toNat)
  case atStart => exact ⟨0, Nat.zero_le _, rfl, rfl⟩
  case round =>
    obtain ⟨k, hk, rfl, rfl⟩ := hrel
    by_cases hlk : k < n
    · obtain ⟨g, rfl⟩ := HA.out (by omega)
      have x1 := HC.out k hlk g rfl
      have x3 : g < w.heap.size := World.block_lt_of_cell? w _ x1
      have q1 : (k : Int) < (n : Int) := by omega
      have q2 : (0 : Int) ≤ (k : Int) := by omega
      clear HA HC
      go_wp2
      go_roundw
      case rel => exact ⟨k + 1, by omega, by go_num, trivial⟩
      case measure => simp [intOf]; omega
    · have q1 : ¬ (k : Int) < (n : Int) := by omega
      clear HA HC
      go_wp2
      go_ret
      exact ⟨rfl, rfl⟩
theorem IM.full {L : Nat → Nat} {B E : Nat} {mark : Int} {w : World} {l : Sl} (h : IM L B E mark True w l) : Calls Tryd.prog 53 #[.slice l.a l.n l.c, .int .i64 mark] w fun e w' => e = .returned (.bool true) ∧ w = w' := by
  refine full_yes w l.a l.n l.c mark ?_ h.1.2.2 (fun h0 => ?_) (fun k hk g hg => h.2 trivial k hk g hg)
  · obtain ⟨⟨xs, hx⟩, _⟩ := h.1
    rcases hx.2 with ⟨hv, h0⟩ | ⟨g', cap, cur, hv, q1, q2, q3, q4⟩
    · omega
    · obtain ⟨_, _, e2⟩ := Value.slice.inj hv
      omega
  · obtain ⟨g, hg, _⟩ := h.1.pos h0
    exact ⟨g, hg⟩
set_option maxRecDepth 100000 in
set_option maxHeartbeats 8000000 in
theorem marked_yes (w : World) (L K : Nat → Nat) (B E : Nat) (mark : Int) (ta pa : Option Addr) (nt tc np pc : Nat) (tk pk : Nat → Sl) (ik : Nat → Nat → Sl) (hS : SpS L K B E mark ⟨ta, nt, tc⟩ ⟨pa, np, pc⟩ tk pk ik (fun _ => True) (fun _ => True) (fun _ _ => True) w) :
    Calls Tryd.prog 30 #[.agg #[.slice pa np pc, .slice ta nt tc], .int .i64 mark] w fun e w' => e = .returned (.bool true) ∧ Below w.heap.size w w' := by
  obtain ⟨X, hX⟩ : ∃ X, w.alloc (.cells #[.slice pa np pc, .slice ta nt tc] 36) = X := ⟨_, rfl⟩
  obtain ⟨H, hH⟩ : ∃ H, w.heap.size = H := ⟨_, rfl⟩
  have b1 : Below w.heap.size w X := by rw [← hX]; exact below1 w _
  have x1 : X.heap[H]? = some (.cells #[.slice pa np pc, .slice ta nt tc] 36 (0, 0)) := by rw [← hX]; exact heap_newH w _ H hH
  have s1 := hS.below b1
  have y0 : X.cell? ⟨H, 0, none⟩ = some (.slice pa np pc) := cell_blk x1 rfl
  have y1 : X.cell? ⟨H, 1, none⟩ = some (.slice ta nt tc) := cell_blk x1 rfl
  have yH : H < X.heap.size := (Array.getElem?_eq_some_iff.1 x1).1
  have hnt : nt ≤ 1099511627776 := s1.tr.2.2
  have hnp : np ≤ 1099511627776 := s1.pr.2.2
  have HT : Bx (∀ i, i < nt → ∃ tb ka kn kc, ta = some ⟨tb, 0, none⟩ ∧ (X.cell? ⟨tb, i * 3, none⟩ = some (.int .i64 mark) ∧ X.cell? ⟨tb, i * 3 + 1, none⟩ = some (.slice ka kn kc) ∧ tb < X.heap.size ∧ nt ≤ tc) ∧ Calls Tryd.prog 53 #[.slice ka kn kc, .int .i64 mark] X fun e w' => e = .returned (.bool true) ∧ X = w') := ⟨fun i hi => by
    obtain ⟨tb, ha, hown⟩ := s1.tr.pos (show 0 < nt by omega)
    obtain ⟨q1, q2, q3⟩ := s1.ty i hi tb ha
    have hwr := s1.tr.wr (i := i * 3) ha (by show i * 3 < nt * 3; omega)
    exact ⟨tb, (tk i).a, (tk i).n, (tk i).c, ha, ⟨q3 trivial, q1, hwr.2.2.1, hwr.2.2.2⟩, q2.full⟩⟩
  have HP : Bx (∀ i, i < np → ∃ pb, pa = some ⟨pb, 0, none⟩ ∧ (X.cell? ⟨pb, i * 5, none⟩ = some (.int .i64 mark) ∧ X.cell? ⟨pb, i * 5 + 4, none⟩ = some (.slice (pk i).a (pk i).n (pk i).c) ∧ pb < X.heap.size ∧ np ≤ pc ∧ (pk i).n ≤ 1099511627776) ∧ ∀ k, k < (pk i).n → ∃ cb ka kn kc, (pk i).a = some ⟨cb, 0, none⟩ ∧ (X.cell? ⟨cb, k * 4 + 1, none⟩ = some (.int .i64 mark) ∧ X.cell? ⟨cb, k * 4 + 3, none⟩ = some (.slice ka kn kc) ∧ cb < X.heap.size ∧ (pk i).n ≤ (pk i).c) ∧ Calls Tryd.prog 53 #[.slice ka kn kc, .int .i64 mark] X fun e w' => e = .returned (.bool true) ∧ X = w') := ⟨fun i hi => by
    obtain ⟨pb, ha, hown⟩ := s1.pr.pos (show 0 < np by omega)
    obtain ⟨q1, q2, q3⟩ := s1.pg i hi pb ha
    have hwr := s1.pr.wr (i := i * 5) ha (by show i * 5 < np * 5; omega)
    refine ⟨pb, ha, ⟨q3 trivial, q1, hwr.2.2.1, hwr.2.2.2, q2.1.2.2⟩, fun k hk => ?_⟩
    obtain ⟨cb, hca, hown⟩ := q2.1.pos (show 0 < (pk i).n by omega)
    obtain ⟨r1, r2, r3⟩ := q2.2 k hk cb hca
    have hwr := q2.1.wr (i := k * 4 + 1) hca (by omega)
    exact ⟨cb, (ik i k).a, (ik i k).n, (ik i k).c, hca, ⟨r3 trivial, r1, hwr.2.2.1, hwr.2.2.2⟩, r2.full⟩⟩
  have HB : Bx _ := ⟨b1⟩
  clear hS b1 x1 s1
  go_enter Tryd.func30, Tryd.ntmps30
  go_wp2
  clear hX
  go_loopw [5] (fun x wr => ∃ i : Nat, i ≤ nt ∧ x = .int .i64 i ∧ X = wr) (fun x _ => nt - (intOf x).toNat)
  case atStart => exact ⟨0, Nat.zero_le _, rfl, rfl⟩
  case round =>
    obtain ⟨i, hi, rfl, rfl⟩ := hrel
    by_cases hlt : i < nt
    · obtain ⟨tb, ka, kn, kc, hta, ⟨z0, z1, z2, z3⟩, HY⟩ := HT.out i hlt
      subst hta
      have HYB : Bx _ := ⟨HY⟩
      have q1 : (i : Int) < (nt : Int) := by omega
      have q2 : (0 : Int) ≤ (i : Int) := by omega
      clear HY HT HP
      go_wp2_with (first
        | (go_at_call 53; refine HYB.out.mono ?_; clear HYB; rintro e Y' ⟨rfl, rfl⟩))
      go_roundw
      case rel => exact ⟨i + 1, by omega, by go_num, trivial⟩
      case measure => simp [intOf]; omega
    · have q1 : ¬ (i : Int) < (nt : Int) := by omega
      clear HT
      go_wp2
      go_loopw [6] (fun x wr => ∃ i : Nat, i ≤ np ∧ x = .int .i64 i ∧ X = wr) (fun x _ => np - (intOf x).toNat)
      case atStart => exact ⟨0, Nat.zero_le _, rfl, rfl⟩
      case round =>
        clear hi q1 hlt
        obtain ⟨i, hi, rfl, rfl⟩ := hrel
        by_cases hlt : i < np
        · obtain ⟨pb, hpa, ⟨z0, z1, z2, z3, z4⟩, HY⟩ := HP.out i hlt
          subst hpa
          have HYB : Bx _ := ⟨HY⟩
          have q1 : (i : Int) < (np : Int) := by omega
          have q2 : (0 : Int) ≤ (i : Int) := by omega
          clear HY HP
          generalize pk i = ck at HYB z1 z4
          obtain ⟨ca, cn, cc⟩ := ck
          simp only [] at HYB z1 z4
          go_wp2
          go_loopw [8] (fun x wr => ∃ k : Nat, k ≤ cn ∧ x = .int .i64 k ∧ X = wr) (fun x _ => cn - (intOf x).toNat)
          case atStart => exact ⟨0, Nat.zero_le _, rfl, rfl⟩
          case round =>
            obtain ⟨k, hk, rfl, rfl⟩ := hrel
            by_cases hlk : k < cn
            · obtain ⟨cb, ka, kn, kc, hca, ⟨w0, w1, w2, w3⟩, HZ⟩ := HYB.out k hlk
              subst hca
              have HZB : Bx _ := ⟨HZ⟩
              have q3 : (k : Int) < (cn : Int) := by omega
              have q4 : (0 : Int) ≤ (k : Int) := by omega
              clear HZ HYB
              go_wp2_with (first
                | (go_at_call 53; refine HZB.out.mono ?_; clear HZB; rintro e Y' ⟨rfl, rfl⟩))
              go_roundw
              case rel => exact ⟨k + 1, by omega, by go_num, trivial⟩
              case measure => simp [intOf]; omega
            · have q3 : ¬ (k : Int) < (cn : Int) := by omega
              clear HYB
              go_wp2
              go_roundw
              case rel => exact ⟨i + 1, by omega, by go_num, trivial⟩
              case measure => simp [intOf]; omega
        · have q1 : ¬ (i : Int) < (np : Int) := by omega
          clear HP
          go_wp2
          go_ret
          exact ⟨rfl, by rw [← hH]; exact HB.out⟩
end Go.Proofs.YtijdcplffmdijaaDoor
