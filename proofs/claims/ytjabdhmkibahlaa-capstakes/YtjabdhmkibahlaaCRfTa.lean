import Derived.Test.YtjabdhmkibahlaaCRfK
import Derived.Test.YtjabdhmkibahlaaCFL
import Derived.Test.YtjabdhmkibahlaaCHA
namespace Go.Proofs.Ytjabdhmkibahlaa
open Go.RowKit
set_option linter.unusedVariables false
set_option linter.unusedSimpArgs false

/-- the pure values of the region of Take -/
def cvT (b o c i : Nat) (sl : Nat) (id : Int) (aw : Bool) (ph : Option Addr) (m ch : Nat) (pa : Option Addr) (n ca : Nat) : Nat → Option Value
  | 0 => some (.slice (some ⟨b, o, none⟩) sl c)
  | 1 => some (.int .i64 i)
  | 2 => some (.pointer (some ⟨b, o + i * 4, none⟩))
  | 3 => some (.pointer (some ⟨b, o + i * 4, none⟩))
  | 4 => some (.int .i64 id)
  | 5 => some (.slice (some ⟨b, o, none⟩) sl c)
  | 6 => some (.int .i64 i)
  | 7 => some (.pointer (some ⟨b, o + i * 4, none⟩))
  | 8 => some (.pointer (some ⟨b, o + i * 4 + 1, none⟩))
  | 9 => some (.bool aw)
  | 11 => some (.slice (some ⟨b, o, none⟩) sl c)
  | 12 => some (.int .i64 i)
  | 13 => some (.pointer (some ⟨b, o + i * 4, none⟩))
  | 14 => some (.pointer (some ⟨b, o + i * 4 + 3, none⟩))
  | 15 => some (.slice ph m ch)
  | 18 => some (.slice (some ⟨b, o, none⟩) sl c)
  | 19 => some (.int .i64 i)
  | 20 => some (.pointer (some ⟨b, o + i * 4, none⟩))
  | 21 => some (.pointer (some ⟨b, o + i * 4 + 2, none⟩))
  | 22 => some (.slice pa n ca)
  | _ => none
/-- what holds of the values that have come up -/
structure TkS (w0 : World) (H0 : Nat) (cv : Nat → Option Value) (id : Int) (aw : Bool) (arms : List Hd) (held : List Int) (u : Vals) (w : World) : Prop where
  bel : Below H0 w0 w
  sz : w0.heap.size = H0
  pur : ∀ j v, u j = some v → ∀ c, cv j = some c → v = c
  p10 : ∀ v, u 10 = some v → u 16 = none → w.ownsRow H0 3 1 v 0 []
  p16 : ∀ v, u 16 = some v → w.ownsRow H0 3 1 v held.length (rowC held)
  p17 : ∀ v, u 17 = some v → u 23 = none → w.ownsRow H0 58 2 v 0 []
  p23 : ∀ v, u 23 = some v → w.ownsRow H0 58 2 v arms.length (hdsC arms)
  p24 : ∀ v, u 24 = some v → ∃ x y, u 16 = some x ∧ u 23 = some y ∧ v = .agg #[.int .i64 id, .bool aw, y, x]
  p25 : ∀ v, u 25 = some v → ∃ q cs, v = .pointer (some ⟨q, 0, none⟩) ∧ H0 ≤ q ∧ w.heap[q]? = some (.cells cs 53 (0, 0)) ∧ cs.size = 4 ∧ ∀ z, u 26 = some z → ∃ x y, u 16 = some x ∧ u 23 = some y ∧ cs = #[.int .i64 id, .bool aw, y, x]
  d26 : ∀ z, u 26 = some z → ∃ v, u 25 = some v
def memT (j : Nat) : Bool := j == 10 || j == 16 || j == 17 || j == 23 || j == 24 || j == 25 || j == 26
theorem TkS.get {w0 : World} {H0 : Nat} {cv : Nat → Option Value} {id : Int} {aw : Bool} {arms : List Hd} {held : List Int} {u : Vals} {w : World} (h : TkS w0 H0 cv id aw arms held u w) {j : Nat} (hd : ∃ v, u j = some v) {c : Value} (hc : cv j = some c) : u j = some c := by
  obtain ⟨v, hv⟩ := hd
  rw [hv, h.pur j v hv c hc]
theorem TkS.pure {w0 : World} {H0 : Nat} {cv : Nat → Option Value} {id : Int} {aw : Bool} {arms : List Hd} {held : List Int} {u : Vals} {w : World} (h : TkS w0 H0 cv id aw arms held u w) {j : Nat} (hj : memT j = false) {c : Value} (hc : cv j = some c) : TkS w0 H0 cv id aw arms held (u.put j c) w := by
  unfold memT at hj
  simp only [Bool.or_eq_false_iff, beq_eq_false_iff_ne] at hj
  obtain ⟨⟨⟨⟨⟨⟨n10, n16⟩, n17⟩, n23⟩, n24⟩, n25⟩, n26⟩ := hj
  have e : ∀ k, k ≠ j → u.put j c k = u k := fun k hk => Vals.put_ne _ _ hk
  have e10 := e 10 (fun q => n10 q.symm)
  have e16 := e 16 (fun q => n16 q.symm)
  have e17 := e 17 (fun q => n17 q.symm)
  have e23 := e 23 (fun q => n23 q.symm)
  have e24 := e 24 (fun q => n24 q.symm)
  have e25 := e 25 (fun q => n25 q.symm)
  have e26 := e 26 (fun q => n26 q.symm)
  refine ⟨h.bel, h.sz, fun k v hk c' hc' => ?_, ?_, ?_, ?_, ?_, ?_, ?_, by rw [e26, e25]; exact h.d26⟩
  · by_cases hkj : k = j
    · subst hkj
      rw [Vals.put_self] at hk
      rw [hc] at hc'
      cases hk; cases hc'; rfl
    · rw [e k hkj] at hk
      exact h.pur k v hk c' hc'
  · rw [e10, e16]; exact h.p10
  · rw [e16]; exact h.p16
  · rw [e17, e23]; exact h.p17
  · rw [e23]; exact h.p23
  · rw [e24, e16, e23]; exact h.p24
  · rw [e25, e26, e16, e23]; exact h.p25
end Go.Proofs.Ytjabdhmkibahlaa
namespace Go.Proofs.Ytjabdhmkibahlaa
open Go.RowKit
set_option linter.unusedVariables false
set_option linter.unusedSimpArgs false

/-- what is picked among the memory's -/
theorem put_eqs (u : Vals) (j : Nat) (v : Value) : ∀ k, k ≠ j → u.put j v k = u k := fun k hk => Vals.put_ne _ _ hk
/-- a world in which the rows of other kinds and the agent's block stay -/
theorem TkS.s10 {w0 : World} {H0 : Nat} {cv : Nat → Option Value} {id : Int} {aw : Bool} {arms : List Hd} {held : List Int} {u : Vals} {w : World} (h : TkS w0 H0 cv id aw arms held u w) (hn : u 10 = none) (hc : cv 10 = none)   : TkS w0 H0 cv id aw arms held (u.put 10 (.slice (some ⟨w.heap.size, 0, none⟩) 0 0)) (w.alloc (.cells #[] 3)) := by
  have hz : H0 ≤ w.heap.size := by rw [← h.sz]; exact h.bel.size
  have hb := below1 w (.cells #[] 3)
  refine ⟨h.bel.trans (hb.mono hz), h.sz, fun k v hk c hc' => ?_, fun v hv _ => ?_, fun v hv => ?_, fun v hv hv2 => ?_, fun v hv => ?_, fun v hv => ?_, fun v hv => ?_, by rw [put_eqs u 10 _ 26 (by decide), put_eqs u 10 _ 25 (by decide)]; exact h.d26⟩
  · by_cases hkj : k = 10
    · subst hkj; rw [hc] at hc'; cases hc'
    · rw [put_eqs u 10 _ k hkj] at hk; exact h.pur k v hk c hc'
  · rw [Vals.put_self] at hv; cases hv
    exact ⟨rfl, .inr ⟨w.heap.size, 0, #[], rfl, hz, heap_newH _ _ _ rfl, Nat.le_refl _, by simp [maxLen], rfl, rfl⟩⟩
  · rw [put_eqs u 10 _ 16 (by decide)] at hv; exact own_new (h.p16 v hv) hb
  · rw [put_eqs u 10 _ 17 (by decide)] at hv; rw [put_eqs u 10 _ 23 (by decide)] at hv2; exact own_new (h.p17 v hv hv2) hb
  · rw [put_eqs u 10 _ 23 (by decide)] at hv; exact own_new (h.p23 v hv) hb
  · rw [put_eqs u 10 _ 24 (by decide)] at hv; rw [put_eqs u 10 _ 16 (by decide), put_eqs u 10 _ 23 (by decide)]; exact h.p24 v hv
  · rw [put_eqs u 10 _ 25 (by decide)] at hv
    rw [put_eqs u 10 _ 16 (by decide), put_eqs u 10 _ 23 (by decide), put_eqs u 10 _ 26 (by decide)]
    obtain ⟨q, cs, e1, e2, e3, e4⟩ := h.p25 v hv
    exact ⟨q, cs, e1, e2, (hb.block q (heap_lt e3)).trans e3, e4⟩
theorem TkS.s17 {w0 : World} {H0 : Nat} {cv : Nat → Option Value} {id : Int} {aw : Bool} {arms : List Hd} {held : List Int} {u : Vals} {w : World} (h : TkS w0 H0 cv id aw arms held u w) (hn : u 17 = none) (hc : cv 17 = none)   : TkS w0 H0 cv id aw arms held (u.put 17 (.slice (some ⟨w.heap.size, 0, none⟩) 0 0)) (w.alloc (.cells #[] 58)) := by
  have hz : H0 ≤ w.heap.size := by rw [← h.sz]; exact h.bel.size
  have hb := below1 w (.cells #[] 58)
  refine ⟨h.bel.trans (hb.mono hz), h.sz, fun k v hk c hc' => ?_, fun v hv hv2 => ?_, fun v hv => ?_, fun v hv _ => ?_, fun v hv => ?_, fun v hv => ?_, fun v hv => ?_, by rw [put_eqs u 17 _ 26 (by decide), put_eqs u 17 _ 25 (by decide)]; exact h.d26⟩
  · by_cases hkj : k = 17
    · subst hkj; rw [hc] at hc'; cases hc'
    · rw [put_eqs u 17 _ k hkj] at hk; exact h.pur k v hk c hc'
  · rw [put_eqs u 17 _ 10 (by decide)] at hv; rw [put_eqs u 17 _ 16 (by decide)] at hv2; exact own_new (h.p10 v hv hv2) hb
  · rw [put_eqs u 17 _ 16 (by decide)] at hv; exact own_new (h.p16 v hv) hb
  · rw [Vals.put_self] at hv; cases hv
    exact ⟨rfl, .inr ⟨w.heap.size, 0, #[], rfl, hz, heap_newH _ _ _ rfl, Nat.le_refl _, by simp [maxLen], rfl, rfl⟩⟩
  · rw [put_eqs u 17 _ 23 (by decide)] at hv; exact own_new (h.p23 v hv) hb
  · rw [put_eqs u 17 _ 24 (by decide)] at hv; rw [put_eqs u 17 _ 16 (by decide), put_eqs u 17 _ 23 (by decide)]; exact h.p24 v hv
  · rw [put_eqs u 17 _ 25 (by decide)] at hv
    rw [put_eqs u 17 _ 16 (by decide), put_eqs u 17 _ 23 (by decide), put_eqs u 17 _ 26 (by decide)]
    obtain ⟨q, cs, e1, e2, e3, e4⟩ := h.p25 v hv
    exact ⟨q, cs, e1, e2, (hb.block q (heap_lt e3)).trans e3, e4⟩
theorem TkS.s16 {w0 : World} {H0 : Nat} {cv : Nat → Option Value} {id : Int} {aw : Bool} {arms : List Hd} {held : List Int} {u : Vals} {w : World} (h : TkS w0 H0 cv id aw arms held u w) (hn : u 16 = none) (hc : cv 16 = none) {v0 : Value} (h10 : u 10 = some v0) {v' : Value} {w' : World} (ho : w'.ownsRow H0 3 1 v' held.length (rowC held)) (hg : w.grownBy w' v0.ownBlock) : TkS w0 H0 cv id aw arms held (u.put 16 v') w' := by
  have hz : H0 ≤ w.heap.size := by rw [← h.sz]; exact h.bel.size
  have hr := h.p10 v0 h10 hn
  have kk := owns_kind hr
  refine ⟨h.bel.grown hg hz fun k hk => (owns_block hr hk).1, h.sz, fun k v hk c hc' => ?_, fun v hv hv2 => ?_, fun v hv => ?_, fun v hv hv2 => ?_, fun v hv => ?_, fun v hv => ?_, fun v hv => ?_, by rw [put_eqs u 16 _ 26 (by decide), put_eqs u 16 _ 25 (by decide)]; exact h.d26⟩
  · by_cases hkj : k = 16
    · subst hkj; rw [hc] at hc'; cases hc'
    · rw [put_eqs u 16 _ k hkj] at hk; exact h.pur k v hk c hc'
  · rw [Vals.put_self] at hv2; cases hv2
  · rw [Vals.put_self] at hv; cases hv; exact ho
  · rw [put_eqs u 16 _ 17 (by decide)] at hv; rw [put_eqs u 16 _ 23 (by decide)] at hv2; exact owns_grown (h.p17 v hv hv2) hg (by decide) kk
  · rw [put_eqs u 16 _ 23 (by decide)] at hv; exact owns_grown (h.p23 v hv) hg (by decide) kk
  · rw [put_eqs u 16 _ 24 (by decide)] at hv
    obtain ⟨x, y, e1, _⟩ := h.p24 v hv
    rw [hn] at e1; cases e1
  · rw [put_eqs u 16 _ 25 (by decide)] at hv
    rw [put_eqs u 16 _ 23 (by decide), put_eqs u 16 _ 26 (by decide)]
    obtain ⟨q, cs, e1, e2, e3, e4, e5⟩ := h.p25 v hv
    refine ⟨q, cs, e1, e2, grown_at hg e3 fun e => ?_, e4, fun z hz' => ?_⟩
    · obtain ⟨c2, f2, q2⟩ := kk q e
      rw [e3] at q2
      injection q2 with q2
      injection q2 with _ q2
      exact absurd q2 (by decide)
    · obtain ⟨x, y, e6, _⟩ := e5 z hz'
      rw [hn] at e6; cases e6
theorem TkS.s23 {w0 : World} {H0 : Nat} {cv : Nat → Option Value} {id : Int} {aw : Bool} {arms : List Hd} {held : List Int} {u : Vals} {w : World} (h : TkS w0 H0 cv id aw arms held u w) (hn : u 23 = none) (hc : cv 23 = none) {v0 : Value} (h17 : u 17 = some v0) {v' : Value} {w' : World} (ho : w'.ownsRow H0 58 2 v' arms.length (hdsC arms)) (hg : w.grownBy w' v0.ownBlock) : TkS w0 H0 cv id aw arms held (u.put 23 v') w' := by
  have hz : H0 ≤ w.heap.size := by rw [← h.sz]; exact h.bel.size
  have hr := h.p17 v0 h17 hn
  have kk := owns_kind hr
  refine ⟨h.bel.grown hg hz fun k hk => (owns_block hr hk).1, h.sz, fun k v hk c hc' => ?_, fun v hv hv2 => ?_, fun v hv => ?_, fun v hv hv2 => ?_, fun v hv => ?_, fun v hv => ?_, fun v hv => ?_, by rw [put_eqs u 23 _ 26 (by decide), put_eqs u 23 _ 25 (by decide)]; exact h.d26⟩
  · by_cases hkj : k = 23
    · subst hkj; rw [hc] at hc'; cases hc'
    · rw [put_eqs u 23 _ k hkj] at hk; exact h.pur k v hk c hc'
  · rw [put_eqs u 23 _ 10 (by decide)] at hv; rw [put_eqs u 23 _ 16 (by decide)] at hv2; exact owns_grown (h.p10 v hv hv2) hg (by decide) kk
  · rw [put_eqs u 23 _ 16 (by decide)] at hv; exact owns_grown (h.p16 v hv) hg (by decide) kk
  · rw [Vals.put_self] at hv2; cases hv2
  · rw [Vals.put_self] at hv; cases hv; exact ho
  · rw [put_eqs u 23 _ 24 (by decide)] at hv
    obtain ⟨x, y, _, e1, _⟩ := h.p24 v hv
    rw [hn] at e1; cases e1
  · rw [put_eqs u 23 _ 25 (by decide)] at hv
    rw [put_eqs u 23 _ 16 (by decide), put_eqs u 23 _ 26 (by decide)]
    obtain ⟨q, cs, e1, e2, e3, e4, e5⟩ := h.p25 v hv
    refine ⟨q, cs, e1, e2, grown_at hg e3 fun e => ?_, e4, fun z hz' => ?_⟩
    · obtain ⟨c2, f2, q2⟩ := kk q e
      rw [e3] at q2
      injection q2 with q2
      injection q2 with _ q2
      exact absurd q2 (by decide)
    · obtain ⟨x, y, _, e6, _⟩ := e5 z hz'
      rw [hn] at e6; cases e6
theorem TkS.s24 {w0 : World} {H0 : Nat} {cv : Nat → Option Value} {id : Int} {aw : Bool} {arms : List Hd} {held : List Int} {u : Vals} {w : World} (h : TkS w0 H0 cv id aw arms held u w) (hc : cv 24 = none) {x y : Value} (h16 : u 16 = some x) (h23 : u 23 = some y) : TkS w0 H0 cv id aw arms held (u.put 24 (.agg #[.int .i64 id, .bool aw, y, x])) w := by
  refine ⟨h.bel, h.sz, fun k v hk c hc' => ?_, ?_, ?_, ?_, ?_, fun v hv => ?_, fun v hv => ?_, by rw [put_eqs u 24 _ 26 (by decide), put_eqs u 24 _ 25 (by decide)]; exact h.d26⟩
  · by_cases hkj : k = 24
    · subst hkj; rw [hc] at hc'; cases hc'
    · rw [put_eqs u 24 _ k hkj] at hk; exact h.pur k v hk c hc'
  · rw [put_eqs u 24 _ 10 (by decide), put_eqs u 24 _ 16 (by decide)]; exact h.p10
  · rw [put_eqs u 24 _ 16 (by decide)]; exact h.p16
  · rw [put_eqs u 24 _ 17 (by decide), put_eqs u 24 _ 23 (by decide)]; exact h.p17
  · rw [put_eqs u 24 _ 23 (by decide)]; exact h.p23
  · rw [Vals.put_self] at hv; cases hv
    exact ⟨x, y, by rw [put_eqs u 24 _ 16 (by decide)]; exact h16, by rw [put_eqs u 24 _ 23 (by decide)]; exact h23, rfl⟩
  · rw [put_eqs u 24 _ 25 (by decide)] at hv
    rw [put_eqs u 24 _ 16 (by decide), put_eqs u 24 _ 23 (by decide), put_eqs u 24 _ 26 (by decide)]
    exact h.p25 v hv
theorem TkS.s25 {w0 : World} {H0 : Nat} {cv : Nat → Option Value} {id : Int} {aw : Bool} {arms : List Hd} {held : List Int} {u : Vals} {w : World} (h : TkS w0 H0 cv id aw arms held u w) (hc : cv 25 = none) (hn : u 25 = none) {cs : Array Value} (hcs : cs.size = 4) : TkS w0 H0 cv id aw arms held (u.put 25 (.pointer (some ⟨w.heap.size, 0, none⟩))) (w.alloc (.cells cs 53)) := by
  have hz : H0 ≤ w.heap.size := by rw [← h.sz]; exact h.bel.size
  have hb := below1 w (.cells cs 53)
  refine ⟨h.bel.trans (hb.mono hz), h.sz, fun k v hk c hc' => ?_, fun v hv hv2 => ?_, fun v hv => ?_, fun v hv hv2 => ?_, fun v hv => ?_, fun v hv => ?_, fun v hv => ?_, fun z _ => ⟨_, Vals.put_self _ _ _⟩⟩
  · by_cases hkj : k = 25
    · subst hkj; rw [hc] at hc'; cases hc'
    · rw [put_eqs u 25 _ k hkj] at hk; exact h.pur k v hk c hc'
  · rw [put_eqs u 25 _ 10 (by decide)] at hv; rw [put_eqs u 25 _ 16 (by decide)] at hv2; exact own_new (h.p10 v hv hv2) hb
  · rw [put_eqs u 25 _ 16 (by decide)] at hv; exact own_new (h.p16 v hv) hb
  · rw [put_eqs u 25 _ 17 (by decide)] at hv; rw [put_eqs u 25 _ 23 (by decide)] at hv2; exact own_new (h.p17 v hv hv2) hb
  · rw [put_eqs u 25 _ 23 (by decide)] at hv; exact own_new (h.p23 v hv) hb
  · rw [put_eqs u 25 _ 24 (by decide)] at hv; rw [put_eqs u 25 _ 16 (by decide), put_eqs u 25 _ 23 (by decide)]; exact h.p24 v hv
  · rw [Vals.put_self] at hv; cases hv
    refine ⟨w.heap.size, cs, rfl, hz, heap_newH _ _ _ rfl, hcs, fun z hz' => ?_⟩
    rw [put_eqs u 25 _ 26 (by decide)] at hz'
    obtain ⟨v', hv'⟩ := h.d26 z hz'
    rw [hn] at hv'; cases hv'
theorem TkS.s26 {w0 : World} {H0 : Nat} {cv : Nat → Option Value} {id : Int} {aw : Bool} {arms : List Hd} {held : List Int} {u : Vals} {w : World} (h : TkS w0 H0 cv id aw arms held u w) (hc : cv 26 = none) {q : Nat} {x y v24 : Value} (h25 : u 25 = some (.pointer (some ⟨q, 0, none⟩))) (h24 : u 24 = some v24) (h16 : u 16 = some x) (h23 : u 23 = some y) {w' : World} (hw : w.setCells q 0 [.int .i64 id, .bool aw, y, x] = w') (z0 : Value) : TkS w0 H0 cv id aw arms held (u.put 26 z0) w' := by
  obtain ⟨q', cs, e1, e2, e3, e4, _⟩ := h.p25 _ h25
  simp only [Value.pointer.injEq, Option.some.injEq, Addr.mk.injEq, and_true] at e1
  subst e1
  subst hw
  have hoth : ∀ g, g ≠ q → (w.setCells q 0 [.int .i64 id, .bool aw, y, x]).heap[g]? = w.heap[g]? := fun g hg => by
    show ((((w.setCell ⟨q, 0, none⟩ _).setCell ⟨q, 0 + 1, none⟩ _).setCell ⟨q, 0 + 1 + 1, none⟩ _).setCell ⟨q, 0 + 1 + 1 + 1, none⟩ _).heap[g]? = _
    rw [Below.heap_setCell _ ⟨q, _, none⟩ _ g hg, Below.heap_setCell _ ⟨q, _, none⟩ _ g hg, Below.heap_setCell _ ⟨q, _, none⟩ _ g hg, Below.heap_setCell _ ⟨q, _, none⟩ _ g hg]
  have hself : (w.setCells q 0 [.int .i64 id, .bool aw, y, x]).heap[q]? = some (.cells #[.int .i64 id, .bool aw, y, x] 53 (0, 0)) := by
    have a1 := Lib.heap_setCell_same (i := 0) e3 (.int .i64 id)
    have a2 := Lib.heap_setCell_same (i := 1) a1 (.bool aw)
    have a3 := Lib.heap_setCell_same (i := 2) a2 y
    have a4 := Lib.heap_setCell_same (i := 3) a3 x
    have e5 : (((cs.setIfInBounds 0 (.int .i64 id)).setIfInBounds 1 (.bool aw)).setIfInBounds 2 y).setIfInBounds 3 x = #[.int .i64 id, .bool aw, y, x] := by
      obtain ⟨l, rfl⟩ : ∃ l : List Value, cs = l.toArray := ⟨cs.toList, by simp⟩
      match l, e4 with
      | [k0, k1, k2, k3], _ => rfl
    rw [← e5]
    exact a4
  have row : ∀ {t : TypeId} {s n : Nat} {v : Value} {xs : List Value}, w.ownsRow H0 t s v n xs → t ≠ 53 → (w.setCells q 0 [.int .i64 id, .bool aw, y, x]).ownsRow H0 t s v n xs := fun {t s n v xs} hr ht => own_same hr fun g o hg ho => by
    rw [hoth g (fun e => ?_)]
    · exact ho
    · subst e
      obtain ⟨c2, f2, q2⟩ := owns_kind hr g hg
      rw [e3] at q2
      injection q2 with q2
      injection q2 with _ q2
      exact ht q2.symm
  refine ⟨h.bel.trans ?_, h.sz, fun k v hk c hc' => ?_, fun v hv hv2 => ?_, fun v hv => ?_, fun v hv hv2 => ?_, fun v hv => ?_, fun v hv => ?_, fun v hv => ?_, fun z _ => ⟨_, by rw [put_eqs u 26 _ 25 (by decide)]; exact h25⟩⟩
  · exact ((((Below.refl H0 w).setCell (p := ⟨q, 0, none⟩) e2 _).setCell (p := ⟨q, 0 + 1, none⟩) e2 _).setCell (p := ⟨q, 0 + 1 + 1, none⟩) e2 _).setCell (p := ⟨q, 0 + 1 + 1 + 1, none⟩) e2 _
  · by_cases hkj : k = 26
    · subst hkj; rw [hc] at hc'; cases hc'
    · rw [put_eqs u 26 _ k hkj] at hk; exact h.pur k v hk c hc'
  · rw [put_eqs u 26 _ 10 (by decide)] at hv; rw [put_eqs u 26 _ 16 (by decide)] at hv2; exact row (h.p10 v hv hv2) (by decide)
  · rw [put_eqs u 26 _ 16 (by decide)] at hv; exact row (h.p16 v hv) (by decide)
  · rw [put_eqs u 26 _ 17 (by decide)] at hv; rw [put_eqs u 26 _ 23 (by decide)] at hv2; exact row (h.p17 v hv hv2) (by decide)
  · rw [put_eqs u 26 _ 23 (by decide)] at hv; exact row (h.p23 v hv) (by decide)
  · rw [put_eqs u 26 _ 24 (by decide)] at hv; rw [put_eqs u 26 _ 16 (by decide), put_eqs u 26 _ 23 (by decide)]; exact h.p24 v hv
  · rw [put_eqs u 26 _ 25 (by decide), h25] at hv
    cases hv
    rw [put_eqs u 26 _ 16 (by decide), put_eqs u 26 _ 23 (by decide)]
    exact ⟨q, _, rfl, e2, hself, rfl, fun z _ => ⟨x, y, h16, h23, rfl⟩⟩
end Go.Proofs.Ytjabdhmkibahlaa
