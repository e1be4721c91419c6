import Derived.Test.YteinpijbdgcehaaCOSh
namespace Go.Proofs.Yteinpijbdgcehaa
open Go.RowKit Go.Shelf
set_option linter.unusedVariables false
set_option linter.unusedSimpArgs false

/-! ### pairs in memory -/
structure PrAt (W : World) (b o : Nat) (x : OPr) : Prop where
  c0 : W.cell? ⟨b, o, none⟩ = some (.int .i64 x.p)
  c1 : W.cell? ⟨b, o + 1, none⟩ = some (.int .i64 x.i)
  c2 : W.cell? ⟨b, o + 2, none⟩ = some (.int .i64 x.q)
  c3 : W.cell? ⟨b, o + 3, none⟩ = some (.int .i64 x.j)
  c4 : W.cell? ⟨b, o + 4, none⟩ = some (.int .i64 x.ch)
structure PrsAt (W : World) (p : Option Addr) (c : Nat) (zs : List OPr) : Prop where
  len : zs.length ≤ c
  max : c ≤ maxLen
  at_ : ∀ i (h : i < zs.length), ∃ b o, p = some ⟨b, o, none⟩ ∧ b < W.heap.size ∧ PrAt W b (o + i * 5) zs[i]
theorem PrsAt.below {W W' : World} {p : Option Addr} {c : Nat} {zs : List OPr} (h : PrsAt W p c zs) (hb : Below W.heap.size W W') : PrsAt W' p c zs :=
  ⟨h.len, h.max, fun i hi => by
    obtain ⟨b, o, e, h1, h2⟩ := h.at_ i hi
    have k : ∀ j, W'.cell? ⟨b, j, none⟩ = W.cell? ⟨b, j, none⟩ := fun j => hb.cell (p := ⟨b, j, none⟩) h1
    exact ⟨b, o, e, Nat.lt_of_lt_of_le h1 hb.size, ⟨by rw [k]; exact h2.c0, by rw [k]; exact h2.c1, by rw [k]; exact h2.c2, by rw [k]; exact h2.c3, by rw [k]; exact h2.c4⟩⟩⟩
theorem prsC_at (l : List OPr) (i : Nat) (h : i < l.length) (k : Nat) (hk : k < 5) : (prsC l)[i * 5 + k]? = (prC l[i])[k]? := by
  have e : l = l.take i ++ l[i] :: l.drop (i + 1) := by rw [← List.drop_eq_getElem_cons h, List.take_append_drop]
  have e2 : prsC l = prsC (l.take i) ++ (prC l[i] ++ prsC (l.drop (i + 1))) := (congrArg prsC e).trans (by simp only [prsC, List.flatMap_append, List.flatMap_cons])
  have hl : (prsC (l.take i)).length = i * 5 := by rw [prsC_len]; simp; omega
  rw [e2, List.getElem?_append_right (by omega), hl, show i * 5 + k - i * 5 = k by omega, List.getElem?_append_left (by simp [prC]; omega)]
theorem prs_of {W : World} {base : Nat} {v : Value} {zs : List OPr} (h : W.ownsRow base 47 5 v zs.length (prsC zs)) : ∃ p c, v = .slice p zs.length c ∧ PrsAt W p c zs := by
  rcases h.2 with ⟨rfl, h2⟩ | ⟨g, cap, cur, rfl, h3, h4, h5, h6, _⟩
  · exact ⟨none, 0, by rw [h2], by omega, by simp [maxLen], fun i hi => by omega⟩
  · refine ⟨some ⟨g, 0, none⟩, cap, rfl, h5, h6, fun i hi => ⟨g, 0, rfl, (Array.getElem?_eq_some_iff.1 h4).1, ?_⟩⟩
    have k : ∀ k u, k < 5 → (prC zs[i])[k]? = some u → W.cell? ⟨g, 0 + i * 5 + k, none⟩ = some u := fun k u hk hu => by
      rw [Nat.zero_add]
      exact (own_cell h ((prsC_at zs i hi k hk).trans hu)).1
    exact ⟨k 0 _ (by omega) rfl, k 1 _ (by omega) rfl, k 2 _ (by omega) rfl, k 3 _ (by omega) rfl, k 4 _ (by omega) rfl⟩
set_option maxRecDepth 100000 in
set_option maxHeartbeats 4000000 in
theorem same_yes (w : World) (p1 p2 : Option Addr) (c1 c2 : Nat) (zs : List OPr) (h1 : PrsAt w p1 c1 zs) (h2 : PrsAt w p2 c2 zs) :
    Calls Try.prog 20 #[.slice p1 zs.length c1, .slice p2 zs.length c2] w fun e w' => e = .returned (.bool true) ∧ Below w.heap.size w w' := by
  have hl1 := h1.len
  have hm1 := h1.max
  have hl2 := h2.len
  have hm2 := h2.max
  unfold maxLen at hm1 hm2
  go_enter Try.func20, Try.ntmps20
  go_wp2
  go_loopg [5] zs.length (fun k v wr => ∃ i : Nat, k = zs.length - i ∧ i ≤ zs.length ∧ v = .int .i64 i ∧ Bx (Below w.heap.size w wr))
  case atStart => exact ⟨0, by simp, by omega, rfl, ⟨Below.refl _ _⟩⟩
  case round =>
    obtain ⟨i, hk, hil, rfl, HR⟩ := hrel
    by_cases hlt : i < zs.length
    · obtain ⟨b, o, rfl, hb, q⟩ := (h1.below HR.out).at_ i hlt
      obtain ⟨b', o', rfl, hb', r⟩ := (h2.below HR.out).at_ i hlt
      have a0 := q.c0
      have a1 := q.c1
      have a2 := q.c2
      have a3 := q.c3
      have a4 := q.c4
      have e0 := r.c0
      have e1 := r.c1
      have e2 := r.c2
      have e3 := r.c3
      have e4 := r.c4
      have HD : Bx (∀ n, Below w.heap.size w (wr.drewN n)) := ⟨fun n => ⟨HR.out.os, HR.out.tape, HR.out.output, HR.out.size, HR.out.block⟩⟩
      clear q r h1 h2 HR
      go_wp2
      go_quiet (fail)
      go_wp2
      go_roundg (zs.length - (i + 1))
      case measure => omega
      case rel => exact ⟨i + 1, rfl, by omega, by simp, ⟨HD.out _⟩⟩
    · have hie : i = zs.length := by omega
      subst hie
      go_wp2
      go_ret
      exact ⟨rfl, HR.out⟩
theorem same_no (w : World) (p1 p2 : Option Addr) (n1 n2 c1 c2 : Nat) (hne : n1 ≠ n2) :
    Calls Try.prog 20 #[.slice p1 n1 c1, .slice p2 n2 c2] w fun e w' => e = .returned (.bool false) ∧ Below w.heap.size w w' := by
  have hne' : ((n1 : Int) != (n2 : Int)) = true := by simp; omega
  go_enter Try.func20, Try.ntmps20
  go_wp2
  go_ret
  exact ⟨rfl, Below.refl _ _⟩
/-! ### how many -/
def tot : List OWt → Nat
  | [] => 0
  | w :: r => w.arms.length + tot r
theorem tot_take (l : List OWt) (i : Nat) (h : i < l.length) : tot (l.take (i + 1)) = tot (l.take i) + l[i].arms.length := by
  have key : ∀ a b : List OWt, tot (a ++ b) = tot a + tot b := fun a b => by
    induction a with
    | nil => simp [tot]
    | cons x r ih => simp [tot, ih]; omega
  rw [List.take_succ_eq_append_getElem h, key]
  simp [tot]
def BeyP (l : List OWt) (w : World) (e : Ending) (w' : World) : Prop := (∃ b, e = .returned (.bool b) ∧ (b = false → l.length + tot l ≤ 4000)) ∧ w' = w
set_option maxRecDepth 100000 in
set_option maxHeartbeats 4000000 in
theorem beyond_any (w : World) (Pr : Nat → Prop) (p : Option Addr) (c : Nat) (l : List OWt) (hl : WsIn w Pr p c l) :
    Calls Try.prog 7 #[.slice p l.length c] w (BeyP l w) := by
  have hlc := hl.len
  have hcm := hl.max
  unfold maxLen at hcm
  go_enter Try.func7, Try.ntmps7
  go_wp2
  go_loopg [3, 4] (l.length + 1) (fun k v3 v4 wr => ∃ i x : Nat, k = l.length + 1 - i ∧ i ≤ l.length ∧ v3 = .int .i64 x ∧ v4 = .int .i64 i ∧ Bx (x = l.length + tot (l.take i)) ∧ x ≤ 9223372036854775807 ∧ Bx (wr = w))
  case atStart => exact ⟨0, l.length, by simp, by omega, rfl, rfl, ⟨by simp [tot]⟩, by omega, ⟨rfl⟩⟩
  case round =>
    obtain ⟨i, x, hk, hil, rfl, rfl, HX, hx, HW⟩ := hrel
    by_cases hlt : i < l.length
    · by_cases hx4 : x ≤ 4000
      · obtain ⟨b, o, q, d, rfl, hb, c0, c1, hA, _⟩ := hl.at_ i hlt
        have hA1 := hA.len
        have hA2 := hA.max
        unfold maxLen at hA2
        obtain rfl : wr = w := HW.out
        clear HW
        by_cases hbig : 4000 < l[i].arms.length
        · clear hA hl
          go_wp2
          go_ret
          exact ⟨⟨true, rfl, fun h => by cases h⟩, rfl⟩
        · have HX2 : Bx (x + l[i].arms.length = l.length + tot (l.take (i + 1))) := ⟨by rw [tot_take l i hlt, HX.out]; omega⟩
          clear hA hl
          go_wp2
          go_roundg (l.length + 1 - (i + 1))
          case measure => omega
          case rel => exact ⟨i + 1, x + l[i].arms.length, rfl, by omega, by simp, by simp, HX2, by omega, ⟨rfl⟩⟩
      · go_wp2
        go_ret
        exact ⟨⟨true, rfl, fun h => by cases h⟩, HW.out⟩
    · have hie : i = l.length := by omega
      subst hie
      have HT : Bx (x = l.length + tot l) := ⟨by rw [HX.out, List.take_length]⟩
      go_wp2
      go_ret
      exact ⟨⟨_, rfl, fun h => by have h2 : ¬ (4000 : Int) < x := by simpa using h
                                  rw [← HT.out]; omega⟩, HW.out⟩
end Go.Proofs.Yteinpijbdgcehaa
