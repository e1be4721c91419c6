import Derived.Test.YtecpknpcjoiliaaDoorCJM
import Derived.Deep.LoopGhost
namespace Go.Proofs.YtecpknpcjoiliaaDoor
open Go.RowKit Go.Shelf
set_option linter.unusedVariables false
set_option linter.unusedSimpArgs false

theorem numsOf_snoc (l : List (List UInt8)) (t : List UInt8) (ks : List Int) (n : Int) (h : numsOf l = some ks) (hn : numOf t = some n) : numsOf (l ++ [t]) = some (ks ++ [n]) := by
  induction l generalizing ks with
  | nil =>
    simp only [numsOf, Option.some.injEq] at h
    subst h
    simp [numsOf, hn]
  | cons a r ih =>
    rw [numsOf] at h
    rw [List.cons_append, numsOf]
    cases ha : numOf a with
    | none => rw [ha] at h; cases h
    | some m =>
      rw [ha] at h
      simp only [Option.map_eq_some_iff] at h
      obtain ⟨k', hk', rfl⟩ := h
      simp only [ih k' hk']
      rfl
theorem numsOf_bad (l r : List (List UInt8)) (t : List UInt8) (hn : numOf t = none) : numsOf (l ++ t :: r) = none := by
  induction l with
  | nil => simp [numsOf, hn]
  | cons a l ih =>
    rw [List.cons_append, numsOf]
    cases ha : numOf a with
    | none => rfl
    | some m => simp only [ih]; rfl
theorem Kx.grown {P : Nat → Prop} {w W W' : World} {v : Value} (h : Kx P w W) (hg : W.grownBy W' v.ownBlock) (hv : ∀ g, v.ownBlock = some g → w.heap.size ≤ g) : Kx P w W' := by
  refine ⟨h.bel.trans ⟨hg.os, hg.tape, hg.output, hg.size, fun x hx => by omega⟩, fun x hx hp => ?_⟩
  rw [hg.block x (Nat.lt_of_lt_of_le hx h.size) (fun e => by have := hv x e.symm; omega)]
  exact h.blk x hx hp
/-- numbers being read -/
structure Rdn (w W : World) (L H : Nat) (ws : List (List UInt8)) (i : Nat) (ks : List Int) (f : Bool) (v : Value) : Prop where
  le : i ≤ ws.length
  kx : Kx (fun x => x = L) w W
  ln : W.heap[L]? = some (lnB (joinP (ws.drop i)) (!(ws.drop i).isEmpty) f)
  row : NRo W H v ks
  len : ks.length = i
  ok : if f then numsOf ws = none else numsOf (ws.take i) = some ks
/-- what numbers leaves -/
def NmsP (w : World) (L : Nat) (ws : List (List UInt8)) (e : Ending) (w' : World) : Prop :=
  ∃ v ks, e = .returned v ∧ Bx (Kx (fun x => x = L) w w' ∧ NRo w' w.heap.size v ks ∧ ((∃ t m, numsOf ws = none ∧ w'.heap[L]? = some (lnB t m true)) ∨ (numsOf ws = some ks ∧ w'.heap[L]? = some (lnB [] false false))))
set_option maxRecDepth 100000 in
set_option maxHeartbeats 4000000 in
theorem numbers_any (w : World) (L B : Nat) (ws : List (List UInt8)) (hb : w.heap[L]? = some (lnB (joinP ws) (!ws.isEmpty) false)) (hno : ∀ p ∈ ws, (32 : UInt8) ∉ p) (hlen : (joinP ws).length ≤ 281474976710656) (hfew : ws.length ≤ 8796093022200) (hL : LB B w) (hB : B ≤ L) :
    Calls Tryd.prog 49 #[.pointer (some ⟨L, 0, none⟩)] w (NmsP w L ws) := by
  have hlt := heap_lt hb
  obtain ⟨H, hH⟩ : ∃ H, w.heap.size = H := ⟨_, rfl⟩
  obtain ⟨Q, hQ⟩ : ∃ Q, Q = NmsP w L ws := ⟨_, rfl⟩
  have HQ : Bx (∀ i ks f v W, Rdn w W L H ws i ks f v → (f = true ∨ i = ws.length) → Q (.returned v) W) := ⟨fun i ks f v W h h2 => by
    rw [hQ]
    refine ⟨v, ks, rfl, ⟨h.kx, by rw [hH]; exact h.row, ?_⟩⟩
    cases f with
    | true => exact .inl ⟨_, _, by simpa using h.ok, h.ln⟩
    | false =>
      rcases h2 with h2 | h2
      · cases h2
      · right
        have h3 := h.ok
        have h4 := h.ln
        rw [h2] at h3 h4
        rw [List.drop_length] at h4
        rw [List.take_length] at h3
        exact ⟨by simpa using h3, h4⟩⟩
  rw [← hQ]
  have HN : Bx (∀ W i ks v, Rdn w W L H ws i ks false v → Calls Tryd.prog 47 #[.pointer (some ⟨L, 0, none⟩)] W (NumP W L (ws.drop i) false)) := ⟨fun W i ks v h => by
    refine number_any W L B (ws.drop i) false ⟨⟨_, h.ln⟩, fun p hp => hno p (List.mem_of_mem_drop hp), ?_⟩ (hL.on (h.kx.below (by omega) (fun x hx => by omega))) hB
    have : ∀ i, (joinP (ws.drop i)).length ≤ (joinP ws).length := fun i => by
      induction i with
      | zero => simp
      | succ i ih =>
        have := joinP_tail (ws.drop i)
        rw [List.tail_drop] at this
        omega
    have := this i
    omega⟩
  have HST : Bx (∀ W W2 i ks v n, Rdn w W L H ws i ks false v → i < ws.length → Kx (fun x => x = L) W W2 → W2.heap[L]? = some (lnB (joinP (ws.drop i).tail) (!(ws.drop i).tail.isEmpty) (if (numOf ((ws.drop i).headD [])).isSome then false else true)) → (∀ m, numOf ((ws.drop i).headD []) = some m → n = m) →
      ∃ v' W3, (∀ ty, (Builtin.append_ #[22, 22] ty #[v, .slice (some ⟨W2.heap.size, 0, none⟩) 1 1]).run Tryd.prog (W2.alloc (.cells #[.int .i64 n] 3)) = .ok v' W3) ∧ ∃ f, Rdn w W3 L H ws (i + 1) (ks ++ [n]) f v') := ⟨fun W W2 i ks v n h hi hk hl hn => by
    have hr2 : NRo W2 H v ks := owns_same h.row fun g hg1 hg2 => hk.blk g hg2 (by omega)
    have hk2 : Kx (fun x => x = L) w W2 := h.kx.trans hk fun _ _ h => h
    have hz := hk2.size
    obtain ⟨v', W3, r1, r2, r3⟩ := app_nro W2 H v ks hr2 n (by omega) (by have := h.len; omega)
    refine ⟨v', W3, r1, (if (numOf ((ws.drop i).headD [])).isSome then false else true), ⟨by omega, hk2.grown r3 (fun g hg => by have := (hr2.lt hg).1; omega), ?_, r2, by simp [h.len], ?_⟩⟩
    · rw [r3.block L (by omega) (fun e => by have := (hr2.lt e.symm).1; omega), hl, List.tail_drop]
    · have hd : ws.drop i = ws[i] :: ws.drop (i + 1) := List.drop_eq_getElem_cons hi
      have hhd : (ws.drop i).headD [] = ws[i] := by rw [hd]; rfl
      have hok := h.ok
      simp only [Bool.false_eq_true, if_false] at hok
      rw [hhd] at hn ⊢
      cases hq : numOf ws[i] with
      | none =>
        simp only [Option.isSome_none, Bool.false_eq_true, if_false, if_true]
        have e : ws = ws.take i ++ ws[i] :: ws.drop (i + 1) := by rw [← hd, List.take_append_drop]
        have e2 := numsOf_bad (ws.take i) (ws.drop (i + 1)) ws[i] hq
        rw [← e] at e2
        exact e2
      | some m =>
        simp only [Option.isSome_some, if_true, Bool.false_eq_true, if_false]
        rw [hn m hq, List.take_succ_eq_append_getElem hi]
        exact numsOf_snoc _ _ _ _ hok hq⟩
  have HS : Bx (Rdn w w L H ws 0 [] false (.slice none 0 0)) := ⟨⟨Nat.zero_le _, Kx.refl _ _, hb, ⟨rfl, .inl ⟨rfl, rfl⟩⟩, rfl, rfl⟩⟩
  clear hb hno hlen hL hQ
  go_enter Tryd.func49, Tryd.ntmps49
  go_wp2
  go_loopg [3] (ws.length + 1) (fun g v wr => ∃ (i : Nat) (ks : List Int) (f : Bool) (vv : Value), g = ws.length + 1 - i ∧ i ≤ ws.length ∧ vv = v ∧ Bx (Rdn w wr L H ws i ks f vv))
  case atStart => exact ⟨0, [], false, _, by simp, by omega, rfl, HS⟩
  case round =>
    obtain ⟨i, ks, f, vv, hg, hi, rfl, HI⟩ := hrel
    clear HS
    obtain ⟨x0, x1, x2, y0, y1, y2⟩ := lnB_cells HI.out.ln
    clear x0 y0 y1 y2
    by_cases hil : i < ws.length
    · have hmo : (!(ws.drop i).isEmpty) = true := by rw [List.drop_eq_getElem_cons hil]; rfl
      rw [hmo] at x1
      cases f with
      | true =>
        have HE : Bx _ := ⟨HQ.out _ _ _ _ _ HI.out (.inl rfl)⟩
        clear HI hmo
        go_wp2
        exact HE.out
      | false =>
        have HC : Bx _ := ⟨HN.out _ _ _ _ HI.out⟩
        clear hmo
        go_wp2_with (first
          | (go_at_call 47; refine HC.out.mono ?_; rintro e w5 ⟨n, rfl, H5⟩; obtain ⟨v6, W6, r6, f6, h6⟩ := HST.out _ w5 _ _ _ n HI.out hil H5.out.1 H5.out.2.1 H5.out.2.2; have HB6 : Bx _ := ⟨h6⟩; clear h6 H5)
          | (at_builtin; refine wpList_appI rfl (.tmp 15) (.tmp 18) 22 rfl rfl rfl r6 ?_))
        go_roundg (ws.length + 1 - (i + 1))
        case measure => omega
        case rel => exact ⟨i + 1, _, f6, v6, rfl, by omega, rfl, HB6⟩
    · have hie : i = ws.length := by omega
      subst hie
      rw [List.drop_length] at x1
      have HE : Bx _ := ⟨HQ.out _ _ _ _ _ HI.out (.inr rfl)⟩
      have x1' : wr.cell? ⟨L, 1, none⟩ = some (.bool false) := x1
      clear x1 HI
      go_wp2
      exact HE.out
end Go.Proofs.YtecpknpcjoiliaaDoor
