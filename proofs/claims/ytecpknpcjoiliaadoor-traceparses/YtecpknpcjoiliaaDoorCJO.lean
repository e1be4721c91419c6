import Derived.Test.YtecpknpcjoiliaaDoorCJM
import Derived.Test.YtecpknpcjoiliaaDoorCJG
import Derived.Test.YtecpknpcjoiliaaDoorCJE
import Derived.Test.YtecpknpcjoiliaaDoorCJKk
import Derived.Test.YtecpknpcjoiliaaDoorCJJ
namespace Go.Proofs.YtecpknpcjoiliaaDoor
open Go.RowKit Go.Shelf
set_option linter.unusedVariables false
set_option linter.unusedSimpArgs false

theorem place_first {t : List UInt8} : ∀ {ws : List (List UInt8)} {j : Nat} (hj : j < ws.length), (∀ i (h : i < ws.length), i < j → ws[i] ≠ t) → ws[j] = t → place t ws = j + 1
  | [], j, hj, _, _ => by simp at hj
  | x :: r, 0, _, _, h => by
    have : x = t := h
    rw [place, if_pos this]
  | x :: r, j + 1, hj, hn, h => by
    have hx : x ≠ t := hn 0 (by simp) (by omega)
    have hj' : j < r.length := by simpa using hj
    have ih := place_first (ws := r) hj' (fun i hi hij => hn (i + 1) (by simpa using hi) (by omega)) (by simpa using h)
    rw [place, if_neg hx, ih, if_neg (by omega)]
theorem place_none {t : List UInt8} {ws : List (List UInt8)} (h : ∀ i (hi : i < ws.length), ws[i] ≠ t) : place t ws = 0 := by
  refine place_zero fun j hj => ?_
  rw [List.getD_eq_getElem?_getD, List.getElem?_eq_getElem hj]
  exact h j hj
set_option maxRecDepth 100000 in
set_option maxHeartbeats 2000000 in
theorem index_any (w : World) (g cap : Nat) (ws : List (List UInt8)) (t : List UInt8) (hw : ∀ j (h : j < ws.length), w.cell? ⟨g, j, none⟩ = some (strV ws[j])) (hl : ws.length ≤ 1000) :
    Calls Tryd.prog 48 #[.slice (some ⟨g, 0, none⟩) ws.length cap, strV t] w fun e w' => e = .returned (.int .i64 ((place t ws : Int) - 1)) ∧ w' = w := by
  obtain ⟨R, hR⟩ : ∃ R : Int, R = (place t ws : Int) - 1 := ⟨_, rfl⟩
  rw [← hR]
  have HR : Bx (R = (place t ws : Int) - 1) := ⟨hR⟩
  have HW : Bx _ := ⟨hw⟩
  clear hR hw
  go_enter Tryd.func48, Tryd.ntmps48
  go_wp2
  go_loopw [8] (fun x wr => ∃ k : Nat, k ≤ ws.length ∧ x = .int .i64 k ∧ wr = w ∧ Bx (∀ i (h : i < ws.length), i < k → ws[i] ≠ t)) (fun x _ => ws.length - (intOf x).toNat)
  case atStart => exact ⟨0, Nat.zero_le _, rfl, rfl, ⟨fun i _ h => by omega⟩⟩
  case round =>
    obtain ⟨k, hk, rfl, rfl, HI⟩ := hrel
    by_cases hlt : k < ws.length
    · have c := HW.out k hlt
      have hkI : (k : Int) < (ws.length : Int) := by omega
      cases hq : (t == ws[k])
      · have hq2 : ¬ t = ws[k] := by simpa using hq
        have HN : Bx (∀ i (h : i < ws.length), i < k + 1 → ws[i] ≠ t) := ⟨fun i h hi => by
          rcases Nat.lt_or_ge i k with h1 | h1
          · exact HI.out i h h1
          · have : i = k := by omega
            subst this
            exact fun e => hq2 e.symm⟩
        clear HI
        generalize ws[k] = x at *
        go_wp2
        go_roundw
        case rel => exact ⟨k + 1, hlt, by go_num, by first | rfl | trivial, HN⟩
        case measure => simp [intOf]; omega
      · have hq2 : t = ws[k] := by simpa using hq
        have hRk : R = (k : Int) := by
          rw [HR.out, place_first hlt (fun i h hi => HI.out i h hi) hq2.symm]
          omega
        have HRK : Bx _ := ⟨hRk⟩
        clear HI HR hRk
        generalize ws[k] = x at *
        go_wp2
        go_ret
        exact ⟨ret_int HRK.out.symm, rfl⟩
    · have hke : k = ws.length := by omega
      subst hke
      have hRk : R = -1 := by
        rw [HR.out, place_none (fun i hi => HI.out i hi hi)]
        rfl
      have HRK : Bx _ := ⟨hRk⟩
      clear HI HR hRk
      go_wp2
      go_ret
      exact ⟨ret_int HRK.out.symm, rfl⟩
theorem rdPl_succ (has k m : Nat) (ws : List (List UInt8)) : rdPl has k (m + 1) ws = if hasB has k then (takeN ws).bind fun x => (rdPl has (k + 1) m x.2).map fun y => (x.1 :: y.1, y.2) else (rdPl has (k + 1) m ws).map fun y => (0 :: y.1, y.2) := by rw [rdPl]
theorem takeN_eq (ws : List (List UInt8)) : takeN ws = (numOf (ws.headD [])).map fun x => (x, ws.tail) := by
  cases ws with
  | nil => rfl
  | cons p r => rfl
/-- the places as they are read -/
abbrev rdB (xs : List Int) : Obj := .cells (xs.map (Value.int .i64)).toArray 63 (0, 0)
/-- an event being read off a line -/
structure EvS (w W : World) (H S A : Nat) (s : TSh) (xs : List Int) (ws : List (List UInt8)) (f : Bool) : Prop where
  bel : Below H w W
  re : W.heap[H]? = some (evB noEv (.slice none 0 0))
  ln : W.heap[H + 1]? = some (lnB (joinP ws) (!ws.isEmpty) f)
  hs : H + 1 < S
  sh : W.heap[S]? = some (shB s)
  ha : S < A
  ar : W.heap[A]? = some (rdB xs)
  no : ∀ p ∈ ws, (32 : UInt8) ∉ p
  len : (joinP ws).length ≤ 281474976710656
  few : ws.length ≤ 8796093022000
theorem EvS.on {w W W' : World} {H S A : Nat} {s : TSh} {xs : List Int} {ws : List (List UInt8)} {f : Bool} (h : EvS w W H S A s xs ws f) (hb : Below W.heap.size W W') : EvS w W' H S A s xs ws f :=
  ⟨h.bel.trans (hb.mono (by have := heap_lt h.re; omega)), below_heap hb h.re, below_heap hb h.ln, h.hs, below_heap hb h.sh, h.ha, below_heap hb h.ar, h.no, h.len, h.few⟩
theorem EvS.lft {w W : World} {H S A : Nat} {s : TSh} {xs : List Int} {ws : List (List UInt8)} {f : Bool} (h : EvS w W H S A s xs ws f) : Lft W (H + 1) ws f := ⟨⟨_, h.ln⟩, h.no, h.len⟩
theorem EvS.next {w W W' : World} {H S A : Nat} {s : TSh} {xs : List Int} {ws : List (List UInt8)} {f f' : Bool} (h : EvS w W H S A s xs ws f) (hk : Kx (fun x => x = H + 1) W W') (hl : W'.heap[H + 1]? = some (lnB (joinP ws.tail) (!ws.tail.isEmpty) f')) : EvS w W' H S A s xs ws.tail f' := by
  have h1 := h.hs; have h2 := h.ha
  have hz := heap_lt h.re
  exact ⟨h.bel.trans (hk.below (by omega) (fun x hx => by omega)), hk.at_ h.re (by omega), hl, h1, hk.at_ h.sh (by omega), h2, hk.at_ h.ar (by omega), fun p hp => h.no p (List.mem_of_mem_tail hp), Nat.le_trans (joinP_tail ws) h.len, by have := h.few; rw [List.length_tail]; omega⟩
theorem EvS.set {w W : World} {H S A : Nat} {s : TSh} {xs : List Int} {ws : List (List UInt8)} {f : Bool} (h : EvS w W H S A s xs ws f) (k : Nat) (n : Int) : EvS w (W.setCell ⟨A, k, none⟩ (.int .i64 n)) H S A s (xs.set k n) ws f := by
  have h1 := h.hs; have h2 := h.ha
  have hz := heap_lt h.re
  have hk : Kx (fun x => x = A) W (W.setCell ⟨A, k, none⟩ (.int .i64 n)) := Kx.set W k _ rfl
  refine ⟨h.bel.trans (hk.below (by omega) (fun x hx => by omega)), hk.at_ h.re (by omega), hk.at_ h.ln (by omega), h1, hk.at_ h.sh (by omega), h2, ?_, h.no, h.len, h.few⟩
  have e := Lib.heap_setCell_same (i := k) h.ar (.int .i64 n)
  rw [e]
  congr 2
  simp [List.map_set]
/-- what the places tell so far -/
def Pls (has : Nat) (ws : List (List UInt8)) (k : Nat) (xs : List Int) (ws' : List (List UInt8)) (f : Bool) : Prop :=
  xs.length = 5 ∧ (∀ j, k ≤ j → j < 5 → xs.getD j 0 = 0) ∧ if f then rdPl has 0 5 ws = none else rdPl has 0 5 ws = (rdPl has k (5 - k) ws').map fun y => (xs.take k ++ y.1, y.2)
theorem Pls.start (has : Nat) (ws : List (List UInt8)) : Pls has ws 0 [0, 0, 0, 0, 0] ws false := by
  refine ⟨rfl, fun j _ hj => ?_, ?_⟩
  · match j, hj with
    | 0, _ => rfl
    | 1, _ => rfl
    | 2, _ => rfl
    | 3, _ => rfl
    | 4, _ => rfl
  · simp only [Bool.false_eq_true, if_false, List.take_zero, List.nil_append]
    cases rdPl has 0 (5 - 0) ws with
    | none => rfl
    | some y => rfl
theorem take_getD {xs : List Int} {k : Nat} (h : k < xs.length) : xs.take (k + 1) = xs.take k ++ [xs.getD k 0] := by
  rw [List.take_succ_eq_append_getElem h, List.getD_eq_getElem?_getD, List.getElem?_eq_getElem h]
  rfl
theorem Pls.skip {has : Nat} {ws : List (List UInt8)} {k : Nat} {xs : List Int} {ws' : List (List UInt8)} {f : Bool} (h : Pls has ws k xs ws' f) (hk : k < 5) (hb : hasB has k = false) : Pls has ws (k + 1) xs ws' f := by
  obtain ⟨h1, h2, h3⟩ := h
  refine ⟨h1, fun j a b => h2 j (by omega) b, ?_⟩
  cases f with
  | true => exact h3
  | false =>
    simp only [Bool.false_eq_true, if_false] at h3 ⊢
    rw [h3]
    have e : 5 - k = (5 - (k + 1)) + 1 := by omega
    rw [e, rdPl_succ has k, hb]
    simp only [Bool.false_eq_true, if_false]
    rw [take_getD (by omega), h2 k (Nat.le_refl _) hk]
    cases rdPl has (k + 1) (5 - (k + 1)) ws' with
    | none => rfl
    | some y => simp
theorem Pls.num {has : Nat} {ws : List (List UInt8)} {k : Nat} {xs : List Int} {ws' : List (List UInt8)} {f : Bool} {n : Int} (h : Pls has ws k xs ws' f) (hk : k < 5) (hb : hasB has k = true) (hn : ∀ m, numOf (ws'.headD []) = some m → n = m) : Pls has ws (k + 1) (xs.set k n) ws'.tail (if (numOf (ws'.headD [])).isSome then f else true) := by
  obtain ⟨h1, h2, h3⟩ := h
  refine ⟨by rw [List.length_set]; exact h1, fun j a b => ?_, ?_⟩
  · rw [List.getD_eq_getElem?_getD, List.getElem?_set_ne (by omega), ← List.getD_eq_getElem?_getD]
    exact h2 j (by omega) b
  · have e : 5 - k = (5 - (k + 1)) + 1 := by omega
    cases f with
    | true =>
      have h4 : rdPl has 0 5 ws = none := h3
      cases numOf (ws'.headD []) with
      | none => exact h4
      | some m => exact h4
    | false =>
      simp only [Bool.false_eq_true, if_false] at h3
      rw [e, rdPl_succ has k, hb, if_pos rfl, takeN_eq] at h3
      cases hq : numOf (ws'.headD []) with
      | none =>
        rw [hq] at h3
        exact h3
      | some m =>
        rw [hq] at h3
        have := hn m hq
        subst this
        simp only [Option.isSome_some, if_true, Bool.false_eq_true, if_false]
        rw [h3]
        simp only [Option.map_some, Option.bind_some]
        have e3 : (xs.set k n).take (k + 1) = xs.take k ++ [n] := by
          rw [take_getD (by rw [List.length_set]; omega), List.take_set_of_le (Nat.le_refl _)]
          congr 2
          simp [List.getD, show k < xs.length by omega]
        rw [e3]
        cases rdPl has (k + 1) (5 - (k + 1)) ws'.tail with
        | none => rfl
        | some y => simp
theorem Pls.done {has : Nat} {ws : List (List UInt8)} {xs : List Int} {ws' : List (List UInt8)} {f : Bool} (h : Pls has ws 5 xs ws' f) : xs.length = 5 ∧ if f then rdPl has 0 5 ws = none else rdPl has 0 5 ws = some (xs, ws') := by
  obtain ⟨h1, _, h3⟩ := h
  refine ⟨h1, ?_⟩
  cases f with
  | true => exact h3
  | false =>
    simp only [Bool.false_eq_true, if_false] at h3 ⊢
    rw [h3]
    simp only [Nat.sub_self, rdPl, Option.map_some, List.append_nil]
    rw [List.take_of_length_le (by omega)]
/-- what eventOf leaves -/
def EvP (w : World) (res : Option Ev) (e : Ending) (w' : World) : Prop :=
  Bx (Below w.heap.size w w') ∧ match res with
  | none => ∃ (ev : Ev) (a : Option Addr) (n c : Nat), e = .returned (.tuple #[evW8 ev (.slice a n c), .bool false])
  | some ev => ∃ (a : Option Addr) (c : Nat), e = .returned (.tuple #[evW8 ev (.slice a ev.list.length c), .bool true]) ∧ Bx (NRo w' w.heap.size (.slice a ev.list.length c) ev.list)
/-- all that eventOf has, behind the last word -/
structure Fin (w W : World) (H E : Nat) (e : Ev) (a : Option Addr) (n c : Nat) (t : List UInt8) (m f : Bool) : Prop where
  bel : Below H w W
  re : W.heap[H]? = some (evB noEv (.slice none 0 0))
  ln : W.heap[H + 1]? = some (lnB t m f)
  gt : H + 1 < E
  ev : W.heap[E]? = some (evB e (.slice a n c))
  nl : n = e.list.length
  row : NRo W H (.slice a n c) e.list
theorem NRo.iv {w : World} {B : Nat} {a : Option Addr} {n c : Nat} {ks : List Int} (h : NRo w B (.slice a n c) ks) (hn : n = ks.length) : IntsV w w.heap.size a c ks := by
  have h' : w.ownsRow B 3 1 (.slice a n c) ks.length (ks.map (Value.int .i64)) := h
  rcases h'.2 with ⟨e, h0⟩ | ⟨g, cap, cur, e, hB, hg, q1, q2, q3, q4⟩
  · have : ks = [] := List.eq_nil_of_length_eq_zero h0
    subst this
    exact intsV_nil _ _ _ _
  · simp only [Value.slice.injEq] at e
    obtain ⟨rfl, rfl, rfl⟩ := e
    refine ⟨by omega, by unfold maxLen; unfold maxLen at q2; omega, fun h0 => ⟨g, 0, rfl, heap_lt hg, fun i hi => ?_⟩⟩
    rw [Nat.zero_add]
    refine cell_blk hg ?_
    have e := congrArg (·[i]?) q4
    simp only [List.getElem?_map] at e
    rw [List.getElem?_take_of_lt (by omega), Array.getElem?_toList, List.getElem?_eq_getElem hi] at e
    simpa using e
theorem Fin.on {w W W' : World} {H E : Nat} {e : Ev} {a : Option Addr} {n c : Nat} {t : List UInt8} {m f : Bool} (h : Fin w W H E e a n c t m f) (hb : Below W.heap.size W W') : Fin w W' H E e a n c t m f :=
  ⟨h.bel.trans (hb.mono (by have := heap_lt h.re; omega)), below_heap hb h.re, below_heap hb h.ln, h.gt, below_heap hb h.ev, h.nl, h.row.below hb⟩
/-- an event stored over another one -/
abbrev st8 (W : World) (H : Nat) (e : Ev) (v : Value) : World := (((((((W.setCell ⟨H, 0, none⟩ (.int .i64 e.kind)).setCell ⟨H, 1, none⟩ (.int .i64 e.p)).setCell ⟨H, 2, none⟩ (.int .i64 e.i)).setCell ⟨H, 3, none⟩ (.int .i64 e.q)).setCell ⟨H, 4, none⟩ (.int .i64 e.j)).setCell ⟨H, 5, none⟩ (.int .i64 e.c)).setCell ⟨H, 6, none⟩ (.int .i64 e.num)).setCell ⟨H, 7, none⟩ v
theorem st8_kx (W : World) (H : Nat) (e : Ev) (v : Value) : Kx (fun x => x = H) W (st8 W H e v) := by
  unfold st8
  refine Kx.trans ?_ (Kx.set (P := fun x => x = H) _ 7 _ rfl) fun _ _ h => h
  refine Kx.trans ?_ (Kx.set (P := fun x => x = H) _ 6 _ rfl) fun _ _ h => h
  refine Kx.trans ?_ (Kx.set (P := fun x => x = H) _ 5 _ rfl) fun _ _ h => h
  refine Kx.trans ?_ (Kx.set (P := fun x => x = H) _ 4 _ rfl) fun _ _ h => h
  refine Kx.trans ?_ (Kx.set (P := fun x => x = H) _ 3 _ rfl) fun _ _ h => h
  refine Kx.trans ?_ (Kx.set (P := fun x => x = H) _ 2 _ rfl) fun _ _ h => h
  refine Kx.trans ?_ (Kx.set (P := fun x => x = H) _ 1 _ rfl) fun _ _ h => h
  exact Kx.set (P := fun x => x = H) _ 0 _ rfl
theorem st8_blk {W : World} {H : Nat} {e0 : Ev} {v0 : Value} (h : W.heap[H]? = some (evB e0 v0)) (e : Ev) (v : Value) : (st8 W H e v).heap[H]? = some (evB e v) := by
  have g0 := Lib.heap_setCell_same (i := 0) h (.int .i64 e.kind)
  have g1 := Lib.heap_setCell_same (i := 1) g0 (.int .i64 e.p)
  have g2 := Lib.heap_setCell_same (i := 2) g1 (.int .i64 e.i)
  have g3 := Lib.heap_setCell_same (i := 3) g2 (.int .i64 e.q)
  have g4 := Lib.heap_setCell_same (i := 4) g3 (.int .i64 e.j)
  have g5 := Lib.heap_setCell_same (i := 5) g4 (.int .i64 e.c)
  have g6 := Lib.heap_setCell_same (i := 6) g5 (.int .i64 e.num)
  have g7 := Lib.heap_setCell_same (i := 7) g6 v
  simpa using g7
theorem evB_frz {w : World} {b : Nat} {e : Ev} {v : Value} (h : w.heap[b]? = some (evB e v)) : ∀ i, w.frozen? ⟨b, i, none⟩ = false := fun i => frz_blk h
/-- the end of eventOf -/
theorem Fin.fin {w W : World} {H E : Nat} {e : Ev} {a : Option Addr} {n c : Nat} {t : List UInt8} {m f : Bool} (h : Fin w W H E e a n c t m f) (hH : w.heap.size = H) (res : Option Ev) (b : Bool) (hb : b = (!m && !f && evOk e)) (hr : res = if b then some e else none) :
    EvP w res (.returned (.tuple #[evW8 e (.slice a n c), .bool b])) (st8 W H e (.slice a n c)) := by
  have hk := st8_kx W H e (.slice a n c)
  have hz := heap_lt h.re
  have hnl := h.nl
  refine ⟨⟨by rw [hH]; exact h.bel.trans (hk.below (by omega) (fun x hx => by omega))⟩, ?_⟩
  rw [hr]
  cases b with
  | true =>
    simp only [if_true]
    subst hnl
    refine ⟨a, c, rfl, ⟨?_⟩⟩
    rw [hH]
    have hrow := h.row
    refine ⟨hrow.1, ?_⟩
    rcases hrow.2 with h1 | ⟨g, cap, cur, h1, h2, h3, h4⟩
    · exact .inl h1
    · refine .inr ⟨g, cap, cur, h1, h2, ?_, h4⟩
      refine hk.at_ h3 (fun e => ?_)
      rw [e, h.re] at h3
      injection h3 with h3
      injection h3 with _ h3
      exact absurd h3 (by decide)
  | false => exact ⟨e, a, n, c, rfl⟩
end Go.Proofs.YtecpknpcjoiliaaDoor
