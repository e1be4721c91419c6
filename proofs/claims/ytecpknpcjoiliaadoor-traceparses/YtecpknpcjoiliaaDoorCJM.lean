import Derived.Test.YtecpknpcjoiliaaDoorCJX
import Derived.Deep.LoopGhost
namespace Go.Proofs.YtecpknpcjoiliaaDoor
open Go.RowKit Go.Shelf
set_option linter.unusedVariables false
set_option linter.unusedSimpArgs false

/-- a line whose words are taken off -/
abbrev lnB (t : List UInt8) (m wr : Bool) : Obj := .cells #[strV t, .bool m, .bool wr] 69 (0, 0)
theorem lnB_cells {w : World} {L : Nat} {t : List UInt8} {m wr : Bool} (h : w.heap[L]? = some (lnB t m wr)) : w.cell? ⟨L, 0, none⟩ = some (strV t) ∧ w.cell? ⟨L, 1, none⟩ = some (.bool m) ∧ w.cell? ⟨L, 2, none⟩ = some (.bool wr) ∧ w.frozen? ⟨L, 0, none⟩ = false ∧ w.frozen? ⟨L, 1, none⟩ = false ∧ w.frozen? ⟨L, 2, none⟩ = false :=
  ⟨cell_blk h rfl, cell_blk h rfl, cell_blk h rfl, frz_blk h, frz_blk h, frz_blk h⟩
/-- what is left of a line -/
structure Lft (w : World) (L : Nat) (ws : List (List UInt8)) (wr : Bool) : Prop where
  blk : ∃ m, w.heap[L]? = some (lnB (joinP ws) m wr)
  no : ∀ p ∈ ws, (32 : UInt8) ∉ p
  len : (joinP ws).length ≤ 281474976710656
theorem joinP_tail (ws : List (List UInt8)) : (joinP ws.tail).length ≤ (joinP ws).length := by
  match ws with
  | [] => simp [joinP]
  | [p] => simp [joinP]
  | p :: q :: r => rw [joinP_two]; simp; omega
theorem joinP_head (ws : List (List UInt8)) : (ws.headD []).length ≤ (joinP ws).length := by
  match ws with
  | [] => simp [joinP]
  | p :: r => simp [joinP]
theorem Lft.next {w w' : World} {L : Nat} {ws : List (List UInt8)} {wr wr' m : Bool} (h : Lft w L ws wr) (hb : w'.heap[L]? = some (lnB (joinP ws.tail) m wr')) : Lft w' L ws.tail wr' :=
  ⟨⟨m, hb⟩, fun p hp => h.no p (List.mem_of_mem_tail hp), Nat.le_trans (joinP_tail ws) h.len⟩
theorem cut_word (w : World) (ws : List (List UInt8)) (hno : ∀ p ∈ ws, (32 : UInt8) ∉ p) (hl : (joinP ws).length ≤ 281474976710656) :
    Calls Tryd.prog 55 #[strV (joinP ws), strV [32]] w fun e w' => e = .returned (.tuple #[strV (ws.headD []), strV (joinP ws.tail), .bool (!ws.tail.isEmpty)]) ∧ Below w.heap.size w w' := by
  match ws, hno, hl with
  | [], hno, _ => exact Cut_any [] [] _ false 32 w (cut0_miss [] 32 w (by simp))
  | [p], hno, _ =>
    have e : joinP [p] = p := by simp [joinP]
    rw [e]
    exact Cut_any p p _ false 32 w (cut0_miss p 32 w (hno p List.mem_cons_self))
  | p :: q :: r, hno, hl =>
    rw [joinP_two] at hl ⊢
    exact Cut_any _ p _ true 32 w (cut0_hit p (joinP (q :: r)) 32 w (hno p List.mem_cons_self) (by omega))
set_option maxRecDepth 100000 in
set_option maxHeartbeats 2000000 in
theorem word_any (w : World) (L : Nat) (ws : List (List UInt8)) (wr : Bool) (h : Lft w L ws wr) :
    Calls Tryd.prog 46 #[.pointer (some ⟨L, 0, none⟩)] w fun e w' => e = .returned (strV (ws.headD [])) ∧ Bx (Kx (fun x => x = L) w w' ∧ w'.heap[L]? = some (lnB (joinP ws.tail) (!ws.tail.isEmpty) wr)) := by
  obtain ⟨m, hb⟩ := h.blk
  have HC : Bx _ := ⟨cut_word w ws h.no h.len⟩
  obtain ⟨c0, c1, c2, y0, y1, y2⟩ := lnB_cells hb
  have HD : Bx (∀ w1, Below w.heap.size w w1 → w1.heap[L]? = some (lnB (joinP ws) m wr)) := ⟨fun w1 hb1 => below_heap hb1 hb⟩
  have HF : Bx (∀ w1 t b, Below w.heap.size w w1 → Kx (fun x => x = L) w ((w1.setCell ⟨L, 0, none⟩ (strV t)).setCell ⟨L, 1, none⟩ (.bool b)) ∧ ((w1.setCell ⟨L, 0, none⟩ (strV t)).setCell ⟨L, 1, none⟩ (.bool b)).heap[L]? = some (lnB t b wr)) := ⟨fun w1 t b hb1 => by
    refine ⟨((Kx.new hb1).trans (Kx.set (P := fun x => x = L) _ 0 _ rfl) fun _ _ h => h).trans (Kx.set (P := fun x => x = L) _ 1 _ rfl) fun _ _ h => h, ?_⟩
    have e1 := Lib.heap_setCell_same (i := 0) (below_heap hb1 hb) (strV t)
    have e2 := Lib.heap_setCell_same (i := 1) e1 (.bool b)
    simpa using e2⟩
  clear h hb c1 c2 y0 y1 y2
  generalize ws.headD [] = hd at *
  generalize joinP ws.tail = tl at *
  generalize (!ws.tail.isEmpty) = mo at *
  generalize joinP ws = jn at *
  go_enter Tryd.func46, Tryd.ntmps46
  go_wp2_with (go_at_call 55; refine HC.out.mono ?_; rintro e w1 ⟨rfl, hb1⟩; obtain ⟨x0, x1, x2, y0, y1, y2⟩ := lnB_cells (HD.out w1 hb1); have HB1 : Bx _ := ⟨HF.out w1 tl mo hb1⟩; clear hb1)
  go_ret
  exact ⟨rfl, HB1⟩
/-- what number leaves -/
def NumP (w : World) (L : Nat) (ws : List (List UInt8)) (wr : Bool) (e : Ending) (w' : World) : Prop :=
  ∃ n : Int, e = .returned (.int .i64 n) ∧ Bx (Kx (fun x => x = L) w w' ∧ w'.heap[L]? = some (lnB (joinP ws.tail) (!ws.tail.isEmpty) (if (numOf (ws.headD [])).isSome then wr else true)) ∧ ∀ m, numOf (ws.headD []) = some m → n = m)
set_option maxRecDepth 100000 in
set_option maxHeartbeats 2000000 in
theorem number_any (w : World) (L B : Nat) (ws : List (List UInt8)) (wr : Bool) (h : Lft w L ws wr) (hL : LB B w) (hB : B ≤ L) :
    Calls Tryd.prog 47 #[.pointer (some ⟨L, 0, none⟩)] w (NumP w L ws wr) := by
  have hlt := heap_lt h.blk.choose_spec
  obtain ⟨Q, hQ⟩ : ∃ Q, Q = NumP w L ws wr := ⟨_, rfl⟩
  have HQ : Bx (∀ n w', Kx (fun x => x = L) w w' → w'.heap[L]? = some (lnB (joinP ws.tail) (!ws.tail.isEmpty) (if (numOf (ws.headD [])).isSome then wr else true)) → (∀ m, numOf (ws.headD []) = some m → n = m) → Q (.returned (.int .i64 n)) w') := ⟨fun n w' h1 h2 h3 => by rw [hQ]; exact ⟨n, rfl, ⟨h1, h2, h3⟩⟩⟩
  rw [← hQ]
  have HWD : Bx _ := ⟨word_any w L ws wr h⟩
  have HLB : Bx (∀ W, Kx (fun x => x = L) w W → LW W) := ⟨fun W hk => hL W (hk.below (by omega) (fun x hx => by omega))⟩
  have htl : (ws.headD []).length ≤ 281474976710656 := Nat.le_trans (joinP_head ws) h.len
  clear hQ h hL
  generalize ws.headD [] = t at *
  generalize joinP ws.tail = tl at *
  generalize (!ws.tail.isEmpty) = mo at *
  have HKX : Bx (∀ W W2, Kx (fun x => x = L) w W → Below W.heap.size W W2 → Kx (fun x => x = L) w W2) := ⟨fun W W2 h1 h2 => h1.trans (Kx.new (P := fun x => x = L) h2) fun _ _ h => h⟩
  have HST : Bx (∀ W, Kx (fun x => x = L) w W → W.heap[L]? = some (lnB tl mo wr) → Kx (fun x => x = L) w (W.setCell ⟨L, 2, none⟩ (.bool true)) ∧ (W.setCell ⟨L, 2, none⟩ (.bool true)).heap[L]? = some (lnB tl mo true)) := ⟨fun W h1 h2 => by
    refine ⟨h1.trans (Kx.set (P := fun x => x = L) _ 2 _ rfl) fun _ _ h => h, ?_⟩
    have e2 := Lib.heap_setCell_same (i := 2) h2 (.bool true)
    simpa using e2⟩
  by_cases hok : ∃ n, Lib.atoiAll t = .ok n
  · obtain ⟨n, hn⟩ := hok
    have hn64 := atoi_64 hn
    have HA : Bx (∀ W, Calls Tryd.prog 56 #[strV t] W fun e w' => e = .returned (.tuple #[.int .i64 n, .nilIface]) ∧ Below W.heap.size W w') := ⟨fun W => Atoi_yes t W n htl hn⟩
    have HI : Bx (∀ W, LW W → Calls Tryd.prog 43 #[.int .i64 n] W fun e w' => e = .returned (strV (Lib.itoa n)) ∧ Below W.heap.size W w') := ⟨fun W hW => Itoa_any n W hW hn64⟩
    by_cases hit : Lib.itoa n = t
    · have hN : numOf t = some n := by unfold numOf; rw [hn]; simp [hit]
      rw [hN] at HQ
      have hit2 : (Lib.itoa n == t) = true := by simpa using hit
      clear hn hit hN
      generalize Lib.itoa n = it at *
      go_enter Tryd.func47, Tryd.ntmps47
      go_wp2_with (first
        | (go_at_call 46; refine HWD.out.mono ?_; rintro e w1 ⟨rfl, H1⟩)
        | (go_at_call 56; refine (HA.out _).mono ?_; rintro e w2 ⟨rfl, hb2⟩; have HK2 : Bx _ := ⟨HKX.out _ _ H1.out.1 hb2⟩; have HL2 : Bx _ := ⟨below_heap hb2 H1.out.2⟩; clear hb2)
        | (go_at_call 43; refine (HI.out _ (HLB.out _ HK2.out)).mono ?_; rintro e w3 ⟨rfl, hb3⟩; have HK3 : Bx _ := ⟨HKX.out _ _ HK2.out hb3⟩; have HL3 : Bx _ := ⟨below_heap hb3 HL2.out⟩; clear hb3))
      exact HQ.out _ _ HK3.out (by simpa using HL3.out) (fun m hm => by injection hm)
    · have hN : numOf t = none := by unfold numOf; rw [hn]; simp [hit]
      rw [hN] at HQ
      have hit2 : (Lib.itoa n == t) = false := by simpa using hit
      clear hn hN
      generalize Lib.itoa n = it at *
      go_enter Tryd.func47, Tryd.ntmps47
      go_wp2_with (first
        | (go_at_call 46; refine HWD.out.mono ?_; rintro e w1 ⟨rfl, H1⟩)
        | (go_at_call 56; refine (HA.out _).mono ?_; rintro e w2 ⟨rfl, hb2⟩; have HK2 : Bx _ := ⟨HKX.out _ _ H1.out.1 hb2⟩; have HL2 : Bx _ := ⟨below_heap hb2 H1.out.2⟩; clear hb2)
        | (go_at_call 43; refine (HI.out _ (HLB.out _ HK2.out)).mono ?_; rintro e w3 ⟨rfl, hb3⟩; have HK3 : Bx _ := ⟨HST.out _ (HKX.out _ _ HK2.out hb3) (below_heap hb3 HL2.out)⟩; obtain ⟨x0, x1, x2, y0, y1, y2⟩ := lnB_cells (below_heap hb3 HL2.out); clear hb3))
      exact HQ.out _ _ HK3.out.1 (by simpa using HK3.out.2) (fun m hm => by cases hm)
  · have h0 : ∀ n, Lib.atoiAll t ≠ .ok n := fun n h => hok ⟨n, h⟩
    have hN := numOf_no h0
    rw [hN] at HQ
    have HA : Bx (∀ W, LW W → Calls Tryd.prog 56 #[strV t] W fun e w' => ∃ n ty p, e = .returned (.tuple #[.int .i64 n, .iface ty p]) ∧ Below W.heap.size W w') := ⟨fun W hW => Atoi_no t W hW htl h0⟩
    clear hok h0 hN
    go_enter Tryd.func47, Tryd.ntmps47
    go_wp2_with (first
      | (go_at_call 46; refine HWD.out.mono ?_; rintro e w1 ⟨rfl, H1⟩)
      | (go_at_call 56; refine (HA.out _ (HLB.out _ H1.out.1)).mono ?_; rintro e w2 ⟨n, ty, p, rfl, hb2⟩; have HK2 : Bx _ := ⟨HST.out _ (HKX.out _ _ H1.out.1 hb2) (below_heap hb2 H1.out.2)⟩; obtain ⟨x0, x1, x2, y0, y1, y2⟩ := lnB_cells (below_heap hb2 H1.out.2); clear hb2))
    exact HQ.out _ _ HK2.out.1 (by simpa using HK2.out.2) (fun m hm => by cases hm)
end Go.Proofs.YtecpknpcjoiliaaDoor
namespace Go.Proofs.YtecpknpcjoiliaaDoor
open Go.RowKit Go.Shelf
set_option linter.unusedVariables false
set_option linter.unusedSimpArgs false

theorem numsOf_snoc (l : List (List UInt8)) (t : List UInt8) (ks : List Int) (n : Int) (h : numsOf l = some ks) (hn : numOf t = some n) : numsOf (l ++ [t]) = some (ks ++ [n]) := by
  induction l generalizing ks with
  | nil =>
    simp only [numsOf, Option.some.injEq] at h
    subst h
    simp [numsOf, hn]
  | cons a r ih =>
    rw [numsOf] at h
    rw [List.cons_append, numsOf]
    cases ha : numOf a with
    | none => rw [ha] at h; cases h
    | some m =>
      rw [ha] at h
      simp only [Option.map_eq_some_iff] at h
      obtain ⟨k', hk', rfl⟩ := h
      simp only [ih k' hk']
      rfl
theorem numsOf_bad (l r : List (List UInt8)) (t : List UInt8) (hn : numOf t = none) : numsOf (l ++ t :: r) = none := by
  induction l with
  | nil => simp [numsOf, hn]
  | cons a l ih =>
    rw [List.cons_append, numsOf]
    cases ha : numOf a with
    | none => rfl
    | some m => simp only [ih]; rfl
theorem Kx.grown {P : Nat → Prop} {w W W' : World} {v : Value} (h : Kx P w W) (hg : W.grownBy W' v.ownBlock) (hv : ∀ g, v.ownBlock = some g → w.heap.size ≤ g) : Kx P w W' := by
  refine ⟨h.bel.trans ⟨hg.os, hg.tape, hg.output, hg.size, fun x hx => by omega⟩, fun x hx hp => ?_⟩
  rw [hg.block x (Nat.lt_of_lt_of_le hx h.size) (fun e => by have := hv x e.symm; omega)]
  exact h.blk x hx hp
/-- numbers being read -/
structure Rdn (w W : World) (L H : Nat) (ws : List (List UInt8)) (i : Nat) (ks : List Int) (f : Bool) (v : Value) : Prop where
  le : i ≤ ws.length
  kx : Kx (fun x => x = L) w W
  ln : W.heap[L]? = some (lnB (joinP (ws.drop i)) (!(ws.drop i).isEmpty) f)
  row : NRo W H v ks
  len : ks.length = i
  ok : if f then numsOf ws = none else numsOf (ws.take i) = some ks
/-- what numbers leaves -/
def NmsP (w : World) (L : Nat) (ws : List (List UInt8)) (e : Ending) (w' : World) : Prop :=
  ∃ v ks, e = .returned v ∧ Bx (Kx (fun x => x = L) w w' ∧ NRo w' w.heap.size v ks ∧ ((∃ t m, numsOf ws = none ∧ w'.heap[L]? = some (lnB t m true)) ∨ (numsOf ws = some ks ∧ w'.heap[L]? = some (lnB [] false false))))
set_option maxRecDepth 100000 in
set_option maxHeartbeats 4000000 in
theorem numbers_any (w : World) (L B : Nat) (ws : List (List UInt8)) (hb : w.heap[L]? = some (lnB (joinP ws) (!ws.isEmpty) false)) (hno : ∀ p ∈ ws, (32 : UInt8) ∉ p) (hlen : (joinP ws).length ≤ 281474976710656) (hfew : ws.length ≤ 8796093022200) (hL : LB B w) (hB : B ≤ L) :
    Calls Tryd.prog 49 #[.pointer (some ⟨L, 0, none⟩)] w (NmsP w L ws) := by
  have hlt := heap_lt hb
  obtain ⟨H, hH⟩ : ∃ H, w.heap.size = H := ⟨_, rfl⟩
  obtain ⟨Q, hQ⟩ : ∃ Q, Q = NmsP w L ws := ⟨_, rfl⟩
  have HQ : Bx (∀ i ks f v W, Rdn w W L H ws i ks f v → (f = true ∨ i = ws.length) → Q (.returned v) W) := ⟨fun i ks f v W h h2 => by
    rw [hQ]
    refine ⟨v, ks, rfl, ⟨h.kx, by rw [hH]; exact h.row, ?_⟩⟩
    cases f with
    | true => exact .inl ⟨_, _, by simpa using h.ok, h.ln⟩
    | false =>
      rcases h2 with h2 | h2
      · cases h2
      · right
        have h3 := h.ok
        have h4 := h.ln
        rw [h2] at h3 h4
        rw [List.drop_length] at h4
        rw [List.take_length] at h3
        exact ⟨by simpa using h3, h4⟩⟩
  rw [← hQ]
  have HN : Bx (∀ W i ks v, Rdn w W L H ws i ks false v → Calls Tryd.prog 47 #[.pointer (some ⟨L, 0, none⟩)] W (NumP W L (ws.drop i) false)) := ⟨fun W i ks v h => by
    refine number_any W L B (ws.drop i) false ⟨⟨_, h.ln⟩, fun p hp => hno p (List.mem_of_mem_drop hp), ?_⟩ (hL.on (h.kx.below (by omega) (fun x hx => by omega))) hB
    have : ∀ i, (joinP (ws.drop i)).length ≤ (joinP ws).length := fun i => by
      induction i with
      | zero => simp
      | succ i ih =>
        have := joinP_tail (ws.drop i)
        rw [List.tail_drop] at this
        omega
    have := this i
    omega⟩
  have HST : Bx (∀ W W2 i ks v n, Rdn w W L H ws i ks false v → i < ws.length → Kx (fun x => x = L) W W2 → W2.heap[L]? = some (lnB (joinP (ws.drop i).tail) (!(ws.drop i).tail.isEmpty) (if (numOf ((ws.drop i).headD [])).isSome then false else true)) → (∀ m, numOf ((ws.drop i).headD []) = some m → n = m) →
      ∃ v' W3, (∀ ty, (Builtin.append_ #[22, 22] ty #[v, .slice (some ⟨W2.heap.size, 0, none⟩) 1 1]).run Tryd.prog (W2.alloc (.cells #[.int .i64 n] 3)) = .ok v' W3) ∧ ∃ f, Rdn w W3 L H ws (i + 1) (ks ++ [n]) f v') := ⟨fun W W2 i ks v n h hi hk hl hn => by
    have hr2 : NRo W2 H v ks := owns_same h.row fun g hg1 hg2 => hk.blk g hg2 (by omega)
    have hk2 : Kx (fun x => x = L) w W2 := h.kx.trans hk fun _ _ h => h
    have hz := hk2.size
    obtain ⟨v', W3, r1, r2, r3⟩ := app_nro W2 H v ks hr2 n (by omega) (by have := h.len; omega)
    refine ⟨v', W3, r1, (if (numOf ((ws.drop i).headD [])).isSome then false else true), ⟨by omega, hk2.grown r3 (fun g hg => by have := (hr2.lt hg).1; omega), ?_, r2, by simp [h.len], ?_⟩⟩
    · rw [r3.block L (by omega) (fun e => by have := (hr2.lt e.symm).1; omega), hl, List.tail_drop]
    · have hd : ws.drop i = ws[i] :: ws.drop (i + 1) := List.drop_eq_getElem_cons hi
      have hhd : (ws.drop i).headD [] = ws[i] := by rw [hd]; rfl
      have hok := h.ok
      simp only [Bool.false_eq_true, if_false] at hok
      rw [hhd] at hn ⊢
      cases hq : numOf ws[i] with
      | none =>
        simp only [Option.isSome_none, Bool.false_eq_true, if_false, if_true]
        have e : ws = ws.take i ++ ws[i] :: ws.drop (i + 1) := by rw [← hd, List.take_append_drop]
        have e2 := numsOf_bad (ws.take i) (ws.drop (i + 1)) ws[i] hq
        rw [← e] at e2
        exact e2
      | some m =>
        simp only [Option.isSome_some, if_true, Bool.false_eq_true, if_false]
        rw [hn m hq, List.take_succ_eq_append_getElem hi]
        exact numsOf_snoc _ _ _ _ hok hq⟩
  have HS : Bx (Rdn w w L H ws 0 [] false (.slice none 0 0)) := ⟨⟨Nat.zero_le _, Kx.refl _ _, hb, ⟨rfl, .inl ⟨rfl, rfl⟩⟩, rfl, rfl⟩⟩
  clear hb hno hlen hL hQ
  go_enter Tryd.func49, Tryd.ntmps49
  go_wp2
  go_loopg [3] (ws.length + 1) (fun g v wr => ∃ (i : Nat) (ks : List Int) (f : Bool) (vv : Value), g = ws.length + 1 - i ∧ i ≤ ws.length ∧ vv = v ∧ Bx (Rdn w wr L H ws i ks f vv))
  case atStart => exact ⟨0, [], false, _, by simp, by omega, rfl, HS⟩
  case round =>
    obtain ⟨i, ks, f, vv, hg, hi, rfl, HI⟩ := hrel
    clear HS
    obtain ⟨x0, x1, x2, y0, y1, y2⟩ := lnB_cells HI.out.ln
    clear x0 y0 y1 y2
    by_cases hil : i < ws.length
    · have hmo : (!(ws.drop i).isEmpty) = true := by rw [List.drop_eq_getElem_cons hil]; rfl
      rw [hmo] at x1
      cases f with
      | true =>
        have HE : Bx _ := ⟨HQ.out _ _ _ _ _ HI.out (.inl rfl)⟩
        clear HI hmo
        go_wp2
        exact HE.out
      | false =>
        have HC : Bx _ := ⟨HN.out _ _ _ _ HI.out⟩
        clear hmo
        go_wp2_with (first
          | (go_at_call 47; refine HC.out.mono ?_; rintro e w5 ⟨n, rfl, H5⟩; obtain ⟨v6, W6, r6, f6, h6⟩ := HST.out _ w5 _ _ _ n HI.out hil H5.out.1 H5.out.2.1 H5.out.2.2; have HB6 : Bx _ := ⟨h6⟩; clear h6 H5)
          | (at_builtin; refine wpList_appI rfl (.tmp 15) (.tmp 18) 22 rfl rfl rfl r6 ?_))
        go_roundg (ws.length + 1 - (i + 1))
        case measure => omega
        case rel => exact ⟨i + 1, _, f6, v6, rfl, by omega, rfl, HB6⟩
    · have hie : i = ws.length := by omega
      subst hie
      rw [List.drop_length] at x1
      have HE : Bx _ := ⟨HQ.out _ _ _ _ _ HI.out (.inr rfl)⟩
      have x1' : wr.cell? ⟨L, 1, none⟩ = some (.bool false) := x1
      clear x1 HI
      go_wp2
      exact HE.out
end Go.Proofs.YtecpknpcjoiliaaDoor
