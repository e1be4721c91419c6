import Derived.Test.YtecpknpcjoiliaaDoorCJX
namespace Go.Proofs.YtecpknpcjoiliaaDoor
open Go.RowKit Go.Shelf
set_option linter.unusedVariables false
set_option linter.unusedSimpArgs false

/-- a line whose words are taken off -/
abbrev lnB (t : List UInt8) (m wr : Bool) : Obj := .cells #[strV t, .bool m, .bool wr] 69 (0, 0)
theorem lnB_cells {w : World} {L : Nat} {t : List UInt8} {m wr : Bool} (h : w.heap[L]? = some (lnB t m wr)) : w.cell? ⟨L, 0, none⟩ = some (strV t) ∧ w.cell? ⟨L, 1, none⟩ = some (.bool m) ∧ w.cell? ⟨L, 2, none⟩ = some (.bool wr) ∧ w.frozen? ⟨L, 0, none⟩ = false ∧ w.frozen? ⟨L, 1, none⟩ = false ∧ w.frozen? ⟨L, 2, none⟩ = false :=
  ⟨cell_blk h rfl, cell_blk h rfl, cell_blk h rfl, frz_blk h, frz_blk h, frz_blk h⟩
/-- what is left of a line -/
structure Lft (w : World) (L : Nat) (ws : List (List UInt8)) (wr : Bool) : Prop where
  blk : ∃ m, w.heap[L]? = some (lnB (joinP ws) m wr)
  no : ∀ p ∈ ws, (32 : UInt8) ∉ p
  len : (joinP ws).length ≤ 281474976710656
theorem joinP_tail (ws : List (List UInt8)) : (joinP ws.tail).length ≤ (joinP ws).length := by
  match ws with
  | [] => simp [joinP]
  | [p] => simp [joinP]
  | p :: q :: r => rw [joinP_two]; simp; omega
theorem joinP_head (ws : List (List UInt8)) : (ws.headD []).length ≤ (joinP ws).length := by
  match ws with
  | [] => simp [joinP]
  | p :: r => simp [joinP]
theorem Lft.next {w w' : World} {L : Nat} {ws : List (List UInt8)} {wr wr' m : Bool} (h : Lft w L ws wr) (hb : w'.heap[L]? = some (lnB (joinP ws.tail) m wr')) : Lft w' L ws.tail wr' :=
  ⟨⟨m, hb⟩, fun p hp => h.no p (List.mem_of_mem_tail hp), Nat.le_trans (joinP_tail ws) h.len⟩
theorem cut_word (w : World) (ws : List (List UInt8)) (hno : ∀ p ∈ ws, (32 : UInt8) ∉ p) (hl : (joinP ws).length ≤ 281474976710656) :
    Calls Tryd.prog 55 #[strV (joinP ws), strV [32]] w fun e w' => e = .returned (.tuple #[strV (ws.headD []), strV (joinP ws.tail), .bool (!ws.tail.isEmpty)]) ∧ Below w.heap.size w w' := by
  match ws, hno, hl with
  | [], hno, _ => exact Cut_any [] [] _ false 32 w (cut0_miss [] 32 w (by simp))
  | [p], hno, _ =>
    have e : joinP [p] = p := by simp [joinP]
    rw [e]
    exact Cut_any p p _ false 32 w (cut0_miss p 32 w (hno p List.mem_cons_self))
  | p :: q :: r, hno, hl =>
    rw [joinP_two] at hl ⊢
    exact Cut_any _ p _ true 32 w (cut0_hit p (joinP (q :: r)) 32 w (hno p List.mem_cons_self) (by omega))
set_option maxRecDepth 100000 in
set_option maxHeartbeats 2000000 in
theorem word_any (w : World) (L : Nat) (ws : List (List UInt8)) (wr : Bool) (h : Lft w L ws wr) :
    Calls Tryd.prog 46 #[.pointer (some ⟨L, 0, none⟩)] w fun e w' => e = .returned (strV (ws.headD [])) ∧ Bx (Kx (fun x => x = L) w w' ∧ w'.heap[L]? = some (lnB (joinP ws.tail) (!ws.tail.isEmpty) wr)) := by
  obtain ⟨m, hb⟩ := h.blk
  have HC : Bx _ := ⟨cut_word w ws h.no h.len⟩
  obtain ⟨c0, c1, c2, y0, y1, y2⟩ := lnB_cells hb
  have HD : Bx (∀ w1, Below w.heap.size w w1 → w1.heap[L]? = some (lnB (joinP ws) m wr)) := ⟨fun w1 hb1 => below_heap hb1 hb⟩
  have HF : Bx (∀ w1 t b, Below w.heap.size w w1 → Kx (fun x => x = L) w ((w1.setCell ⟨L, 0, none⟩ (strV t)).setCell ⟨L, 1, none⟩ (.bool b)) ∧ ((w1.setCell ⟨L, 0, none⟩ (strV t)).setCell ⟨L, 1, none⟩ (.bool b)).heap[L]? = some (lnB t b wr)) := ⟨fun w1 t b hb1 => by
    refine ⟨((Kx.new hb1).trans (Kx.set (P := fun x => x = L) _ 0 _ rfl) fun _ _ h => h).trans (Kx.set (P := fun x => x = L) _ 1 _ rfl) fun _ _ h => h, ?_⟩
    have e1 := Lib.heap_setCell_same (i := 0) (below_heap hb1 hb) (strV t)
    have e2 := Lib.heap_setCell_same (i := 1) e1 (.bool b)
    simpa using e2⟩
  clear h hb c1 c2 y0 y1 y2
  generalize ws.headD [] = hd at *
  generalize joinP ws.tail = tl at *
  generalize (!ws.tail.isEmpty) = mo at *
  generalize joinP ws = jn at *
  go_enter Tryd.func46, Tryd.ntmps46
  go_wp2_with (go_at_call 55; refine HC.out.mono ?_; rintro e w1 ⟨rfl, hb1⟩; obtain ⟨x0, x1, x2, y0, y1, y2⟩ := lnB_cells (HD.out w1 hb1); have HB1 : Bx _ := ⟨HF.out w1 tl mo hb1⟩; clear hb1)
  go_ret
  exact ⟨rfl, HB1⟩
/-- what number leaves -/
def NumP (w : World) (L : Nat) (ws : List (List UInt8)) (wr : Bool) (e : Ending) (w' : World) : Prop :=
  ∃ n : Int, e = .returned (.int .i64 n) ∧ Bx (Kx (fun x => x = L) w w' ∧ w'.heap[L]? = some (lnB (joinP ws.tail) (!ws.tail.isEmpty) (if (numOf (ws.headD [])).isSome then wr else true)) ∧ ∀ m, numOf (ws.headD []) = some m → n = m)
set_option maxRecDepth 100000 in
set_option maxHeartbeats 2000000 in
theorem number_any (w : World) (L B : Nat) (ws : List (List UInt8)) (wr : Bool) (h : Lft w L ws wr) (hL : LB B w) (hB : B ≤ L) :
    Calls Tryd.prog 47 #[.pointer (some ⟨L, 0, none⟩)] w (NumP w L ws wr) := by
  have hlt := heap_lt h.blk.choose_spec
  obtain ⟨Q, hQ⟩ : ∃ Q, Q = NumP w L ws wr := ⟨_, rfl⟩
  have HQ : Bx (∀ n w', Kx (fun x => x = L) w w' → w'.heap[L]? = some (lnB (joinP ws.tail) (!ws.tail.isEmpty) (if (numOf (ws.headD [])).isSome then wr else true)) → (∀ m, numOf (ws.headD []) = some m → n = m) → Q (.returned (.int .i64 n)) w') := ⟨fun n w' h1 h2 h3 => by rw [hQ]; exact ⟨n, rfl, ⟨h1, h2, h3⟩⟩⟩
  rw [← hQ]
  have HWD : Bx _ := ⟨word_any w L ws wr h⟩
  have HLB : Bx (∀ W, Kx (fun x => x = L) w W → LW W) := ⟨fun W hk => hL W (hk.below (by omega) (fun x hx => by omega))⟩
  have htl : (ws.headD []).length ≤ 281474976710656 := Nat.le_trans (joinP_head ws) h.len
  clear hQ h hL
  generalize ws.headD [] = t at *
  generalize joinP ws.tail = tl at *
  generalize (!ws.tail.isEmpty) = mo at *
  have HKX : Bx (∀ W W2, Kx (fun x => x = L) w W → Below W.heap.size W W2 → Kx (fun x => x = L) w W2) := ⟨fun W W2 h1 h2 => h1.trans (Kx.new (P := fun x => x = L) h2) fun _ _ h => h⟩
  have HST : Bx (∀ W, Kx (fun x => x = L) w W → W.heap[L]? = some (lnB tl mo wr) → Kx (fun x => x = L) w (W.setCell ⟨L, 2, none⟩ (.bool true)) ∧ (W.setCell ⟨L, 2, none⟩ (.bool true)).heap[L]? = some (lnB tl mo true)) := ⟨fun W h1 h2 => by
    refine ⟨h1.trans (Kx.set (P := fun x => x = L) _ 2 _ rfl) fun _ _ h => h, ?_⟩
    have e2 := Lib.heap_setCell_same (i := 2) h2 (.bool true)
    simpa using e2⟩
  by_cases hok : ∃ n, Lib.atoiAll t = .ok n
  · obtain ⟨n, hn⟩ := hok
    have hn64 := atoi_64 hn
    have HA : Bx (∀ W, Calls Tryd.prog 56 #[strV t] W fun e w' => e = .returned (.tuple #[.int .i64 n, .nilIface]) ∧ Below W.heap.size W w') := ⟨fun W => Atoi_yes t W n htl hn⟩
    have HI : Bx (∀ W, LW W → Calls Tryd.prog 43 #[.int .i64 n] W fun e w' => e = .returned (strV (Lib.itoa n)) ∧ Below W.heap.size W w') := ⟨fun W hW => Itoa_any n W hW hn64⟩
    by_cases hit : Lib.itoa n = t
    · have hN : numOf t = some n := by unfold numOf; rw [hn]; simp [hit]
      rw [hN] at HQ
      have hit2 : (Lib.itoa n == t) = true := by simpa using hit
      clear hn hit hN
      generalize Lib.itoa n = it at *
      go_enter Tryd.func47, Tryd.ntmps47
      go_wp2_with (first
        | (go_at_call 46; refine HWD.out.mono ?_; rintro e w1 ⟨rfl, H1⟩)
        | (go_at_call 56; refine (HA.out _).mono ?_; rintro e w2 ⟨rfl, hb2⟩; have HK2 : Bx _ := ⟨HKX.out _ _ H1.out.1 hb2⟩; have HL2 : Bx _ := ⟨below_heap hb2 H1.out.2⟩; clear hb2)
        | (go_at_call 43; refine (HI.out _ (HLB.out _ HK2.out)).mono ?_; rintro e w3 ⟨rfl, hb3⟩; have HK3 : Bx _ := ⟨HKX.out _ _ HK2.out hb3⟩; have HL3 : Bx _ := ⟨below_heap hb3 HL2.out⟩; clear hb3))
      exact HQ.out _ _ HK3.out (by simpa using HL3.out) (fun m hm => by injection hm)
    · have hN : numOf t = none := by unfold numOf; rw [hn]; simp [hit]
      rw [hN] at HQ
      have hit2 : (Lib.itoa n == t) = false := by simpa using hit
      clear hn hN
      generalize Lib.itoa n = it at *
      go_enter Tryd.func47, Tryd.ntmps47
      go_wp2_with (first
        | (go_at_call 46; refine HWD.out.mono ?_; rintro e w1 ⟨rfl, H1⟩)
        | (go_at_call 56; refine (HA.out _).mono ?_; rintro e w2 ⟨rfl, hb2⟩; have HK2 : Bx _ := ⟨HKX.out _ _ H1.out.1 hb2⟩; have HL2 : Bx _ := ⟨below_heap hb2 H1.out.2⟩; clear hb2)
        | (go_at_call 43; refine (HI.out _ (HLB.out _ HK2.out)).mono ?_; rintro e w3 ⟨rfl, hb3⟩; have HK3 : Bx _ := ⟨HST.out _ (HKX.out _ _ HK2.out hb3) (below_heap hb3 HL2.out)⟩; obtain ⟨x0, x1, x2, y0, y1, y2⟩ := lnB_cells (below_heap hb3 HL2.out); clear hb3))
      exact HQ.out _ _ HK3.out.1 (by simpa using HK3.out.2) (fun m hm => by cases hm)
  · have h0 : ∀ n, Lib.atoiAll t ≠ .ok n := fun n h => hok ⟨n, h⟩
    have hN := numOf_no h0
    rw [hN] at HQ
    have HA : Bx (∀ W, LW W → Calls Tryd.prog 56 #[strV t] W fun e w' => ∃ n ty p, e = .returned (.tuple #[.int .i64 n, .iface ty p]) ∧ Below W.heap.size W w') := ⟨fun W hW => Atoi_no t W hW htl h0⟩
    clear hok h0 hN
    go_enter Tryd.func47, Tryd.ntmps47
    go_wp2_with (first
      | (go_at_call 46; refine HWD.out.mono ?_; rintro e w1 ⟨rfl, H1⟩)
      | (go_at_call 56; refine (HA.out _ (HLB.out _ H1.out.1)).mono ?_; rintro e w2 ⟨n, ty, p, rfl, hb2⟩; have HK2 : Bx _ := ⟨HST.out _ (HKX.out _ _ H1.out.1 hb2) (below_heap hb2 H1.out.2)⟩; obtain ⟨x0, x1, x2, y0, y1, y2⟩ := lnB_cells (below_heap hb2 H1.out.2); clear hb2))
    exact HQ.out _ _ HK2.out.1 (by simpa using HK2.out.2) (fun m hm => by cases hm)
end Go.Proofs.YtecpknpcjoiliaaDoor
