import Derived.Test.YtecpknpcjoiliaaDoorCJX
namespace Go.Proofs.YtecpknpcjoiliaaDoor
open Go.RowKit Go.Shelf
set_option linter.unusedVariables false
set_option linter.unusedSimpArgs false

/-- a byte behind a text of one's own -/
theorem push_byte (w : World) (B : Nat) (v : Value) (bs : List UInt8) (ho : BO w B v bs) (c : UInt8) (x : Int) (hx : x = c.toNat) (hl : bs.length + 1 ≤ 140737488355328) (hB : B ≤ w.heap.size) :
    ∃ v' w', (∀ ty, (Builtin.append_ #[55, 55] ty #[v, .slice (some ⟨w.heap.size, 0, none⟩) 1 1]).run Tryd.prog (w.alloc (.cells #[.int .u8 x] 5)) = .ok v' w') ∧ BO w' B v' (bs ++ [c]) ∧ KV B v v' w w' := by
  subst hx
  obtain ⟨i0, hi, hz0, hz1, hz2⟩ := info_parts infoU8
  obtain ⟨g, cp, W3, r1, r2, r3, r4, r5⟩ := run_append_lies (P := Tryd.prog) (w.alloc (.cells #[.int .u8 c.toNat] 5)) 55 55 B 5 i0 (.int .u8 0) 1 1 Tryd.underlying55 hi hz0 hz1 hz2 rfl (by decide) v bs.length (Lib.byteCells bs) (ho.alloc _).own ⟨w.heap.size, 0, none⟩ 1 1 [.int .u8 c.toNat] rfl (u8_news _ _ rfl _) (u8_one _) (by decide) (by unfold maxLen; omega) (by omega) (by simp; omega) _ rfl
  refine ⟨_, W3, fun ty => r1, (ho.push (KU.refl B w) hB r3 r2).1, (KV.new hB (below1 w _)).trans (KV.grown (by simp; omega) (ho.alloc _) r3 fun y hy => ?_)⟩
  simp only [Value.ownBlock, Option.some.injEq] at hy
  rcases r4 with r4 | r4
  · left; rw [r4, hy]
  · right; omega
/-- words joined by blanks -/
def joinA : List (List UInt8) → List UInt8
  | [] => []
  | w :: r => joinW w r
theorem joinA_snoc (ws : List (List UInt8)) (x : List UInt8) (h : ws ≠ []) : joinA (ws ++ [x]) = joinA ws ++ [32] ++ x := by
  match ws, h with
  | w :: r, _ => simp [joinA, joinW]
/-- words in a block of their own kind -/
def WdV (w : World) (g : Nat) (ws : List (List UInt8)) : Prop := ∃ cs fz, w.heap[g]? = some (.cells cs 9 fz) ∧ ∀ j (h : j < ws.length), cs[j]? = some (strV ws[j])
theorem WdV.on {B g : Nat} {w w' : World} {ws : List (List UInt8)} (h : WdV w g ws) (hk : KU B w w') : WdV w' g ws := by
  obtain ⟨cs, fz, h1, h2⟩ := h
  exact ⟨cs, fz, hk.block h1 (fun c f e => by injection e with _ e; exact absurd e (by decide)), h2⟩
theorem WdV.cell {g : Nat} {w : World} {ws : List (List UInt8)} (h : WdV w g ws) {j : Nat} (hj : j < ws.length) : w.cell? ⟨g, j, none⟩ = some (strV ws[j]) := by
  obtain ⟨cs, fz, h1, h2⟩ := h
  exact cell_blk h1 (h2 j hj)
theorem SRo.wd {w : World} {B : Nat} {v : Value} {ws : List (List UInt8)} (h : SRo w B v ws) (h0 : 0 < ws.length) : ∃ g cap, v = .slice (some ⟨g, 0, none⟩) ws.length cap ∧ WdV w g ws := by
  have h' : w.ownsRow B 9 1 v ws.length (ws.map strV) := h
  rcases h'.2 with ⟨rfl, hn⟩ | ⟨g, cap, cur, rfl, hB, hg, q1, q2, q3, q4⟩
  · omega
  · refine ⟨g, cap, rfl, cur, _, hg, fun i hi => ?_⟩
    have e := congrArg (·[i]?) q4
    simp only [List.getElem?_map] at e
    rw [List.getElem?_take_of_lt (by omega), Array.getElem?_toList, List.getElem?_eq_getElem hi] at e
    simpa using e
/-- the text under way -/
structure Txt (w0 W : World) (B g : Nat) (v0 vv : Value) (bs : List UInt8) (ws : List (List UInt8)) : Prop where
  bo : BO W B vv bs
  kv : KV B v0 vv w0 W
  wd : WdV W g ws
  sz : B ≤ W.heap.size
theorem Txt.byte {w0 W : World} {B g : Nat} {v0 vv : Value} {bs : List UInt8} {ws : List (List UInt8)} (h : Txt w0 W B g v0 vv bs ws) (c : UInt8) (x : Int) (hx : x = c.toNat) (hl : bs.length + 1 ≤ 140737488355328) :
    ∃ v' w', (∀ ty, (Builtin.append_ #[55, 55] ty #[vv, .slice (some ⟨W.heap.size, 0, none⟩) 1 1]).run Tryd.prog (W.alloc (.cells #[.int .u8 x] 5)) = .ok v' w') ∧ Txt w0 w' B g v0 v' (bs ++ [c]) ws := by
  obtain ⟨v', w', r1, r2, r3⟩ := push_byte W B vv bs h.bo c x hx hl h.sz
  exact ⟨v', w', r1, r2, h.kv.trans r3, h.wd.on r3.ku, Nat.le_trans h.sz r3.ku.size⟩
theorem Txt.str {w0 W : World} {B g : Nat} {v0 vv : Value} {bs : List UInt8} {ws : List (List UInt8)} (h : Txt w0 W B g v0 vv bs ws) (s : List UInt8) (hl : bs.length + s.length ≤ 140737488355328) :
    ∃ v' w', (Builtin.append_ #[55, 9] 55 #[vv, strV s]).run Tryd.prog W = .ok v' w' ∧ Txt w0 w' B g v0 v' (bs ++ s) ws := by
  obtain ⟨v', w', r1, r2, r3⟩ := str_lies W B vv bs h.bo s hl h.sz 55
  exact ⟨v', w', r1, r2, h.kv.trans r3, h.wd.on r3.ku, Nat.le_trans h.sz r3.ku.size⟩
theorem joinA_mid (A : List (List UInt8)) (x : List UInt8) (C : List (List UInt8)) : (joinA A).length + x.length ≤ (joinA (A ++ x :: C)).length := by
  cases A with
  | nil => simp [joinA, joinW]
  | cons y r => simp [joinA, joinW]; omega
theorem joinA_len {ws : List (List UInt8)} {k : Nat} (h : k < ws.length) : (joinA (ws.take k)).length + 1 + ws[k].length ≤ (joinA ws).length + 1 := by
  have e : ws.take k ++ ws[k] :: ws.drop (k + 1) = ws := by rw [← List.drop_eq_getElem_cons h, List.take_append_drop]
  have := joinA_mid (ws.take k) ws[k] (ws.drop (k + 1))
  rw [e] at this
  omega
set_option maxRecDepth 100000 in
set_option maxHeartbeats 4000000 in
theorem layLine_any (w : World) (B g cap : Nat) (v : Value) (bs : List UInt8) (ws : List (List UInt8)) (hB : B ≤ w.heap.size) (ho : BO w B v bs) (hw : WdV w g ws) (hl : bs.length + (joinA ws).length ≤ 140737488355000) (hn : ws.length ≤ 9223372036854775807) :
    Calls Tryd.prog 32 #[v, .slice (some ⟨g, 0, none⟩) ws.length cap] w fun e w' => ∃ v', e = .returned v' ∧ Bx (BO w' B v' (bs ++ joinA ws ++ [10]) ∧ KV B v v' w w') := by
  obtain ⟨Q, hQ⟩ : ∃ Q : Ending → World → Prop, Q = fun e w' => ∃ v', e = .returned v' ∧ Bx (BO w' B v' (bs ++ joinA ws ++ [10]) ∧ KV B v v' w w') := ⟨_, rfl⟩
  rw [← hQ]
  obtain ⟨v0, hv0⟩ : ∃ v0, v0 = v := ⟨v, rfl⟩
  have HQ : Bx (∀ vv W, Txt w W B g v0 vv (bs ++ joinA ws ++ [10]) ws → Q (.returned vv) W) := ⟨fun vv W h => by rw [hQ]; exact ⟨vv, rfl, ⟨h.bo, by rw [← hv0]; exact h.kv⟩⟩⟩
  have HS : Bx (Txt w w B g v0 v bs ws) := ⟨⟨ho, by rw [hv0]; exact KV.refl _ _ _, hw, hB⟩⟩
  clear hQ ho hw
  go_enter Tryd.func32, Tryd.ntmps32
  go_wp2
  go_loopw [9, 0] (fun x y wr => ∃ (k : Nat) (vv : Value), k ≤ ws.length ∧ x = .int .i64 k ∧ vv = y ∧ Bx (Txt w wr B g v0 vv (bs ++ joinA (ws.take k)) ws)) (fun x _ _ => ws.length - (intOf x).toNat)
  case atStart => exact ⟨0, _, Nat.zero_le _, rfl, rfl, ⟨by rw [List.take_zero]; show Txt w w B g v0 v (bs ++ []) ws; rw [List.append_nil]; exact HS.out⟩⟩
  case round =>
    obtain ⟨k, vv, hk, rfl, rfl, HI⟩ := hrel
    clear HS hv0
    by_cases hlt : k < ws.length
    · have c := HI.out.wd.cell hlt
      have hjl := joinA_len hlt
      have hts : ws.take (k + 1) = ws.take k ++ [ws[k]] := List.take_succ_eq_append_getElem hlt
      have hpl : (bs ++ joinA (ws.take k)).length + 1 + ws[k].length ≤ 140737488355328 := by rw [List.length_append]; omega
      by_cases h0 : k = 0
      · subst h0
        obtain ⟨v6, W6, r6, h6⟩ := HI.out.str ws[0] (by omega)
        have HN : Bx (Txt w W6 B g v0 v6 (bs ++ joinA (ws.take (0 + 1))) ws) := ⟨by
          have e : bs ++ joinA (ws.take (0 + 1)) = bs ++ joinA (ws.take 0) ++ ws[0] := by rw [hts]; simp [joinA, joinW]
          rw [e]; exact h6⟩
        clear HI h6 hts hjl hpl
        generalize ws[0] = x at *
        go_wp2_with (at_builtin; refine wpList_str rfl (.tmp 19) (.tmp 20) 55 9 rfl rfl rfl r6 ?_)
        go_roundw
        case rel => exact ⟨0 + 1, v6, hlt, by go_num, rfl, HN⟩
        case measure => simp [intOf]; omega
      · obtain ⟨v5, W5, r5, h5⟩ := HI.out.byte 32 32 rfl (by omega)
        obtain ⟨v6, W6, r6, h6⟩ := h5.str ws[k] (by rw [List.length_append]; simp only [List.length_cons, List.length_nil]; omega)
        have HN : Bx (Txt w W6 B g v0 v6 (bs ++ joinA (ws.take (k + 1))) ws) := ⟨by
          have e : bs ++ joinA (ws.take (k + 1)) = bs ++ joinA (ws.take k) ++ [32] ++ ws[k] := by
            rw [hts, joinA_snoc _ _ (fun h => by have := congrArg List.length h; rw [List.length_take, List.length_nil] at this; omega)]
            simp
          rw [e]; exact h6⟩
        have hk0 : (0 : Int) < (k : Int) := by omega
        clear HI h5 h6 hts hjl hpl
        generalize ws[k] = x at *
        go_wp2_with (first
          | (at_builtin; refine wpList_appI rfl (.tmp 16) (.tmp 17) 55 rfl rfl rfl r5 ?_)
          | (at_builtin; refine wpList_str rfl (.tmp 19) (.tmp 20) 55 9 rfl rfl rfl r6 ?_))
        go_roundw
        case rel => exact ⟨k + 1, v6, hlt, by go_num, rfl, HN⟩
        case measure => simp [intOf]; omega
    · have hke : k = ws.length := by omega
      subst hke
      have HF := HI.out
      rw [List.take_of_length_le (Nat.le_refl _)] at HF
      obtain ⟨v5, W5, r5, h5⟩ := HF.byte 10 10 rfl (by rw [List.length_append]; omega)
      have HN : Bx _ := ⟨HQ.out _ _ h5⟩
      clear HI HF h5
      go_wp2_with (at_builtin; refine wpList_appI rfl (.tmp 23) (.tmp 24) 55 rfl rfl rfl r5 ?_)
      exact HN.out
end Go.Proofs.YtecpknpcjoiliaaDoor
