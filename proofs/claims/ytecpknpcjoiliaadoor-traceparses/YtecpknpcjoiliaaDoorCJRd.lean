import Derived.Test.YtecpknpcjoiliaaDoorCJRc
import Derived.Test.YtecpknpcjoiliaaDoorCJH
namespace Go.Proofs.YtecpknpcjoiliaaDoor
open Go.RowKit
set_option linter.unusedVariables false
set_option linter.unusedSimpArgs false

/-- the digits ahead of the last one -/
def decHead (v : Nat) : List UInt8 := if v < 10 then [] else Lib.decDigits (v / 10)
theorem dec_split (v : Nat) : Lib.decDigits v = decHead v ++ [UInt8.ofNat (48 + v % 10)] := by
  unfold decHead
  rw [Lib.decDigits]
  split
  · rename_i h
    rw [Nat.mod_eq_of_lt h]
    rfl
  · rfl
theorem dec_step {v : Nat} (h : ¬ v < 10) (s : List UInt8) : decHead v ++ s = decHead (v / 10) ++ (UInt8.ofNat (48 + v / 10 % 10) :: s) := by
  have e : decHead v = Lib.decDigits (v / 10) := by unfold decHead; rw [if_neg h]
  rw [e, dec_split (v / 10)]
  simp
/-- one byte as a text -/
theorem one_str (X : World) (H : Nat) (hH : X.heap.size = H) (d : Nat) (hd : d < 10) : (convert 55 9 (.slice (some ⟨H, 0, none⟩) 1 1)).run Tryd.prog (X.alloc (.cells #[.int .u8 (48 + (d : Int))] 5)) = .ok (strV [UInt8.ofNat (48 + d)]) (X.alloc (.cells #[.int .u8 (48 + (d : Int))] 5)) := by
  subst hH
  have e : (UInt8.ofNat (48 + d)).toNat = 48 + d := UInt8.toNat_ofNat_of_lt' (by omega : 48 + d < 256)
  have h : BO (X.alloc (.cells #[.int .u8 (48 + (d : Int))] 5)) 0 (.slice (some ⟨X.heap.size, 0, none⟩) 1 1) [UInt8.ofNat (48 + d)] := by
    refine ⟨by simp [Lib.byteCells], .inr ⟨X.heap.size, 1, #[.int .u8 (48 + (d : Int))], rfl, Nat.zero_le _, heap_alloc_new X _, Nat.le_refl _, by unfold maxLen; omega, rfl, ?_⟩⟩
    simp [Lib.byteCells, e]
    omega
  exact h.str
theorem cat_str (a b : List UInt8) : Value.string ((⟨a.toArray⟩ : ByteArray) ++ ⟨b.toArray⟩) = strV (a ++ b) := by
  show Value.string _ = Value.string _
  congr 1
set_option maxRecDepth 100000 in
set_option maxHeartbeats 1000000 in
theorem rplain_any (u : Nat) (hu : u < 18446744073709551616) (w : World) : Calls Tryd.prog 54 #[.int .u64 u] w fun e w' => e = .returned (strV (Lib.decDigits u)) ∧ Below w.heap.size w w' := by
  have HS := one_str w w.heap.size rfl (u % 10) (by omega)
  have e1 : (((u % 10 : Nat) : Nat) : Int) = (u : Int) % 10 := by omega
  rw [e1] at HS
  have hb := below1 w (.cells #[.int .u8 (48 + (u : Int) % 10)] 5)
  have HB : Bx _ := ⟨hb⟩
  have HI : Bx (Lib.decDigits u = decHead u ++ [UInt8.ofNat (48 + u % 10)]) := ⟨dec_split u⟩
  generalize [UInt8.ofNat (48 + u % 10)] = s0 at *
  clear hb e1
  go_enter Tryd.func54, Tryd.ntmps54
  go_wp2
  clear HS
  go_loopw [0, 3] (fun x y wr => ∃ v s, v ≤ u ∧ x = .int .u64 ((v : Nat) : Int) ∧ y = strV s ∧ Bx (Lib.decDigits u = decHead v ++ s) ∧ Bx (Below w.heap.size w wr)) (fun x _ _ => (intOf x).toNat)
  case atStart => exact ⟨u, s0, Nat.le_refl _, rfl, rfl, HI, HB⟩
  case round =>
    obtain ⟨v, s, hv, rfl, rfl, HI2, HB2⟩ := hrel
    clear HI HB
    by_cases h : v < 10
    · have g : ¬ (10 : Int) ≤ (v : Int) := by omega
      have hr : Bx (Lib.decDigits u = s) := ⟨by rw [HI2.out]; unfold decHead; rw [if_pos h]; rfl⟩
      go_wp2
      go_ret
      exact ⟨by rw [hr.out]; rfl, HB2.out⟩
    · have g : (10 : Int) ≤ (v : Int) := by omega
      have HI3 : Bx (Lib.decDigits u = decHead (v / 10) ++ ([UInt8.ofNat (48 + v / 10 % 10)] ++ s)) := ⟨by rw [HI2.out, dec_step h]; rfl⟩
      have HS := one_str wr wr.heap.size rfl (v / 10 % 10) (by omega)
      have e1 : (((v / 10 % 10 : Nat) : Nat) : Int) = (v : Int) / 10 % 10 := by omega
      rw [e1] at HS
      have hb := below1 wr (.cells #[.int .u8 (48 + (v : Int) / 10 % 10)] 5)
      have HB3 : Bx (Below w.heap.size w (wr.alloc (.cells #[.int .u8 (48 + (v : Int) / 10 % 10)] 5))) := ⟨HB2.out.trans (hb.mono HB2.out.size)⟩
      generalize [UInt8.ofNat (48 + v / 10 % 10)] = s1 at *
      clear hb e1
      have hcat : ¬ 9223372036854775807 < s1.length + s.length := by
        have h1 := congrArg List.length HI3.out
        rw [List.length_append, List.length_append] at h1
        have h2 := dec_len 20 u (by omega)
        omega
      go_wp2
      go_roundw
      case rel => exact ⟨v / 10, s1 ++ s, by omega, by simp, cat_str s1 s, HI3, HB3⟩
      case measure => simp [intOf]; omega
set_option maxRecDepth 100000 in
set_option maxHeartbeats 1000000 in
theorem rdigits_any (n : Int) (hn : I64 n) (w : World) : Calls Tryd.prog 44 #[.int .i64 n] w fun e w' => e = .returned (strV (Lib.itoa n)) ∧ Below w.heap.size w w' := by
  obtain ⟨h1, h2⟩ := hn
  by_cases h : n < 0
  · obtain ⟨m, rfl⟩ : ∃ m : Nat, n = -(m : Int) := ⟨(-n).toNat, by omega⟩
    have hm1 : 1 ≤ m := by omega
    have HP := rplain_any m (by omega) w
    have hl := dec_len 20 m (by omega)
    rw [Lib.itoa_neg m hm1]
    have hcat : ¬ 9223372036854775807 < 1 + (Lib.decDigits m).length := by omega
    have hw1 : IntKind.i64.wrap (-(m : Int) + 1) = -(m : Int) + 1 := by
      rw [IntKind.wrap_i64]; omega
    have hw2 : IntKind.i64.wrap (-(-(m : Int) + 1)) = (m : Int) - 1 := by
      rw [IntKind.wrap_i64]; omega
    have hlt : -(m : Int) < 0 := by omega
    generalize Lib.decDigits m = s at *
    clear hl
    go_enter Tryd.func44, Tryd.ntmps44
    go_wp2_with (go_at_call 54; refine HP.mono ?_; rintro e w1 ⟨rfl, hb⟩)
    go_ret
    exact ⟨congrArg Ending.returned (cat_str [45] s), hb⟩
  · obtain ⟨m, rfl⟩ : ∃ m : Nat, n = (m : Int) := ⟨n.toNat, by omega⟩
    rw [Lib.itoa_nonneg]
    have HP := rplain_any m (by omega) w
    have hlt : ¬ (m : Int) < 0 := by omega
    go_enter Tryd.func44, Tryd.ntmps44
    go_wp2_with (go_at_call 54; refine HP.mono ?_; rintro e w1 ⟨rfl, hb⟩)
    go_ret
    exact ⟨rfl, hb⟩
end Go.Proofs.YtecpknpcjoiliaaDoor
namespace Go.Proofs.YtecpknpcjoiliaaDoor
open Go.RowKit Go.Shelf
set_option linter.unusedVariables false
set_option linter.unusedSimpArgs false

/-- the words that a letter asks -/
def rW (e : Ev) (c : UInt8) : List (List UInt8) := if c = 76 then e.list.map Lib.itoa else if c = 84 then [trapW.getD (e.num.toNat - 1) []] else if c = 83 then [spentW.getD (e.num.toNat - 1) []] else [Lib.itoa (fldE e c)]
def rWs (e : Ev) (cs : List UInt8) : List (List UInt8) := cs.flatMap (rW e)
theorem rWs_eq {e : Ev} (h : 1 ≤ e.kind ∧ e.kind ≤ 11) : (tsh e.kind).1 :: rWs e (shS e.kind) = lineWs e := by
  unfold lineWs moreW
  rcases kind11 h with h | h | h | h | h | h | h | h | h | h | h <;> rw [h] <;> first | rfl | (show _ :: (List.map Lib.itoa e.list ++ []) = _ :: ([] ++ List.map Lib.itoa e.list); rw [List.append_nil, List.nil_append])
theorem rWs_snoc (e : Ev) (cs : List UInt8) (c : UInt8) : rWs e (cs ++ [c]) = rWs e cs ++ rW e c := by
  unfold rWs; rw [List.flatMap_append]; simp
theorem lineWs_len (e : Ev) : (lineWs e).length ≤ 7 + e.list.length := by
  unfold lineWs moreW tlW
  have h := plW_len (tsh e.kind).2.1 (plL e) 0
  have h5 : (plL e).length = 5 := rfl
  simp only [List.length_cons, List.length_append]
  split
  · simp; omega
  · split
    · simp; omega
    · split
      · simp; omega
      · simp; omega
theorem rWs_len (e : Ev) (cs : List UInt8) (i : Nat) : (rWs e (cs.take i)).length ≤ (rWs e cs).length := by
  have h : rWs e cs = rWs e (cs.take i) ++ rWs e (cs.drop i) := by
    unfold rWs; rw [← List.flatMap_append, List.take_append_drop]
  rw [h, List.length_append]; omega
/-- words under way -/
structure Rws (w W : World) (H : Nat) (e : Ev) (v vv : Value) (ws : List (List UInt8)) : Prop where
  bel : Below H w W
  ev : W.heap[H]? = some (evB e v)
  sr : SRo W (H + 1) vv ws
theorem Rws.sz {w W : World} {H : Nat} {e : Ev} {v vv : Value} {ws : List (List UInt8)} (h : Rws w W H e v vv ws) : H + 1 ≤ W.heap.size := heap_lt h.ev
theorem Rws.on {w W W' : World} {H : Nat} {e : Ev} {v vv : Value} {ws : List (List UInt8)} (h : Rws w W H e v vv ws) (hb : Below W.heap.size W W') : Rws w W' H e v vv ws := ⟨h.bel.trans (hb.mono (by have := h.sz; omega)), below_heap hb h.ev, h.sr.below hb⟩
theorem Rws.app {w W : World} {H : Nat} {e : Ev} {v vv : Value} {ws : List (List UInt8)} (h : Rws w W H e v vv ws) (x : List UInt8) (hl : ws.length ≤ 8796093022200) :
    ∃ v' W3, (∀ ty, (Builtin.append_ #[52, 52] ty #[vv, .slice (some ⟨W.heap.size, 0, none⟩) 1 1]).run Tryd.prog (W.alloc (.cells #[strV x] 9)) = .ok v' W3) ∧ Rws w W3 H e v v' (ws ++ [x]) := by
  obtain ⟨v', W3, r1, r2, r3⟩ := app_sro W (H + 1) vv ws h.sr x h.sz hl
  have hb : Below (H + 1) W W3 := (Below.refl _ _).grown r3 h.sz fun k hk => (h.sr.lt hk).1
  exact ⟨v', W3, r1, ⟨h.bel.trans (hb.mono (by omega)), by rw [hb.block H (by omega)]; exact h.ev, r2⟩⟩
theorem Rws.start {w W : World} {H : Nat} {e : Ev} {v : Value} (hb : Below H w W) (he : W.heap[H]? = some (evB e v)) (x : List UInt8) : Rws w (W.alloc (.cells #[strV x] 9)) H e v (.slice (some ⟨W.heap.size, 0, none⟩) 1 1) [x] := by
  have hg := heap_lt he
  exact ⟨hb.trans ((below1 W _).mono (by omega)), below_heap (below1 W _) he, ⟨rfl, .inr ⟨W.heap.size, 1, #[strV x], rfl, by omega, heap_alloc_new W _, Nat.le_refl _, by simp [maxLen], rfl, rfl⟩⟩⟩
set_option maxHeartbeats 1000000 in
theorem rtraps_at (w : World) : Calls Tryd.prog 29 #[] w fun e w' => e = .returned (.slice (some ⟨w.heap.size, 0, none⟩) 5 5) ∧ w' = w.alloc (.cells (trapW.map strV).toArray 9) := by
  go_enter Tryd.func29, Tryd.ntmps29
  go_wp2
  go_ret
  exact ⟨rfl, rfl⟩
set_option maxHeartbeats 1000000 in
theorem rcounters_at (w : World) : Calls Tryd.prog 30 #[] w fun e w' => e = .returned (.slice (some ⟨w.heap.size, 0, none⟩) 6 6) ∧ w' = w.alloc (.cells (spentW.map strV).toArray 9) := by
  go_enter Tryd.func30, Tryd.ntmps30
  go_wp2
  go_ret
  exact ⟨rfl, rfl⟩
theorem nw_cell {w w' : World} {l : List (List UInt8)} {m : Nat} (hm : m < l.length) (h : w' = w.alloc (.cells (l.map strV).toArray 9)) : w'.cell? ⟨w.heap.size, m, none⟩ = some (strV (l.getD m [])) := by
  rw [h]
  refine cell_blk (heap_newH w _ w.heap.size rfl) ?_
  rw [List.getD_eq_getElem?_getD, List.getElem?_eq_getElem hm]
  simp [hm]
end Go.Proofs.YtecpknpcjoiliaaDoor
