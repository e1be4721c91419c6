import Derived.Test.YtecpknpcjoiliaaDoorCJR
import Derived.Deep.AppendLies
import Derived.Lib.BufferRead
import Derived.Lib.BufferKept
import Derived.Lib.SlBytesRow
namespace Go.Proofs.YtecpknpcjoiliaaDoor
open Go.RowKit Go.Shelf
set_option linter.unusedVariables false
set_option linter.unusedSimpArgs false

theorem wpList_appI {P : Program} {w w' : World} {ops : Array Oper} {rest : List Oper} {o : Oper} {a : Act} {Q : Exit → Act → World → Prop} (hgd : o.guard = none) (s x : Operand) (t : TypeId)
    (ho : o.op = .call { callee := .builtin .append, args := #[s, x], argTypes := #[t, t] }) {v u r : Value} (hs : a.eval s = v) (hx : a.eval x = u) (hr : ∀ ty, (Builtin.append_ #[t, t] ty #[v, u]).run P w = .ok r w')
    (h : wpList P ops Q rest (a.put o.dst r) w') : wpList P ops Q (o :: rest) a w := by
  refine wpList_plain hgd fun K hK => ?_
  unfold Oper.wp
  simp [execOp, ho, resolve, invoke, builtin, hs, hx, hr, Result.andThen]
  exact hK _ _ h
/-- one element behind a row of one's own -/
theorem app1 {e t : TypeId} {i0 : TypeInfo} {z : Value} {s bt : Nat} (ht : Tryd.prog.underlying t = some (.slice e)) (hi : Tryd.prog.info? e = some i0) (hz : i0.zero = some z) (hs : i0.size = s) (hb : i0.bytes = bt) (hzs : z.cells.size = s) (hs0 : 0 < s)
    (W : World) (B : Nat) (v : Value) (n : Nat) (xs : List Value) (ho : W.ownsRow B e s v n xs) (cs : Array Value) (hcs : cs.toList.length = s) (h1 : ∀ u ∈ cs.toList, u.oneCell' = true) (hn : n + 1 ≤ maxLen) (hby : (n + 1) * bt ≤ 140737488355328) (hB : B ≤ W.heap.size) :
    ∃ g c W3, (∀ ty, (Builtin.append_ #[t, t] ty #[v, .slice (some ⟨W.heap.size, 0, none⟩) 1 1]).run Tryd.prog (W.alloc (.cells cs e)) = .ok (.slice (some ⟨g, 0, none⟩) (n + 1) c) W3) ∧ W3.ownsRow B e s (.slice (some ⟨g, 0, none⟩) (n + 1) c) (n + 1) (xs ++ cs.toList) ∧ W.grownBy W3 v.ownBlock := by
  have ho' : (W.alloc (.cells cs e)).ownsRow B e s v n xs := ho.alloc _
  obtain ⟨g, c, W3, r1, r2, r3, r4, r5⟩ := run_append_lies (P := Tryd.prog) (W.alloc (.cells cs e)) t e B e i0 z s bt ht hi hz hs hb hzs hs0 v n xs ho' ⟨W.heap.size, 0, none⟩ 1 1 cs.toList (by omega) (World.news_of_block (heap_alloc_new W _)) h1 (by omega) hn hby (by simp; omega) _ rfl
  refine ⟨g, c, W3, fun ty => r1, r2, ⟨r3.os, r3.tape, r3.output, Nat.le_trans (by simp) r3.size, fun k hk hne => ?_⟩⟩
  rw [r3.block k (by simp; omega) hne, Below.heap_alloc W _ k hk]
theorem pieces_len (c : UInt8) : ∀ l : List UInt8, (pieces c l).2.length ≤ l.length
  | [] => by simp [pieces]
  | x :: r => by
    have := pieces_len c r
    rw [pieces]
    split
    · simp; omega
    · simp; omega
/-- strings in a row of one's own -/
def SRo (w : World) (B : Nat) (v : Value) (ws : List (List UInt8)) : Prop := w.ownsRow B 9 1 v ws.length (ws.map strV)
theorem SRo.below {w w' : World} {B : Nat} {v : Value} {ws : List (List UInt8)} (h : SRo w B v ws) (hb : Below w.heap.size w w') : SRo w' B v ws := owns_same h fun g _ hg => hb.block g hg
theorem infoStr : (Tryd.prog.info? 9).map (fun i => (i.zero, i.size, i.bytes)) = some (some (.string ⟨#[]⟩), 1, 16) := by kernel_rfl
theorem app_sro (W : World) (B : Nat) (v : Value) (ws : List (List UInt8)) (ho : SRo W B v ws) (x : List UInt8) (hB : B ≤ W.heap.size) (hl : ws.length ≤ 8796093022200) :
    ∃ v' W3, (∀ ty, (Builtin.append_ #[52, 52] ty #[v, .slice (some ⟨W.heap.size, 0, none⟩) 1 1]).run Tryd.prog (W.alloc (.cells #[strV x] 9)) = .ok v' W3) ∧ SRo W3 B v' (ws ++ [x]) ∧ W.grownBy W3 v.ownBlock := by
  obtain ⟨i0, hi0, hz0, hz1, hz2⟩ := info_parts infoStr
  obtain ⟨g, c, W3, h1, h2, h3⟩ := app1 Tryd.underlying52 hi0 hz0 hz1 hz2 rfl (by decide) W B v ws.length _ ho #[strV x] rfl (by simp [strV, Value.oneCell']) (by unfold maxLen; omega) (by omega) hB
  refine ⟨_, W3, h1, ?_, h3⟩
  unfold SRo
  rw [List.map_append, List.length_append]
  exact h2
theorem SRo.at_ {w : World} {B : Nat} {v : Value} {ws : List (List UInt8)} (h : SRo w B v ws) (h0 : 0 < ws.length) : ∃ g cap, v = .slice (some ⟨g, 0, none⟩) ws.length cap ∧ B ≤ g ∧ g < w.heap.size ∧ ∀ j (hj : j < ws.length), w.cell? ⟨g, j, none⟩ = some (strV ws[j]) := by
  have h' : w.ownsRow B 9 1 v ws.length (ws.map strV) := h
  rcases h'.2 with ⟨rfl, hn⟩ | ⟨g, cap, cur, rfl, hB, hg, q1, q2, q3, q4⟩
  · omega
  · refine ⟨g, cap, rfl, hB, (Array.getElem?_eq_some_iff.1 hg).1, fun i hi => ?_⟩
    rw [World.cell?]
    simp only [hg]
    have e := congrArg (·[i]?) q4
    simp only [List.getElem?_map] at e
    rw [List.getElem?_take_of_lt (by omega), Array.getElem?_toList, List.getElem?_eq_getElem hi] at e
    simpa using e
theorem SRo.mk0 (W : World) (H : Nat) (hH : W.heap.size = H) : SRo (W.alloc (.cells #[] 9)) H (.slice (some ⟨H, 0, none⟩) 0 0) [] := by
  subst hH
  exact ⟨rfl, .inr ⟨W.heap.size, 0, #[], rfl, Nat.le_refl _, heap_alloc_new W _, Nat.le_refl _, by simp [maxLen], rfl, rfl⟩⟩
theorem SRo.lt {w : World} {B : Nat} {v : Value} {ws : List (List UInt8)} (h : SRo w B v ws) {g : Nat} (hg : v.ownBlock = some g) : B ≤ g ∧ g < w.heap.size := owns_block h hg
theorem ext_str (s : List UInt8) (f i : Nat) : strV ((s.drop f).take (i - f)) = .string ((⟨s.toArray⟩ : ByteArray).extract f i) := by
  unfold strV
  congr 1
  apply Go.WideShapes.bytes_inj
  rw [Lib.extract_data]
theorem ext_last (s : List UInt8) (f : Nat) : strV (s.drop f) = .string ((⟨s.toArray⟩ : ByteArray).extract f s.length) := by
  rw [← ext_str, List.take_of_length_le (by rw [List.length_drop]; omega)]
theorem piece_le (c : UInt8) : ∀ l : List UInt8, (pieces c l).1.length ≤ l.length ∧ ∀ p ∈ (pieces c l).2, p.length ≤ l.length
  | [] => by simp [pieces]
  | x :: r => by
    obtain ⟨h1, h2⟩ := piece_le c r
    rw [pieces]
    split
    · refine ⟨by simp, fun p hp => ?_⟩
      simp only [List.mem_cons] at hp
      rcases hp with rfl | hp
      · simp; omega
      · have := h2 p hp; simp; omega
    · refine ⟨by simp; omega, fun p hp => ?_⟩
      have := h2 p hp
      simp
      omega
/-- numbers in a row of one's own -/
def NRo (w : World) (B : Nat) (v : Value) (ks : List Int) : Prop := w.ownsRow B 3 1 v ks.length (ks.map (Value.int .i64))
theorem NRo.below {w w' : World} {B : Nat} {v : Value} {ks : List Int} (h : NRo w B v ks) (hb : Below w.heap.size w w') : NRo w' B v ks := owns_same h fun g _ hg => hb.block g hg
theorem infoIn : (Tryd.prog.info? 3).map (fun i => (i.zero, i.size, i.bytes)) = some (some (.int .i64 0), 1, 8) := by kernel_rfl
theorem app_nro (W : World) (B : Nat) (v : Value) (ks : List Int) (ho : NRo W B v ks) (x : Int) (hB : B ≤ W.heap.size) (hl : ks.length ≤ 8796093022200) :
    ∃ v' W3, (∀ ty, (Builtin.append_ #[22, 22] ty #[v, .slice (some ⟨W.heap.size, 0, none⟩) 1 1]).run Tryd.prog (W.alloc (.cells #[.int .i64 x] 3)) = .ok v' W3) ∧ NRo W3 B v' (ks ++ [x]) ∧ W.grownBy W3 v.ownBlock := by
  obtain ⟨i0, hi0, hz0, hz1, hz2⟩ := info_parts infoIn
  obtain ⟨g, c, W3, h1, h2, h3⟩ := app1 Tryd.underlying22 hi0 hz0 hz1 hz2 rfl (by decide) W B v ks.length _ ho #[.int .i64 x] rfl (by simp [Value.oneCell']) (by unfold maxLen; omega) (by omega) hB
  refine ⟨_, W3, h1, ?_, h3⟩
  unfold NRo
  rw [List.map_append, List.length_append]
  exact h2
theorem NRo.at_ {w : World} {B : Nat} {v : Value} {ks : List Int} (h : NRo w B v ks) (h0 : 0 < ks.length) : ∃ g cap, v = .slice (some ⟨g, 0, none⟩) ks.length cap ∧ B ≤ g ∧ g < w.heap.size ∧ ∀ j (hj : j < ks.length), w.cell? ⟨g, j, none⟩ = some (.int .i64 ks[j]) := by
  have h' : w.ownsRow B 3 1 v ks.length (ks.map (Value.int .i64)) := h
  rcases h'.2 with ⟨rfl, hn⟩ | ⟨g, cap, cur, rfl, hB, hg, q1, q2, q3, q4⟩
  · omega
  · refine ⟨g, cap, rfl, hB, (Array.getElem?_eq_some_iff.1 hg).1, fun i hi => ?_⟩
    rw [World.cell?]
    simp only [hg]
    have e := congrArg (·[i]?) q4
    simp only [List.getElem?_map] at e
    rw [List.getElem?_take_of_lt (by omega), Array.getElem?_toList, List.getElem?_eq_getElem hi] at e
    simpa using e
theorem NRo.mk0 (W : World) (H : Nat) (hH : W.heap.size = H) : NRo (W.alloc (.cells #[] 3)) H (.slice (some ⟨H, 0, none⟩) 0 0) [] := by
  subst hH
  exact ⟨rfl, .inr ⟨W.heap.size, 0, #[], rfl, Nat.le_refl _, heap_alloc_new W _, Nat.le_refl _, by simp [maxLen], rfl, rfl⟩⟩
theorem NRo.lt {w : World} {B : Nat} {v : Value} {ks : List Int} (h : NRo w B v ks) {g : Nat} (hg : v.ownBlock = some g) : B ≤ g ∧ g < w.heap.size := owns_block h hg
theorem BO.str {w : World} {B : Nat} {v : Value} {bs : List UInt8} (h : BO w B v bs) : (convert 55 9 v).run Tryd.prog w = .ok (strV bs) w := by
  rcases h.own.2 with ⟨rfl, hn⟩ | ⟨g, cap, cur, rfl, hB, hg, q1, q2, q3, q4⟩
  · have : bs = [] := List.eq_nil_of_length_eq_zero hn
    subst this
    exact Lib.run_convert_nil_bytes w 55 9 5 0 Tryd.underlying55 Tryd.underlying5 Tryd.underlying9
  · have hsz : (⟨bs.toArray⟩ : ByteArray).size = bs.length := by simp [ByteArray.size]
    have hc : Lib.Bytes w g 0 ⟨bs.toArray⟩ := fun i hi => by
      rw [hsz] at hi
      rw [Nat.zero_add]
      refine cell_blk hg ?_
      have e := congrArg (·[i]?) q4
      simp only [Lib.byteCells, List.getElem?_map] at e
      rw [List.getElem?_take_of_lt (by omega), Array.getElem?_toList, List.getElem?_eq_getElem hi] at e
      rw [e]
      rfl
    have := Lib.run_convert_whole (P := Tryd.prog) w 55 5 9 Tryd.underlying55 Tryd.underlying5 Tryd.underlying9 g 0 ⟨bs.toArray⟩ hc cap
    rw [hsz] at this
    exact this
end Go.Proofs.YtecpknpcjoiliaaDoor
