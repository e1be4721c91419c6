import Derived.Test.YtadmpgegolmkgaaDoorBWyQ
import Derived.Test.YtadmpgegolmkgaaDoorBWcC
import Derived.Deep.MidRow
set_option linter.unusedVariables false
set_option linter.unusedSimpArgs false
set_option maxHeartbeats 4000000
set_option maxRecDepth 100000
namespace Go.Proofs.YtadmpgegolmkgaaDoor
open Go.RowKit
def stC (t : RSt) : List Value := [.bool t.come, .bool t.seen, .int .i64 t.height, .int .i64 t.frm, .int .i64 t.slot, .bool t.given]
def stL (S : List RSt) : List Value := S.flatMap stC
theorem xO : ∀ (S : List RSt) (i : Nat) (h : i < S.length) (j : Nat), j < 6 -> (stL S)[i * 6 + j]? = (stC S[i])[j]?
 | [], i, h, _, _ => by simp at h
 | a :: r, 0, _, j, hj => by
  show (stC a ++ stL r)[_]? = _
  rw [List.getElem?_append_left (by simp [stC]; omega)]
  simp
 | a :: r, i + 1, h, j, hj => by
  show (stC a ++ stL r)[_]? = _
  rw [List.getElem?_append_right (by simp [stC]; omega)]
  have := xO r i (by simpa using h) j hj
  simp only [List.getElem_cons_succ]
  rw [← this]
  congr 1
  simp [stC]
  omega
theorem xP (S : List RSt) (t : RSt) : stL (S ++ [t]) = stL S ++ stC t := by simp [stL, List.flatMap_append]
theorem sD : ∀ (S : List RSt) (i : Nat) (h : i < S.length) (t : RSt) (j : Nat), j < 6 -> ∀ v, (stC t)[j]? = some v -> (∀ k, k ≠ j -> (stC t)[k]? = (stC S[i])[k]?) -> (stL S).set (i * 6 + j) v = stL (S.set i t)
 | [], i, h, _, _, _, _, _, _ => by simp at h
 | a :: r, 0, _, t, j, hj, v, hv, hk => by
  show (stC a ++ stL r).set _ _ = stC t ++ stL r
  rw [List.set_append, if_pos (by simp [stC]; omega)]
  congr 1
  apply List.ext_getElem?
  intro k
  by_cases e : k = j
  ·subst e
   rw [Nat.zero_mul, Nat.zero_add, List.getElem?_set_self (by simp [stC]; omega), hv]
  ·rw [Nat.zero_mul, Nat.zero_add, List.getElem?_set_ne (Ne.symm e), hk k e]
   rfl
 | a :: r, i + 1, h, t, j, hj, v, hv, hk => by
  show (stC a ++ stL r).set _ _ = stC a ++ stL (r.set i t)
  rw [List.set_append, if_neg (by simp [stC]; omega), ← sD r i (by simpa using h) t j hj v hv hk]
  congr 2
  simp [stC]
  omega
abbrev StO (W : World) (B : Nat) (v : Value) (S : List RSt) : Prop := W.ownsRow B 77 6 v S.length (stL S)
theorem StO.ex {W : World} {B : Nat} {v : Value} {S : List RSt} (h : StO W B v S) {i : Nat} (hi : i < S.length) : ∃ g c, v = .slice (some ⟨g, 0, none⟩) S.length c /\ S.length <= c /\ c <= maxLen /\ B <= g /\ g < W.heap.size /\ ∃ cur, W.heap[g]? = some (.cells cur 77 (0, 0)) /\ cur.size = c * 6 := by
 rcases h.2 with ⟨_, q⟩ | ⟨g, cap, cur, q, q1, q2, q3, q4, q5, q6⟩
 ·omega
 ·exact ⟨g, cap, q, q3, q4, q1, ah q2, cur, q2, q5⟩
theorem StO.cells {W : World} {B g c : Nat} {S : List RSt} (h : StO W B (.slice (some ⟨g, 0, none⟩) S.length c) S) {i : Nat} (hi : i < S.length) : W.cell? ⟨g, i * 6, none⟩ = some (.bool S[i].come) /\ W.cell? ⟨g, i * 6 + 1, none⟩ = some (.bool S[i].seen) /\ W.cell? ⟨g, i * 6 + 2, none⟩ = some (.int .i64 S[i].height) /\ W.cell? ⟨g, i * 6 + 3, none⟩ = some (.int .i64 S[i].frm) /\ W.cell? ⟨g, i * 6 + 4, none⟩ = some (.int .i64 S[i].slot) /\ W.cell? ⟨g, i * 6 + 5, none⟩ = some (.bool S[i].given) := by
 have k : ∀ j, j < 6 -> W.cell? ⟨g, i * 6 + j, none⟩ = (stC S[i])[j]? := fun j hj => by
  rw [h.cellAt (i * 6 + j) (by omega)]
  exact xO S i hi j hj
 exact ⟨k 0 (by omega), k 1 (by omega), k 2 (by omega), k 3 (by omega), k 4 (by omega), k 5 (by omega)⟩
theorem fQ {w : World} {B : Nat} {e : TypeId} {s g n cap : Nat} {xs : List Value} (h : w.ownsRow B e s (.slice (some ⟨g, 0, none⟩) n cap) n xs) (j : Nat) (u : Value) : (w.setCell ⟨g, j, none⟩ u).ownsRow B e s (.slice (some ⟨g, 0, none⟩) n cap) n (xs.set j u) := by
 refine ⟨by rw [List.length_set]; exact h.1, ?_⟩
 rcases h.2 with ⟨q, _⟩ | ⟨g', c', cur, q, q1, q2, q3, q4, q5, q6⟩
 ·cases q
 ·simp only [Value.slice.injEq, Option.some.injEq, Addr.mk.injEq] at q
  obtain ⟨⟨rfl, _⟩, _, rfl⟩ := q
  refine .inr ⟨g, cap, cur.setIfInBounds j u, rfl, q1, Lib.heap_setCell_same (i := j) q2 u, q3, q4, by simpa using q5, ?_⟩
  rw [← q6]
  simp [List.take_set]
theorem StO.put {W : World} {B g c : Nat} {S : List RSt} (h : StO W B (.slice (some ⟨g, 0, none⟩) S.length c) S) {i : Nat} (hi : i < S.length) (t : RSt) (j : Nat) (hj : j < 6) (v : Value) (hv : (stC t)[j]? = some v) (hk : ∀ k, k ≠ j -> (stC t)[k]? = (stC S[i])[k]?) : StO (W.setCell ⟨g, i * 6 + j, none⟩ v) B (.slice (some ⟨g, 0, none⟩) S.length c) (S.set i t) := by
 have := fQ h (i * 6 + j) v
 rw [sD S i hi t j hj v hv hk] at this
 show World.ownsRow _ B _ 6 _ (S.set i t).length _
 rw [List.length_set]
 exact this
theorem pM : ∀ (S : List RSt) (i : Nat) (h : i < S.length) (t : RSt), ((((((stL S).set (i * 6) (.bool t.come)).set (i * 6 + 1) (.bool t.seen)).set (i * 6 + 1 + 1) (.int .i64 t.height)).set (i * 6 + 1 + 1 + 1) (.int .i64 t.frm)).set (i * 6 + 1 + 1 + 1 + 1) (.int .i64 t.slot)).set (i * 6 + 1 + 1 + 1 + 1 + 1) (.bool t.given) = stL (S.set i t)
 | [], i, h, _ => by simp at h
 | a :: r, 0, _, t => by simp [stL, stC]
 | a :: r, i + 1, h, t => by
  have ih := pM r i (by simpa using h) t
  have e : ∀ (k : Nat) (v : Value) (X : List Value), (stC a ++ X).set (k + 6) v = stC a ++ X.set k v := fun k v X => by
   rw [List.set_append, if_neg (by simp [stC])]
   congr 2
  show ((((((stC a ++ stL r).set _ _).set _ _).set _ _).set _ _).set _ _).set _ _ = stC a ++ stL (r.set i t)
  rw [← ih]
  have e0 : (i + 1) * 6 = i * 6 + 6 := by omega
  rw [e0]
  rw [e, show i * 6 + 6 + 1 = i * 6 + 1 + 6 by omega, e, show i * 6 + 1 + 6 + 1 = i * 6 + 1 + 1 + 6 by omega, e, show i * 6 + 1 + 1 + 6 + 1 = i * 6 + 1 + 1 + 1 + 6 by omega, e, show i * 6 + 1 + 1 + 1 + 6 + 1 = i * 6 + 1 + 1 + 1 + 1 + 6 by omega, e, show i * 6 + 1 + 1 + 1 + 1 + 6 + 1 = i * 6 + 1 + 1 + 1 + 1 + 1 + 6 by omega, e]
theorem StO.set {W : World} {B g c : Nat} {S : List RSt} (h : StO W B (.slice (some ⟨g, 0, none⟩) S.length c) S) {i : Nat} (hi : i < S.length) (t : RSt) : StO (W.setCells g (i * 6) (stC t)) B (.slice (some ⟨g, 0, none⟩) S.length c) (S.set i t) /\ (∀ y, y ≠ g -> (W.setCells g (i * 6) (stC t)).heap[y]? = W.heap[y]?) /\ W.there g (i * 6) 6 /\ Below B W (W.setCells g (i * 6) (stC t)) := by
 obtain ⟨g', c', e, e1, e2, e3, e4, cur, e5, e6⟩ := h.ex hi
 simp only [Value.slice.injEq, Option.some.injEq, Addr.mk.injEq] at e
 obtain ⟨⟨rfl, _⟩, _, rfl⟩ := e
 have hoth : ∀ y, y ≠ g -> (W.setCells g (i * 6) (stC t)).heap[y]? = W.heap[y]? := fun y hy => by
  show ((((((W.setCell ⟨g, i * 6, none⟩ _).setCell ⟨g, i * 6 + 1, none⟩ _).setCell ⟨g, i * 6 + 1 + 1, none⟩ _).setCell ⟨g, i * 6 + 1 + 1 + 1, none⟩ _).setCell ⟨g, i * 6 + 1 + 1 + 1 + 1, none⟩ _).setCell ⟨g, i * 6 + 1 + 1 + 1 + 1 + 1, none⟩ _).heap[y]? = _
  rw [Below.heap_setCell _ ⟨g, _, none⟩ _ y hy, Below.heap_setCell _ ⟨g, _, none⟩ _ y hy, Below.heap_setCell _ ⟨g, _, none⟩ _ y hy, Below.heap_setCell _ ⟨g, _, none⟩ _ y hy, Below.heap_setCell _ ⟨g, _, none⟩ _ y hy, Below.heap_setCell _ ⟨g, _, none⟩ _ y hy]
 refine ⟨?_, hoth, fun j hj => ⟨?_, aL e5⟩, ?_⟩
 ·show World.ownsRow _ B _ 6 _ (S.set i t).length _
  rw [List.length_set, ← pM S i hi t]
  exact fQ (fQ (fQ (fQ (fQ (fQ h (i * 6) _) (i * 6 + 1) _) (i * 6 + 1 + 1) _) (i * 6 + 1 + 1 + 1) _) (i * 6 + 1 + 1 + 1 + 1) _) (i * 6 + 1 + 1 + 1 + 1 + 1) _
 ·rw [aa e5 (Array.getElem?_eq_getElem (by omega))]
  rfl
 ·exact ((((((Below.refl B W).setCell (p := ⟨g, i * 6, none⟩) e3 _).setCell (p := ⟨g, i * 6 + 1, none⟩) e3 _).setCell (p := ⟨g, i * 6 + 1 + 1, none⟩) e3 _).setCell (p := ⟨g, i * 6 + 1 + 1 + 1, none⟩) e3 _).setCell (p := ⟨g, i * 6 + 1 + 1 + 1 + 1, none⟩) e3 _).setCell (p := ⟨g, i * 6 + 1 + 1 + 1 + 1 + 1, none⟩) e3 _
theorem pO {ops : Array Oper} {rest : List Oper} {op : Oper} {a : Act} {w W8 : World} {Q : Exit -> Act -> World -> Prop} (hgd : op.guard = none) (x y : Operand) (ho : op.op = .store 77 x y) (b o : Nat) (t : RSt) (hx : a.eval x = .pointer (some ⟨b, o, none⟩)) (hy : a.eval y = .agg #[.bool t.come, .bool t.seen, .int .i64 t.height, .int .i64 t.frm, .int .i64 t.slot, .bool t.given]) (ht : w.there b o 6) (hW : w.setCells b o (stC t) = W8)
  (h : wpList Tryd.prog ops Q rest (a.put op.dst undef) W8) : wpList Tryd.prog ops Q (op :: rest) a w := by
 subst hW
 exact wpList_store_mid hgd 77 x y ho b o #[.bool t.come, .bool t.seen, .int .i64 t.height, .int .i64 t.frm, .int .i64 t.slot, .bool t.given] hx hy ht (by kernel_rfl) (by simp [Value.oneCell']) h
theorem lu (w : World) (B : Nat) (hB : B <= w.heap.size) (pg : CPg) (ca : Option Addr) (cc : Nat) (v : Value) (S : List RSt) (h : StO w B v S) (hm : S.length <= 281474976710656) (m : Nat) (d : Nat) (i : Int) (b : Bool) (hh : Hv pg.params S m d i b) :
  Calls Tryd.prog 56 #[.agg (pgC pg ca cc), v, .int .i64 i, .int .i64 (m : Nat)] w fun e w' => e = .returned (.bool b) /\ Bx (Below w.heap.size w w') := by
 obtain ⟨a0, c0, rfl⟩ := aN h
 unfold pgC
 obtain ⟨H, hH⟩ : ∃ H, w.heap.size = H := ⟨_, rfl⟩
 obtain ⟨w1, hw1⟩ : ∃ w1, w.alloc (.cells #[.int .i64 pg.params, .int .i64 pg.slots, .int .i64 pg.caps, .bool pg.res, .slice ca pg.code.length cc] 40) = w1 := ⟨_, rfl⟩
 have b1 : Below w.heap.size w w1 := by rw [← hw1]; exact ak w _
 have q1 : w1.heap[H]? = some (.cells #[.int .i64 pg.params, .int .i64 pg.slots, .int .i64 pg.caps, .bool pg.res, .slice ca pg.code.length cc] 40 (0, 0)) := by rw [← hw1]; exact aj _ _ _ hH
 have hs1 : H < w1.heap.size := ah q1
 have HX : Bx (∀ X, Below w1.heap.size w1 X -> StO X B (.slice a0 S.length c0) S /\ X.heap[H]? = some (.cells #[.int .i64 pg.params, .int .i64 pg.slots, .int .i64 pg.caps, .bool pg.res, .slice ca pg.code.length cc] 40 (0, 0)) /\ Below w.heap.size w X) := ⟨fun X hX => ⟨aZ (aZ h b1) hX, (hX.block H hs1).trans q1, b1.trans (hX.mono b1.size)⟩⟩
 have HHV : Bx _ := ⟨hh⟩
 have hHv : Bx (w.heap.size = H) := ⟨hH⟩
 clear h hh b1 q1
 go_enter Tryd.func56, Tryd.ntmps56
 go_wp2
 go_loopg [2] (d + 1) (fun f v2 wr => ∃ (d' : Nat) (i' : Int), f = d' + 1 /\ v2 = .int .i64 i' /\ Bx (Hv pg.params S m d' i' b) /\ Bx (Below w1.heap.size w1 wr))
 case atStart => exact ⟨d, i, rfl, rfl, HHV, ⟨Below.refl _ _⟩⟩
 case round =>
  clear HHV
  obtain ⟨d', i', hf, rfl, HHV, HB⟩ := hrel
  obtain ⟨hO, hq, hb⟩ := HX.out wr HB.out
  have HBW : Bx (Below w.heap.size w wr) := ⟨hb⟩
  have hHl : H < wr.heap.size := ah hq
  have p0 := aa (i := 0) hq rfl
  have HHH : Bx _ := ⟨hq⟩
  cases d' with
  | zero =>
   obtain ⟨hi, hbv⟩ := HHV.out
   have hg : decide (0 <= i') = false := decide_eq_false (by omega)
   clear HX HHV HB hO hb hi hq
   go_wp2
   go_ret
   exact ⟨aG hbv.symm, HBW⟩
  | succ d' =>
   obtain ⟨⟨hi, hil, hcm⟩, hif⟩ := HHV.out
   obtain ⟨n, rfl⟩ : ∃ n : Nat, i' = (n : Int) := ⟨i'.toNat, by omega⟩
   have hnl : n < S.length := by omega
   rw [show ((n : Int)).toNat = n by omega, dD hnl] at hif
   obtain ⟨g, c, e, hcl, hcm2, _, hgl, _⟩ := hO.ex hnl
   simp only [Value.slice.injEq] at e
   obtain ⟨rfl, _, rfl⟩ := e
   obtain ⟨s0, s1, s2, s3, s4, s5⟩ := hO.cells hnl
   have hnI : (n : Int) < (S.length : Int) := by omega
   unfold maxLen at hcm2
   obtain ⟨t, ht⟩ : ∃ t, S[n] = t := ⟨_, rfl⟩
   rw [ht] at s0 s1 s2 s3 s4 s5 hif
   have HN : Bx (Below w1.heap.size w1 (wr.alloc (.cells #[.bool t.come, .bool t.seen, .int .i64 t.height, .int .i64 t.frm, .int .i64 t.slot, .bool t.given] 77)) /\ Below w.heap.size w (wr.alloc (.cells #[.bool t.come, .bool t.seen, .int .i64 t.height, .int .i64 t.frm, .int .i64 t.slot, .bool t.given] 77))) := ⟨HB.out.trans ((ak _ _).mono HB.out.size), HBW.out.trans ((ak _ _).mono HBW.out.size)⟩
   by_cases hsl : t.slot = m
   ·rw [if_pos hsl] at hif
    have hg : (t.slot == (m : Int)) = true := by simpa using hsl
    clear HX HHV HB hO hb hq hsl ht
    go_wp2
    go_ret
    exact ⟨aG hif.symm, ⟨HN.out.2⟩⟩
   ·rw [if_neg hsl] at hif
    have hg : (t.slot == (m : Int)) = false := by simpa using hsl
    have HH2 : Bx _ := ⟨hif⟩
    clear HX HHV HB hO hb hq hsl hif ht
    go_wp2
    go_roundg (d' + 1)
    case measure => omega
    case rel => exact ⟨d', t.frm, rfl, rfl, HH2, ⟨HN.out.1⟩⟩
end Go.Proofs.YtadmpgegolmkgaaDoor
