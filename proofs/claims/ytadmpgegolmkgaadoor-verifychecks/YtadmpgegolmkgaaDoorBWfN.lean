import Derived.Test.YtadmpgegolmkgaaDoorBWmE
import Derived.Test.YtadmpgegolmkgaaDoorBWvV
set_option linter.unusedVariables false
set_option linter.unusedSimpArgs false
set_option maxHeartbeats 4000000
set_option maxRecDepth 100000
namespace Go.Proofs.YtadmpgegolmkgaaDoor
open Go.RowKit
def iL (n : Nat) (s : DfS) : Nat -> List Int := fun r => if r = n then s.fd else s.wh r
structure DfM (w W : World) (hb mb ob base n : Nat) (va : Nat -> Value) (s : DfS) : Prop where
 bel : Below w.heap.size w W
 hs : W.heap[hb]? = some (.cells (dV n fun i => .bool (s.has i)) 4 (0, 0))
 mm : W.heap[mb]? = some (.cells (dV n fun i => .int .i64 (s.ms i)) 3 (0, 0))
 oo : W.heap[ob]? = some (.cells (dV n va) 32 (0, 0))
 fam : Fam W base (n + 1) va (iL n s)
 lo : w.heap.size <= hb /\ w.heap.size <= mb /\ w.heap.size <= ob
 lt : hb < base /\ mb < base /\ ob < base /\ base <= W.heap.size
 ne : hb ≠ mb /\ hb ≠ ob /\ mb ≠ ob
theorem fM {n : Nat} {f g : Nat -> Value} (h : ∀ i, i < n -> f i = g i) : dV n f = dV n g := by
 unfold dV
 congr 1
 exact List.map_congr_left fun i hi => h i (List.mem_range.1 hi)
theorem su (n : Nat) (s : DfS) (l : List Int) : fup (iL n s) n l = iL n ⟨s.has, s.ms, s.wh, l⟩ := by
 funext r
 by_cases h : r = n
 ·subst h; rw [aU]; simp [iL]
 ·rw [bg _ _ h]; simp [iL, h]
theorem zN (n : Nat) (s : DfS) {k : Nat} (hk : k < n) (l : List Int) : fup (iL n s) k l = iL n ⟨s.has, s.ms, fup s.wh k l, s.fd⟩ := by
 funext r
 by_cases h : r = k
 ·subst h
  rw [aU]
  simp [iL, Nat.ne_of_lt hk, aU]
 ·rw [bg _ _ h]
  by_cases h2 : r = n
  ·subst h2; simp [iL]
  ·simp [iL, h2, bg _ _ h]
theorem jG (n : Nat) (s : DfS) : iL n s n = s.fd := by simp [iL]
theorem jH {n : Nat} (s : DfS) {k : Nat} (hk : k < n) : iL n s k = s.wh k := by simp [iL, Nat.ne_of_lt hk]
theorem DfM.later {w W W' : World} {hb mb ob base n : Nat} {va : Nat -> Value} {s : DfS} (h : DfM w W hb mb ob base n va s) (hb' : Below W.heap.size W W') : DfM w W' hb mb ob base n va s := by
 obtain ⟨l1, l2, l3, l4⟩ := h.lt
 exact ⟨h.bel.trans (hb'.mono h.bel.size), (hb'.block _ (by omega)).trans h.hs, (hb'.block _ (by omega)).trans h.mm, (hb'.block _ (by omega)).trans h.oo, h.fam.same fun k _ hk => hb'.block k hk, h.lo, ⟨l1, l2, l3, Nat.le_trans l4 hb'.size⟩, h.ne⟩
theorem DfM.AL {w W : World} {hb mb ob base n : Nat} {va : Nat -> Value} {s : DfS} (h : DfM w W hb mb ob base n va s) (x : Int) (hn : s.fd.length <= 4294967296) :
  ∃ g c W3, (∀ ty, (Builtin.append_ #[32, 32] ty #[va n, .slice (some ⟨W.heap.size, 0, none⟩) 1 1]).run Tryd.prog (W.alloc (.cells #[.int .i64 x] 3)) = .ok (.slice (some ⟨g, 0, none⟩) (s.fd.length + 1) c) W3) /\ Bx (DfM w W3 hb mb ob base n (fup va n (.slice (some ⟨g, 0, none⟩) (s.fd.length + 1) c)) ⟨s.has, s.ms, s.wh, s.fd ++ [x]⟩) := by
 obtain ⟨l1, l2, l3, l4⟩ := h.lt
 obtain ⟨g, c, W3, r, hx⟩ := h.fam.push (r := n) (by omega) l4 x (by rw [jG]; exact hn)
 rw [jG] at r hx
 obtain ⟨f, gr, low⟩ := hx.out
 have hlo := h.lo
 refine ⟨g, c, W3, r, ⟨⟨gr.os.trans h.bel.os, gr.tape.trans h.bel.tape, gr.output.trans h.bel.output, Nat.le_trans h.bel.size gr.size, fun k hk => (low k (by omega)).trans (h.bel.block k hk)⟩, (low _ l1).trans h.hs, (low _ l2).trans h.mm, ?_, by rw [← su]; exact f, hlo, ⟨l1, l2, l3, Nat.le_trans l4 gr.size⟩, h.ne⟩⟩
 rw [low _ l3, h.oo]
 congr 2
 refine fM fun i hi => ?_
 rw [bg _ _ (Nat.ne_of_lt hi)]
theorem DfM.BK {w W : World} {hb mb ob base n : Nat} {va : Nat -> Value} {s : DfS} (h : DfM w W hb mb ob base n va s) {k : Nat} (hk : k < n) (x : Int) (hn : (s.wh k).length <= 4294967296) :
  ∃ g c W3, (∀ ty, (Builtin.append_ #[32, 32] ty #[va k, .slice (some ⟨W.heap.size, 0, none⟩) 1 1]).run Tryd.prog (W.alloc (.cells #[.int .i64 x] 3)) = .ok (.slice (some ⟨g, 0, none⟩) ((s.wh k).length + 1) c) W3) /\ W3.cell? ⟨ob, k, none⟩ = some (va k) /\ W3.frozen? ⟨ob, k, none⟩ = false /\ Bx (DfM w (W3.setCell ⟨ob, k, none⟩ (.slice (some ⟨g, 0, none⟩) ((s.wh k).length + 1) c)) hb mb ob base n (fup va k (.slice (some ⟨g, 0, none⟩) ((s.wh k).length + 1) c)) ⟨s.has, s.ms, fup s.wh k (s.wh k ++ [x]), s.fd⟩) := by
 obtain ⟨l1, l2, l3, l4⟩ := h.lt
 obtain ⟨g, c, W3, r, hx⟩ := h.fam.push (r := k) (by omega) l4 x (by rw [jH s hk]; exact hn)
 rw [jH s hk] at r hx
 obtain ⟨f, gr, low⟩ := hx.out
 have hlo := h.lo
 have ho3 : W3.heap[ob]? = some (.cells (dV n va) 32 (0, 0)) := (low _ l3).trans h.oo
 have hc : ∀ j, j ≠ ob -> (W3.setCell ⟨ob, k, none⟩ (.slice (some ⟨g, 0, none⟩) ((s.wh k).length + 1) c)).heap[j]? = W3.heap[j]? := fun j hj => Below.heap_setCell W3 ⟨ob, k, none⟩ _ j hj
 have hs : (W3.setCell ⟨ob, k, none⟩ (.slice (some ⟨g, 0, none⟩) ((s.wh k).length + 1) c)).heap.size = W3.heap.size := by simp
 refine ⟨g, c, W3, r, aa ho3 (fE hk), aL ho3, ⟨⟨gr.os.trans h.bel.os, gr.tape.trans h.bel.tape, gr.output.trans h.bel.output, by rw [hs]; exact Nat.le_trans h.bel.size gr.size, fun j hj => (hc j (by omega)).trans ((low j (by omega)).trans (h.bel.block j hj))⟩, (hc _ h.ne.2.1).trans ((low _ l1).trans h.hs), (hc _ h.ne.2.2).trans ((low _ l2).trans h.mm), ?_, ?_, hlo, ⟨l1, l2, l3, by rw [hs]; exact Nat.le_trans l4 gr.size⟩, h.ne⟩⟩
 ·rw [← jh hk]
  exact heap_setCell_same W3 ob k _ 32 _ ho3
 ·rw [← zN n s hk]
  exact f.same fun j h1 h2 => hc j (by omega)
theorem DfM.BL {w W : World} {hb mb ob base n : Nat} {va : Nat -> Value} {s : DfS} (h : DfM w W hb mb ob base n va s) {k : Nat} (hk : k < n) (x : Int) : DfM w (W.setCell ⟨mb, k, none⟩ (.int .i64 x)) hb mb ob base n va ⟨s.has, fup s.ms k x, s.wh, s.fd⟩ := by
 obtain ⟨l1, l2, l3, l4⟩ := h.lt
 have hc : ∀ j, j ≠ mb -> (W.setCell ⟨mb, k, none⟩ (.int .i64 x)).heap[j]? = W.heap[j]? := fun j hj => Below.heap_setCell W ⟨mb, k, none⟩ _ j hj
 have hs : (W.setCell ⟨mb, k, none⟩ (.int .i64 x)).heap.size = W.heap.size := by simp
 have hlo := h.lo
 refine ⟨⟨h.bel.os, h.bel.tape, h.bel.output, by rw [hs]; exact h.bel.size, fun j hj => (hc j (by omega)).trans (h.bel.block j hj)⟩, (hc _ h.ne.1).trans h.hs, ?_, (hc _ (fun e => h.ne.2.2 e.symm)).trans h.oo, h.fam.same fun j h1 h2 => hc j (by omega), hlo, ⟨l1, l2, l3, by rw [hs]; exact l4⟩, h.ne⟩
 have := heap_setCell_same W mb k _ 3 (.int .i64 x) h.mm
 rw [jh hk] at this
 rw [this]
 congr 2
 refine fM fun i hi => ?_
 by_cases e : i = k
 ·subst e
  show fup _ _ _ _ = Value.int .i64 (fup _ _ _ _)
  rw [aU, aU]
 ·show fup _ _ _ _ = Value.int .i64 (fup _ _ _ _)
  rw [bg _ _ e, bg _ _ e]
theorem DfM.setH {w W : World} {hb mb ob base n : Nat} {va : Nat -> Value} {s : DfS} (h : DfM w W hb mb ob base n va s) {k : Nat} (hk : k < n) (x : Bool) : DfM w (W.setCell ⟨hb, k, none⟩ (.bool x)) hb mb ob base n va ⟨fup s.has k x, s.ms, s.wh, s.fd⟩ := by
 obtain ⟨l1, l2, l3, l4⟩ := h.lt
 have hc : ∀ j, j ≠ hb -> (W.setCell ⟨hb, k, none⟩ (.bool x)).heap[j]? = W.heap[j]? := fun j hj => Below.heap_setCell W ⟨hb, k, none⟩ _ j hj
 have hs : (W.setCell ⟨hb, k, none⟩ (.bool x)).heap.size = W.heap.size := by simp
 have hlo := h.lo
 refine ⟨⟨h.bel.os, h.bel.tape, h.bel.output, by rw [hs]; exact h.bel.size, fun j hj => (hc j (by omega)).trans (h.bel.block j hj)⟩, ?_, (hc _ (fun e => h.ne.1 e.symm)).trans h.mm, (hc _ (fun e => h.ne.2.1 e.symm)).trans h.oo, h.fam.same fun j h1 h2 => hc j (by omega), hlo, ⟨l1, l2, l3, by rw [hs]; exact l4⟩, h.ne⟩
 have := heap_setCell_same W hb k _ 4 (.bool x) h.hs
 rw [jh hk] at this
 rw [this]
 congr 2
 refine fM fun i hi => ?_
 by_cases e : i = k
 ·subst e
  show fup _ _ _ _ = Value.bool (fup _ _ _ _)
  rw [aU, aU]
 ·show fup _ _ _ _ = Value.bool (fup _ _ _ _)
  rw [bg _ _ e, bg _ _ e]
theorem DfM.cells {w W : World} {hb mb ob base n : Nat} {va : Nat -> Value} {s : DfS} (h : DfM w W hb mb ob base n va s) {k : Nat} (hk : k < n) : W.cell? ⟨hb, k, none⟩ = some (.bool (s.has k)) /\ W.cell? ⟨mb, k, none⟩ = some (.int .i64 (s.ms k)) /\ W.cell? ⟨ob, k, none⟩ = some (va k) /\ W.frozen? ⟨hb, k, none⟩ = false /\ W.frozen? ⟨mb, k, none⟩ = false /\ W.frozen? ⟨ob, k, none⟩ = false :=
 ⟨aa h.hs (fE hk), aa h.mm (fE hk), aa h.oo (fE hk), aL h.hs, aL h.mm, aL h.oo⟩
theorem DfM.BS {w W : World} {hb mb ob base n : Nat} {va : Nat -> Value} {s : DfS} (h : DfM w W hb mb ob base n va s) {rest : List Int} {x : Int} (hf : s.fd = rest ++ [x]) :
  ∃ g c, va n = .slice (some ⟨g, 0, none⟩) (rest.length + 1) c /\ rest.length + 1 <= c /\ W.cell? ⟨g, rest.length, none⟩ = some (.int .i64 x) /\ g < W.heap.size /\ Bx (DfM w W hb mb ob base n (fup va n (.slice (some ⟨g, 0, none⟩) rest.length c)) ⟨s.has, s.ms, s.wh, rest⟩) := by
 obtain ⟨g, c, e1, e2, e3, e4, e5⟩ := h.fam.pop (r := n) (by omega) (by rw [jG]; exact hf)
 refine ⟨g, c, e1, e2, e3, e4, ⟨⟨h.bel, h.hs, h.mm, ?_, by rw [← su]; exact e5, h.lo, h.lt, h.ne⟩⟩⟩
 rw [h.oo]
 congr 2
 refine fM fun i hi => ?_
 rw [bg _ _ (Nat.ne_of_lt hi)]
theorem xz (w : World) (n : Nat) {W : World} (hW : ((w.alloc (.cells (dV n fun _ => .bool false) 4)).alloc (.cells (dV n fun _ => .int .i64 0) 3)).alloc (.cells (dV n fun _ => .slice none 0 0) 32) = W) : DfM w W w.heap.size (w.heap.size + 1) (w.heap.size + 2) (w.heap.size + 3) n (fun _ => .slice none 0 0) df0 := by
 obtain ⟨W1, h1⟩ : ∃ W1, w.alloc (.cells (dV n fun _ => .bool false) 4) = W1 := ⟨_, rfl⟩
 obtain ⟨W2, h2⟩ : ∃ W2, W1.alloc (.cells (dV n fun _ => .int .i64 0) 3) = W2 := ⟨_, rfl⟩
 rw [h1, h2] at hW
 have z1 : W1.heap.size = w.heap.size + 1 := by rw [← h1]; simp
 have z2 : W2.heap.size = w.heap.size + 2 := by rw [← h2]; simp [z1]
 have z3 : W.heap.size = w.heap.size + 3 := by rw [← hW]; simp [z2]
 have b1 : Below w.heap.size w W1 := by rw [← h1]; exact ak w _
 have b2 : Below W1.heap.size W1 W2 := by rw [← h2]; exact ak W1 _
 have b3 : Below W2.heap.size W2 W := by rw [← hW]; exact ak W2 _
 have q1 : W1.heap[w.heap.size]? = some (.cells (dV n fun _ => .bool false) 4 (0, 0)) := by rw [← h1]; exact aj _ _ _ rfl
 have q2 : W2.heap[w.heap.size + 1]? = some (.cells (dV n fun _ => .int .i64 0) 3 (0, 0)) := by rw [← h2]; exact aj _ _ _ z1
 have q3 : W.heap[w.heap.size + 2]? = some (.cells (dV n fun _ => .slice none 0 0) 32 (0, 0)) := by rw [← hW]; exact aj _ _ _ z2
 exact ⟨b1.trans ((b2.mono (by omega)).trans (b3.mono (by omega))), (b3.block _ (by omega)).trans ((b2.block _ (by omega)).trans q1), (b3.block _ (by omega)).trans q2, q3, ⟨fun r hr => ⟨by simp [iL, df0, bn], .inl ⟨rfl, by simp [iL, df0]⟩⟩, fun r r' _ _ _ g hg => by simp [Value.ownBlock] at hg⟩, by omega, by omega, by omega⟩
def dU (l : List CTy) : Nat := (l.map fun t => t.kids.length).sum
theorem nE {l : List CTy} {k : Nat} (h : k < l.length) : dU (l.drop k) = l[k].kids.length + dU (l.drop (k + 1)) := by
 unfold dU
 rw [List.drop_eq_getElem_cons h, List.map_cons, List.sum_cons]
theorem nG (w : World) (B : Nat) (hB : B <= w.heap.size) (ta : Option Addr) (tc : Nat) (ts : List CTy) (hr : Row (jT w B) B 3 ta tc ts) (hv : TsV ts) (hn : ts.length <= 2147483648) (hsum : dU ts <= 4294967296) :
  Calls Tryd.prog 35 #[.slice ta ts.length tc] w fun e w' => ∃ da dc, e = .returned (.slice da (dfL ts).length dc) /\ Bx (iy w' da dc (dfL ts) /\ Below w.heap.size w w') := by
 have hcap := hr.cap
 have HT : Bx (∀ k (hk : k < ts.length), _) := ⟨fun k hk => fq hr hk⟩
 have m1 := fun W => zK W ts.length hn
 have m2 := fun W => rY W ts.length hn
 have m3 := fun W => zL W ts.length hn
 have HKB : Bx (∀ r, (tyA ts r).kids.length <= 4294967296) := ⟨fun r => by
  rcases Nat.lt_or_ge r ts.length with h | h
  ·have := nE (l := ts) h
   have h2 : dU (ts.drop r) <= dU ts := by
    unfold dU
    rw [← List.take_append_drop r ts]
    simp only [List.map_append, List.sum_append, List.drop_append_of_le_length, List.drop_drop]
    simp
   rw [gP h]
   omega
  ·unfold tyA
   rw [List.getD_eq_getElem?_getD, List.getElem?_eq_none h]
   simp [tyD]⟩
 have HZ : Bx (∀ W, _ -> DfM w W w.heap.size (w.heap.size + 1) (w.heap.size + 1 + 1) (w.heap.size + 3) ts.length (fun _ => .slice none 0 0) df0) := ⟨fun W h => xz w ts.length (W := W) h⟩
 have HTS : Bx (TsV ts) := ⟨hv⟩
 have HS0 : Bx (∀ x, (df0.wh x).length + dU (ts.drop 0) <= 4294967296) := ⟨fun x => by simpa [df0] using hsum⟩
 have hl : (dfL ts).length = ts.length := by simp [dfL]
 rw [hl]
 have HLL : Bx ((dfL ts).length = ts.length) := ⟨hl⟩
 clear hr hv hsum hl
 go_enter Tryd.func35, Tryd.ntmps35
 go_wp2
 obtain ⟨W0, hW0⟩ : ∃ W0, ((w.alloc (.cells (dV ts.length fun _ => .bool false) 4)).alloc (.cells (dV ts.length fun _ => .int .i64 0) 3)).alloc (.cells (dV ts.length fun _ => .slice none 0 0) 32) = W0 := ⟨_, rfl⟩
 have HZ2 := HZ.out W0 hW0
 rw [hW0]
 clear m1 m2 m3 hW0 HZ
 generalize w.heap.size + 1 = mb at HZ2 ⊢
 generalize mb + 1 = ob at HZ2 ⊢
 generalize w.heap.size + 3 = base at HZ2
 have HZ : Bx _ := ⟨HZ2⟩
 clear HZ2
 obtain ⟨S1, hS1⟩ : ∃ S1, fA ts 0 df0 = S1 := ⟨_, rfl⟩
 have HS1 : Bx (fA (ts.drop 0) 0 df0 = S1) := ⟨by rw [List.drop_zero]; exact hS1⟩
 have HSX : Bx _ := ⟨hS1⟩
 clear hS1
 go_loopg [6, 25] (ts.length + 1) (fun f v6 v25 wr => ∃ (k : Nat) (va : Nat -> Value) (s : DfS), f = ts.length + 1 - k /\ k <= ts.length /\ v25 = .int .i64 k /\ v6 = va ts.length /\ Bx (fA (ts.drop k) k s = S1) /\ Bx (DfM w wr w.heap.size mb ob base ts.length va s) /\ Bx (D1 ts k s) /\ Bx (∀ x, (s.wh x).length + dU (ts.drop k) <= 4294967296))
 case atStart => exact ⟨0, _, df0, by simp, Nat.zero_le _, rfl, rfl, HS1, HZ, ⟨rX ts⟩, HS0⟩
 case round =>
  obtain ⟨k, va, s, hf, hk, rfl, rfl, HW, HM, HD, HL⟩ := hrel
  by_cases hlt : k < ts.length
  ·obtain ⟨b, o, ka, kc, rfl, hb, hks, HC⟩ := HT.out k hlt
   have hs := HM.out.bel.size
   obtain ⟨c0, c1, c2⟩ := HC.out wr (HM.out.bel.mono hB)
   have hbl : b < wr.heap.size := by omega
   have hkI : (k : Int) < (ts.length : Int) := by omega
   have HW2 : Bx _ := ⟨(mq hlt s).symm.trans HW.out⟩
   have HD2 : Bx _ := ⟨HD.out.step HTS.out hlt⟩
   have HL2 : Bx (∀ x, (s.wh x).length + (ts[k].kids.length + dU (ts.drop (k + 1))) <= 4294967296) := ⟨fun x => by rw [← nE hlt]; exact HL.out x⟩
   obtain ⟨fa, fc, hfv⟩ := HM.out.fam.slice (r := ts.length) (by omega)
   rw [jG] at hfv
   have hfl : s.fd.length <= ts.length := eH _ _ HD.out.fd.1 fun x hx => by have := HD.out.fd.2 x hx; omega
   unfold df1 at HW2 HD2
   obtain ⟨wA, hwA⟩ : ∃ wA, wr.alloc (.cells #[.int .i64 ts[k].kind, .slice ka ts[k].kids.length kc, .bool ts[k].res] 49) = wA := ⟨_, rfl⟩
   have bA : Below wr.heap.size wr wA := by rw [← hwA]; exact ak wr _
   have HMA : Bx _ := ⟨HM.out.later bA⟩
   have qA : wA.heap[wr.heap.size]? = some (.cells #[.int .i64 ts[k].kind, .slice ka ts[k].kids.length kc, .bool ts[k].res] 49 (0, 0)) := by rw [← hwA]; exact aj _ _ _ rfl
   have d0 : wA.cell? ⟨wr.heap.size, 0, none⟩ = some (.int .i64 ts[k].kind) := aa qA rfl
   have d1 : wA.cell? ⟨wr.heap.size, 1, none⟩ = some (.slice ka ts[k].kids.length kc) := aa qA rfl
   have HKS : Bx (aF w B ka kc ts[k].kids) := ⟨hks⟩
   have hPw : mb < wr.heap.size /\ ob < wr.heap.size := by have := HM.out.lt; omega
   clear qA bA
   by_cases hkd : ts[k].kind = 4
   ·have hkb : (ts[k].kind != 4) = false := by simp [hkd]
    simp only [if_pos hkd] at HW2 HD2
    have hkk : ∀ y ∈ ts[k].kids, 0 <= y /\ y < (ts.length : Int) := fun y hy => HTS.out.kids k y (by rw [gP hlt]; exact hy)
    have HKK : Bx _ := ⟨hkk⟩
    have hkcp := HKS.out.cap
    have hk32 : ts[k].kids.length <= 4294967296 := by have := HL2.out 0; omega
    obtain ⟨_, e1, _, _, e4, _⟩ := HMA.out.cells hlt
    have HMB := HMA.out.BL hlt (ts[k].kids.length : Int)
    obtain ⟨wB, hwB⟩ : ∃ wB, wA.setCell ⟨mb, k, none⟩ (.int .i64 (ts[k].kids.length : Int)) = wB := ⟨_, rfl⟩
    rw [hwB] at HMB
    have d1B : wB.cell? ⟨wr.heap.size, 1, none⟩ = some (.slice ka ts[k].kids.length kc) := by
     rw [← hwB, ← d1]
     exact World.cell?_of_block (Below.heap_setCell wA ⟨mb, k, none⟩ _ wr.heap.size (by show wr.heap.size ≠ mb; omega))
    obtain ⟨WF, hWF⟩ : ∃ WF, iU k ts[k].kids s.wh = WF := ⟨_, rfl⟩
    rw [hWF] at HW2 HD2
    have HWG : Bx (iU k (ts[k].kids.drop 0) s.wh = WF) := ⟨by rw [List.drop_zero]; exact hWF⟩
    have HLG : Bx (∀ x, (s.wh x).length + ((ts[k].kids.length - 0) + dU (ts.drop (k + 1))) <= 4294967296) := ⟨fun x => by have := HL2.out x; omega⟩
    have HMB2 : Bx _ := ⟨HMB⟩
    rw [hfv]
    clear HC HW HM HD HT hkd hks HL HMA hkk HMB hWF HL2
    generalize ts[k].kids = ks at *
    generalize ts[k].kind = kd at *
    generalize ts[k].res = rs at *
    go_wp2
    clear e1 e4 d0 d1 d1B hwA hwB c0 c1 c2 hkb
    obtain ⟨wA2, rfl⟩ : ∃ X, X = wr := ⟨_, rfl⟩
    go_loopg [46] (ks.length + 1) (fun f v46 wr => ∃ (i : Nat) (va' : Nat -> Value) (W' : Nat -> List Int), f = ks.length + 1 - i /\ i <= ks.length /\ v46 = .int .i64 i /\ Bx (va' ts.length = va ts.length) /\ Bx (iU k (ks.drop i) W' = WF) /\ Bx (DfM w wr w.heap.size mb ob base ts.length va' ⟨s.has, fup s.ms k (ks.length : Int), W', s.fd⟩) /\ Bx (∀ x, (W' x).length + ((ks.length - i) + dU (ts.drop (k + 1))) <= 4294967296))
    case atStart => exact ⟨0, va, s.wh, by simp, Nat.zero_le _, rfl, ⟨rfl⟩, HWG, HMB2, HLG⟩
    case round =>
     obtain ⟨i, va', W', hf2, hi, rfl, HV, HG, HM, HL⟩ := hrel
     clear HWG HLG HMB2
     by_cases hlt2 : i < ks.length
     ·obtain ⟨b', o', rfl, hb', hc'⟩ := HKS.out.at_ (by omega)
      have f0 := (HM.out.bel.cell (p := ⟨b', o' + i, none⟩) (by show b' < w.heap.size; omega)).trans (hc' i hlt2)
      have hiI : (i : Int) < (ks.length : Int) := by omega
      obtain ⟨y0, y1⟩ := HKK.out _ (List.getElem_mem hlt2)
      obtain ⟨m, hm⟩ : ∃ m : Nat, ks[i] = m := ⟨(ks[i]).toNat, by omega⟩
      have hmn : m < ts.length := by omega
      have hmI : (m : Int) < (ts.length : Int) := by omega
      have HG2 : Bx _ := ⟨(zG hlt2 W').symm.trans HG.out⟩
      rw [hm] at f0 HG2
      rw [show ((m : Int)).toNat = m by omega] at HG2
      obtain ⟨_, _, e3, _, _, e6⟩ := HM.out.cells hmn
      obtain ⟨ga, gc, hgv⟩ := HM.out.fam.slice (r := m) (by omega)
      rw [jH _ hmn] at hgv
      have hl1 := HL.out m
      obtain ⟨g, c, W3, run, x3, x4, HX⟩ := HM.out.BK hmn (k : Int) (by show (W' m).length <= _; omega)
      have HV2 : Bx _ := ⟨HV.out⟩
      have HL3 : Bx (∀ x, (fup W' m (W' m ++ [(k : Int)]) x).length + ((ks.length - (i + 1)) + dU (ts.drop (k + 1))) <= 4294967296) := ⟨fun x => by
       have := HL.out x
       by_cases e : x = m
       ·subst e; rw [aU, List.length_append]; simp; omega
       ·rw [bg _ _ e]; omega⟩
      rw [hgv] at run e3 x3
      clear hc' HL HG HV HM hm y0 y1 hl1 HKS HKK
      go_wp2_with (first
       | (at_builtin; refine aJ rfl (.tmp 55) (.tmp 57) 32 rfl rfl rfl run ?_; clear run))
      go_roundg (ks.length + 1 - (i + 1))
      case measure => omega
      case rel => exact ⟨i + 1, fup va' m _, _, rfl, by omega, by simp, ⟨by rw [bg _ _ (by omega)]; exact HV2.out⟩, HG2, HX, HL3⟩
     ·obtain rfl : i = ks.length := by omega
      have hr := HG.out
      rw [List.drop_length] at hr
      simp only [iU] at hr
      subst hr
      have hv2 := HV.out
      have HL4 : Bx (∀ x, (W' x).length + dU (ts.drop (k + 1)) <= 4294967296) := ⟨fun x => by have := HL.out x; omega⟩
      clear HG HL HV
      rw [hfv] at hv2
      go_wp2
      go_roundg (ts.length + 1 - (k + 1))
      case measure => omega
      case rel => exact ⟨k + 1, va', _, rfl, by omega, by simp, hv2.symm, HW2, HM, HD2, HL4⟩
   ·have hkb : (ts[k].kind != 4) = true := by simp [hkd]
    simp only [if_neg hkd] at HW2 HD2
    obtain ⟨g, c, W3, run, HX⟩ := HMA.out.AL (k : Int) (by omega)
    rw [hfv] at run ⊢
    clear HC HW HM HD HT hkd hks HL HMA
    generalize hrl : ts[k].kids = ks at *
    generalize ts[k].kind = kd at *
    generalize ts[k].res = rs at *
    clear hrl
    go_wp2_with (first
     | (at_builtin; refine aJ rfl (.tmp 33) (.tmp 35) 32 rfl rfl rfl run ?_; clear run))
    go_roundg (ts.length + 1 - (k + 1))
    case measure => omega
    case rel => exact ⟨k + 1, fup va ts.length _, _, rfl, by omega, by simp, by rw [aU], HW2, HX, HD2, ⟨fun x => by have := HL2.out x; show (s.wh x).length + _ <= _; omega⟩⟩
  ·obtain rfl : k = ts.length := by omega
   have hr := HW.out
   rw [List.drop_length] at hr
   simp only [fA] at hr
   subst hr
   have HD2 : Bx (D2 ts s) := ⟨HD.out.two⟩
   have HSF : Bx (fB (ts.length + 1) s = gI ts) := ⟨by unfold gI; rw [HSX.out]⟩
   have HWL : Bx (∀ x, (s.wh x).length <= 4294967296) := ⟨fun x => by have := HL.out x; omega⟩
   have HCH : Bx (cH ts.length s.has <= ts.length) := ⟨AF _ _⟩
   obtain ⟨SF, hSF⟩ : ∃ SF, gI ts = SF := ⟨_, rfl⟩
   rw [hSF] at HSF
   have HSE : Bx _ := ⟨hSF⟩
   clear hSF
   clear HW HD HT HL HS0 HSX
   go_wp2
   go_loopg [6] (ts.length) (fun f v6 wr => ∃ (va : Nat -> Value) (s : DfS), Bx (cH ts.length s.has <= f) /\ v6 = va ts.length /\ Bx (fB (f + 1) s = SF) /\ Bx (DfM w wr w.heap.size mb ob base ts.length va s) /\ Bx (D2 ts s) /\ Bx (∀ x, (s.wh x).length <= 4294967296))
   case atStart => exact ⟨va, s, HCH, rfl, HSF, HM, HD2, HWL⟩
   case round =>
    clear HCH HSF HM HD2 HWL
    obtain ⟨va, s, HC, rfl, HF, HM, HD, HWL⟩ := hrel
    rcases List.eq_nil_or_concat s.fd with hfd | ⟨rest, x, hfd⟩
    ·obtain ⟨fa, fc, hfv⟩ := HM.out.fam.slice (r := ts.length) (by omega)
     rw [jG, hfd] at hfv
     have hSF := HF.out
     rw [xh hfd] at hSF
     subst hSF
     have hM := HM.out
     have hbel := hM.bel
     have hl := HLL.out
     rw [hfv]
     simp only [List.length_nil]
     have HB : Bx (iy wr (some ⟨w.heap.size, 0, none⟩) ts.length (dfL ts) /\ Below w.heap.size w wr) := ⟨⟨by rw [hl]; exact Nat.le_refl _, by rw [hl]; exact hn, fun i hi => ?_⟩, hbel⟩
     ·clear HF HM HD HWL HC hM hbel hl hfv hfd
      go_wp2
      go_ret
      exact ⟨_, _, rfl, HB⟩
     ·rw [hl] at hi
      obtain ⟨q0, _⟩ := hM.cells hi
      refine ⟨w.heap.size, 0, rfl, (by have := hM.lt; omega), ?_⟩
      rw [Nat.zero_add, q0]
      simp [dfL, HSE.out]
    ·rw [List.concat_eq_append] at hfd
     obtain ⟨g, c, hvn, hcc, cx, hgl, HM1⟩ := HM.out.BS hfd
     obtain ⟨a1, a2, a3, HD3⟩ := HD.out.pop HTS.out hfd
     obtain ⟨m, hm⟩ : ∃ m : Nat, x = m := ⟨x.toNat, by omega⟩
     subst hm
     rw [show ((m : Int)).toNat = m by omega] at a3 HD3
     have hmn : m < ts.length := by omega
     have hmI : (m : Int) < (ts.length : Int) := by omega
     have hnd := HD.out.d3.nd
     have hrl : rest.length + 1 <= ts.length := by
      have := eH ts.length s.fd hnd fun x hx => by have := HD.out.d3.ef x hx; omega
      rw [hfd] at this
      simpa using this
     have hc1 : cH ts.length s.has = cH ts.length (fup s.has m true) + 1 := xf hmn a3
     obtain ⟨gf, hgf⟩ : ∃ gf, gk = gf + 1 := ⟨gk - 1, by have := HC.out; omega⟩
     subst hgf
     have HC2 : Bx (cH ts.length (fup s.has m true) <= gf) := ⟨by have := HC.out; omega⟩
     have HF2 : Bx _ := ⟨(xg HTS.out HD.out hfd (gf + 1)).symm.trans HF.out⟩
     rw [show ((m : Int)).toNat = m by omega] at HF2
     unfold df2 at HF2
     have HW2 : Bx (∀ x, ∀ w ∈ s.wh x, 0 <= w /\ w < (ts.length : Int) /\ bG ts w.toNat) := ⟨HD.out.whr⟩
     have HWC : Bx (∀ (x w : Nat), (s.wh x).count (w : Int) = if w < ts.length /\ bG ts w then kc ts w x else 0) := ⟨HD.out.whc⟩
     obtain ⟨b1, _, _, b4, _, _⟩ := HM1.out.cells hmn
     have HM2 : Bx _ := ⟨HM1.out.setH hmn true⟩
     obtain ⟨wB, hwB⟩ : ∃ wB, wr.setCell ⟨w.heap.size, m, none⟩ (.bool true) = wB := ⟨_, rfl⟩
     rw [hwB] at HM2
     obtain ⟨_, _, b3, _, _, _⟩ := HM2.out.cells hmn
     rw [bg _ _ (Nat.ne_of_lt hmn)] at b3
     obtain ⟨wa, wc, hwv⟩ := HM2.out.fam.slice (r := m) (by omega)
     rw [jH _ hmn, bg _ _ (Nat.ne_of_lt hmn)] at hwv
     simp only at hwv
     rw [hwv] at b3
     have hc0 : IntKind.i64.wrap ((rest.length : Int) + 1 - 1) = (rest.length : Int) := by rw [IntKind.wrap_i64]; omega
     obtain ⟨l, hl⟩ : ∃ l, s.wh m = l := ⟨_, rfl⟩
     have hl32 : l.length <= 4294967296 := by rw [← hl]; exact HWL.out m
     rw [hl] at b3 HF2 HD3 hwv
     obtain ⟨FIN, hFIN⟩ : ∃ FIN, iV l (s.ms, rest) = FIN := ⟨_, rfl⟩
     rw [hFIN] at HF2
     have HG : Bx (iV (l.drop 0) (s.ms, rest) = FIN) := ⟨by rw [List.drop_zero]; exact hFIN⟩
     have HD4 : Bx (D3 ts (fup s.has m true) (l.drop 0) s.ms rest) := ⟨by rw [List.drop_zero]; exact HD3⟩
     have HVM : Bx (fup va ts.length (.slice (some ⟨g, 0, none⟩) rest.length c) m = .slice wa l.length wc) := ⟨by rw [bg _ _ (Nat.ne_of_lt hmn)]; exact hwv⟩
     have HL0 : Bx (s.wh m = l) := ⟨hl⟩
     rw [hvn]
     clear HC HF HM HD HM1 hnd hc1 HD3 hFIN a1 a2 a3 hwv hl hfd
     go_wp2
     clear b1 b4 b3 hc0 hwB hvn cx
     obtain ⟨wA3, rfl⟩ : ∃ X, X = wr := ⟨_, rfl⟩
     go_loopg [6, 84] (l.length + 1) (fun f v6 v84 wr => ∃ (i : Nat) (va' : Nat -> Value) (ms : Nat -> Int) (fd : List Int), f = l.length + 1 - i /\ i <= l.length /\ v84 = .int .i64 i /\ v6 = va' ts.length /\ Bx (va' m = .slice wa l.length wc) /\ Bx (iV (l.drop i) (ms, fd) = FIN) /\ Bx (DfM w wr w.heap.size mb ob base ts.length va' ⟨fup s.has m true, ms, s.wh, fd⟩) /\ Bx (D3 ts (fup s.has m true) (l.drop i) ms fd))
     case atStart => exact ⟨0, _, s.ms, rest, by simp, Nat.zero_le _, rfl, by rw [aU], HVM, HG, HM2, HD4⟩
     case round =>
      obtain ⟨i, va', ms, fd, hf2, hi, rfl, rfl, HV, HG, HM, HD⟩ := hrel
      clear HVM HM2 HD4
      by_cases hlt2 : i < l.length
      ·obtain ⟨g2, c2, hv2, hc2, hgl2, f0⟩ := HM.out.fam.cell (r := m) (by omega) (i := i) (by rw [jH _ hmn]; show i < (s.wh m).length; rw [HL0.out]; exact hlt2)
       simp only [jH _ hmn, HL0.out] at f0 hv2 hc2
       rw [HV.out] at hv2
       simp only [Value.slice.injEq, true_and] at hv2
       obtain ⟨rfl, rfl⟩ := hv2
       have hiI : (i : Int) < (l.length : Int) := by omega
       have HD5 := HD.out
       rw [List.drop_eq_getElem_cons hlt2] at HD5
       obtain ⟨y0, y1, y2⟩ := HD5.rr _ List.mem_cons_self
       obtain ⟨HD6, z1, z2⟩ := HD5.step
       have hfl : fd.length <= ts.length := eH _ _ HD5.nd fun x hx => by have := HD5.ef x hx; omega
       have hcn : cN ts (fup s.has m true) (l[i]).toNat <= 4294967296 := by
        unfold cN
        refine Nat.le_trans List.countP_le_length ?_
        exact HKB.out _
       have hzl : (l[i] :: l.drop (i + 1)).length <= 4294967296 := by
        rw [← List.drop_eq_getElem_cons hlt2, List.length_drop]
        omega
       obtain ⟨q, hq⟩ : ∃ q : Nat, l[i] = q := ⟨(l[i]).toNat, by omega⟩
       have HG2 : Bx _ := ⟨(zH hlt2 (ms, fd)).symm.trans HG.out⟩
       rw [hq] at f0 HG2 HD6 z1 z2 hcn hzl
       rw [show ((q : Int)).toNat = q by omega] at HG2 HD6 z1 z2 hcn
       have hqn : q < ts.length := by omega
       have hqI : (q : Int) < (ts.length : Int) := by omega
       have hwr : IntKind.i64.wrap (ms q - 1) = ms q - 1 := by rw [IntKind.wrap_i64]; omega
       obtain ⟨_, e2, _, _, e5, _⟩ := HM.out.cells hqn
       have hMS := HM.out.BL hqn (ms q - 1)
       obtain ⟨wD, hwD⟩ : ∃ wD, wr.setCell ⟨mb, q, none⟩ (.int .i64 (ms q - 1)) = wD := ⟨_, rfl⟩
       rw [hwD] at hMS
       have HMD : Bx _ := ⟨hMS⟩
       obtain ⟨_, e2', _, _, _, _⟩ := hMS.cells hqn
       simp only [aU] at e2'
       have HD7 : Bx _ := ⟨HD6⟩
       have HV2 : Bx _ := ⟨HV.out⟩
       have hmq : m ≠ ts.length := Nat.ne_of_lt hmn
       clear HD5 HD6 hMS HM HD HG HV y0 y1 y2 hq hcn hzl z1 z2 HL0
       by_cases hz : ms q - 1 = 0
       ·have hzb : ((ms q - 1 : Int) == 0) = true := by simp [hz]
        obtain ⟨ga, gcc, hgv⟩ := HMD.out.fam.slice (r := ts.length) (by omega)
        rw [jG] at hgv
        obtain ⟨g3, c3, W3, run, HX⟩ := HMD.out.AL (q : Int) (by show fd.length <= _; omega)
        simp only at run HX hgv
        rw [if_pos hz] at HG2 HD7
        rw [hgv] at run ⊢
        clear HMD hz
        go_wp2_with (first
         | (at_builtin; refine aJ rfl (.tmp 99) (.tmp 101) 32 rfl rfl rfl run ?_; clear run))
        go_roundg (l.length + 1 - (i + 1))
        case measure => omega
        case rel => exact ⟨i + 1, fup va' ts.length _, _, _, rfl, by omega, by simp, by rw [aU], ⟨by rw [bg _ _ hmq]; exact HV2.out⟩, HG2, HX, HD7⟩
       ·have hzb : ((ms q - 1 : Int) == 0) = false := by simp [hz]
        rw [if_neg hz] at HG2 HD7
        clear hz
        go_wp2
        go_roundg (l.length + 1 - (i + 1))
        case measure => omega
        case rel => exact ⟨i + 1, va', _, _, rfl, by omega, by simp, rfl, HV2, HG2, HMD, HD7⟩
      ·obtain rfl : i = l.length := by omega
       have hr := HG.out
       rw [List.drop_length] at hr
       simp only [iV] at hr
       subst hr
       have hd := HD.out
       rw [List.drop_length] at hd
       have HD8 : Bx (D2 ts ⟨fup s.has m true, ms, s.wh, fd⟩) := ⟨⟨HW2.out, HWC.out, hd⟩⟩
       clear HG HD hd HV
       go_wp2
       go_roundg (gf)
       case measure => omega
       case rel => exact ⟨va', _, HC2, rfl, HF2, HM, HD8, HWL⟩
theorem QM.slice {W : World} {B : Nat} {v : Value} {xs : List Int} (h : QM W B v xs) : ∃ a c, v = .slice a xs.length c /\ xs.length <= c := by
 rcases h with ⟨rfl, rfl⟩ | ⟨b, off, cap, cur, rfl, h2, h3, h4, h5, h6, h7⟩
 ·exact ⟨none, 0, rfl, Nat.le_refl _⟩
 ·exact ⟨_, _, rfl, h5⟩
structure QS (w wr : World) (H : Nat) (v5 v6 : Value) (S N : List Int) : Prop where
 own : wr.ownsRow H 3 1 v5 S.length (bn S)
 qm : QM wr H v6 N
 ne : ∀ g, v5.ownBlock = some g -> v6.ownBlock ≠ some g
 bel : Below H w wr
 sz : H <= wr.heap.size
theorem QS.start (w : World) : QS w w w.heap.size (.slice none 0 0) (.slice none 0 0) [] [] := ⟨⟨rfl, .inl ⟨rfl, rfl⟩⟩, .inl ⟨rfl, rfl⟩, fun g hg => (by cases hg), Below.refl _ _, Nat.le_refl _⟩
theorem QS.later {w wr X : World} {H : Nat} {v5 v6 : Value} {S N : List Int} (h : QS w wr H v5 v6 S N) (hX : Below wr.heap.size wr X) : QS w X H v5 v6 S N :=
 ⟨aZ h.own hX, h.qm.same fun g o _ hg => (hX.block g (ah hg)).trans hg, h.ne, h.bel.trans (hX.mono h.sz), Nat.le_trans h.sz hX.size⟩
theorem QS.Bq {w wr : World} {H B : Nat} {v5 v6 : Value} {S N : List Int} (h : QS w wr H v5 v6 S N) (hB : B <= H) {ka : Option Addr} {kc : Nat} {ks : List Int} (hk : aF w B ka kc ks) (h0 : 0 < ks.length) (hn : N.length + ks.length <= 8589934592) :
  ∃ v' W3, (∀ ty, (Builtin.append_ #[32, 32] ty #[v6, .slice ka ks.length kc]).run Tryd.prog wr = .ok v' W3) /\ QS w W3 H v5 v' S (N ++ ks) := by
 obtain ⟨v', W3, r, q, g, e⟩ := h.qm.app (hk.below (h.bel.mono hB)) h0 hn h.sz
 have hb : Below H wr W3 := (Below.refl _ _).grown g h.sz fun k hk => (h.qm.kind hk).1
 refine ⟨v', W3, r, ⟨bS h.own fun y o hy ho => ?_, q, fun y hy => ?_, h.bel.trans hb, Nat.le_trans h.sz hb.size⟩⟩
 ·exact dF g ho fun e2 => h.ne y hy e2
 ·rcases e with e | ⟨z, e, hz⟩
  ·rw [e]; exact h.ne y hy
  ·rw [e]
   intro e2
   have := (aD h.own hy).2
   simp at e2
   omega
theorem QS.AO {w wr : World} {H : Nat} {v5 v6 : Value} {S N : List Int} (h : QS w wr H v5 v6 S N) (x : Int) (hn : S.length <= 4294967296) :
  ∃ g c W3, (∀ ty, (Builtin.append_ #[32, 32] ty #[v5, .slice (some ⟨wr.heap.size, 0, none⟩) 1 1]).run Tryd.prog (wr.alloc (.cells #[.int .i64 x] 3)) = .ok (.slice (some ⟨g, 0, none⟩) (S.length + 1) c) W3) /\ QS w W3 H (.slice (some ⟨g, 0, none⟩) (S.length + 1) c) v6 (S ++ [x]) N := by
 obtain ⟨i0, hi0, iz0, iz1, iz2⟩ := info_parts gQ
 obtain ⟨g, c, W1, r, o, gr, _, hg⟩ := app1 Tryd.underlying32 hi0 iz0 iz1 iz2 rfl (by decide) wr H v5 S.length _ h.own #[.int .i64 x] rfl (by simp [Value.oneCell']) (by unfold maxLen; omega) (by omega) h.sz
 have hb := (Below.refl H wr).grown gr h.sz fun k hk => (aD h.own hk).1
 refine ⟨g, c, W1, r, ⟨by rw [List.length_append]; simpa [bn] using o, h.qm.same fun y z hy hz => dF gr hz fun e => h.ne y e hy, fun y hy => ?_, h.bel.trans hb, Nat.le_trans h.sz hb.size⟩⟩
 simp only [Value.ownBlock, Option.some.injEq] at hy
 subst hy
 rcases hg with hg | hg
 ·exact h.ne g hg
 ·intro e
  obtain ⟨_, cur, hc⟩ := h.qm.kind e
  have := ah hc
  omega
theorem QS.tail {w wr : World} {H : Nat} {v5 v6 : Value} {S N : List Int} {x : Int} (h : QS w wr H v5 v6 S (x :: N)) : ∃ b off cap, v6 = .slice (some ⟨b, off, none⟩) (N.length + 1) cap /\ N.length + 1 <= cap /\ cap <= maxLen /\ wr.cell? ⟨b, off, none⟩ = some (.int .i64 x) /\ ∀ ka, (if cap = 1 then some (⟨b, off, none⟩ : Addr) else some ⟨b, off + 1, none⟩) = ka -> QS w wr H v5 (.slice ka N.length (cap - 1)) S N := by
 obtain ⟨b, off, cap, e, h1, h2, h3, h4⟩ := h.qm.tail
 refine ⟨b, off, cap, e, h1, h2, h3, fun ka hka => ?_⟩
 obtain ⟨q1, q2⟩ := h4 ka hka.symm
 exact ⟨h.own, q1, fun g hg => by rw [q2]; exact h.ne g hg, h.bel, h.sz⟩
theorem oZ (w : World) (B : Nat) (a : Option Addr) (c : Nat) (xs : List Int) (h : aF w B a c xs) (n : Int) :
  Calls Tryd.prog 75 #[.slice a xs.length c, .int .i64 n] w fun e w' => e = .returned (.bool (decide (n ∈ xs))) /\ w = w' := by
 have hmx := h.max
 unfold maxLen at hmx
 have HX : Bx _ := ⟨h⟩
 clear h
 have HN : Bx (∀ r : Bool, (r = true ↔ n ∈ xs) -> decide (n ∈ xs) = r) := ⟨fun r hr => by cases r <;> simp_all⟩
 generalize decide (n ∈ xs) = R at *
 go_enter Tryd.func75, Tryd.ntmps75
 go_wp2
 go_loopg [9] (xs.length + 1) (fun f v9 wr => ∃ p : Nat, f = xs.length + 1 - p /\ p <= xs.length /\ v9 = .int .i64 p /\ wr = w /\ Bx (n ∉ xs.take p))
 case atStart => exact ⟨0, by simp, Nat.zero_le _, rfl, rfl, ⟨by simp⟩⟩
 case round =>
  obtain ⟨p, hf, hp, rfl, rfl, HR⟩ := hrel
  by_cases hlt : p < xs.length
  ·obtain ⟨b1, o1, rfl, hb1, hcell1⟩ := HX.out.at_ (by omega)
   have hc1 := HX.out.cap
   have k1 := hcell1 p hlt
   have hpI : (p : Int) < (xs.length : Int) := by omega
   by_cases he : xs[p] = n
   ·have hf : R = true := HN.out true (by simp; rw [← he]; exact List.getElem_mem hlt)
    have hz : (xs[p] == n) = true := by simpa using he
    generalize xs[p] = z at *
    clear hcell1 HR HX HN
    go_wp2
    go_ret
    exact ⟨aG hf.symm, rfl⟩
   ·have hz : (xs[p] == n) = false := by simpa using he
    have HR2 : Bx (n ∉ xs.take (p + 1)) := ⟨by
     rw [List.take_succ_eq_append_getElem hlt]
     intro e
     rcases List.mem_append.1 e with e | e
     ·exact HR.out e
     ·simp at e; exact he e.symm⟩
    generalize xs[p] = z at *
    clear hcell1 HR HX HN
    go_wp2
    go_roundg (xs.length + 1 - (p + 1))
    case measure => omega
    case rel => exact ⟨p + 1, rfl, by omega, by go_num, rfl, HR2⟩
  ·have hf : R = false := HN.out false (by
    have := HR.out
    rw [List.take_of_length_le (by omega)] at this
    simp [this])
   clear HR HX HN
   go_wp2
   go_ret
   exact ⟨aG hf.symm, rfl⟩
end Go.Proofs.YtadmpgegolmkgaaDoor
