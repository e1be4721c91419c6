import Derived.Test.YtjabdhmkibahlaaCGZa
import Derived.Sort.OwnSortedInts
import Derived.Lib.OwnBridge
import Derived.Sort.Grow
import Derived.Shelf.SlIterI.Nil
import Derived.Ground.GgzProg
import Derived.Test.YtjabdhmkibahlaaProg
namespace Go.Proofs.Ytjabdhmkibahlaa
open Go.RowKit Go.MapKept Go.ChangeMaps Go.WideShapes Go.Sort
set_option linter.unusedVariables false
set_option linter.unusedSimpArgs false

def srt (l : List Int) : List Int := l.mergeSort fun x y => decide (x ≤ y)
theorem sort_any (W : World) (base : Nat) (v : Value) (zs : List Int) (h : W.ownsRow base 3 1 v zs.length (rowC zs)) (hz : zs.length < 4611686018427387904) :
    Calls Try.prog 59 #[v] W fun e W2 => e = .returned (.tuple #[]) ∧ W2.ownsRow base 3 1 v zs.length (rowC (srt zs)) ∧ W.grownBy W2 v.ownBlock := by
  by_cases h0 : zs.length = 0
  · obtain rfl : zs = [] := List.eq_nil_of_length_eq_zero h0
    obtain ⟨p, c, rfl⟩ : ∃ p c, v = .slice p 0 c := by
      rcases h.2 with ⟨rfl, _⟩ | ⟨g, c, cur, rfl, _⟩
      · exact ⟨_, _, rfl⟩
      · exact ⟨_, _, rfl⟩
    refine (Go.Proofs.Try.slices_Sort_int_none p c W).mono ?_
    rintro e W2 ⟨rfl, rfl⟩
    exact ⟨rfl, by rw [show srt [] = [] by simp [srt]]; exact h, ⟨rfl, rfl, rfl, Nat.le_refl _, fun _ _ _ => rfl⟩⟩
  · have hnn : v ≠ .slice none 0 0 := by
      rintro rfl
      rcases h.2 with ⟨_, h⟩ | ⟨g, c, cur, h, _⟩
      · exact h0 h
      · cases h
    obtain ⟨g, gc, rfl, hg3, hgl, hgc, hgm, _, hH⟩ := Lib.holds_of_ownsRow h hnn
    refine (Go.Proofs.Try.slices_Sort_int g 0 gc zs W hH hgl hz).mono ?_
    rintro e W2 ⟨rfl, nn, os, hW2⟩
    refine ⟨rfl, ?_, ?_⟩
    · rcases h.2 with ⟨h1, _⟩ | ⟨g', cap', cur, e, q1, q2, q3, q4, q5, q6⟩
      · cases h1
      · cases e
        rw [hW2]
        exact ownsRow_sortedI (ss := zs) (by rw [List.length_mergeSort]) q1 q2 (by omega) q4 q5
    · rw [hW2]; exact grownBy_sortedI _
/-! ### a range over a map by stances -/
def stE (a b : Stc) : Bool := a.awake == b.awake && a.sends == b.sends && a.recvs == b.recvs
theorem stE_iff (a b : Stc) : stE a b = true ↔ a = b := by
  obtain ⟨a1, a2, a3⟩ := a
  obtain ⟨b1, b2, b3⟩ := b
  simp [stE, and_assoc]
structure RgS (W : World) (mb r n : Nat) (M : Stc → Value) (hs : Stc → Bool) (left : Stc → Bool) (cnt : Nat) : Prop where
  ex : ∃ D lf, W.ranges Try.prog 72 Rw mb r n D lf cnt ∧ (∀ c kl, keyOf Try.prog 72 (stV c) = some kl → D.atKey kl (.held nV) = .held (M c) ∧ Maps.has D kl = hs c) ∧ (∀ kl, Maps.has D kl = true → ∃ c, keyOf Try.prog 72 (stV c) = some kl) ∧ ∀ c kl, keyOf Try.prog 72 (stV c) = some kl → lf kl = left c
theorem RgS.same {W W' : World} {mb r n : Nat} {M : Stc → Value} {hs left : Stc → Bool} {cnt : Nat} (h : RgS W mb r n M hs left cnt) (h1 : W'.heap[mb]? = W.heap[mb]?) (h2 : W'.heap[r]? = W.heap[r]?) : RgS W' mb r n M hs left cnt := by
  obtain ⟨D, lf, ⟨es, clock, since, seen, c0, hb, F, hsz, hD, hr, rest⟩, h3⟩ := h.ex
  exact ⟨D, lf, ⟨es, clock, since, seen, c0, h1.trans hb, F, hsz, hD, h2.trans hr, rest⟩, h3⟩
theorem RgS.lt {W : World} {mb r n : Nat} {M : Stc → Value} {hs left : Stc → Bool} {cnt : Nat} (h : RgS W mb r n M hs left cnt) : mb < W.heap.size ∧ r < W.heap.size := by
  obtain ⟨D, lf, h1, _⟩ := h.ex
  exact ⟨h1.owns.lt, h1.lt⟩
section
variable {w : World} {ops : Array Oper} {rest : List Oper} {o : Oper} {a : Act} {Q : Exit → Act → World → Prop}
theorem rangeS (hg : o.guard = none) (m : Operand) (hop : o.op = Op.range 75 m) (mb n : Nat) (M : Stc → Value) (hs : Stc → Bool)
    (hm : a.eval m = .map (some mb)) (h : MpS w mb n M hs)
    (hK : ∀ w' cnt, RgS w' mb w.heap.size n M hs hs cnt → Below w.heap.size w w' → w'.heap.size = w.heap.size + 1 → wpList Try.prog ops Q rest (a.put o.dst (.pointer (some ⟨w.heap.size, 0, none⟩))) w') :
    wpList Try.prog ops Q (o :: rest) a w := by
  obtain ⟨D, h1, h2, h3⟩ := h.ex
  refine wpList_range_own w hg m 75 hop 72 45 keyedS Try.underlying75 Rw mb n D hm h1 (fun w' hr hgr hsz => ?_)
  exact hK w' _ ⟨D, _, hr, h2, h3, fun c kl hc => (h2 c kl hc).2⟩ ⟨hgr.os, hgr.tape, hgr.output, hgr.size, fun b hb => hgr.block b hb (by simp)⟩ hsz
theorem nextT (hg : o.guard = none) (it : Operand) (hop : o.op = Op.next it false) (mb r n : Nat) (M : Stc → Value) (hs left : Stc → Bool) (cnt : Nat)
    (hit : a.eval it = .pointer (some ⟨r, 0, none⟩)) (h : RgS w mb r n M hs left cnt)
    (hDone : (∀ c, left c = false) → wpList Try.prog ops Q rest (a.put o.dst (.tuple #[.bool false])) w)
    (hMore : ∀ (c : Stc) (w' : World) (cnt' : Nat), left c = true → hs c = true → RgS w' mb r n M hs (fun d => left d && !stE d c) cnt' → cnt' < cnt → w.grownBy w' (some r) → w'.heap.size = w.heap.size → (Instr.entry (.pointer (some ⟨r, 0, none⟩))).run Try.prog w' = .ok (.tuple #[.agg #[.bool c.awake, .bool c.sends, .bool c.recvs], M c]) w' → wpList Try.prog ops Q rest (a.put o.dst (.tuple #[.bool true, .agg #[.bool c.awake, .bool c.sends, .bool c.recvs], M c])) w') :
    wpList Try.prog ops Q (o :: rest) a w := by
  obtain ⟨D, lf, h1, h2, h3, h4⟩ := h.ex
  refine wpList_next_ranges w hg it hop 72 keyedS Rw (fun v : Value => v) (fun v : Value => v) (fun key kl _ => ⟨key, rfl⟩) (fun v y _ => ⟨v, rfl⟩) mb r n D lf cnt hit h1 (fun _ hl => hDone (fun c => by
    obtain ⟨kl, hk⟩ := keyS c
    rw [← h4 c kl hk]; exact hl _)) ?_
  intro x v kl y w' cnt' hkey hlk hRv hat hrg hlt hgr hsz hen
  obtain ⟨c, hc⟩ := h3 kl (Maps.has_true_of_atKey hat)
  obtain rfl : x = stV c := keyedS.inj hkey hc
  have hv : v = M c := by
    have e1 := (h2 c kl hc).1
    have e3 : D.atKey kl (.held nV) = y.1 := hat _
    rw [e1] at e3
    have e4 : some ((DataW.held v : DataW Value), ([] : List MemPlace)) = some y := hRv
    rw [← Option.some.inj e4] at e3
    exact (DataW.held.inj e3).symm
  subst hv
  have hh : hs c = true := by
    rw [← (h2 c kl hc).2]
    exact Maps.has_true_of_atKey hat
  refine hMore c w' cnt' (by rw [← h4 c kl hc]; exact hlk) hh ⟨D, _, hrg, h2, h3, fun d kd hd => ?_⟩ hlt hgr hsz hen
  show (lf kd && !kd.sameKey kl) = _
  rw [h4 d kd hd]
  by_cases e : d = c
  · subst e
    rw [hc] at hd
    cases hd
    rw [WideAt.sameKey_self (keyedS.key hc), (stE_iff d d).2 rfl]
  · rw [Maps.sameKey_ne (keyS_ne hd hc e), show stE d c = false by
      cases hx : stE d c with
      | false => rfl
      | true => exact absurd ((stE_iff d c).1 hx) e]
end
/-- those of a crowd that can wake one -/
structure Wk (idc : Stc → List Int) (so : Stc) (woken : Int) (left : Stc → Bool) (O : List Int) : Prop where
  mem : ∀ k, k ∈ O ↔ ∃ s, left s = false ∧ s.wakes so = true ∧ k ∈ idc s ∧ k ≠ woken
  nod : O.Nodup
def WkPost (w : World) (idc : Stc → List Int) (so : Stc) (woken : Int) (e : Ending) (w' : World) : Prop := ∃ v L, e = .returned v ∧ w'.ownsRow w.heap.size 3 1 v L.length (rowC L) ∧ L.Pairwise (· ≤ ·) ∧ L.Nodup ∧ (∀ k, k ∈ L ↔ ∃ s, s.wakes so = true ∧ k ∈ idc s ∧ k ≠ woken) ∧ Below w.heap.size w w'
theorem srt_mem (l : List Int) (k : Int) : k ∈ srt l ↔ k ∈ l := (List.mergeSort_perm l _).mem_iff
theorem srt_nod {l : List Int} (h : l.Nodup) : (srt l).Nodup := (List.mergeSort_perm l _).nodup_iff.2 h
theorem srt_len (l : List Int) : (srt l).length = l.length := List.length_mergeSort _
theorem srt_le (l : List Int) : (srt l).Pairwise (· ≤ ·) := by
  have h := List.pairwise_mergeSort (le := fun x y : Int => decide (x ≤ y)) (fun a b c h1 h2 => by simp at *; omega) (fun a b => by simp; omega) l
  exact h.imp (fun h => by simpa using h)
/-- what is read of a crowd -/
structure CwR (w : World) (mb n : Nat) (Vc : Stc → Value) (hS : Stc → Bool) (idc : Stc → List Int) : Prop where
  map : MpS w mb n Vc hS
  non : ∀ s, hS s = false → idc s = []
  row : ∀ s, ∃ B, w.ownsRow B 3 1 (Vc s) (idc s).length (rowC (idc s))
  dis : ∀ s t k, k ∈ idc s → k ∈ idc t → s = t
  nod : ∀ s, (idc s).Nodup
  len : ∀ s, (idc s).length ≤ 100000
theorem Wk.skip {idc : Stc → List Int} {so s0 : Stc} {woken : Int} {left : Stc → Bool} {O : List Int} (h : Wk idc so woken left O) (hw : s0.wakes so = false) : Wk idc so woken (fun d => left d && !stE d s0) O := by
  refine ⟨fun k => ?_, h.nod⟩
  rw [h.mem]
  constructor
  · rintro ⟨s, h1, h2⟩; exact ⟨s, by rw [h1]; rfl, h2⟩
  · rintro ⟨s, h1, h2, h3⟩
    by_cases e : stE s s0 = true
    · rw [(stE_iff s s0).1 e, hw] at h2; cases h2
    · have e' : stE s s0 = false := by simpa using e
      rw [e'] at h1
      exact ⟨s, by simpa using h1, h2, h3⟩
theorem Wk.add {w : World} {mb n : Nat} {Vc : Stc → Value} {hS : Stc → Bool} {idc : Stc → List Int} {so s0 : Stc} {woken : Int} {left : Stc → Bool} {O : List Int} (h : Wk idc so woken left O) (hc : CwR w mb n Vc hS idc) (hhs : hS s0 = true) (hlf : left s0 = true) (hw : s0.wakes so = true) : Wk idc so woken (fun d => left d && !stE d s0) (O ++ (idc s0).filter (· != woken)) := by
  refine ⟨fun k => ?_, List.nodup_append.2 ⟨h.nod, (hc.nod s0).filter _, fun a ha b hb => ?_⟩⟩
  · rw [List.mem_append, h.mem, List.mem_filter]
    constructor
    · rintro (⟨s, h1, h2⟩ | ⟨h1, h2⟩)
      · exact ⟨s, by rw [h1]; rfl, h2⟩
      · exact ⟨s0, by rw [(stE_iff s0 s0).2 rfl]; simp, hw, h1, by simpa using h2⟩
    · rintro ⟨s, h1, h2, h3, h4⟩
      by_cases e : stE s s0 = true
      · rw [(stE_iff s s0).1 e] at h3
        exact .inr ⟨h3, by simpa using h4⟩
      · have e' : stE s s0 = false := by simpa using e
        rw [e'] at h1
        exact .inl ⟨s, by simpa using h1, h2, h3, h4⟩
  · rintro rfl
    obtain ⟨s, h1, _, h3, _⟩ := (h.mem a).1 ha
    have := hc.dis s s0 a h3 (List.mem_filter.1 hb).1
    rw [this, hlf] at h1
    cases h1
theorem wk_len {w : World} {mb n : Nat} {Vc : Stc → Value} {hS : Stc → Bool} {idc : Stc → List Int} {so : Stc} {woken : Int} {left : Stc → Bool} {O : List Int} (hc : CwR w mb n Vc hS idc) (h : Wk idc so woken left O) : O.length ≤ 1000000 := by
  have h1 := nod_len h.nod (ks := idc ⟨false, false, false⟩ ++ (idc ⟨false, false, true⟩ ++ (idc ⟨false, true, false⟩ ++ (idc ⟨false, true, true⟩ ++ (idc ⟨true, false, false⟩ ++ (idc ⟨true, false, true⟩ ++ (idc ⟨true, true, false⟩ ++ idc ⟨true, true, true⟩))))))) (fun k hk => by
    obtain ⟨⟨a, b, c⟩, _, _, h3, _⟩ := (h.mem k).1 hk
    simp only [List.mem_append]
    cases a <;> cases b <;> cases c <;> simp [h3])
  simp only [List.length_append] at h1
  have := hc.len ⟨false, false, false⟩
  have := hc.len ⟨false, false, true⟩
  have := hc.len ⟨false, true, false⟩
  have := hc.len ⟨false, true, true⟩
  have := hc.len ⟨true, false, false⟩
  have := hc.len ⟨true, false, true⟩
  have := hc.len ⟨true, true, false⟩
  have := hc.len ⟨true, true, true⟩
  omega
theorem wk_app {w wr w5 : World} {mb r n cnt : Nat} {Vc : Stc → Value} {hS left : Stc → Bool} {O : List Int} {u : Value} {so : Stc} {kk : Int} (hmw : mb < w.heap.size) (hr : r = w.heap.size + 1) (h1 : RgS wr mb r n Vc hS left cnt) (hb : RowKit.Below w.heap.size w wr) (hk : wr.heap[w.heap.size]? = some (.cells #[.bool so.awake, .bool so.sends, .bool so.recvs] 72 (0, 0))) (ho : wr.ownsRow (w.heap.size + 2) 3 1 u O.length (rowC O)) (hg : (wr.alloc (.cells #[.int .i64 kk] 3)).grownBy w5 u.ownBlock) :
    RgS w5 mb r n Vc hS left cnt ∧ RowKit.Below w.heap.size w w5 ∧ w5.heap[w.heap.size]? = some (.cells #[.bool so.awake, .bool so.sends, .bool so.recvs] 72 (0, 0)) := by
  have hl := h1.lt
  have hmb : mb < wr.heap.size := hl.1
  have k : ∀ b, b < wr.heap.size → b < w.heap.size + 2 → w5.heap[b]? = wr.heap[b]? := fun b hb1 hb2 => (hg.block b (by simp; omega) (fun e => by have := own_base ho b e.symm; omega)).trans (Below.heap_alloc _ _ _ hb1)
  have hbX := hb.trans ((below1 wr (.cells #[.int .i64 kk] 3)).mono hb.size)
  have hmbl : mb < w.heap.size + 2 := by omega
  exact ⟨h1.same (k mb hmb hmbl) (k r hl.2 (by omega)), hbX.grown hg hbX.size (fun x e => by have := own_base ho x e; omega), (k _ (Array.getElem?_eq_some_iff.1 hk).1 (by omega)).trans hk⟩
theorem wk_prep {w wr w2 : World} {mb r n cnt cnt2 : Nat} {Vc : Stc → Value} {hS left left' : Stc → Bool} {idc : Stc → List Int} {O : List Int} {u : Value} {so s0 : Stc} (hc : CwR w mb n Vc hS idc) (h1 : RgS wr mb r n Vc hS left cnt) (hb : RowKit.Below w.heap.size w wr) (hk : wr.heap[w.heap.size]? = some (.cells #[.bool so.awake, .bool so.sends, .bool so.recvs] 72 (0, 0))) (ho : wr.ownsRow (w.heap.size + 2) 3 1 u O.length (rowC O)) (hr : r = w.heap.size + 1) (h2 : RgS w2 mb r n Vc hS left' cnt2) (hg : wr.grownBy w2 (some r)) (hz : w2.heap.size = wr.heap.size) :
    ∃ sp sc, (idc s0).length ≤ sc ∧ Vc s0 = .slice sp (idc s0).length sc ∧ (w2.alloc (.cells #[.bool s0.awake, .bool s0.sends, .bool s0.recvs] 72)).cell? ⟨w2.heap.size, 0, none⟩ = some (.bool s0.awake) ∧ (w2.alloc (.cells #[.bool s0.awake, .bool s0.sends, .bool s0.recvs] 72)).cell? ⟨w2.heap.size, 1, none⟩ = some (.bool s0.sends) ∧ (w2.alloc (.cells #[.bool s0.awake, .bool s0.sends, .bool s0.recvs] 72)).cell? ⟨w2.heap.size, 2, none⟩ = some (.bool s0.recvs) ∧
      (w2.alloc (.cells #[.bool s0.awake, .bool s0.sends, .bool s0.recvs] 72)).cell? ⟨w.heap.size, 0, none⟩ = some (.bool so.awake) ∧ (w2.alloc (.cells #[.bool s0.awake, .bool s0.sends, .bool s0.recvs] 72)).cell? ⟨w.heap.size, 1, none⟩ = some (.bool so.sends) ∧ (w2.alloc (.cells #[.bool s0.awake, .bool s0.sends, .bool s0.recvs] 72)).cell? ⟨w.heap.size, 2, none⟩ = some (.bool so.recvs) ∧
      Bx (∀ w3, RowKit.Below (w2.alloc (.cells #[.bool s0.awake, .bool s0.sends, .bool s0.recvs] 72)).heap.size (w2.alloc (.cells #[.bool s0.awake, .bool s0.sends, .bool s0.recvs] 72)) w3 → Bx (RgS w3 mb r n Vc hS left' cnt2 ∧ RowKit.Below w.heap.size w w3 ∧ w3.heap[w.heap.size]? = some (.cells #[.bool so.awake, .bool so.sends, .bool so.recvs] 72 (0, 0)) ∧ w3.ownsRow (w.heap.size + 2) 3 1 u O.length (rowC O)) ∧ Bx (∀ j (hj : j < (idc s0).length), ∃ b, sp = some ⟨b, 0, none⟩ ∧ ∀ X, RowKit.Below w.heap.size w X → X.cell? ⟨b, j, none⟩ = some (.int .i64 (idc s0)[j]))) := by
  obtain ⟨B, hrow⟩ := hc.row s0
  obtain ⟨sp, sc, hsc, e, hcl⟩ : ∃ sp sc, (idc s0).length ≤ sc ∧ Vc s0 = .slice sp (idc s0).length sc ∧ ∀ j (hj : j < (idc s0).length), ∃ b, sp = some ⟨b, 0, none⟩ ∧ ∀ X, RowKit.Below w.heap.size w X → X.cell? ⟨b, j, none⟩ = some (.int .i64 (idc s0)[j]) := by
    have hrow' := hrow
    rcases hrow.2 with ⟨x1, x2⟩ | ⟨g, cap, cur, x1, x2, x3, x4, x5, x6, x7⟩
    · exact ⟨none, 0, by omega, by rw [x1, x2], fun j hj => by omega⟩
    · refine ⟨_, cap, x4, x1, fun j hj => ⟨g, rfl, fun X hX => ?_⟩⟩
      rw [x1] at hrow'
      have h5 := hrow'.cellAt j (by omega)
      rw [hX.cell (p := ⟨g, j, none⟩) (Array.getElem?_eq_some_iff.1 x3).1]
      refine h5.trans ?_
      simp [rowC, hj]
  have hkl := (Array.getElem?_eq_some_iff.1 hk).1
  have hk2 : w2.heap[w.heap.size]? = some (.cells #[.bool so.awake, .bool so.sends, .bool so.recvs] 72 (0, 0)) := (hg.block _ hkl (fun e => by injection e with e; omega)).trans hk
  have hbY := below1 w2 (.cells #[.bool s0.awake, .bool s0.sends, .bool s0.recvs] 72)
  have hkY := (hbY.block _ (by omega)).trans hk2
  have hnY := World.alloc_heap_new w2 (.cells #[.bool s0.awake, .bool s0.sends, .bool s0.recvs] 72)
  have hb2 : RowKit.Below w.heap.size w w2 := hb.grown hg hb.size (fun x e => by cases e; omega)
  have ho2 : w2.ownsRow (w.heap.size + 2) 3 1 u O.length (rowC O) := own_same ho (fun g o hg' ho' => by
    have h6 := own_base ho g hg'
    exact (hg.block g (Array.getElem?_eq_some_iff.1 ho').1 (fun e => by injection e with e; omega)).trans ho')
  refine ⟨sp, sc, hsc, e, cell_of hnY rfl, cell_of hnY rfl, cell_of hnY rfl, cell_of hkY rfl, cell_of hkY rfl, cell_of hkY rfl, ⟨fun w3 h3 => ⟨⟨?_, ?_, ?_, ?_⟩, ⟨hcl⟩⟩⟩⟩
  · have hl := h2.lt
    have hb23 := hbY.trans (h3.mono hbY.size)
    exact h2.same (hb23.block mb hl.1) (hb23.block r hl.2)
  · exact hb2.trans ((hbY.trans (h3.mono hbY.size)).mono hb2.size)
  · exact (h3.block _ (by simp; omega)).trans hkY
  · exact own_new (own_new ho2 hbY) h3
set_option maxRecDepth 100000 in
set_option maxHeartbeats 16000000 in
theorem wakers_any (w : World) (mb n : Nat) (Vc : Stc → Value) (hS : Stc → Bool) (idc : Stc → List Int) (so : Stc) (woken : Int) (h : CwR w mb n Vc hS idc) :
    Calls Try.prog 42 #[.map (some mb), stV so, .int .i64 woken] w (WkPost w idc so woken) := by
  obtain ⟨i0, hi, iz0, iz1, iz2⟩ := info_parts infoI
  simp only [stV]
  obtain ⟨X, hX⟩ : ∃ X, w.alloc (.cells #[.bool so.awake, .bool so.sends, .bool so.recvs] 72) = X := ⟨_, rfl⟩
  have hbX : Below w.heap.size w X := by rw [← hX]; exact below1 _ _
  have hkX : X.heap[w.heap.size]? = some (.cells #[.bool so.awake, .bool so.sends, .bool so.recvs] 72 (0, 0)) := by rw [← hX]; exact World.alloc_heap_new _ _
  have HH : Bx (CwR w mb n Vc hS idc) := ⟨h⟩
  have HX : Bx (w.alloc (.cells #[.bool so.awake, .bool so.sends, .bool so.recvs] 72) = X ∧ Below w.heap.size w X ∧ X.heap[w.heap.size]? = some (.cells #[.bool so.awake, .bool so.sends, .bool so.recvs] 72 (0, 0)) ∧ X.heap.size = w.heap.size + 1) := ⟨hX, hbX, hkX, by rw [← hX]; simp⟩
  have HMP : Bx (MpS X mb n Vc hS) := ⟨h.map.same (hbX.block mb h.map.lt)⟩
  clear h hbX hkX hX
  go_enter Try.func42, Try.ntmps42
  go_wp2_with (first | (at_range; rw [HX.out.1]; refine rangeS rfl (.tmp 12) rfl mb n Vc hS rfl HMP.out ?_; intro w1 cnt hrg hb1 hz1; have R1 : Bx _ := ⟨hrg⟩; have B1 : Bx _ := ⟨hb1⟩; clear hrg hb1))
  obtain ⟨r, hr⟩ : ∃ r, X.heap.size = r := ⟨_, rfl⟩
  rw [hr] at R1 hz1 ⊢
  have HRW : Bx (r = w.heap.size + 1) := ⟨by rw [← hr]; exact HX.out.2.2.2⟩
  have HI : Bx (RgS w1 mb r n Vc hS hS cnt ∧ Below w.heap.size w w1 ∧ w1.heap[w.heap.size]? = some (.cells #[.bool so.awake, .bool so.sends, .bool so.recvs] 72 (0, 0)) ∧ w1.ownsRow (w.heap.size + 2) 3 1 (.slice none 0 0) ([] : List Int).length (rowC []) ∧ Wk idc so woken hS []) := by
    have hb := HX.out.2.1.trans (B1.out.mono HX.out.2.1.size)
    refine ⟨R1.out, hb, (B1.out.block _ (by rw [HX.out.2.2.2]; exact Nat.lt_succ_self _)).trans HX.out.2.2.1, ⟨rfl, .inl ⟨rfl, rfl⟩⟩, ⟨fun k => ?_, List.nodup_nil⟩⟩
    constructor
    · intro h; cases h
    · rintro ⟨s, h1, _, h2, _⟩
      rw [HH.out.non s h1] at h2
      cases h2
  clear R1 B1 HMP hr
  go_frame
  go_loopg [7] cnt (fun g v wr => ∃ (left : Stc → Bool) (O : List Int), Bx (RgS wr mb r n Vc hS left g ∧ Below w.heap.size w wr ∧ wr.heap[w.heap.size]? = some (.cells #[.bool so.awake, .bool so.sends, .bool so.recvs] 72 (0, 0)) ∧ wr.ownsRow (w.heap.size + 2) 3 1 v O.length (rowC O) ∧ Wk idc so woken left O ∧ O.length ≤ 1000000))
  case atStart => exact ⟨_, [], ⟨HI.out.1, HI.out.2.1, HI.out.2.2.1, HI.out.2.2.2.1, HI.out.2.2.2.2, by simp⟩⟩
  case round =>
    obtain ⟨left, O, HR⟩ := hrel
    clear HI
    go_wp2_with (first
      | (at_next; refine nextT rfl (.tmp 13) rfl mb r n Vc hS left gk rfl HR.out.1 (fun hdn => ?_) (fun s0 w2 cnt2 hlf hhs R2 hlt2 hg2 hz2 hen => ?_); rotate_left 1; (obtain ⟨sp, sc, hsc, eV, y0, y1, y2, q0, q1, q2, P2⟩ := wk_prep HH.out HR.out.1 HR.out.2.1 HR.out.2.2.1 HR.out.2.2.2.1 HRW.out R2 hg2 hz2; rw [eV] at hen; clear R2 hg2))
      | (go_at_call 56; refine Calls.mono (wakes_any s0 so _) ?_; rintro e w3 ⟨rfl, hb3⟩; obtain ⟨P3, hcl⟩ := P2.out w3 hb3; clear P2 y0 y1 y2 q0 q1 q2 hb3 hen; cases hwk : s0.wakes so)
      | (go_at_call 59; refine Calls.mono (sort_any _ (w.heap.size + 2) u7 O HR.out.2.2.2.1 (by have := HR.out.2.2.2.2.2; omega)) ?_; rintro e w3 ⟨rfl, ho3, hg3⟩; have E3 : Bx _ := ⟨ho3⟩; have G3 : Bx _ := ⟨hg3⟩; clear ho3 hg3))
    · have HE : Bx (RgS w3 mb r n Vc hS (fun d => left d && !stE d s0) cnt2 ∧ RowKit.Below w.heap.size w w3 ∧ w3.heap[w.heap.size]? = some (.cells #[.bool so.awake, .bool so.sends, .bool so.recvs] 72 (0, 0)) ∧ w3.ownsRow (w.heap.size + 2) 3 1 u7 O.length (rowC O) ∧ Wk idc so woken (fun d => left d && !stE d s0) O ∧ O.length ≤ 1000000) := ⟨P3.out.1, P3.out.2.1, P3.out.2.2.1, P3.out.2.2.2, HR.out.2.2.2.2.1.skip hwk, HR.out.2.2.2.2.2⟩
      go_roundg cnt2
      case measure => omega
      case rel => exact ⟨_, O, HE⟩
    · have HLEN := HH.out.len s0
      go_loopg [7, 25] ((idc s0).length + 1) (fun g v v25 wr => ∃ j : Nat, g = (idc s0).length + 1 - j ∧ j ≤ (idc s0).length ∧ v25 = .int .i64 j ∧ Bx (RgS wr mb r n Vc hS (fun d => left d && !stE d s0) cnt2 ∧ RowKit.Below w.heap.size w wr ∧ wr.heap[w.heap.size]? = some (.cells #[.bool so.awake, .bool so.sends, .bool so.recvs] 72 (0, 0)) ∧ wr.ownsRow (w.heap.size + 2) 3 1 v (O ++ ((idc s0).take j).filter (· != woken)).length (rowC (O ++ ((idc s0).take j).filter (· != woken)))))
      case atStart => exact ⟨0, by simp, by omega, rfl, by simpa using P3⟩
      case round =>
        obtain ⟨j, hgj, hjl, rfl, HQ⟩ := hrel
        clear P3
        by_cases hjt : j < (idc s0).length
        · obtain ⟨b, rfl, hcell⟩ := hcl.out j hjt
          have c0 := hcell _ HQ.out.2.1
          have HT : Bx (((idc s0).take (j + 1)).filter (· != woken) = ((idc s0).take j).filter (· != woken) ++ if ((idc s0)[j] != woken) = true then [(idc s0)[j]] else []) := ⟨by rw [List.take_succ_eq_append_getElem hjt, List.filter_append, List.filter_cons]; rfl⟩
          have hfl : (((idc s0).take j).filter (· != woken)).length ≤ 100000 := by
            have h1 := List.length_filter_le (· != woken) ((idc s0).take j)
            have h2 : ((idc s0).take j).length ≤ (idc s0).length := by rw [List.length_take]; omega
            omega
          have hOl := HR.out.2.2.2.2.2
          clear hcell hcl
          generalize (idc s0)[j] = kk at *
          generalize ((idc s0).take j).filter (· != woken) = fl at *
          by_cases hne : (kk != woken) = true
          · rw [if_pos hne] at HT
            have HO : Bx _ := ⟨HQ.out.2.2.2⟩
            have hsz : w.heap.size + 2 ≤ wr.heap.size := by
              have := HQ.out.1.lt.2
              have := HRW.out
              omega
            have hyl : (O ++ fl).length ≤ 1200000 := by rw [List.length_append]; omega
            obtain ⟨yy, hyy⟩ : ∃ yy, O ++ fl = yy := ⟨_, rfl⟩
            rw [hyy] at HO hyl
            go_wp2_with (first | (at_builtin; (refine wpList_app _ rfl (.tmp 32) (.tmp 34) 45 rfl (w.heap.size + 2) 3 i0 (.int .i64 0) 1 8 Try.underlying45 hi iz0 iz1 iz2 rfl (by decide) u7 yy.length (rowC yy) rfl (own_new HO.out (below1 _ _)) ⟨wr.heap.size, 0, none⟩ 1 1 [.int .i64 kk] rfl rfl (block_cells _ _ #[.int .i64 kk] 3 (World.alloc_heap_new _ _)) (by simp [Value.oneCell']) (by decide) (by unfold maxLen; omega) (by omega) (by simp; omega) (wr.heap.size + 1) (by simp) ?_; intro gg gcap w5 hown5 hgrow5 hgi5 hgl5; have HN := wk_app HH.out.map.lt HRW.out HQ.out.1 HQ.out.2.1 HQ.out.2.2.1 HO.out hgrow5; have HO5 : Bx _ := ⟨hown5⟩; clear hown5 hgrow5 hgi5)))
            go_roundg ((idc s0).length + 1 - (j + 1))
            case measure => omega
            case rel => exact ⟨j + 1, rfl, by omega, by simp, ⟨HN.1, HN.2.1, HN.2.2, by rw [HT.out, ← List.append_assoc, hyy]; simpa [rowC] using HO5.out⟩⟩
          · rw [if_neg hne, List.append_nil] at HT
            have hne' : (kk != woken) = false := by simpa using hne
            have HN : Bx (RgS wr mb r n Vc hS (fun d => left d && !stE d s0) cnt2 ∧ RowKit.Below w.heap.size w wr ∧ wr.heap[w.heap.size]? = some (.cells #[.bool so.awake, .bool so.sends, .bool so.recvs] 72 (0, 0)) ∧ wr.ownsRow (w.heap.size + 2) 3 1 u7 (O ++ ((idc s0).take (j + 1)).filter (· != woken)).length (rowC (O ++ ((idc s0).take (j + 1)).filter (· != woken)))) := ⟨by rw [HT.out]; exact HQ.out⟩
            clear HQ HT
            go_wp2
            go_roundg ((idc s0).length + 1 - (j + 1))
            case measure => omega
            case rel => exact ⟨j + 1, rfl, by omega, by simp, HN⟩
        · have hje : j = (idc s0).length := by omega
          subst hje
          rw [List.take_length] at HQ
          have HE := HR.out.2.2.2.2.1.add HH.out hhs hlf hwk
          have HL : (O ++ (idc s0).filter (· != woken)).length ≤ 1000000 := wk_len HH.out HE
          go_wp2
          go_roundg cnt2
          case measure => omega
          case rel => exact ⟨_, _, ⟨HQ.out.1, HQ.out.2.1, HQ.out.2.2.1, HQ.out.2.2.2, HE, HL⟩⟩
    · go_ret
      refine ⟨_, srt O, rfl, by rw [srt_len]; exact own_low E3.out (by omega), srt_le O, srt_nod HR.out.2.2.2.2.1.nod, fun k => ?_, HR.out.2.1.grown G3.out HR.out.2.1.size (fun x e => by have := own_base HR.out.2.2.2.1 x e; omega)⟩
      rw [srt_mem, HR.out.2.2.2.2.1.mem]
      constructor
      · rintro ⟨s, _, h1⟩; exact ⟨s, h1⟩
      · rintro ⟨s, h1⟩; exact ⟨s, hdn s, h1⟩
end Go.Proofs.Ytjabdhmkibahlaa
/-
  DERIVED: THE SHELF's CONTRACTS AT THIS DUMP, IN PLAIN WORDS (tools/lay-plain.mjs out of 'TryShelfT.lean', which tools/lay-shelf.mjs wrote): THE SAME DECLARATIONS UNDER THE SAME NAMES: 'import', 'namespace', 'open', 'def', 'theorem' AND NOTHING ELSE: no command of the shelf's: FOR A HAND-IN. Each laying: the table of numbers ('.._ren') and one theorem, a field a fact of the dump's own or the kernel's comparison; each contract: ONE APPLICATION.
-/
namespace Go.Proofs
open Go.Shelf
def Try.keysA_ren : Go.Shelf.Ren := ⟨fun | 7 => 41 | 10 => 60 | n => n, fun | 23 => 65 | 26 => 3 | 3 => 72 | 28 => 69 | 0 => 0 | 27 => 68 | 33 => 95 | 4 => 4 | n => n, fun | n => n⟩
theorem Try.keysA : Go.Proofs.SlLaysZI.n7 Try.prog Try.keysA_ren := {
  mixed := by kernel_rfl
  f7 := ⟨Try.f41.name, by decide, Try.func41.trans (congrArg some (by kernel_rfl))⟩
  f10 := ⟨Try.f60.name, by decide, Try.func60.trans (congrArg some (by kernel_rfl))⟩
  t0 := Try.underlying0
  a0 := Try.isAgg0
  z0 := Try.sizeOf0
  v0 := Try.zeroValue0
  t4 := Try.underlying4
  a4 := Try.isAgg4
  z4 := Try.sizeOf4
  v4 := Try.zeroValue4
  t23 := Try.underlying65
  a23 := Try.isAgg65
  z23 := Try.sizeOf65
  v23 := Try.zeroValue65
  t26 := Try.underlying3
  a26 := Try.isAgg3
  z26 := Try.sizeOf3
  v26 := Try.zeroValue3
  t27 := Try.underlying68
  a27 := Try.isAgg68
  z27 := Try.sizeOf68
  v27 := Try.zeroValue68
  t28 := Try.underlying69
  a28 := Try.isAgg69
  z28 := Try.sizeOf69
  v28 := Try.zeroValue69
  t33 := Try.underlying95
  a33 := Try.isAgg95
  z33 := Try.sizeOf95
  v33 := Try.zeroValue95 }
def Try.keysB_ren : Go.Shelf.Ren := ⟨fun | 7 => 68 | 10 => 82 | n => n, fun | 23 => 101 | 26 => 3 | 3 => 24 | 28 => 69 | 0 => 0 | 27 => 68 | 33 => 95 | 4 => 4 | n => n, fun | n => n⟩
theorem Try.keysB : Go.Proofs.SlLaysZI.n7 Try.prog Try.keysB_ren := {
  mixed := by kernel_rfl
  f7 := ⟨Try.f68.name, by decide, Try.func68.trans (congrArg some (by kernel_rfl))⟩
  f10 := ⟨Try.f82.name, by decide, Try.func82.trans (congrArg some (by kernel_rfl))⟩
  t0 := Try.underlying0
  a0 := Try.isAgg0
  z0 := Try.sizeOf0
  v0 := Try.zeroValue0
  t4 := Try.underlying4
  a4 := Try.isAgg4
  z4 := Try.sizeOf4
  v4 := Try.zeroValue4
  t23 := Try.underlying101
  a23 := Try.isAgg101
  z23 := Try.sizeOf101
  v23 := Try.zeroValue101
  t26 := Try.underlying3
  a26 := Try.isAgg3
  z26 := Try.sizeOf3
  v26 := Try.zeroValue3
  t27 := Try.underlying68
  a27 := Try.isAgg68
  z27 := Try.sizeOf68
  v27 := Try.zeroValue68
  t28 := Try.underlying69
  a28 := Try.isAgg69
  z28 := Try.sizeOf69
  v28 := Try.zeroValue69
  t33 := Try.underlying95
  a33 := Try.isAgg95
  z33 := Try.sizeOf95
  v33 := Try.zeroValue95 }
def Try.sortedA_ren : Go.Shelf.Ren := ⟨fun | 6 => 40 | 8 => 58 | 9 => 59 | 11 => 72 | 13 => 74 | 12 => 73 | 23 => 94 | 24 => 95 | 14 => 86 | 15 => 87 | 16 => 88 | 17 => 89 | 18 => 90 | 19 => 91 | 20 => 70 | 21 => 92 | 22 => 93 | 25 => 98 | 26 => 99 | 27 => 100 | 28 => 101 | 29 => 102 | 30 => 85 | 31 => 103 | n => n, fun | 26 => 3 | 28 => 69 | 24 => 45 | 0 => 0 | 3 => 3 | 37 => 109 | 48 => 131 | 50 => 133 | 4 => 4 | 40 => 125 | 39 => 124 | 45 => 89 | 5 => 5 | 9 => 9 | 51 => 136 | 55 => 140 | 57 => 142 | 58 => 143 | 33 => 95 | n => n, fun | n => n⟩
theorem Try.sortedA : Go.Proofs.SlLaysZI.n6 Try.prog Try.sortedA_ren := {
  mixed := by kernel_rfl
  f6 := ⟨Try.f40.name, by decide, Try.func40.trans (congrArg some (by kernel_rfl))⟩
  f8 := ⟨Try.f58.name, by decide, Try.func58.trans (congrArg some (by kernel_rfl))⟩
  f11 := ⟨Try.f72.name, by decide, Try.func72.trans (congrArg some (by kernel_rfl))⟩
  t0 := Try.underlying0
  a0 := Try.isAgg0
  z0 := Try.sizeOf0
  v0 := Try.zeroValue0
  t24 := Try.underlying45
  a24 := Try.isAgg45
  z24 := Try.sizeOf45
  v24 := Try.zeroValue45
  t26 := Try.underlying3
  a26 := Try.isAgg3
  z26 := Try.sizeOf3
  v26 := Try.zeroValue3
  t28 := Try.underlying69
  a28 := Try.isAgg69
  z28 := Try.sizeOf69
  v28 := Try.zeroValue69
  i26 := by kernel_rfl }
end Go.Proofs
namespace Go.Proofs.Ytjabdhmkibahlaa
open Go.RowKit Go.MapKept Go.ChangeMaps Go.WideShapes Go.Sort Go.Shelf Go.Maps
set_option linter.unusedVariables false
set_option linter.unusedSimpArgs false

theorem sortsA (m : Nat) : AnyZI.SortsIn Try.prog Go.Proofs.Try.sortedA_ren Fence.wide m :=
  ⟨fun blk off cap ss W hH hblk hsz => callsIn_wide.2 (Go.Proofs.Try.slices_Sort_int blk off cap ss W hH hblk hsz),
   fun p cap W => callsIn_wide.2 (Go.Proofs.Try.slices_Sort_int_none p cap W)⟩
theorem keys_any (mb : Nat) (W : World) : Calls Try.prog 41 #[.map (some mb)] W fun e w' => e = .returned (.func (.func 60) #[] #[.pointer (some ⟨W.heap.size, 0, none⟩)]) ∧ w' = W.alloc (.cells #[.map (some mb)] 65) :=
  (callsIn_wide (n := 5)).1 (AnyZI.keys_in Go.Proofs.Try.keysA Fence.wide 5 trivial rfl (some mb) W)
theorem int_keys {W : World} {mb n : Nat} {D : DataW Value} (h : W.ownsMap Try.prog 3 Rw mb n D) : (intKeys D).Nodup ∧ (∀ x, x ∈ intKeys D ↔ I64 x ∧ Maps.has D (kI x) = true) ∧ (intKeys D).length ≤ n := by
  have hsz := h.size_le
  have hwf := intKeys_wf h Try.underlying3
  obtain ⟨es, hD, hpw, _⟩ := h.entries (Maps.int_keyed Try.underlying3)
  obtain ⟨es', hD', hko⟩ := h.keysOf
  obtain rfl : es = es' := by rw [hD] at hD'; simpa using hD'
  subst hD
  have hk : ∀ p ∈ es, ∃ x, p.1 = .int .i64 x := fun p hp => by
    obtain ⟨v, hv⟩ := hko p hp
    obtain ⟨x, _, hx, _⟩ := Maps.keyOf_i64 Try.underlying3 hv
    exact ⟨x, hx⟩
  refine ⟨?_, fun x => ?_, ?_⟩
  · show (es.map fun p => _root_.Go.intOf p.1).Nodup
    refine List.pairwise_map.2 (hpw.imp_of_mem fun {p q} hp' hq' hne e => hne ?_)
    obtain ⟨a, ha⟩ := hk p hp'
    obtain ⟨b, hb⟩ := hk q hq'
    rw [ha, hb] at e ⊢
    exact congrArg _ e
  · have h64 : x ∈ intKeys (.map es : DataW Value) → I64 x := fun hx => by
      have h5 : (decide (IntKind.i64.min ≤ x) && decide (x ≤ IntKind.i64.max)) = true := hwf x hx
      rw [Bool.and_eq_true, decide_eq_true_eq, decide_eq_true_eq] at h5
      exact ⟨h5.1, h5.2⟩
    have hm : x ∈ intKeys (.map es : DataW Value) ↔ Maps.has (.map es : DataW Value) (kI x) = true := by
      rw [Maps.has_eq, List.any_eq_true]
      show x ∈ (es.map fun p => _root_.Go.intOf p.1) ↔ _
      rw [List.mem_map]
      constructor
      · rintro ⟨p, hp', rfl⟩
        obtain ⟨a, ha⟩ := hk p hp'
        exact ⟨p, hp', by rw [ha]; simp [Lit.sameKey, _root_.Go.intOf, kI]⟩
      · rintro ⟨p, hp', hs⟩
        obtain ⟨a, ha⟩ := hk p hp'
        rw [ha] at hs
        exact ⟨p, hp', by rw [ha]; simpa [Lit.sameKey, _root_.Go.intOf, kI] using hs⟩
    exact ⟨fun hx => ⟨h64 hx, hm.1 hx⟩, fun hx => hm.2 hx.2⟩
  · show (es.map fun p => _root_.Go.intOf p.1).length ≤ n
    rw [List.length_map]
    exact hsz
/-- the channels of one that waits, in their order -/
theorem sorted_any (W : World) (mb n : Nat) (z : Value) (M : Int → Value) (hs : Int → Bool) (h : MpI W mb n z M hs) (hn : n ≤ 2147483647) (X : World) (hX : X = W.alloc (.cells #[.map (some mb)] 65)) :
    Calls Try.prog 40 #[.func (.func 60) #[] #[.pointer (some ⟨W.heap.size, 0, none⟩)]] X fun e w' => ∃ v L, e = .returned v ∧ w'.ownsRow X.heap.size 3 1 v L.length (rowC L) ∧ L.Pairwise (· < ·) ∧ (∀ k, k ∈ L ↔ I64 k ∧ hs k = true) ∧ L.length ≤ n ∧ Below X.heap.size X w' := by
  obtain ⟨D, h1, h2⟩ := h.ex
  have hbl := h1.lt
  have hsz := h1.size_le
  have hown : X.ownsMap Try.prog 3 Rw mb n D := by
    obtain ⟨es, clock, hb, Ft, hs, hD⟩ := h1
    exact ⟨es, clock, by rw [hX]; exact (Below.heap_alloc _ _ mb hbl).trans hb, Ft, hs, hD⟩
  have hseq : SeqGives Fence.wide 2 Try.prog 60 #[.pointer (some ⟨W.heap.size, 0, none⟩)] encZ (fun ss => ss.Perm (intKeys D)) (Maps.size D) X :=
    AnyZI.keys_gives (ρ := Go.Proofs.Try.keysA_ren) { Go.Proofs.Try.keysA with } Fence.wide _ trivial rfl (by omega) W.heap.size mb n D _ (by rw [hX]; simp) (by rw [hX]; simp) hown
  have cS := AnyZI.sorted_in Go.Proofs.Try.sortedA Fence.wide 5 trivial trivial trivial trivial rfl (by omega) (sortsA _) (enters_of Try.func59 (by kernel_rfl) rfl) 60 #[.pointer (some ⟨W.heap.size, 0, none⟩)] trivial (enters_of Try.func60 (by kernel_rfl) rfl) _ _ (by unfold maxLen; omega) (by omega) _ hseq
  change CallsIn _ _ Try.prog 40 _ _ _ at cS
  refine ((callsIn_wide (n := 5)).1 cS).mono ?_
  rintro e w' ⟨v, ss, rfl, hS, hrow, hnil, hb⟩
  have hmem : ∀ k, k ∈ srt ss ↔ I64 k ∧ hs k = true := fun k => by
    rw [srt_mem, hS.mem_iff, (int_keys h1).2.1]
    constructor
    · rintro ⟨x1, x2⟩; exact ⟨x1, by rw [← (h2 k x1).2]; exact x2⟩
    · rintro ⟨x1, x2⟩; exact ⟨x1, by rw [(h2 k x1).2]; exact x2⟩
  have hnd : ss.Nodup := hS.nodup_iff.2 (int_keys h1).1
  refine ⟨v, srt ss, rfl, by rw [srt_len]; exact hrow, ?_, hmem, ?_, hb⟩
  · have h3 := srt_le ss
    have h4 := srt_nod hnd
    exact (List.pairwise_and_iff.2 ⟨h3, h4⟩).imp (fun h => by have := h.1; have := h.2; omega)
  · rw [srt_len, hS.length_eq]
    exact (int_keys h1).2.2
end Go.Proofs.Ytjabdhmkibahlaa
namespace Go.Proofs.Ytjabdhmkibahlaa
open Go.RowKit Go.MapKept Go.ChangeMaps Go.WideShapes
set_option linter.unusedVariables false
set_option linter.unusedSimpArgs false

/-! ### all links, in plain words -/
def chI (a : Ag) : List Int := a.held.filter fun c => onI a.arms c
def wkI (f : Int → Ag) (ks : List Int) (a : Ag) (c : Int) : List Int := ks.filter fun k => k != a.id && (standI (f k) c).wakes (waitI a.arms c)
def lkA (f : Int → Ag) (ks : List Int) (a : Ag) : List Lk := (chI a).flatMap fun c => (wkI f ks a c).map fun k => ⟨k, a.id, c⟩
def keyL (s : List Ag) : List Int := -1 :: s.map (·.id)
def linksI (s : List Ag) : List Lk := if stOk s then s.flatMap (lkA (whoI s) (keyL s)) else []
theorem lt_unique : ∀ {l m : List Int}, l.Pairwise (· < ·) → m.Pairwise (· < ·) → (∀ x, x ∈ l ↔ x ∈ m) → l = m
  | [], [], _, _, _ => rfl
  | [], y :: m, _, _, h => absurd ((h y).2 List.mem_cons_self) (by simp)
  | x :: l, [], _, _, h => absurd ((h x).1 List.mem_cons_self) (by simp)
  | x :: l, y :: m, hl, hm, h => by
    rw [List.pairwise_cons] at hl hm
    have e : x = y := by
      rcases List.mem_cons.1 ((h x).1 List.mem_cons_self) with e | h1
      · exact e
      · rcases List.mem_cons.1 ((h y).2 List.mem_cons_self) with e | h2
        · exact e.symm
        · have := hl.1 y h2
          have := hm.1 x h1
          omega
    subst e
    rw [lt_unique hl.2 hm.2 (fun z => by
      constructor
      · intro hz
        rcases List.mem_cons.1 ((h z).1 (List.mem_cons_of_mem _ hz)) with e | h1
        · have := hl.1 z hz; omega
        · exact h1
      · intro hz
        rcases List.mem_cons.1 ((h z).2 (List.mem_cons_of_mem _ hz)) with e | h1
        · have := hm.1 z hz; omega
        · exact h1)]
theorem ags_lt : ∀ (s : List Ag) (k : Int), agsF k s = true → (∀ a ∈ s, k < a.id) ∧ (s.map (·.id)).Pairwise (· < ·)
  | [], k, _ => ⟨fun a h => (by cases h), List.Pairwise.nil⟩
  | b :: r, k, h => by
    rw [agsF, Bool.and_eq_true, Bool.and_eq_true, decide_eq_true_eq] at h
    have ih := ags_lt r b.id h.2
    refine ⟨fun a ha => ?_, List.pairwise_cons.2 ⟨fun x hx => ?_, ih.2⟩⟩
    · rcases List.mem_cons.1 ha with rfl | ha
      · exact h.1.1
      · have := ih.1 a ha; omega
    · obtain ⟨a, ha, rfl⟩ := List.mem_map.1 hx
      exact ih.1 a ha
theorem keyL_lt {s : List Ag} (h : stOk s = true) : (keyL s).Pairwise (· < ·) := by
  unfold stOk at h
  rw [Bool.and_eq_true] at h
  have := ags_lt s (-1) h.2
  exact List.pairwise_cons.2 ⟨fun x hx => by obtain ⟨a, ha, rfl⟩ := List.mem_map.1 hx; exact this.1 a ha, this.2⟩
theorem hasI_mem : ∀ (s : List Ag) (k : Int), hasI s k = true ↔ k ∈ keyL s := by
  have key : ∀ (s : List Ag) (g : Int → Bool) (k : Int), (s.foldl (fun f a => upd f a.id true) g) k = true ↔ g k = true ∨ k ∈ s.map (·.id) := by
    intro s
    induction s with
    | nil => intro g k; simp
    | cons a r ih =>
      intro g k
      rw [List.foldl_cons, ih, List.map_cons, List.mem_cons]
      by_cases e : k = a.id
      · subst e; rw [upd_same]; simp
      · rw [upd_other _ _ e]; simp [e]
  intro s k
  unfold hasI keyL
  rw [key, List.mem_cons]
  simp
theorem on_held {a : Ag} (h : agOk a = true) {c : Int} (hc : onI a.arms c = true) : c ∈ a.held := by
  unfold agOk at h
  rw [Bool.and_eq_true] at h
  unfold onI at hc
  obtain ⟨x, hx, he⟩ := List.any_eq_true.1 hc
  have := List.all_eq_true.1 h.2 x hx
  unfold armOk at this
  simp at he this
  rcases this with h1 | h1
  · exact absurd h1 he.1
  · rw [← he.2]; exact h1
theorem awake_none {a : Ag} (h : agOk a = true) (haw : a.awake = true) (c : Int) : onI a.arms c = false := by
  unfold agOk at h
  rw [Bool.and_eq_true, Bool.and_eq_true] at h
  have h1 := h.1.1
  rw [haw] at h1
  have h0 : a.arms.length = 0 := by simp at h1; simp [h1]
  have : a.arms = [] := List.eq_nil_of_length_eq_zero h0
  rw [this]
  rfl
theorem wait_off (l : List Hd) (c : Int) (h : onI l c = false) : waitI l c = st0 := by
  have key : ∀ (l : List Hd) (s : Stc), onI l c = false → waitF c s l = s := by
    intro l
    induction l with
    | nil => intro s _; rfl
    | cons x r ih =>
      intro s hx
      unfold onI at hx
      rw [List.any_cons, Bool.or_eq_false_iff] at hx
      rw [waitF, if_neg (fun e => by have := hx.1; simp at this; exact this e.1 e.2)]
      exact ih s hx.2
  exact key l st0 h
theorem chI_eq {a : Ag} (h : agOk a = true) (h64 : ∀ c, onI a.arms c = true → I64 c) {L : List Int} (hl : L.Pairwise (· < ·)) (hm : ∀ k, k ∈ L ↔ I64 k ∧ onI a.arms k = true) : L = chI a := by
  refine lt_unique hl ((ris_lt a.held 0 (ag_ris h)).filter _) (fun x => ?_)
  unfold chI
  rw [hm, List.mem_filter]
  exact ⟨fun x => ⟨on_held h x.2, x.2⟩, fun x => ⟨h64 _ x.2, x.2⟩⟩
theorem wkI_eq {s : List Ag} (hok : stOk s = true) {f : Int → Ag} (hf : ∀ k, (f k).awake = true → ∀ c, onI (f k).arms c = false) (h64 : ∀ k ∈ keyL s, I64 k) {C : Int → Option Nat} {ids : Int → Stc → List Int} (hz : Cz f (hasI s) C ids) {a : Ag} {c : Int} (hC : C c ≠ none) {L : List Int} (hl : L.Pairwise (· ≤ ·)) (hn : L.Nodup) (hm : ∀ k, k ∈ L ↔ ∃ t, t.wakes (waitI a.arms c) = true ∧ k ∈ ids c t ∧ k ≠ a.id) : L = wkI f (keyL s) a c := by
  refine lt_unique ((List.pairwise_and_iff.2 ⟨hl, hn⟩).imp (fun h => by have := h.1; have := h.2; omega)) ((keyL_lt hok).filter _) (fun k => ?_)
  unfold wkI
  rw [hm, List.mem_filter, Bool.and_eq_true]
  constructor
  · rintro ⟨t, h1, h2, h3⟩
    obtain ⟨⟨h4, h5⟩, h6⟩ := (hz.mem c t k).1 h2
    refine ⟨(hasI_mem s k).1 h4, by simpa using h3, ?_⟩
    rcases h6 with ⟨h7, rfl⟩ | ⟨rfl, h7, h8, _⟩
    · have hna : (f k).awake = false := by
        cases hx : (f k).awake with
        | false => rfl
        | true => rw [hf k hx c] at h7; cases h7
      unfold standI
      rw [hna]
      exact h1
    · unfold standI
      rw [h7, show (f k).held.contains c = true by simpa using h8]
      exact h1
  · rintro ⟨h1, h2, h3⟩
    have h4 := (hasI_mem s k).2 h1
    have h5 := h64 k h1
    unfold standI at h3
    cases hx : (f k).awake with
    | true =>
      rw [hx, if_pos rfl] at h3
      cases hy : (f k).held.contains c with
      | false => rw [hy] at h3; simp [Stc.wakes] at h3
      | true =>
        rw [hy] at h3
        exact ⟨awk, h3, (hz.mem c awk k).2 ⟨⟨h4, h5⟩, .inr ⟨rfl, hx, by simpa using hy, hC⟩⟩, by simpa using h2⟩
    | false =>
      rw [hx, if_neg (by simp)] at h3
      cases hy : onI (f k).arms c with
      | false => rw [wait_off _ _ hy] at h3; simp [Stc.wakes, st0] at h3
      | true => exact ⟨_, h3, (hz.mem c _ k).2 ⟨⟨h4, h5⟩, .inl ⟨hy, rfl⟩⟩, by simpa using h2⟩
/-! ### links in memory -/
def lkC (l : Lk) : List Value := [.int .i64 l.waker, .int .i64 l.woken, .int .i64 l.chan]
def lksC (l : List Lk) : List Value := l.flatMap lkC
theorem lksC_snoc (l : List Lk) (x : Lk) : lksC (l ++ [x]) = lksC l ++ lkC x := by simp [lksC]
theorem infoL : (Try.prog.info? 24).map (fun i => (i.zero, i.size, i.bytes)) = some (some (.agg #[.int .i64 0, .int .i64 0, .int .i64 0]), 3, 24) := by kernel_rfl
end Go.Proofs.Ytjabdhmkibahlaa
