import Derived.Test.YtdhgmeklphcbhaaCVGt
namespace Go.Proofs.Ytdhgmeklphcbhaa
open Go.RowKit
set_option linter.unusedVariables false
set_option linter.unusedSimpArgs false

/-- a row of values of one's own in the midst -/
structure Sv (w wr : World) (k B : Nat) (u : Value) (st : List V) : Prop where
  v : StkV wr (w.heap.size + k) B u st
  bel : Below w.heap.size w wr
  sz : w.heap.size + k + 1 ≤ wr.heap.size
theorem Sv.ext {w wr W : World} {k B : Nat} {u : Value} {st : List V} (h : Sv w wr k B u st) (hB : B ≤ w.heap.size) (hb : Below wr.heap.size wr W) : Sv w W k B u st :=
  ⟨h.v.ext (by have := h.sz; omega) hb, h.bel.trans (hb.mono h.bel.size), Nat.le_trans h.sz hb.size⟩
theorem Sv.push {w wr X w' : World} {k B : Nat} {u : Value} {st : List V} {g cap N : Nat} (hN : st.length = N) {x : V} {q : Option Addr} {c : Nat} {xs : List Value} (h : Sv w wr k B u st) (hB : B ≤ w.heap.size) (hown : wr.ownsRow (w.heap.size + k) 24 3 u N xs) (hrow : RowV wr B st xs) (hx : SlV wr B q c x.l) (hk : I64 x.k) (hn : I64 x.n) (hX : Below wr.heap.size wr X)
    (hown' : w'.ownsRow (w.heap.size + k) 24 3 (.slice (some ⟨g, 0, none⟩) (N + 1) cap) (N + 1) (xs ++ [.int .i64 x.k, .int .i64 x.n, .slice q x.l.length c])) (hg : X.grownBy w' u.ownBlock) :
    Sv w w' k B (.slice (some ⟨g, 0, none⟩) (N + 1) cap) (st ++ [x]) ∧ Lo B wr w' ∧ wr.heap.size ≤ w'.heap.size ∧ (∀ b o, wr.heap[b]? = some o → u.ownBlock ≠ some b → w'.heap[b]? = some o) := by
  subst hN
  have hs := hX.size
  have hsz := h.sz
  have hb : Below (w.heap.size + k) wr w' := (hX.mono (by omega)).grown hg (by omega) (fun k e => own_base hown k e)
  have hlo : Lo B wr w' := Lo.of (hb.mono (by omega))
  exact ⟨⟨⟨_, by simpa using hown', (hrow.append (ys := [.int .i64 x.k, .int .i64 x.n, .slice q x.l.length c]) (ms := [x]) ⟨q, c, [], rfl, hx, hk, hn, rfl⟩).lo hlo⟩, h.bel.trans (hb.mono (by omega)), by have := hg.size; omega⟩, hlo, by have := hg.size; omega, fun b o hbo hne => grownBy_other hg (keep_h hX hbo) hne⟩

set_option maxRecDepth 100000 in
set_option maxHeartbeats 4000000 in
theorem rsize_many (w : World) (B : Nat) (v : Value) (x : V) (m : Int) (hv : IsV w B v x) (hB : B ≤ w.heap.size) (hx : x.sz ≤ 65536) (hm : ¬ m < 0) (hm6 : I64 m) :
    Calls Try.prog 15 #[v, .int .i64 m] w fun e w' => e = .returned (.int .i64 (min (x.sz : Int) (m + 1))) ∧ Below w.heap.size w w' := by
  obtain ⟨⟨p, cap, rfl, h1⟩, h2, h3⟩ := hv
  obtain ⟨i0, hi, iz0, iz1, iz2⟩ := info_parts infoVl
  obtain ⟨W0, hW0⟩ : ∃ W0, (w.alloc (Obj.cells #[.int .i64 x.k, .int .i64 x.n, .slice p x.l.length cap] 24)).alloc (Obj.cells #[.int .i64 x.k, .int .i64 x.n, .slice p x.l.length cap] 24) = W0 := ⟨_, rfl⟩
  have hb0 : Below w.heap.size w W0 := by rw [← hW0]; exact two_new _ _ _
  have hr1 : W0.heap[w.heap.size + 1]? = some (Obj.cells #[.int .i64 x.k, .int .i64 x.n, .slice p x.l.length cap] 24) := by rw [← hW0]; exact alloc_at _ _ _
  have hz0 : W0.heap.size = w.heap.size + 2 := by rw [← hW0]; simp
  have HG0 : Bx (Sv w W0 1 B (.slice (some ⟨w.heap.size + 1, 0, none⟩) 1 1) [x]) :=
    ⟨⟨⟨[.int .i64 x.k, .int .i64 x.n, .slice p x.l.length cap], ⟨rfl, .inr ⟨_, 1, _, rfl, Nat.le_refl _, hr1, by simp, by simp [maxLen], by simp, by simp⟩⟩, ⟨p, cap, [], rfl, h1.lo (Lo.of (hb0.mono hB)), h2, h3, rfl⟩⟩, hb0, by omega⟩⟩
  have hm0 : 0 ≤ m := by omega
  clear h1 h2 h3 hb0 hr1 hz0
  go_enter Try.func15, Try.ntmps15
  go_wp2
  clear hW0
  go_loopg [5, 6] x.sz (fun k v c wr => ∃ (cn : Nat) (st : List V), k = x.sz - cn ∧ c = .int .i64 cn ∧ cn + szs st = x.sz ∧ (cn : Int) ≤ m ∧ Bx (Sv w wr 1 B v st))
  case atStart => exact ⟨0, [x], by simp, rfl, by simp [szs], by omega, HG0⟩
  case round =>
    obtain ⟨cn, st, hk, rfl, hcs, hcm, HG⟩ := hrel
    clear HG0
    rcases List.eq_nil_or_concat st with rfl | ⟨qs, y, rfl⟩
    · have HE : Bx (min (x.sz : Int) (m + 1) = (cn : Int) ∧ Below w.heap.size w wr) := ⟨by simp [szs] at hcs; omega, HG.out.bel⟩
      clear hcs
      rcases HG.out.v.val with ⟨rfl, _⟩ | ⟨g, gc, rfl, _⟩
      · go_wp2
        go_ret
        exact ⟨congrArg (fun z => Ending.returned (.int .i64 z)) HE.out.1.symm, HE.out.2⟩
      · rw [show ([] : List V).length = 0 from rfl]
        go_wp2
        go_ret
        exact ⟨congrArg (fun z => Ending.returned (.int .i64 z)) HE.out.1.symm, HE.out.2⟩
    · rw [List.concat_eq_append] at HG hcs
      obtain ⟨g, gc, q, qc, rfl, hg, hgl, hgc, hgm, c0, c1, c2, HQ, hyk, hyn, hst⟩ := HG.out.v.pop
      have hlq : y.l.length ≤ qc := HQ.1
      have hqm : qc ≤ maxLen := HQ.2.1
      rw [szs_append, szs, szs, V.sz_eq] at hcs
      have hyl := szs_len y.l
      have hql := szs_len qs
      unfold maxLen at hgm hqm
      obtain ⟨W2, hW2⟩ : ∃ W2, wr.alloc (Obj.cells #[.int .i64 y.k, .int .i64 y.n, .slice q y.l.length qc] 24) = W2 := ⟨_, rfl⟩
      have hb2 : Below wr.heap.size wr W2 := by rw [← hW2]; exact below1 _ _
      have hR2 : W2.heap[wr.heap.size]? = some (Obj.cells #[.int .i64 y.k, .int .i64 y.n, .slice q y.l.length qc] 24) := by rw [← hW2]; exact World.alloc_heap_new _ _
      have HG2 : Bx (Sv w W2 1 B (.slice (some ⟨g, 0, none⟩) qs.length gc) qs) := ⟨(⟨hst, HG.out.bel, HG.out.sz⟩ : Sv w wr 1 B _ qs).ext hB hb2⟩
      have HQ2 : Bx (SlV W2 B q qc y.l) := ⟨HQ.lo (Lo.of (hb2.mono (by have := HG.out.sz; omega)))⟩
      have HR2 : Bx _ := ⟨hR2⟩
      have hz2 : W2.heap.size = wr.heap.size + 1 := by rw [← hW2]; simp
      have hws := HG.out.sz
      clear hb2 hR2 HQ hst HG
      by_cases hov : (cn : Int) = m
      · have HE : Bx (min (x.sz : Int) (m + 1) = (cn : Int) + 1 ∧ Below w.heap.size w W2) := ⟨by omega, HG2.out.bel⟩
        have hbv : ((cn : Int) == m) = true := by simpa using hov
        have hw1 : m + 1 = (cn : Int) + 1 := by omega
        have hm9 : m ≤ 65536 := by omega
        clear hov
        go_wp2
        go_ret
        exact ⟨congrArg (fun z => Ending.returned (.int .i64 z)) HE.out.1.symm, HE.out.2⟩
      · have hbv : ((cn : Int) == m) = false := by simpa using hov
        clear hov
        go_wp2
        obtain ⟨R, hR⟩ : ∃ R, R = wr.heap.size := ⟨_, rfl⟩
        rw [← hR]
        have HRR : Bx (W2.heap[R]? = some (Obj.cells #[.int .i64 y.k, .int .i64 y.n, .slice q y.l.length qc] 24)) := ⟨by rw [hR]; exact HR2.out⟩
        have hRs : R + 1 = W2.heap.size := by omega
        have hRg : g < R ∧ w.heap.size + 2 ≤ R := by omega
        clear HR2 c0 c1 c2 hz2 hR hW2
        go_loopg [5, 8] y.l.length (fun k v iv wr' => ∃ (i : Nat), k = y.l.length - i ∧ i ≤ y.l.length ∧ iv = .int .i64 i ∧ Bx (Sv w wr' 1 B v (qs ++ y.l.take i) ∧ SlV wr' B q qc y.l ∧ wr'.heap[R]? = W2.heap[R]? ∧ v.ownBlock ≠ some R ∧ R + 1 ≤ wr'.heap.size))
        case atStart => exact ⟨0, by simp, by omega, rfl, ⟨by simpa using HG2.out, HQ2.out, rfl, by rw [ownB]; intro e; cases e; omega, by omega⟩⟩
        case round =>
          obtain ⟨i, hk', hil, rfl, HR⟩ := hrel
          clear HG2 HQ2
          have hrow : wr.heap[R]? = some (Obj.cells #[.int .i64 y.k, .int .i64 y.n, .slice q y.l.length qc] 24) := HR.out.2.2.1.trans HRR.out
          obtain ⟨r0, r1, r2, s0, s1, s2, hRl⟩ := c3 hrow
          by_cases hlt : i < y.l.length
          · obtain ⟨b, o, r, rc, rfl, hbB, e0, e1, e2, hR, ek, en⟩ := HR.out.2.1.at3 i hlt
            have hlenq : (qs ++ y.l.take i).length = qs.length + i := by simp; omega
            obtain ⟨xs, ho, hrowv⟩ := HR.out.1.v.own
            rw [hlenq] at ho
            have HTK : Bx (qs ++ y.l.take (i + 1) = (qs ++ y.l.take i) ++ [y.l[i]]) := ⟨by rw [List.take_succ_eq_append_getElem hlt, List.append_assoc]⟩
            have HHR : Bx (SlV wr B r rc y.l[i].l ∧ I64 y.l[i].k ∧ I64 y.l[i].n) := ⟨hR, ek, en⟩
            have HO : Bx _ := ⟨ho⟩
            have HRV : Bx _ := ⟨hrowv⟩
            have HLQ : Bx _ := ⟨hlenq⟩
            have hqi : qs.length + i ≤ 65536 := by omega
            clear hR ek en ho hrowv hlenq
            go_wp2_with (first | (at_builtin; refine wpList_append_lies _ rfl (.tmp 41) (.tmp 47) 22 rfl (w.heap.size + 1) 24 i0 (.agg #[.int .i64 0, .int .i64 0, .slice none 0 0]) 3 40 Try.underlying22 hi iz0 iz1 iz2 rfl (by decide) u5 (qs.length + i) xs rfl (own_new HO.out (below1 _ _)) ⟨wr.heap.size, 0, none⟩ 1 1 [.int .i64 y.l[i].k, .int .i64 y.l[i].n, .slice r y.l[i].l.length rc] rfl rfl (triple_one _ _ _ _ _ 24 (World.alloc_heap_new _ _)) (triple_cell _ _ _ _ _) (by decide) (by unfold maxLen; omega) (by omega) (by have := HR.out.1.sz; simp; omega) (wr.heap.size + 1) (by simp) ?_; intro gg gcap w4 hown' hgrow hgi hgl'; obtain ⟨p1, p2, p3, p4⟩ := Sv.push HLQ.out HR.out.1 hB HO.out HRV.out HHR.out.1 HHR.out.2.1 HHR.out.2.2 (below1 _ _) hown' hgrow; have hR4 := p4 R _ hrow HR.out.2.2.2.1; have hgR : gg ≠ R := (by intro e; subst e; rcases hgi with h | h; exact HR.out.2.2.2.1 h; omega)))
            go_roundg (y.l.length - (i + 1))
            case measure => omega
            case rel => exact ⟨i + 1, rfl, by omega, by simp, ⟨by rw [HTK.out]; exact p1, HR.out.2.1.lo p2, hR4.trans HRR.out.symm, by rw [ownB]; intro e; cases e; exact hgR rfl, by omega⟩⟩
          · have hie : i = y.l.length := by omega
            subst hie
            have HF : Bx (Sv w wr 1 B u5 (qs ++ y.l)) := ⟨by have := HR.out.1; rw [List.take_length] at this; exact this⟩
            clear HR
            have hbn : ((cn : Int) == m) = false := hbv
            have hcn : (cn : Int) + 1 ≤ m := by have : ¬ ((cn : Int) = m) := by simpa using hbn
                                                omega
            go_wp2
            go_roundg (x.sz - (cn + 1))
            case measure => omega
            case rel => exact ⟨cn + 1, qs ++ y.l, rfl, by simp, by rw [szs_append]; omega, by omega, HF⟩
set_option maxRecDepth 100000 in
set_option maxHeartbeats 4000000 in
theorem rsize_any (w : World) (B : Nat) (v : Value) (x : V) (m : Int) (hv : IsV w B v x) (hB : B ≤ w.heap.size) (hx : x.sz ≤ 65536) (hm6 : I64 m) :
    Calls Try.prog 15 #[v, .int .i64 m] w fun e w' => e = .returned (.int .i64 (sizeI x.sz m)) ∧ Below w.heap.size w w' := by
  have hp := x.sz_pos
  by_cases hm : m < 0
  · have e : sizeI x.sz m = 0 := by simp only [sizeI]; rw [if_pos (by omega)]; omega
    rw [e]
    obtain ⟨⟨p, cap, rfl, _⟩, _, _⟩ := hv
    clear e hx hp
    go_enter Try.func15, Try.ntmps15
    go_wp2
    go_ret
    exact ⟨rfl, below1 _ _⟩
  · have e : sizeI x.sz m = min (x.sz : Int) (m + 1) := by
      simp only [sizeI]
      split <;> omega
    rw [e]
    exact rsize_many w B v x m hv hB hx hm hm6
end Go.Proofs.Ytdhgmeklphcbhaa
