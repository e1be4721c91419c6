import Derived.Test.YtikijkpklneihaaCVGr
namespace Go.Proofs.Ytikijkpklneihaa
open Go.RowKit
set_option linter.unusedVariables false
set_option linter.unusedSimpArgs false

theorem infoVl : (Try.prog.info? 24).map (fun i => (i.zero, i.size, i.bytes)) = some (some (.agg #[.int .i64 0, .int .i64 0, .slice none 0 0]), 3, 40) := by kernel_rfl
theorem own_diff {W : World} {b1 b2 : Nat} {e1 e2 : TypeId} {s1 s2 : Nat} {v1 v2 : Value} {n1 n2 : Nat} {c1 c2 : List Value} (h1 : W.ownsRow b1 e1 s1 v1 n1 c1) (h2 : W.ownsRow b2 e2 s2 v2 n2 c2) (he : e1 ≠ e2) {g : Nat} (hg : v1.ownBlock = some g) : v2.ownBlock ≠ some g := by
  intro hg2
  rcases h1.2 with ⟨rfl, _⟩ | ⟨g1, cap1, cur1, rfl, _, q1, _⟩
  · cases hg
  rcases h2.2 with ⟨rfl, _⟩ | ⟨g2, cap2, cur2, rfl, _, q2, _⟩
  · cases hg2
  rw [ownB] at hg hg2
  cases hg
  cases hg2
  rw [q1] at q2
  cases q2
  exact he rfl
theorem own_type {W : World} {base : Nat} {e e' : TypeId} {s : Nat} {v : Value} {n : Nat} {cs : List Value} {R : Nat} {c : Array Value} {f : Nat × Nat} (h : W.ownsRow base e s v n cs) (hR : W.heap[R]? = some (.cells c e' f)) (he : e ≠ e') : v.ownBlock ≠ some R := by
  intro hg
  rcases h.2 with ⟨rfl, _⟩ | ⟨g, cap, cur, rfl, _, q, _⟩
  · cases hg
  · rw [ownB] at hg; cases hg; rw [q] at hR; cases hR; exact he rfl
theorem triple_one (W : World) (g : Nat) (u u' u'' : Value) (t : TypeId) (hg : W.heap[g]? = some (.cells #[u, u', u''] t (0, 0))) : ∀ (j : Nat) (x : Value), [u, u', u''][j]? = some x → W.cell? ((⟨g, 0, none⟩ : Addr).add j) = some x := by
  intro j x hx
  match j with
  | 0 => simp at hx; subst hx; simp [World.cell?, Addr.add, hg]
  | 1 => simp at hx; subst hx; simp [World.cell?, Addr.add, hg]
  | 2 => simp at hx; subst hx; simp [World.cell?, Addr.add, hg]
  | j + 3 => simp at hx
theorem triple_cell (k n : Int) (p : Option Addr) (l c : Nat) : ∀ u ∈ [Value.int .i64 k, .int .i64 n, .slice p l c], u.oneCell' = true := by
  intro u hu; simp at hu; rcases hu with rfl | rfl | rfl <;> rfl

/-- no list is longer than the reach -/
def Lim (x : V) : Prop := ∀ y, Nod x y → y.l.length ≤ 4000000000000
theorem Lim.len {x : V} (h : Lim x) : x.l.length ≤ 4000000000000 := h x (.me x)
theorem Lim.kid {x z : V} (h : Lim x) (hz : z ∈ x.l) : Lim z := fun y hy => h y (.kid hz hy)
theorem Lim.of {x : V} (h : x.l.length ≤ 4000000000000) (hk : ∀ z ∈ x.l, Lim z) : Lim x := fun y hy => by
  rcases nod_iff.1 hy with rfl | ⟨z, hz, h2⟩
  · exact h
  · exact hk z hz y h2
/-- the rows of great in the midst -/
structure Gt (w wr : World) (B : Nat) (u3 u4 : Value) (st : List V) (n : Nat) : Prop where
  v : StkV wr (w.heap.size + 1) B u3 st
  i : StkI wr (w.heap.size + 1) u4 n
  bel : Below w.heap.size w wr
  sz : w.heap.size + 3 ≤ wr.heap.size
theorem Gt.ext {w wr W : World} {B : Nat} {u3 u4 : Value} {st : List V} {n : Nat} (h : Gt w wr B u3 u4 st n) (hB : B ≤ w.heap.size) (hb : Below wr.heap.size wr W) : Gt w W B u3 u4 st n :=
  ⟨h.v.ext (by have := h.sz; omega) hb, h.i.ext hb, h.bel.trans (hb.mono h.bel.size), Nat.le_trans h.sz hb.size⟩
theorem Gt.pushV {w wr X w' : World} {B : Nat} {u3 u4 : Value} {st : List V} {n g cap N : Nat} (hN : st.length = N) {x : V} {q : Option Addr} {c : Nat} {xs : List Value} (h : Gt w wr B u3 u4 st n) (hB : B ≤ w.heap.size) (hown : wr.ownsRow (w.heap.size + 1) 24 3 u3 N xs) (hrow : RowV wr B st xs) (hx : SlV wr B q c x.l) (hk : I64 x.k) (hn : I64 x.n) (hX : Below wr.heap.size wr X)
    (hown' : w'.ownsRow (w.heap.size + 1) 24 3 (.slice (some ⟨g, 0, none⟩) (N + 1) cap) (N + 1) (xs ++ [.int .i64 x.k, .int .i64 x.n, .slice q x.l.length c])) (hg : X.grownBy w' u3.ownBlock) :
    Gt w w' B (.slice (some ⟨g, 0, none⟩) (N + 1) cap) u4 (st ++ [x]) n ∧ Lo B wr w' ∧ wr.heap.size ≤ w'.heap.size ∧ (∀ b o, wr.heap[b]? = some o → u3.ownBlock ≠ some b → w'.heap[b]? = some o) := by
  subst hN
  have hs := hX.size
  have hsz := h.sz
  have hb : Below (w.heap.size + 1) wr w' := (hX.mono (by omega)).grown hg (by omega) (fun k e => own_base hown k e)
  have hlo : Lo B wr w' := Lo.of (hb.mono (by omega))
  have hoth : ∀ b o, wr.heap[b]? = some o → u3.ownBlock ≠ some b → w'.heap[b]? = some o := fun b o hbo hne => grownBy_other hg (keep_h hX hbo) hne
  obtain ⟨zs, z1, z2, z3'⟩ := h.i.own
  refine ⟨⟨⟨_, by simpa using hown', (hrow.append (ys := [.int .i64 x.k, .int .i64 x.n, .slice q x.l.length c]) (ms := [x]) ⟨q, c, [], rfl, hx, hk, hn, rfl⟩).lo hlo⟩, h.i.keep (fun g' o hg' ho' => hoth g' o ho' (own_diff z3' hown (by decide) hg')), h.bel.trans (hb.mono (by omega)), by have := hg.size; omega⟩, hlo, by have := hg.size; omega, hoth⟩
theorem Gt.pushI {w wr X w' : World} {B : Nat} {u3 u4 : Value} {st : List V} {n g cap : Nat} {z : Int} {zs : List Int} (h : Gt w wr B u3 u4 st n) (hB : B ≤ w.heap.size) (hl : zs.length = n) (hzs : ∀ z ∈ zs, 0 ≤ z ∧ z ≤ 65537) (hown : wr.ownsRow (w.heap.size + 1) 3 1 u4 n (zs.map (Value.int .i64))) (hz : 0 ≤ z ∧ z ≤ 65537) (hX : Below wr.heap.size wr X)
    (hown' : w'.ownsRow (w.heap.size + 1) 3 1 (.slice (some ⟨g, 0, none⟩) (n + 1) cap) (n + 1) (zs.map (Value.int .i64) ++ [.int .i64 z])) (hg : X.grownBy w' u4.ownBlock) :
    Gt w w' B u3 (.slice (some ⟨g, 0, none⟩) (n + 1) cap) st (n + 1) ∧ Lo B wr w' ∧ wr.heap.size ≤ w'.heap.size ∧ (∀ b o, wr.heap[b]? = some o → u4.ownBlock ≠ some b → w'.heap[b]? = some o) := by
  have hs := hX.size
  have hsz := h.sz
  have hb : Below (w.heap.size + 1) wr w' := (hX.mono (by omega)).grown hg (by omega) (fun k e => own_base hown k e)
  have hlo : Lo B wr w' := Lo.of (hb.mono (by omega))
  have hoth : ∀ b o, wr.heap[b]? = some o → u4.ownBlock ≠ some b → w'.heap[b]? = some o := fun b o hbo hne => grownBy_other hg (keep_h hX hbo) hne
  obtain ⟨xs, x1, x2⟩ := h.v.own
  refine ⟨⟨h.v.keep hlo (fun g' o hg' ho' => hoth g' o ho' (own_diff x1 hown (by decide) hg')), ⟨zs ++ [z], by simp [hl], fun y hy => ?_, by simpa using hown'⟩, h.bel.trans (hb.mono (by omega)), by have := hg.size; omega⟩, hlo, by have := hg.size; omega, hoth⟩
  rcases List.mem_append.1 hy with hy | hy
  · exact hzs y hy
  · simp at hy; subst hy; exact hz

/-- what great answers -/
def GrPost (w : World) (x : V) (e : Ending) (w' : World) : Prop := ∃ b : Bool, e = .returned (.bool b) ∧ (b = false → x.sz ≤ 65536) ∧ Below w.heap.size w w'

set_option maxRecDepth 100000 in
set_option maxHeartbeats 4000000 in
theorem great_any (w : World) (B : Nat) (v : Value) (x : V) (hv : IsV w B v x) (hB : B ≤ w.heap.size) (hlim : Lim x) : Calls Try.prog 5 #[v] w (GrPost w x) := by
  obtain ⟨⟨p, cap, rfl, h1⟩, h2, h3⟩ := hv
  have HLM : Bx _ := ⟨hlim⟩
  clear hlim
  obtain ⟨i0, hi, iz0, iz1, iz2⟩ := info_parts infoVl
  obtain ⟨j0, hj, jz0, jz1, jz2⟩ := info_parts infoI
  obtain ⟨W0, hW0⟩ : ∃ W0, ((w.alloc (Obj.cells #[.int .i64 x.k, .int .i64 x.n, .slice p x.l.length cap] 24)).alloc (Obj.cells #[.int .i64 x.k, .int .i64 x.n, .slice p x.l.length cap] 24)).alloc (Obj.cells #[.int .i64 1] 3) = W0 := ⟨_, rfl⟩
  have hb0 : Below w.heap.size w W0 := by rw [← hW0]; exact (two_new _ _ _).trans ((below1 _ _).mono (by simp; omega))
  have hr1 : W0.heap[w.heap.size + 1]? = some (Obj.cells #[.int .i64 x.k, .int .i64 x.n, .slice p x.l.length cap] 24) := by rw [← hW0]; exact (Below.heap_alloc _ _ _ (by simp)).trans (alloc_at _ _ _)
  have hr2 : W0.heap[w.heap.size + 2]? = some (Obj.cells #[.int .i64 1] 3) := by
    rw [← hW0]; have := World.alloc_heap_new ((w.alloc (Obj.cells #[.int .i64 x.k, .int .i64 x.n, .slice p x.l.length cap] 24)).alloc (Obj.cells #[.int .i64 x.k, .int .i64 x.n, .slice p x.l.length cap] 24)) (Obj.cells #[.int .i64 1] 3); simpa using this
  have hz0 : W0.heap.size = w.heap.size + 3 := by rw [← hW0]; simp
  have HG0 : Bx (Gt w W0 B (.slice (some ⟨w.heap.size + 1, 0, none⟩) 1 1) (.slice (some ⟨w.heap.size + 2, 0, none⟩) 1 1) [x] 1) :=
    ⟨⟨⟨[.int .i64 x.k, .int .i64 x.n, .slice p x.l.length cap], ⟨rfl, .inr ⟨_, 1, _, rfl, Nat.le_refl _, hr1, by simp, by simp [maxLen], by simp, by simp⟩⟩, ⟨p, cap, [], rfl, h1.lo (Lo.of (hb0.mono hB)), h2, h3, rfl⟩⟩,
      ⟨[1], rfl, by simp, rfl, .inr ⟨_, 1, _, rfl, by omega, hr2, by simp, by simp [maxLen], by simp, by simp⟩⟩, hb0, by omega⟩⟩
  clear h1 h2 h3 hb0 hr1 hr2 hz0
  go_enter Try.func5, Try.ntmps5
  go_wp2
  simp only [Nat.add_assoc, Nat.reduceAdd]
  clear hW0
  go_loopg [3, 4, 5] 65537 (fun k v u c wr => ∃ (cn : Nat) (st : List V), k = 65537 - cn ∧ cn ≤ 65536 ∧ st.length ≤ 65537 ∧ c = .int .i64 cn ∧ cn + szs st = x.sz ∧ Bx (Gt w wr B v u st st.length ∧ ∀ y ∈ st, Lim y))
  case atStart => exact ⟨0, [x], by simp, by omega, by simp, rfl, by simp [szs], ⟨HG0.out, by simpa using HLM.out⟩⟩
  case round =>
    obtain ⟨cn, st, hk, hc, hsl, rfl, hcs, HG⟩ := hrel
    clear HG0
    rcases List.eq_nil_or_concat st with rfl | ⟨qs, y, rfl⟩
    · have HE : Bx (x.sz ≤ 65536 ∧ Below w.heap.size w wr) := ⟨by simp [szs] at hcs; omega, HG.out.1.bel⟩
      rcases HG.out.1.v.val with ⟨rfl, _⟩ | ⟨g, gc, rfl, _⟩
      · go_wp2
        go_ret
        exact ⟨false, rfl, fun _ => HE.out.1, HE.out.2⟩
      · rw [show ([] : List V).length = 0 from rfl]
        go_wp2
        go_ret
        exact ⟨false, rfl, fun _ => HE.out.1, HE.out.2⟩
    · rw [List.concat_eq_append] at HG hsl hcs
      obtain ⟨g, gc, q, qc, rfl, hg, hgl, hgc, hgm, c0, c1, c2, HQ, hyk, hyn, hst⟩ := HG.out.1.v.pop
      have hn1 : (qs ++ [y]).length = qs.length + 1 := by simp
      have hI := HG.out.1.i
      rw [hn1] at hI hsl
      obtain ⟨g', gc', z, rfl, hg', hgl', hgc', hgm', d0, hz0, hz1, hst'⟩ := hI.pop
      have hlim : y.l.length ≤ 4000000000000 := (HG.out.2 y (by simp)).len
      have HLY : Bx (Lim y ∧ ∀ z ∈ qs, Lim z) := ⟨HG.out.2 y (by simp), fun z hz => HG.out.2 z (by simp [hz])⟩
      have hlq : y.l.length ≤ qc := HQ.1
      have hqm : qc ≤ maxLen := HQ.2.1
      rw [szs_append, szs, szs, V.sz_eq] at hcs
      have hyl := szs_len y.l
      unfold maxLen at hgm hgm' hqm
      obtain ⟨W2, hW2⟩ : ∃ W2, wr.alloc (Obj.cells #[.int .i64 y.k, .int .i64 y.n, .slice q y.l.length qc] 24) = W2 := ⟨_, rfl⟩
      have hb2 : Below wr.heap.size wr W2 := by rw [← hW2]; exact below1 _ _
      have hR2 : W2.heap[wr.heap.size]? = some (Obj.cells #[.int .i64 y.k, .int .i64 y.n, .slice q y.l.length qc] 24) := by rw [← hW2]; exact World.alloc_heap_new _ _
      obtain ⟨r0, r1, r2, s0, s1, s2, hRl⟩ := c3 hR2
      have d0' : W2.cell? ⟨g', qs.length, none⟩ = some (.int .i64 z) := (hb2.cell (p := ⟨g', qs.length, none⟩) hgl').trans d0
      have HG2 : Bx (Gt w W2 B (.slice (some ⟨g, 0, none⟩) qs.length gc) (.slice (some ⟨g', 0, none⟩) qs.length gc') qs qs.length) := ⟨(⟨hst, hst', HG.out.1.bel, HG.out.1.sz⟩ : Gt w wr B _ _ qs qs.length).ext hB hb2⟩
      have HQ2 : Bx (SlV W2 B q qc y.l) := ⟨HQ.lo (Lo.of (hb2.mono (by have := HG.out.1.sz; omega)))⟩
      have HT : Bx (Below w.heap.size w W2) := ⟨HG2.out.bel⟩
      have HR2 : Bx _ := ⟨hR2⟩
      have hz2 : W2.heap.size = wr.heap.size + 1 := by rw [← hW2]; simp
      have hws := HG.out.1.sz
      clear hb2 hR2 HQ hst hst' HG hI hn1
      by_cases ho1 : (65536 : Int) < (cn : Int) + 1 + (y.l.length : Int)
      · go_wp2
        go_ret
        exact ⟨true, rfl, fun h => (by cases h), HT.out⟩
      by_cases ho2 : (5000 : Int) < z
      · go_wp2
        go_ret
        exact ⟨true, rfl, fun h => (by cases h), HT.out⟩
      by_cases ho3 : (65536 : Int) < (cn : Int) + 1 + (qs.length : Int) + (y.l.length : Int)
      · go_wp2
        go_ret
        exact ⟨true, rfl, fun h => (by cases h), HT.out⟩
      go_wp2
      obtain ⟨R, hR⟩ : ∃ R, R = wr.heap.size := ⟨_, rfl⟩
      rw [← hR]
      have HRR : Bx (W2.heap[R]? = some (Obj.cells #[.int .i64 y.k, .int .i64 y.n, .slice q y.l.length qc] 24)) := ⟨by rw [hR]; exact HR2.out⟩
      have hRs : R + 1 = W2.heap.size := by omega
      have hRg : g < R ∧ g' < R ∧ w.heap.size + 3 ≤ R := by omega
      clear HR2 r0 r1 r2 s0 s1 s2 hRl d0' c0 c1 c2 d0 hz2 hR hW2
      go_loopg [3, 4, 8] y.l.length (fun k v u iv wr' => ∃ (i : Nat), k = y.l.length - i ∧ i ≤ y.l.length ∧ iv = .int .i64 i ∧ Bx (Gt w wr' B v u (qs ++ y.l.take i) (qs.length + i) ∧ SlV wr' B q qc y.l ∧ wr'.heap[R]? = W2.heap[R]? ∧ v.ownBlock ≠ some R ∧ R + 1 ≤ wr'.heap.size))
      case atStart => exact ⟨0, by simp, by omega, rfl, ⟨by simpa using HG2.out, HQ2.out, rfl, by rw [ownB]; intro e; cases e; omega, by omega⟩⟩
      case round =>
        obtain ⟨i, hk', hil, rfl, HR⟩ := hrel
        clear HG2 HQ2
        have hrow : wr.heap[R]? = some (Obj.cells #[.int .i64 y.k, .int .i64 y.n, .slice q y.l.length qc] 24) := HR.out.2.2.1.trans HRR.out
        obtain ⟨r0, r1, r2, s0, s1, s2, hRl⟩ := c3 hrow
        by_cases hlt : i < y.l.length
        · obtain ⟨b, o, r, rc, rfl, hbB, e0, e1, e2, hR, ek, en⟩ := HR.out.2.1.at3 i hlt
          have hlenq : (qs ++ y.l.take i).length = qs.length + i := by simp; omega
          obtain ⟨xs, ho, hrowv⟩ := HR.out.1.v.own
          rw [hlenq] at ho
          have htk : qs ++ y.l.take (i + 1) = (qs ++ y.l.take i) ++ [y.l[i]] := by rw [List.take_succ_eq_append_getElem hlt, List.append_assoc]
          have HTK : Bx _ := ⟨htk⟩
          have HHR : Bx (SlV wr B r rc y.l[i].l ∧ I64 y.l[i].k ∧ I64 y.l[i].n) := ⟨hR, ek, en⟩
          have HO : Bx _ := ⟨ho⟩
          have HRV : Bx _ := ⟨hrowv⟩
          have HLQ : Bx _ := ⟨hlenq⟩
          clear hR ek en ho hrowv htk hlenq
          have hqi : qs.length + i ≤ 65536 := by omega
          go_wp2_with (first | (at_builtin; refine wpList_append_lies _ rfl (.tmp 65) (.tmp 71) 22 rfl (w.heap.size + 1) 24 i0 (.agg #[.int .i64 0, .int .i64 0, .slice none 0 0]) 3 40 Try.underlying22 hi iz0 iz1 iz2 rfl (by decide) u3 (qs.length + i) xs rfl (own_new HO.out (below1 _ _)) ⟨wr.heap.size, 0, none⟩ 1 1 [.int .i64 y.l[i].k, .int .i64 y.l[i].n, .slice r y.l[i].l.length rc] rfl rfl (triple_one _ _ _ _ _ 24 (World.alloc_heap_new _ _)) (triple_cell _ _ _ _ _) (by decide) (by unfold maxLen; omega) (by omega) (by have := HR.out.1.sz; simp; omega) (wr.heap.size + 1) (by simp) ?_; intro gg gcap w4 hown' hgrow hgi hgl'; obtain ⟨p1, p2, p3, p4⟩ := Gt.pushV HLQ.out HR.out.1 hB HO.out HRV.out HHR.out.1 HHR.out.2.1 HHR.out.2.2 (below1 _ _) hown' hgrow; have hR4 := p4 R _ hrow HR.out.2.2.2.1; have hgR : gg ≠ R := (by intro e; subst e; rcases hgi with h | h; exact HR.out.2.2.2.1 h; omega); obtain ⟨zs, z1, z2, z4⟩ := p1.i.own; have HP1 : Bx _ := ⟨p1⟩; have HZ4 : Bx _ := ⟨z4⟩; have hw4 := p1.sz; clear p1 z4 hown' hgrow) | (at_builtin; refine wpList_append_lies _ rfl (.tmp 73) (.tmp 76) 25 rfl (w.heap.size + 1) 3 j0 (.int .i64 0) 1 8 Try.underlying25 hj jz0 jz1 jz2 rfl (by decide) u4 (qs.length + i) (zs.map (Value.int .i64)) rfl (own_new HZ4.out (below1 _ _)) ⟨w4.heap.size, 0, none⟩ 1 1 [.int .i64 (z + 1)] rfl rfl (slice_one _ _ _ 3 (World.alloc_heap_new _ _)) (by simp [Value.oneCell']) (by decide) (by unfold maxLen; omega) (by omega) (by simp; omega) (w4.heap.size + 1) (by simp) ?_; intro g5 gcap5 w5 hown5 hgrow5 hgi5 hgl5; obtain ⟨v1, v2, v3, v4⟩ := Gt.pushI HP1.out hB z1 z2 HZ4.out ⟨by omega, by omega⟩ (below1 _ _) hown5 hgrow5; have hR5 := v4 R _ hR4 (own_type HZ4.out hR4 (by decide))))
          go_roundg (y.l.length - (i + 1))
          case measure => omega
          case rel => exact ⟨i + 1, rfl, by omega, by simp, ⟨by rw [HTK.out]; exact v1, (HR.out.2.1.lo p2).lo v2, hR5.trans HRR.out.symm, by rw [ownB]; intro e; cases e; exact hgR rfl, by omega⟩⟩
        · have hie : i = y.l.length := by omega
          subst hie
          have HF : Bx (Gt w wr B u3 u4 (qs ++ y.l) (qs ++ y.l).length ∧ ∀ z ∈ qs ++ y.l, Lim z) := ⟨by have := HR.out.1; rw [List.take_length] at this; rw [List.length_append]; exact this, fun z hz => by
            rcases List.mem_append.1 hz with h | h
            · exact HLY.out.2 z h
            · exact HLY.out.1.kid h⟩
          clear HR
          go_wp2
          go_roundg (65537 - (cn + 1))
          case measure => omega
          case rel => exact ⟨cn + 1, qs ++ y.l, rfl, by omega, by simp; omega, by simp, by rw [szs_append]; omega, HF⟩
end Go.Proofs.Ytikijkpklneihaa
