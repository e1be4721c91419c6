import Derived.Test.YtikijkpklneihaaCVP
import Derived.Laws.AppendOwn
import Derived.Laws.AppendOwnNone
import Derived.Deep.AppendLies
import Derived.OneCell
import Derived.Laws.Rows
import Derived.Lib.BufferMore
import Derived.Laws.MakeOwn
import Derived.Deep.RegionHeld3
import Derived.Deep.RegionLaw
import Derived.Orders
import Derived.Deep.RegionHeld
namespace Go.Proofs.Ytikijkpklneihaa
open Go.RowKit
set_option linter.unusedVariables false
set_option linter.unusedSimpArgs false

theorem infoVl : (Try.prog.info? 24).map (fun i => (i.zero, i.size, i.bytes)) = some (some (.agg #[.int .i64 0, .int .i64 0, .slice none 0 0]), 3, 40) := by kernel_rfl
theorem own_diff {W : World} {b1 b2 : Nat} {e1 e2 : TypeId} {s1 s2 : Nat} {v1 v2 : Value} {n1 n2 : Nat} {c1 c2 : List Value} (h1 : W.ownsRow b1 e1 s1 v1 n1 c1) (h2 : W.ownsRow b2 e2 s2 v2 n2 c2) (he : e1 ≠ e2) {g : Nat} (hg : v1.ownBlock = some g) : v2.ownBlock ≠ some g := by
  intro hg2
  rcases h1.2 with ⟨rfl, _⟩ | ⟨g1, cap1, cur1, rfl, _, q1, _⟩
  · cases hg
  rcases h2.2 with ⟨rfl, _⟩ | ⟨g2, cap2, cur2, rfl, _, q2, _⟩
  · cases hg2
  rw [ownB] at hg hg2
  cases hg
  cases hg2
  rw [q1] at q2
  cases q2
  exact he rfl
theorem own_type {W : World} {base : Nat} {e e' : TypeId} {s : Nat} {v : Value} {n : Nat} {cs : List Value} {R : Nat} {c : Array Value} {f : Nat × Nat} (h : W.ownsRow base e s v n cs) (hR : W.heap[R]? = some (.cells c e' f)) (he : e ≠ e') : v.ownBlock ≠ some R := by
  intro hg
  rcases h.2 with ⟨rfl, _⟩ | ⟨g, cap, cur, rfl, _, q, _⟩
  · cases hg
  · rw [ownB] at hg; cases hg; rw [q] at hR; cases hR; exact he rfl
theorem triple_one (W : World) (g : Nat) (u u' u'' : Value) (t : TypeId) (hg : W.heap[g]? = some (.cells #[u, u', u''] t (0, 0))) : ∀ (j : Nat) (x : Value), [u, u', u''][j]? = some x → W.cell? ((⟨g, 0, none⟩ : Addr).add j) = some x := by
  intro j x hx
  match j with
  | 0 => simp at hx; subst hx; simp [World.cell?, Addr.add, hg]
  | 1 => simp at hx; subst hx; simp [World.cell?, Addr.add, hg]
  | 2 => simp at hx; subst hx; simp [World.cell?, Addr.add, hg]
  | j + 3 => simp at hx
theorem triple_cell (k n : Int) (p : Option Addr) (l c : Nat) : ∀ u ∈ [Value.int .i64 k, .int .i64 n, .slice p l c], u.oneCell' = true := by
  intro u hu; simp at hu; rcases hu with rfl | rfl | rfl <;> rfl

/-- no list is longer than the reach -/
def Lim (x : V) : Prop := ∀ y, Nod x y → y.l.length ≤ 4000000000000
theorem Lim.len {x : V} (h : Lim x) : x.l.length ≤ 4000000000000 := h x (.me x)
theorem Lim.kid {x z : V} (h : Lim x) (hz : z ∈ x.l) : Lim z := fun y hy => h y (.kid hz hy)
theorem Lim.of {x : V} (h : x.l.length ≤ 4000000000000) (hk : ∀ z ∈ x.l, Lim z) : Lim x := fun y hy => by
  rcases nod_iff.1 hy with rfl | ⟨z, hz, h2⟩
  · exact h
  · exact hk z hz y h2
/-- the rows of great in the midst -/
structure Gt (w wr : World) (B : Nat) (u3 u4 : Value) (st : List V) (n : Nat) : Prop where
  v : StkV wr (w.heap.size + 1) B u3 st
  i : StkI wr (w.heap.size + 1) u4 n
  bel : Below w.heap.size w wr
  sz : w.heap.size + 3 ≤ wr.heap.size
theorem Gt.ext {w wr W : World} {B : Nat} {u3 u4 : Value} {st : List V} {n : Nat} (h : Gt w wr B u3 u4 st n) (hB : B ≤ w.heap.size) (hb : Below wr.heap.size wr W) : Gt w W B u3 u4 st n :=
  ⟨h.v.ext (by have := h.sz; omega) hb, h.i.ext hb, h.bel.trans (hb.mono h.bel.size), Nat.le_trans h.sz hb.size⟩
theorem Gt.pushV {w wr X w' : World} {B : Nat} {u3 u4 : Value} {st : List V} {n g cap N : Nat} (hN : st.length = N) {x : V} {q : Option Addr} {c : Nat} {xs : List Value} (h : Gt w wr B u3 u4 st n) (hB : B ≤ w.heap.size) (hown : wr.ownsRow (w.heap.size + 1) 24 3 u3 N xs) (hrow : RowV wr B st xs) (hx : SlV wr B q c x.l) (hk : I64 x.k) (hn : I64 x.n) (hX : Below wr.heap.size wr X)
    (hown' : w'.ownsRow (w.heap.size + 1) 24 3 (.slice (some ⟨g, 0, none⟩) (N + 1) cap) (N + 1) (xs ++ [.int .i64 x.k, .int .i64 x.n, .slice q x.l.length c])) (hg : X.grownBy w' u3.ownBlock) :
    Gt w w' B (.slice (some ⟨g, 0, none⟩) (N + 1) cap) u4 (st ++ [x]) n ∧ Lo B wr w' ∧ wr.heap.size ≤ w'.heap.size ∧ (∀ b o, wr.heap[b]? = some o → u3.ownBlock ≠ some b → w'.heap[b]? = some o) := by
  subst hN
  have hs := hX.size
  have hsz := h.sz
  have hb : Below (w.heap.size + 1) wr w' := (hX.mono (by omega)).grown hg (by omega) (fun k e => own_base hown k e)
  have hlo : Lo B wr w' := Lo.of (hb.mono (by omega))
  have hoth : ∀ b o, wr.heap[b]? = some o → u3.ownBlock ≠ some b → w'.heap[b]? = some o := fun b o hbo hne => grownBy_other hg (keep_h hX hbo) hne
  obtain ⟨zs, z1, z2, z3'⟩ := h.i.own
  refine ⟨⟨⟨_, by simpa using hown', (hrow.append (ys := [.int .i64 x.k, .int .i64 x.n, .slice q x.l.length c]) (ms := [x]) ⟨q, c, [], rfl, hx, hk, hn, rfl⟩).lo hlo⟩, h.i.keep (fun g' o hg' ho' => hoth g' o ho' (own_diff z3' hown (by decide) hg')), h.bel.trans (hb.mono (by omega)), by have := hg.size; omega⟩, hlo, by have := hg.size; omega, hoth⟩
theorem Gt.pushI {w wr X w' : World} {B : Nat} {u3 u4 : Value} {st : List V} {n g cap : Nat} {z : Int} {zs : List Int} (h : Gt w wr B u3 u4 st n) (hB : B ≤ w.heap.size) (hl : zs.length = n) (hzs : ∀ z ∈ zs, 0 ≤ z ∧ z ≤ 65537) (hown : wr.ownsRow (w.heap.size + 1) 3 1 u4 n (zs.map (Value.int .i64))) (hz : 0 ≤ z ∧ z ≤ 65537) (hX : Below wr.heap.size wr X)
    (hown' : w'.ownsRow (w.heap.size + 1) 3 1 (.slice (some ⟨g, 0, none⟩) (n + 1) cap) (n + 1) (zs.map (Value.int .i64) ++ [.int .i64 z])) (hg : X.grownBy w' u4.ownBlock) :
    Gt w w' B u3 (.slice (some ⟨g, 0, none⟩) (n + 1) cap) st (n + 1) ∧ Lo B wr w' ∧ wr.heap.size ≤ w'.heap.size ∧ (∀ b o, wr.heap[b]? = some o → u4.ownBlock ≠ some b → w'.heap[b]? = some o) := by
  have hs := hX.size
  have hsz := h.sz
  have hb : Below (w.heap.size + 1) wr w' := (hX.mono (by omega)).grown hg (by omega) (fun k e => own_base hown k e)
  have hlo : Lo B wr w' := Lo.of (hb.mono (by omega))
  have hoth : ∀ b o, wr.heap[b]? = some o → u4.ownBlock ≠ some b → w'.heap[b]? = some o := fun b o hbo hne => grownBy_other hg (keep_h hX hbo) hne
  obtain ⟨xs, x1, x2⟩ := h.v.own
  refine ⟨⟨h.v.keep hlo (fun g' o hg' ho' => hoth g' o ho' (own_diff x1 hown (by decide) hg')), ⟨zs ++ [z], by simp [hl], fun y hy => ?_, by simpa using hown'⟩, h.bel.trans (hb.mono (by omega)), by have := hg.size; omega⟩, hlo, by have := hg.size; omega, hoth⟩
  rcases List.mem_append.1 hy with hy | hy
  · exact hzs y hy
  · simp at hy; subst hy; exact hz

/-- what great answers -/
def GrPost (w : World) (x : V) (e : Ending) (w' : World) : Prop := ∃ b : Bool, e = .returned (.bool b) ∧ (b = false → x.sz ≤ 65536) ∧ Below w.heap.size w w'

set_option maxRecDepth 100000 in
set_option maxHeartbeats 4000000 in
theorem great_any (w : World) (B : Nat) (v : Value) (x : V) (hv : IsV w B v x) (hB : B ≤ w.heap.size) (hlim : Lim x) : Calls Try.prog 5 #[v] w (GrPost w x) := by
  obtain ⟨⟨p, cap, rfl, h1⟩, h2, h3⟩ := hv
  have HLM : Bx _ := ⟨hlim⟩
  clear hlim
  obtain ⟨i0, hi, iz0, iz1, iz2⟩ := info_parts infoVl
  obtain ⟨j0, hj, jz0, jz1, jz2⟩ := info_parts infoI
  obtain ⟨W0, hW0⟩ : ∃ W0, ((w.alloc (Obj.cells #[.int .i64 x.k, .int .i64 x.n, .slice p x.l.length cap] 24)).alloc (Obj.cells #[.int .i64 x.k, .int .i64 x.n, .slice p x.l.length cap] 24)).alloc (Obj.cells #[.int .i64 1] 3) = W0 := ⟨_, rfl⟩
  have hb0 : Below w.heap.size w W0 := by rw [← hW0]; exact (two_new _ _ _).trans ((below1 _ _).mono (by simp; omega))
  have hr1 : W0.heap[w.heap.size + 1]? = some (Obj.cells #[.int .i64 x.k, .int .i64 x.n, .slice p x.l.length cap] 24) := by rw [← hW0]; exact (Below.heap_alloc _ _ _ (by simp)).trans (alloc_at _ _ _)
  have hr2 : W0.heap[w.heap.size + 2]? = some (Obj.cells #[.int .i64 1] 3) := by
    rw [← hW0]; have := World.alloc_heap_new ((w.alloc (Obj.cells #[.int .i64 x.k, .int .i64 x.n, .slice p x.l.length cap] 24)).alloc (Obj.cells #[.int .i64 x.k, .int .i64 x.n, .slice p x.l.length cap] 24)) (Obj.cells #[.int .i64 1] 3); simpa using this
  have hz0 : W0.heap.size = w.heap.size + 3 := by rw [← hW0]; simp
  have HG0 : Bx (Gt w W0 B (.slice (some ⟨w.heap.size + 1, 0, none⟩) 1 1) (.slice (some ⟨w.heap.size + 2, 0, none⟩) 1 1) [x] 1) :=
    ⟨⟨⟨[.int .i64 x.k, .int .i64 x.n, .slice p x.l.length cap], ⟨rfl, .inr ⟨_, 1, _, rfl, Nat.le_refl _, hr1, by simp, by simp [maxLen], by simp, by simp⟩⟩, ⟨p, cap, [], rfl, h1.lo (Lo.of (hb0.mono hB)), h2, h3, rfl⟩⟩,
      ⟨[1], rfl, by simp, rfl, .inr ⟨_, 1, _, rfl, by omega, hr2, by simp, by simp [maxLen], by simp, by simp⟩⟩, hb0, by omega⟩⟩
  clear h1 h2 h3 hb0 hr1 hr2 hz0
  go_enter Try.func5, Try.ntmps5
  go_wp2
  simp only [Nat.add_assoc, Nat.reduceAdd]
  clear hW0
  go_loopg [3, 4, 5] 65537 (fun k v u c wr => ∃ (cn : Nat) (st : List V), k = 65537 - cn ∧ cn ≤ 65536 ∧ st.length ≤ 65537 ∧ c = .int .i64 cn ∧ cn + szs st = x.sz ∧ Bx (Gt w wr B v u st st.length ∧ ∀ y ∈ st, Lim y))
  case atStart => exact ⟨0, [x], by simp, by omega, by simp, rfl, by simp [szs], ⟨HG0.out, by simpa using HLM.out⟩⟩
  case round =>
    obtain ⟨cn, st, hk, hc, hsl, rfl, hcs, HG⟩ := hrel
    clear HG0
    rcases List.eq_nil_or_concat st with rfl | ⟨qs, y, rfl⟩
    · have HE : Bx (x.sz ≤ 65536 ∧ Below w.heap.size w wr) := ⟨by simp [szs] at hcs; omega, HG.out.1.bel⟩
      rcases HG.out.1.v.val with ⟨rfl, _⟩ | ⟨g, gc, rfl, _⟩
      · go_wp2
        go_ret
        exact ⟨false, rfl, fun _ => HE.out.1, HE.out.2⟩
      · rw [show ([] : List V).length = 0 from rfl]
        go_wp2
        go_ret
        exact ⟨false, rfl, fun _ => HE.out.1, HE.out.2⟩
    · rw [List.concat_eq_append] at HG hsl hcs
      obtain ⟨g, gc, q, qc, rfl, hg, hgl, hgc, hgm, c0, c1, c2, HQ, hyk, hyn, hst⟩ := HG.out.1.v.pop
      have hn1 : (qs ++ [y]).length = qs.length + 1 := by simp
      have hI := HG.out.1.i
      rw [hn1] at hI hsl
      obtain ⟨g', gc', z, rfl, hg', hgl', hgc', hgm', d0, hz0, hz1, hst'⟩ := hI.pop
      have hlim : y.l.length ≤ 4000000000000 := (HG.out.2 y (by simp)).len
      have HLY : Bx (Lim y ∧ ∀ z ∈ qs, Lim z) := ⟨HG.out.2 y (by simp), fun z hz => HG.out.2 z (by simp [hz])⟩
      have hlq : y.l.length ≤ qc := HQ.1
      have hqm : qc ≤ maxLen := HQ.2.1
      rw [szs_append, szs, szs, V.sz_eq] at hcs
      have hyl := szs_len y.l
      unfold maxLen at hgm hgm' hqm
      obtain ⟨W2, hW2⟩ : ∃ W2, wr.alloc (Obj.cells #[.int .i64 y.k, .int .i64 y.n, .slice q y.l.length qc] 24) = W2 := ⟨_, rfl⟩
      have hb2 : Below wr.heap.size wr W2 := by rw [← hW2]; exact below1 _ _
      have hR2 : W2.heap[wr.heap.size]? = some (Obj.cells #[.int .i64 y.k, .int .i64 y.n, .slice q y.l.length qc] 24) := by rw [← hW2]; exact World.alloc_heap_new _ _
      obtain ⟨r0, r1, r2, s0, s1, s2, hRl⟩ := c3 hR2
      have d0' : W2.cell? ⟨g', qs.length, none⟩ = some (.int .i64 z) := (hb2.cell (p := ⟨g', qs.length, none⟩) hgl').trans d0
      have HG2 : Bx (Gt w W2 B (.slice (some ⟨g, 0, none⟩) qs.length gc) (.slice (some ⟨g', 0, none⟩) qs.length gc') qs qs.length) := ⟨(⟨hst, hst', HG.out.1.bel, HG.out.1.sz⟩ : Gt w wr B _ _ qs qs.length).ext hB hb2⟩
      have HQ2 : Bx (SlV W2 B q qc y.l) := ⟨HQ.lo (Lo.of (hb2.mono (by have := HG.out.1.sz; omega)))⟩
      have HT : Bx (Below w.heap.size w W2) := ⟨HG2.out.bel⟩
      have HR2 : Bx _ := ⟨hR2⟩
      have hz2 : W2.heap.size = wr.heap.size + 1 := by rw [← hW2]; simp
      have hws := HG.out.1.sz
      clear hb2 hR2 HQ hst hst' HG hI hn1
      by_cases ho1 : (65536 : Int) < (cn : Int) + 1 + (y.l.length : Int)
      · go_wp2
        go_ret
        exact ⟨true, rfl, fun h => (by cases h), HT.out⟩
      by_cases ho2 : (5000 : Int) < z
      · go_wp2
        go_ret
        exact ⟨true, rfl, fun h => (by cases h), HT.out⟩
      by_cases ho3 : (65536 : Int) < (cn : Int) + 1 + (qs.length : Int) + (y.l.length : Int)
      · go_wp2
        go_ret
        exact ⟨true, rfl, fun h => (by cases h), HT.out⟩
      go_wp2
      obtain ⟨R, hR⟩ : ∃ R, R = wr.heap.size := ⟨_, rfl⟩
      rw [← hR]
      have HRR : Bx (W2.heap[R]? = some (Obj.cells #[.int .i64 y.k, .int .i64 y.n, .slice q y.l.length qc] 24)) := ⟨by rw [hR]; exact HR2.out⟩
      have hRs : R + 1 = W2.heap.size := by omega
      have hRg : g < R ∧ g' < R ∧ w.heap.size + 3 ≤ R := by omega
      clear HR2 r0 r1 r2 s0 s1 s2 hRl d0' c0 c1 c2 d0 hz2 hR hW2
      go_loopg [3, 4, 8] y.l.length (fun k v u iv wr' => ∃ (i : Nat), k = y.l.length - i ∧ i ≤ y.l.length ∧ iv = .int .i64 i ∧ Bx (Gt w wr' B v u (qs ++ y.l.take i) (qs.length + i) ∧ SlV wr' B q qc y.l ∧ wr'.heap[R]? = W2.heap[R]? ∧ v.ownBlock ≠ some R ∧ R + 1 ≤ wr'.heap.size))
      case atStart => exact ⟨0, by simp, by omega, rfl, ⟨by simpa using HG2.out, HQ2.out, rfl, by rw [ownB]; intro e; cases e; omega, by omega⟩⟩
      case round =>
        obtain ⟨i, hk', hil, rfl, HR⟩ := hrel
        clear HG2 HQ2
        have hrow : wr.heap[R]? = some (Obj.cells #[.int .i64 y.k, .int .i64 y.n, .slice q y.l.length qc] 24) := HR.out.2.2.1.trans HRR.out
        obtain ⟨r0, r1, r2, s0, s1, s2, hRl⟩ := c3 hrow
        by_cases hlt : i < y.l.length
        · obtain ⟨b, o, r, rc, rfl, hbB, e0, e1, e2, hR, ek, en⟩ := HR.out.2.1.at3 i hlt
          have hlenq : (qs ++ y.l.take i).length = qs.length + i := by simp; omega
          obtain ⟨xs, ho, hrowv⟩ := HR.out.1.v.own
          rw [hlenq] at ho
          have htk : qs ++ y.l.take (i + 1) = (qs ++ y.l.take i) ++ [y.l[i]] := by rw [List.take_succ_eq_append_getElem hlt, List.append_assoc]
          have HTK : Bx _ := ⟨htk⟩
          have HHR : Bx (SlV wr B r rc y.l[i].l ∧ I64 y.l[i].k ∧ I64 y.l[i].n) := ⟨hR, ek, en⟩
          have HO : Bx _ := ⟨ho⟩
          have HRV : Bx _ := ⟨hrowv⟩
          have HLQ : Bx _ := ⟨hlenq⟩
          clear hR ek en ho hrowv htk hlenq
          have hqi : qs.length + i ≤ 65536 := by omega
          go_wp2_with (first | (at_builtin; refine wpList_append_lies _ rfl (.tmp 65) (.tmp 71) 22 rfl (w.heap.size + 1) 24 i0 (.agg #[.int .i64 0, .int .i64 0, .slice none 0 0]) 3 40 Try.underlying22 hi iz0 iz1 iz2 rfl (by decide) u3 (qs.length + i) xs rfl (own_new HO.out (below1 _ _)) ⟨wr.heap.size, 0, none⟩ 1 1 [.int .i64 y.l[i].k, .int .i64 y.l[i].n, .slice r y.l[i].l.length rc] rfl rfl (triple_one _ _ _ _ _ 24 (World.alloc_heap_new _ _)) (triple_cell _ _ _ _ _) (by decide) (by unfold maxLen; omega) (by omega) (by have := HR.out.1.sz; simp; omega) (wr.heap.size + 1) (by simp) ?_; intro gg gcap w4 hown' hgrow hgi hgl'; obtain ⟨p1, p2, p3, p4⟩ := Gt.pushV HLQ.out HR.out.1 hB HO.out HRV.out HHR.out.1 HHR.out.2.1 HHR.out.2.2 (below1 _ _) hown' hgrow; have hR4 := p4 R _ hrow HR.out.2.2.2.1; have hgR : gg ≠ R := (by intro e; subst e; rcases hgi with h | h; exact HR.out.2.2.2.1 h; omega); obtain ⟨zs, z1, z2, z4⟩ := p1.i.own; have HP1 : Bx _ := ⟨p1⟩; have HZ4 : Bx _ := ⟨z4⟩; have hw4 := p1.sz; clear p1 z4 hown' hgrow) | (at_builtin; refine wpList_append_lies _ rfl (.tmp 73) (.tmp 76) 25 rfl (w.heap.size + 1) 3 j0 (.int .i64 0) 1 8 Try.underlying25 hj jz0 jz1 jz2 rfl (by decide) u4 (qs.length + i) (zs.map (Value.int .i64)) rfl (own_new HZ4.out (below1 _ _)) ⟨w4.heap.size, 0, none⟩ 1 1 [.int .i64 (z + 1)] rfl rfl (slice_one _ _ _ 3 (World.alloc_heap_new _ _)) (by simp [Value.oneCell']) (by decide) (by unfold maxLen; omega) (by omega) (by simp; omega) (w4.heap.size + 1) (by simp) ?_; intro g5 gcap5 w5 hown5 hgrow5 hgi5 hgl5; obtain ⟨v1, v2, v3, v4⟩ := Gt.pushI HP1.out hB z1 z2 HZ4.out ⟨by omega, by omega⟩ (below1 _ _) hown5 hgrow5; have hR5 := v4 R _ hR4 (own_type HZ4.out hR4 (by decide))))
          go_roundg (y.l.length - (i + 1))
          case measure => omega
          case rel => exact ⟨i + 1, rfl, by omega, by simp, ⟨by rw [HTK.out]; exact v1, (HR.out.2.1.lo p2).lo v2, hR5.trans HRR.out.symm, by rw [ownB]; intro e; cases e; exact hgR rfl, by omega⟩⟩
        · have hie : i = y.l.length := by omega
          subst hie
          have HF : Bx (Gt w wr B u3 u4 (qs ++ y.l) (qs ++ y.l).length ∧ ∀ z ∈ qs ++ y.l, Lim z) := ⟨by have := HR.out.1; rw [List.take_length] at this; rw [List.length_append]; exact this, fun z hz => by
            rcases List.mem_append.1 hz with h | h
            · exact HLY.out.2 z h
            · exact HLY.out.1.kid h⟩
          clear HR
          go_wp2
          go_roundg (65537 - (cn + 1))
          case measure => omega
          case rel => exact ⟨cn + 1, qs ++ y.l, rfl, by omega, by simp; omega, by simp, by rw [szs_append]; omega, HF⟩
end Go.Proofs.Ytikijkpklneihaa
namespace Go.Proofs.Ytikijkpklneihaa
open Go.RowKit
set_option linter.unusedVariables false
set_option linter.unusedSimpArgs false

/-! ### rows of one's own -/
theorem run_append_zero {P : Program} {w : World} (base : Nat) (t ty e : TypeId) (i : TypeInfo) (size : Nat) (ht : P.underlying t = some (.slice e)) (hi : P.info? e = some i)
    (v : Value) (n : Nat) (xs : List Value) (hown : w.ownsRow base e size v n xs) (p : Option Addr) (c : Nat) :
    (Builtin.append_ #[t, t] ty #[v, .slice p 0 c]).run P w = .ok v w := by
  have hl : ∀ a : Addr, (Go.loadCells a 0).run P w = .ok #[] w := fun a => by
    have := run_loadCells_list (P := P) w a [] (by simp)
    simpa using this
  rcases hown.2 with ⟨rfl, rfl⟩ | ⟨g, cap, cur, rfl, _, _, hnc, _⟩
  · cases p <;> simp [Builtin.append_, run_underlying ht, sizeOf, typeInfo, hi, Builtin.lenOf, Builtin.firstCells, storeCells, hl]
  · cases p <;> simp [Builtin.append_, run_underlying ht, sizeOf, typeInfo, hi, Builtin.lenOf, Builtin.firstCells, storeCells, hl, hnc]
theorem own_low {W : World} {base base' : Nat} {e : TypeId} {s : Nat} {v : Value} {n : Nat} {cs : List Value} (h : W.ownsRow base e s v n cs) (hb : base' ≤ base) : W.ownsRow base' e s v n cs :=
  ⟨h.1, by
    rcases h.2 with h | ⟨g, cap, cur, e, h1, h2⟩
    · exact .inl h
    · exact .inr ⟨g, cap, cur, e, by omega, h2⟩⟩
theorem block_cells (W : World) (g : Nat) (us : Array Value) (t : TypeId) (hg : W.heap[g]? = some (.cells us t (0, 0))) : ∀ (j : Nat) (x : Value), us.toList[j]? = some x → W.cell? ((⟨g, 0, none⟩ : Addr).add j) = some x := by
  intro j x hx
  have e : (⟨g, 0, none⟩ : Addr).add j = ⟨g, j, none⟩ := by
    cases j with
    | zero => simp [Addr.add]
    | succ j => simp [Addr.add]
  rw [e]
  simp only [World.cell?, hg]
  simpa using hx
theorem owns_same {W W' : World} {B : Nat} {e : TypeId} {s : Nat} {v : Value} {n : Nat} {cs : List Value} (h : W.ownsRow B e s v n cs) (hb : ∀ g, B ≤ g → g < W.heap.size → W'.heap[g]? = W.heap[g]?) : W'.ownsRow B e s v n cs := by
  refine ⟨h.1, ?_⟩
  rcases h.2 with hn | ⟨g, cap, cur, rfl, hB, hgg, rest⟩
  · exact .inl hn
  · exact .inr ⟨g, cap, cur, rfl, hB, by rw [hb g hB (Array.getElem?_eq_some_iff.1 hgg).1]; exact hgg, rest⟩
theorem owns_block {W : World} {B : Nat} {e : TypeId} {s : Nat} {v : Value} {n : Nat} {cs : List Value} (h : W.ownsRow B e s v n cs) {g : Nat} (hg : v.ownBlock = some g) : B ≤ g ∧ g < W.heap.size := by
  rcases h.2 with ⟨rfl, _⟩ | ⟨g', cap, cur, rfl, hB, hgg, rest⟩
  · cases hg
  · simp only [Value.ownBlock, Option.some.injEq] at hg
    subst hg
    exact ⟨hB, (Array.getElem?_eq_some_iff.1 hgg).1⟩
theorem owns_kind {W : World} {B : Nat} {e : TypeId} {s : Nat} {v : Value} {n : Nat} {cs : List Value} (h : W.ownsRow B e s v n cs) : ∀ g, v.ownBlock = some g → ∃ c fz, W.heap[g]? = some (.cells c e fz) := by
  intro g hg
  rcases h.2 with ⟨rfl, _⟩ | ⟨g', cap, cur, rfl, hB, hgg, rest⟩
  · cases hg
  · simp only [Value.ownBlock, Option.some.injEq] at hg
    subst hg
    exact ⟨_, _, hgg⟩
theorem cell_blk {w : World} {b i : Nat} {cs : Array Value} {t : TypeId} {fz : Nat × Nat} {v : Value} (h : w.heap[b]? = some (.cells cs t fz)) (hv : cs[i]? = some v) : w.cell? ⟨b, i, none⟩ = some v := by
  rw [World.cell?]
  simp only [h]
  exact hv
theorem frz_blk {w : World} {b i : Nat} {cs : Array Value} {t : TypeId} (h : w.heap[b]? = some (.cells cs t (0, 0))) : w.frozen? ⟨b, i, none⟩ = false := by simp [World.frozen?, h]
theorem heap_lt {w : World} {b : Nat} {o : Obj} (h : w.heap[b]? = some o) : b < w.heap.size := (Array.getElem?_eq_some_iff.1 h).1
theorem heap_newH (w : World) (o : Obj) (H : Nat) (h : w.heap.size = H) : (w.alloc o).heap[H]? = some o := by subst h; exact World.alloc_heap_new w o
theorem wpList_appI {P : Program} {w w' : World} {ops : Array Oper} {rest : List Oper} {o : Oper} {a : Act} {Q : Exit → Act → World → Prop} (hgd : o.guard = none) (s x : Operand) (t : TypeId)
    (ho : o.op = .call { callee := .builtin .append, args := #[s, x], argTypes := #[t, t] }) {v u r : Value} (hs : a.eval s = v) (hx : a.eval x = u) (hr : ∀ ty, (Builtin.append_ #[t, t] ty #[v, u]).run P w = .ok r w')
    (h : wpList P ops Q rest (a.put o.dst r) w') : wpList P ops Q (o :: rest) a w := by
  refine wpList_plain hgd fun K hK => ?_
  unfold Oper.wp
  simp [execOp, ho, resolve, invoke, builtin, hs, hx, hr, Result.andThen]
  exact hK _ _ h
theorem owns_slice {W : World} {B s n : Nat} {t : TypeId} {v : Value} {cs : List Value} (h : W.ownsRow B t s v n cs) : ∃ a c, v = .slice a n c := by
  rcases h.2 with ⟨rfl, rfl⟩ | ⟨g, cap, cur, rfl, _⟩
  · exact ⟨_, _, rfl⟩
  · exact ⟨_, _, rfl⟩
/-- one element behind a row of one's own -/
theorem app1 {e t : TypeId} {i0 : TypeInfo} {z : Value} {s bt : Nat} (ht : Try.prog.underlying t = some (.slice e)) (hi : Try.prog.info? e = some i0) (hz : i0.zero = some z) (hs : i0.size = s) (hb : i0.bytes = bt) (hzs : z.cells.size = s) (hs0 : 0 < s)
    (W : World) (B : Nat) (v : Value) (n : Nat) (xs : List Value) (ho : W.ownsRow B e s v n xs) (cs : Array Value) (hcs : cs.toList.length = s) (h1 : ∀ u ∈ cs.toList, u.oneCell' = true) (hn : n + 1 ≤ maxLen) (hby : (n + 1) * bt ≤ 140737488355328) (hB : B ≤ W.heap.size) :
    ∃ g c W3, (∀ ty, (Builtin.append_ #[t, t] ty #[v, .slice (some ⟨W.heap.size, 0, none⟩) 1 1]).run Try.prog (W.alloc (.cells cs e)) = .ok (.slice (some ⟨g, 0, none⟩) (n + 1) c) W3) ∧ W3.ownsRow B e s (.slice (some ⟨g, 0, none⟩) (n + 1) c) (n + 1) (xs ++ cs.toList) ∧ W.grownBy W3 v.ownBlock ∧ n + 1 ≤ c ∧ (v.ownBlock = some g ∨ W.heap.size ≤ g) := by
  have ho' : (W.alloc (.cells cs e)).ownsRow B e s v n xs := own_new ho (below1 _ _)
  obtain ⟨g, c, W3, r1, r2, r3, r4, r5⟩ := run_append_lies (P := Try.prog) (W.alloc (.cells cs e)) t e B e i0 z s bt ht hi hz hs hb hzs hs0 v n xs ho' ⟨W.heap.size, 0, none⟩ 1 1 cs.toList (by omega) (block_cells _ _ _ _ (World.alloc_heap_new W _)) h1 (by omega) hn hby (by simp; omega) _ rfl
  have hc : n + 1 ≤ c := by
    rcases r2.2 with ⟨e1, _⟩ | ⟨g', cap', cur, e1, _, _, q1, _⟩
    · cases e1
    · simp only [Value.slice.injEq] at e1
      obtain ⟨_, _, rfl⟩ := e1
      exact q1
  refine ⟨g, c, W3, fun ty => r1, r2, ⟨r3.os, r3.tape, r3.output, Nat.le_trans (by simp) r3.size, fun k hk hne => ?_⟩, hc, ?_⟩
  · rw [r3.block k (by simp; omega) hne, Below.heap_alloc W _ k hk]
  · rcases r4 with r4 | r4
    · exact .inl r4
    · exact .inr (by rw [r4]; simp)
/-- a list that lies somewhere, behind a row of one's own -/
theorem appL {e t : TypeId} {i0 : TypeInfo} {z : Value} {s bt : Nat} (ht : Try.prog.underlying t = some (.slice e)) (hi : Try.prog.info? e = some i0) (hz : i0.zero = some z) (hs : i0.size = s) (hb : i0.bytes = bt) (hzs : z.cells.size = s) (hs0 : 0 < s)
    (W : World) (B : Nat) (v : Value) (n : Nat) (xs : List Value) (ho : W.ownsRow B e s v n xs) (p : Option Addr) (m c : Nat) (news : List Value) (hl : news.length = m * s) (hc : 0 < m → ∃ ad, p = some ad ∧ ∀ j u, news[j]? = some u → W.cell? (ad.add j) = some u) (h1 : ∀ u ∈ news, u.oneCell' = true) (hn : n + m ≤ maxLen) (hby : (n + m) * bt ≤ 140737488355328) (hB : B ≤ W.heap.size) :
    ∃ v' W3, (∀ ty, (Builtin.append_ #[t, t] ty #[v, .slice p m c]).run Try.prog W = .ok v' W3) ∧ W3.ownsRow B e s v' (n + m) (xs ++ news) ∧ W.grownBy W3 v.ownBlock := by
  by_cases h0 : 0 < m
  · obtain ⟨ad, rfl, hcc⟩ := hc h0
    obtain ⟨g, c, W3, r1, r2, r3, r4, r5⟩ := run_append_lies (P := Try.prog) W t e B e i0 z s bt ht hi hz hs hb hzs hs0 v n xs ho ad m c news hl hcc h1 h0 hn hby hB _ rfl
    exact ⟨_, W3, fun ty => r1, r2, r3⟩
  · obtain rfl : m = 0 := by omega
    have : news = [] := List.eq_nil_of_length_eq_zero (by omega)
    subst this
    exact ⟨v, W, fun ty => run_append_zero (P := Try.prog) (w := W) B t ty e i0 s ht hi v n xs ho p c, by simpa using ho, World.grownBy.refl _ _⟩
/-- a row stays where one of another kind grows -/
theorem owns_grown {W W' : World} {B s n : Nat} {t t' : TypeId} {v vv : Value} {cs : List Value} (h : W.ownsRow B t s v n cs) (hg : W.grownBy W' vv.ownBlock) (ht : t' ≠ t) (hne : ∀ g, vv.ownBlock = some g → ∃ c fz, W.heap[g]? = some (.cells c t' fz)) : W'.ownsRow B t s v n cs := by
  refine ⟨h.1, ?_⟩
  rcases h.2 with hn | ⟨g, cap, cur, rfl, hB, hgg, rest⟩
  · exact .inl hn
  · refine .inr ⟨g, cap, cur, rfl, hB, ?_, rest⟩
    rw [hg.block g (heap_lt hgg) (fun e => by
      obtain ⟨c, fz, h2⟩ := hne g e.symm
      rw [h2] at hgg
      injection hgg with hgg
      injection hgg with _ hgg
      exact absurd hgg ht)]
    exact hgg
theorem grown_at {W W' : World} {r : Option Nat} (hg : W.grownBy W' r) {b : Nat} {o : Obj} (h : W.heap[b]? = some o) (hr : r ≠ some b) : W'.heap[b]? = some o := by
  rw [hg.block b (heap_lt h) (fun e => hr (by rw [e]))]; exact h
end Go.Proofs.Ytikijkpklneihaa
namespace Go.Proofs.Ytikijkpklneihaa
open Go.RowKit
set_option linter.unusedVariables false
set_option linter.unusedSimpArgs false

structure OneB (w W : World) (B : Nat) (x : V) (p : Option Addr) (c : Nat) : Prop where
  a : W.heap[w.heap.size]? = some (Obj.cells #[.int .i64 x.k, .int .i64 x.n, .slice p x.l.length c] 24)
  va : SlV W B p c x.l
  bel : Below w.heap.size w W
theorem OneB.next {w W W' : World} {B : Nat} {x : V} {p : Option Addr} {c : Nat} (h : OneB w W B x p c) (hB : B ≤ w.heap.size) (hb : Below W.heap.size W W') : OneB w W' B x p c :=
  ⟨keep_h hb h.a, h.va.lo (Lo.of (hb.mono (Nat.le_trans hB h.bel.size))), h.bel.trans (hb.mono h.bel.size)⟩
theorem OneB.start (w : World) (B : Nat) (x : V) (p : Option Addr) (c : Nat) (hx : SlV w B p c x.l) (hB : B ≤ w.heap.size) :
    OneB w (w.alloc (Obj.cells #[.int .i64 x.k, .int .i64 x.n, .slice p x.l.length c] 24)) B x p c :=
  ⟨World.alloc_heap_new _ _, hx.lo (Lo.of ((below1 _ _).mono hB)), below1 _ _⟩
end Go.Proofs.Ytikijkpklneihaa
namespace Go.Proofs.Ytikijkpklneihaa
open Go.RowKit
set_option linter.unusedVariables false
set_option linter.unusedSimpArgs false

mutual
/-- a value's list in blocks of its own from lo on, with a mark behind it -/
def SpV (W : World) (lo B : Nat) : V → Option Addr → Nat → Prop
  | .mk _ _ l, p, c => ∃ b, p = some ⟨b, 0, none⟩ ∧ c = l.length + 1 ∧ lo ≤ b ∧ b < B ∧ W.cell? ⟨b, l.length * 3, none⟩ = some (.int .i64 (-99)) ∧ SpAll W lo B b 0 l
def SpAll (W : World) (lo B b off : Nat) : List V → Prop
  | [] => True
  | v :: vs => (W.cell? ⟨b, off, none⟩ = some (.int .i64 v.k) ∧ W.cell? ⟨b, off + 1, none⟩ = some (.int .i64 v.n) ∧ I64 v.k ∧ I64 v.n ∧ ∃ p c, W.cell? ⟨b, off + 2, none⟩ = some (.slice p v.l.length c) ∧ SpV W lo B v p c) ∧ SpAll W lo B b (off + 3) vs
end
/-- one of them -/
structure SpIn (W : World) (lo B b off : Nat) (v : V) : Prop where
  c0 : W.cell? ⟨b, off, none⟩ = some (.int .i64 v.k)
  c1 : W.cell? ⟨b, off + 1, none⟩ = some (.int .i64 v.n)
  k64 : I64 v.k
  n64 : I64 v.n
  c2 : ∃ p c, W.cell? ⟨b, off + 2, none⟩ = some (.slice p v.l.length c) ∧ SpV W lo B v p c
theorem SpAll.get {W : World} {lo B b : Nat} {l : List V} : ∀ {off : Nat}, SpAll W lo B b off l → ∀ i (h : i < l.length), SpIn W lo B b (off + i * 3) l[i] := by
  induction l with
  | nil => intro off _ i h; simp at h
  | cons v vs ih =>
    intro off h i hi
    simp only [SpAll] at h
    cases i with
    | zero => obtain ⟨⟨h0, h1, h2, h3, h4⟩, _⟩ := h; simpa using (⟨h0, h1, h2, h3, h4⟩ : SpIn W lo B b off v)
    | succ i =>
      have := ih h.2 i (by simpa using hi)
      have e : off + 3 + i * 3 = off + (i + 1) * 3 := by omega
      rw [e] at this
      simpa using this
theorem SpAll.of_get {W : World} {lo B b : Nat} {l : List V} : ∀ {off : Nat}, (∀ i (h : i < l.length), SpIn W lo B b (off + i * 3) l[i]) → SpAll W lo B b off l := by
  induction l with
  | nil => intro off _; simp [SpAll]
  | cons v vs ih =>
    intro off h
    simp only [SpAll]
    have h0 := h 0 (by simp)
    rw [List.getElem_cons_zero, Nat.zero_mul, Nat.add_zero] at h0
    refine ⟨⟨h0.c0, h0.c1, h0.k64, h0.n64, h0.c2⟩, ih (fun i hi => ?_)⟩
    have := h (i + 1) (by simpa using hi)
    have e : off + 3 + i * 3 = off + (i + 1) * 3 := by omega
    rw [e]
    simpa using this
/-- what lies between two numbers of blocks -/
structure Mid (lo B : Nat) (W W' : World) : Prop where
  cell : ∀ b o, lo ≤ b → b < B → W'.cell? ⟨b, o, none⟩ = W.cell? ⟨b, o, none⟩
theorem SpV.iff {W : World} {lo B : Nat} {x : V} {p : Option Addr} {c : Nat} : SpV W lo B x p c ↔ ∃ b, p = some ⟨b, 0, none⟩ ∧ c = x.l.length + 1 ∧ lo ≤ b ∧ b < B ∧ W.cell? ⟨b, x.l.length * 3, none⟩ = some (.int .i64 (-99)) ∧ SpAll W lo B b 0 x.l := by
  cases x; simp only [SpV, V.l]
theorem SpV.mid {W W' : World} {lo B : Nat} (hm : Mid lo B W W') : ∀ x : V, ∀ {p : Option Addr} {c : Nat}, SpV W lo B x p c → SpV W' lo B x p c := by
  intro x
  induction x using V.ind with
  | h k n l ih =>
    intro p c h
    obtain ⟨b, h1, h2, h3, h4, h5, h6⟩ := SpV.iff.1 h
    refine SpV.iff.2 ⟨b, h1, h2, h3, h4, by rw [hm.cell _ _ h3 h4]; exact h5, SpAll.of_get (fun i hi => ?_)⟩
    have q := h6.get i hi
    obtain ⟨p', c', q1, q2⟩ := q.c2
    exact ⟨by rw [hm.cell _ _ h3 h4]; exact q.c0, by rw [hm.cell _ _ h3 h4]; exact q.c1, q.k64, q.n64, p', c', by rw [hm.cell _ _ h3 h4]; exact q1, ih _ (List.getElem_mem hi) q2⟩
theorem SpV.up {W : World} {lo lo' B B' : Nat} (hl : lo' ≤ lo) (hB : B ≤ B') : ∀ x : V, ∀ {p : Option Addr} {c : Nat}, SpV W lo B x p c → SpV W lo' B' x p c := by
  intro x
  induction x using V.ind with
  | h k n l ih =>
    intro p c h
    obtain ⟨b, h1, h2, h3, h4, h5, h6⟩ := SpV.iff.1 h
    refine SpV.iff.2 ⟨b, h1, h2, by omega, by omega, h5, SpAll.of_get (fun i hi => ?_)⟩
    have q := h6.get i hi
    obtain ⟨p', c', q1, q2⟩ := q.c2
    exact ⟨q.c0, q.c1, q.k64, q.n64, p', c', q1, ih _ (List.getElem_mem hi) q2⟩
theorem SpV.sl {W : World} {lo B : Nat} : ∀ x : V, ∀ {p : Option Addr} {c : Nat}, SpV W lo B x p c → x.sz ≤ 70000 → SlV W B p c x.l := by
  intro x
  induction x using V.ind with
  | h k n l ih =>
    intro p c h hs
    obtain ⟨b, h1, h2, h3, h4, h5, h6⟩ := SpV.iff.1 h
    have hl := szs_len (V.mk k n l).l
    rw [V.sz_eq] at hs
    refine ⟨by omega, by unfold maxLen; omega, .inr ⟨b, 0, h1, h4, AtVs.of_get (fun i hi => ?_)⟩⟩
    have q := h6.get i hi
    rw [Nat.mul_comm i 3] at q
    obtain ⟨p', c', q1, q2⟩ := q.c2
    have hk := szs_mem (List.getElem_mem hi)
    exact ⟨q.c0, q.c1, q.k64, q.n64, p', c', q1, ih _ (List.getElem_mem hi) q2 (by omega)⟩
end Go.Proofs.Ytikijkpklneihaa
namespace Go.Proofs.Ytikijkpklneihaa
open Go.RowKit
set_option linter.unusedVariables false
set_option linter.unusedSimpArgs false

def zeroV : Value := .agg #[.int .i64 0, .int .i64 0, .slice none 0 0]
def zerosV (N : Nat) : Array Value := madeCells zeroV.cells (N * 3)
theorem make_vals (w : World) (N : Nat) (hN : N ≤ 2147483648) : (Instr.makeSlice 22 (.int .i64 N) (.int .i64 N)).run Try.prog w = .ok (.slice (some ⟨w.heap.size, 0, none⟩) N N) (w.alloc (.cells (zerosV N) 24)) := by
  obtain ⟨i0, hi, hz0, hz1, hz2⟩ := info_parts infoVl
  have := run_make (P := Try.prog) w 22 24 i0 zeroV Try.underlying22 hi hz0 .i64 .i64 (N : Int) (N : Int) (by omega) (by omega) (by rw [hz2]; omega) (by omega)
  rw [hz1] at this
  simpa [zerosV] using this
theorem zerosV_size (N : Nat) : (zerosV N).size = N * 3 := by simp [zerosV, madeCells]

/-- a row of cells that may be written -/
structure MRow (W : World) (m N : Nat) : Prop where
  ex : ∃ C : Array Value, W.heap[m]? = some (.cells C 24 (0, 0)) ∧ C.size = N
theorem MRow.cell {W : World} {m N : Nat} (h : MRow W m N) (j : Nat) (hj : j < N) : ∃ u, W.cell? ⟨m, j, none⟩ = some u := by
  obtain ⟨C, h1, h2⟩ := h.ex
  exact ⟨C[j]'(by omega), by simp [World.cell?, h1, h2, hj]⟩
theorem MRow.frozen {W : World} {m N : Nat} (h : MRow W m N) (j : Nat) : W.frozen? ⟨m, j, none⟩ = false := by
  obtain ⟨C, h1, h2⟩ := h.ex
  simp [World.frozen?, h1]
theorem MRow.lt {W : World} {m N : Nat} (h : MRow W m N) : m < W.heap.size := by
  obtain ⟨C, h1, h2⟩ := h.ex
  exact (Array.getElem?_eq_some_iff.1 h1).1
theorem MRow.set {W : World} {m N : Nat} (h : MRow W m N) (j : Nat) (u : Value) : MRow (W.setCell ⟨m, j, none⟩ u) m N := by
  obtain ⟨C, h1, h2⟩ := h.ex
  refine ⟨C.setIfInBounds j u, ?_, by simp [h2]⟩
  simp [World.setCell, Array.getElem?_modify, h1]
theorem MRow.next {W W' : World} {m N : Nat} (h : MRow W m N) (hb : Below W.heap.size W W') : MRow W' m N := by
  obtain ⟨C, h1, h2⟩ := h.ex
  exact ⟨C, keep_h hb h1, h2⟩

/-- own in the midst -/
structure OwI (w wr : World) (B : Nat) (x : V) (p : Option Addr) (c i : Nat) : Prop where
  one : OneB w wr B x p c
  z : wr.heap[w.heap.size + 1]? = some z3
  row : MRow wr (w.heap.size + 2) ((x.l.length + 1) * 3)
  els : ∀ j (h : j < x.l.length), j < i → SpIn wr (w.heap.size + 3) wr.heap.size (w.heap.size + 2) (j * 3) x.l[j]
theorem SpIn.next {W W' : World} {lo b off : Nat} {v : V} (h : SpIn W lo W.heap.size b off v) (hb : Below W.heap.size W W') (hbl : b < W.heap.size) : SpIn W' lo W'.heap.size b off v := by
  have hc : ∀ o, W'.cell? ⟨b, o, none⟩ = W.cell? ⟨b, o, none⟩ := fun o => hb.cell (p := ⟨b, o, none⟩) hbl
  obtain ⟨p, c, h1, h2⟩ := h.c2
  exact ⟨by rw [hc]; exact h.c0, by rw [hc]; exact h.c1, h.k64, h.n64, p, c, by rw [hc]; exact h1, SpV.up (Nat.le_refl _) hb.size v (SpV.mid ⟨fun b o _ hb' => hb.cell (p := ⟨b, o, none⟩) hb'⟩ v h2)⟩
theorem OwI.next {w wr W : World} {B : Nat} {x : V} {p : Option Addr} {c i : Nat} (h : OwI w wr B x p c i) (hB : B ≤ w.heap.size) (hb : Below wr.heap.size wr W) : OwI w W B x p c i :=
  ⟨h.one.next hB hb, keep_h hb h.z, h.row.next hb, fun j hj hi => (h.els j hj hi).next hb h.row.lt⟩
theorem cell_set3 {W : World} {m j : Nat} {a b c : Value} {b' o' : Nat} (h : b' ≠ m ∨ (o' ≠ j ∧ o' ≠ j + 1 ∧ o' ≠ j + 2)) :
    (((W.setCell ⟨m, j, none⟩ a).setCell ⟨m, j + 1, none⟩ b).setCell ⟨m, j + 2, none⟩ c).cell? ⟨b', o', none⟩ = W.cell? ⟨b', o', none⟩ := by
  rw [World.cell?_setCell_other, World.cell?_setCell_other, World.cell?_setCell_other]
  all_goals (intro e; cases e; rcases h with h | h <;> omega)
theorem cell_in3 {W : World} {m j : Nat} {a b c : Value} {u0 u1 u2 : Value} (h0 : W.cell? ⟨m, j, none⟩ = some u0) (h1 : W.cell? ⟨m, j + 1, none⟩ = some u1) (h2 : W.cell? ⟨m, j + 2, none⟩ = some u2) :
    (((W.setCell ⟨m, j, none⟩ a).setCell ⟨m, j + 1, none⟩ b).setCell ⟨m, j + 2, none⟩ c).cell? ⟨m, j, none⟩ = some a ∧ (((W.setCell ⟨m, j, none⟩ a).setCell ⟨m, j + 1, none⟩ b).setCell ⟨m, j + 2, none⟩ c).cell? ⟨m, j + 1, none⟩ = some b ∧ (((W.setCell ⟨m, j, none⟩ a).setCell ⟨m, j + 1, none⟩ b).setCell ⟨m, j + 2, none⟩ c).cell? ⟨m, j + 2, none⟩ = some c := by
  have n01 : (⟨m, j, none⟩ : Addr) ≠ ⟨m, j + 1, none⟩ := by intro e; simp at e
  have n02 : (⟨m, j, none⟩ : Addr) ≠ ⟨m, j + 2, none⟩ := by intro e; simp at e
  have n12 : (⟨m, j + 1, none⟩ : Addr) ≠ ⟨m, j + 2, none⟩ := by intro e; simp at e
  refine ⟨?_, ?_, ?_⟩
  · rw [World.cell?_setCell_other (h := n02.symm), World.cell?_setCell_other (h := n01.symm)]; exact World.cell?_setCell_same _ _ _ h0
  · rw [World.cell?_setCell_other (h := n12.symm)]; exact World.cell?_setCell_same _ _ _ (by rw [World.cell?_setCell_other (h := n01)]; exact h1)
  · exact World.cell?_setCell_same _ _ _ (by rw [World.cell?_setCell_other (h := n12), World.cell?_setCell_other (h := n02)]; exact h2)
def OwPost (w : World) (x : V) (e : Ending) (w' : World) : Prop := ∃ p c, e = .returned (.agg #[.int .i64 x.k, .int .i64 x.n, .slice p x.l.length c]) ∧ SpV w' w.heap.size w'.heap.size x p c ∧ Below w.heap.size w w'
/-- one more is stored -/
theorem OwI.step {w w4 : World} {B : Nat} {x : V} {p : Option Addr} {c i : Nat} (h : OwI w w4 B x p c i) (hB : B ≤ w.heap.size) (hi : i < x.l.length) {q : Option Addr} {d : Nat} (hk : I64 x.l[i].k) (hn : I64 x.l[i].n) (hs : SpV w4 (w.heap.size + 3) w4.heap.size x.l[i] q d) :
    OwI w (((w4.setCell ⟨w.heap.size + 2, i * 3, none⟩ (.int .i64 x.l[i].k)).setCell ⟨w.heap.size + 2, i * 3 + 1, none⟩ (.int .i64 x.l[i].n)).setCell ⟨w.heap.size + 2, i * 3 + 2, none⟩ (.slice q x.l[i].l.length d)) B x p c (i + 1) := by
  obtain ⟨W5, hW5⟩ : ∃ W5, ((w4.setCell ⟨w.heap.size + 2, i * 3, none⟩ (.int .i64 x.l[i].k)).setCell ⟨w.heap.size + 2, i * 3 + 1, none⟩ (.int .i64 x.l[i].n)).setCell ⟨w.heap.size + 2, i * 3 + 2, none⟩ (.slice q x.l[i].l.length d) = W5 := ⟨_, rfl⟩
  have hoth : ∀ b, b ≠ w.heap.size + 2 → W5.heap[b]? = w4.heap[b]? := fun b hb => by
    rw [← hW5, Below.heap_setCell _ _ _ _ hb, Below.heap_setCell _ _ _ _ hb, Below.heap_setCell _ _ _ _ hb]
  have hsz : W5.heap.size = w4.heap.size := by rw [← hW5]; simp [World.size_setCell]
  have hbel : Below w.heap.size w W5 := by
    rw [← hW5]
    exact ((h.one.bel.setCell (p := ⟨w.heap.size + 2, i * 3, none⟩) (by show _ ≤ w.heap.size + 2; omega) _).setCell (p := ⟨w.heap.size + 2, i * 3 + 1, none⟩) (by show _ ≤ w.heap.size + 2; omega) _).setCell (p := ⟨w.heap.size + 2, i * 3 + 2, none⟩) (by show _ ≤ w.heap.size + 2; omega) _
  have hmid : Mid (w.heap.size + 3) w4.heap.size w4 W5 := ⟨fun b o h1 h2 => by simp only [World.cell?]; rw [hoth b (by omega)]⟩
  obtain ⟨u0, e0⟩ := h.row.cell (i * 3) (by omega)
  obtain ⟨u1, e1⟩ := h.row.cell (i * 3 + 1) (by omega)
  obtain ⟨u2, e2⟩ := h.row.cell (i * 3 + 2) (by omega)
  obtain ⟨n0, n1, n2⟩ := cell_in3 (a := .int .i64 x.l[i].k) (b := .int .i64 x.l[i].n) (c := .slice q x.l[i].l.length d) e0 e1 e2
  rw [hW5] at n0 n1 n2
  rw [hW5]
  refine ⟨⟨(hoth _ (by omega)).trans h.one.a, h.one.va.lo (Lo.blocks fun b hb => hoth b (by omega)), hbel⟩, (hoth _ (by omega)).trans h.z, by rw [← hW5]; exact ((h.row.set _ _).set _ _).set _ _, fun j hj hji => ?_⟩
  rw [hsz]
  rcases Nat.lt_or_ge j i with h3 | h3
  · have q := h.els j hj h3
    obtain ⟨p', c', q1, q2⟩ := q.c2
    have hc : ∀ o, o < i * 3 → W5.cell? ⟨w.heap.size + 2, o, none⟩ = w4.cell? ⟨w.heap.size + 2, o, none⟩ := fun o ho => by rw [← hW5]; exact cell_set3 (.inr ⟨by omega, by omega, by omega⟩)
    exact ⟨by rw [hc _ (by omega)]; exact q.c0, by rw [hc _ (by omega)]; exact q.c1, q.k64, q.n64, p', c', by rw [hc _ (by omega)]; exact q1, SpV.mid hmid _ q2⟩
  · have : j = i := by omega
    subst this
    exact ⟨n0, n1, hk, hn, q, d, n2, SpV.mid hmid _ hs⟩

/-- the mark is set, and it is done -/
theorem OwI.fin {w wr : World} {B : Nat} {x : V} {p : Option Addr} {c : Nat} (h : OwI w wr B x p c x.l.length) (a b d e : Value) :
    SpV (((((wr.setCell ⟨w.heap.size + 2, x.l.length * 3, none⟩ (.int .i64 (-99))).setCell ⟨w.heap.size, 2, none⟩ a).setCell ⟨w.heap.size + 1, 0, none⟩ b).setCell ⟨w.heap.size + 1, 1, none⟩ d).setCell ⟨w.heap.size + 1, 2, none⟩ e) w.heap.size (((((wr.setCell ⟨w.heap.size + 2, x.l.length * 3, none⟩ (.int .i64 (-99))).setCell ⟨w.heap.size, 2, none⟩ a).setCell ⟨w.heap.size + 1, 0, none⟩ b).setCell ⟨w.heap.size + 1, 1, none⟩ d).setCell ⟨w.heap.size + 1, 2, none⟩ e).heap.size x (some ⟨w.heap.size + 2, 0, none⟩) (x.l.length + 1)
    ∧ Below w.heap.size w (((((wr.setCell ⟨w.heap.size + 2, x.l.length * 3, none⟩ (.int .i64 (-99))).setCell ⟨w.heap.size, 2, none⟩ a).setCell ⟨w.heap.size + 1, 0, none⟩ b).setCell ⟨w.heap.size + 1, 1, none⟩ d).setCell ⟨w.heap.size + 1, 2, none⟩ e) := by
  obtain ⟨W1, hW1⟩ : ∃ W1, wr.setCell ⟨w.heap.size + 2, x.l.length * 3, none⟩ (.int .i64 (-99)) = W1 := ⟨_, rfl⟩
  obtain ⟨W5, hW5⟩ : ∃ W5, (((W1.setCell ⟨w.heap.size, 2, none⟩ a).setCell ⟨w.heap.size + 1, 0, none⟩ b).setCell ⟨w.heap.size + 1, 1, none⟩ d).setCell ⟨w.heap.size + 1, 2, none⟩ e = W5 := ⟨_, rfl⟩
  rw [hW1, hW5]
  have hb1 : Below w.heap.size w W1 := by rw [← hW1]; exact h.one.bel.setCell (p := ⟨w.heap.size + 2, x.l.length * 3, none⟩) (by show _ ≤ w.heap.size + 2; omega) _
  have hb5 : Below w.heap.size w W5 := by
    rw [← hW5]; exact below3 (hb1.setCell (p := ⟨w.heap.size, 2, none⟩) (Nat.le_refl _) _) (by omega) _ _ _
  have hup : ∀ b o, w.heap.size + 2 ≤ b → W5.cell? ⟨b, o, none⟩ = W1.cell? ⟨b, o, none⟩ := fun b o hb => by
    simp only [World.cell?]
    rw [← hW5, set3_other _ _ _ (by omega), Below.heap_setCell _ _ _ _ (by show b ≠ w.heap.size; omega)]
  have hs1 : W1.heap.size = wr.heap.size := by rw [← hW1]; simp [World.size_setCell]
  have hs5 : W5.heap.size = wr.heap.size := by rw [← hW5, ← hs1]; simp [World.size_setCell]
  obtain ⟨u, hu⟩ := h.row.cell (x.l.length * 3) (by omega)
  have hml := h.row.lt
  have hoth : ∀ b o, b ≠ w.heap.size + 2 ∨ o ≠ x.l.length * 3 → W1.cell? ⟨b, o, none⟩ = wr.cell? ⟨b, o, none⟩ := fun b o hb => by
    rw [← hW1, World.cell?_setCell_other]
    intro e; cases e; rcases hb with hb | hb <;> exact hb rfl
  have hmid : Mid (w.heap.size + 3) wr.heap.size wr W5 := ⟨fun b o h1 h2 => by rw [hup b o (by omega), hoth b o (.inl (by omega))]⟩
  refine ⟨SpV.iff.2 ⟨w.heap.size + 2, rfl, rfl, by omega, by omega, ?_, SpAll.of_get (fun i hi => ?_)⟩, hb5⟩
  · rw [hup _ _ (by omega), ← hW1]; exact World.cell?_setCell_same _ _ _ hu
  · have q := h.els i hi hi
    obtain ⟨p', c', q1, q2⟩ := q.c2
    have hc : ∀ o, o ≠ x.l.length * 3 → W5.cell? ⟨w.heap.size + 2, o, none⟩ = wr.cell? ⟨w.heap.size + 2, o, none⟩ := fun o ho => by rw [hup _ _ (by omega), hoth _ _ (.inr ho)]
    have e0 : 0 + i * 3 = i * 3 := by omega
    rw [e0]
    exact ⟨by rw [hc _ (by omega)]; exact q.c0, by rw [hc _ (by omega)]; exact q.c1, q.k64, q.n64, p', c', by rw [hc _ (by omega)]; exact q1, SpV.up (by omega) (by omega) _ (SpV.mid hmid _ q2)⟩

set_option maxRecDepth 100000 in
set_option maxHeartbeats 4000000 in
theorem lown_rec (N : Nat) (ih : ∀ (x : V), x.sz < N → ∀ (w : World) (B : Nat) (v : Value), IsV w B v x → B ≤ w.heap.size → x.sz ≤ 65536 → Calls Try.prog 6 #[v] w (OwPost w x))
    (w : World) (B : Nat) (v : Value) (x : V) (hv : IsV w B v x) (hB : B ≤ w.heap.size) (hN : x.sz ≤ N) (h65 : x.sz ≤ 65536) : Calls Try.prog 6 #[v] w (OwPost w x) := by
  obtain ⟨⟨p, c, rfl, h1⟩, h2, h3⟩ := hv
  have hlen := szs_len x.l
  have hsz := V.sz_eq x
  have hlc : x.l.length ≤ c := h1.1
  have hcm : c ≤ maxLen := h1.2.1
  unfold maxLen at hcm
  obtain ⟨W0, hW0⟩ : ∃ W0, (w.alloc (Obj.cells #[.int .i64 x.k, .int .i64 x.n, .slice p x.l.length c] 24)).alloc z3 = W0 := ⟨_, rfl⟩
  have hz0 : W0.heap.size = w.heap.size + 2 := by rw [← hW0]; simp
  have ha0 : W0.heap[w.heap.size]? = some (Obj.cells #[.int .i64 x.k, .int .i64 x.n, .slice p x.l.length c] 24) := by rw [← hW0]; exact (Below.heap_alloc _ _ _ (by simp)).trans (World.alloc_heap_new _ _)
  have ha1 : W0.heap[w.heap.size + 1]? = some z3 := by rw [← hW0]; exact alloc_at _ _ _
  have hb0 : Below w.heap.size w W0 := by rw [← hW0]; exact two_new _ _ _
  have hmk := make_vals W0 (x.l.length + 1) (by omega)
  simp only [Int.natCast_add, Int.cast_ofNat_Int] at hmk
  rw [hz0] at hmk
  obtain ⟨c0, c1, c2, f0, f1, f2, cl⟩ := c3 ha0
  obtain ⟨W1, hW1⟩ : ∃ W1, W0.alloc (.cells (zerosV (x.l.length + 1)) 24) = W1 := ⟨_, rfl⟩
  rw [hW1] at hmk
  have hb1 : Below W0.heap.size W0 W1 := by rw [← hW1]; exact below1 _ _
  have HS0 : Bx (OwI w W1 B x p c 0) := ⟨⟨⟨keep_h hb1 ha0, h1.lo (Lo.of ((hb0.trans (hb1.mono hb0.size)).mono hB)), hb0.trans (hb1.mono hb0.size)⟩, keep_h hb1 ha1, ⟨_, by rw [← hz0, ← hW1]; exact World.alloc_heap_new _ _, zerosV_size _⟩, fun j hj hi => by omega⟩⟩
  have HIH : Bx _ := ⟨ih⟩
  have HK : Bx (I64 x.k ∧ I64 x.n) := ⟨h2, h3⟩
  clear h1 h2 h3 ih hb0 hb1 ha0 ha1 hz0
  go_enter Try.func6, Try.ntmps6
  go_wp2
  clear c0 c1 c2 f0 f1 f2 cl hW0 hW1 hmk
  go_loopg [4] x.l.length (fun q v wr => ∃ i : Nat, q = x.l.length - i ∧ i ≤ x.l.length ∧ v = .int .i64 i ∧ Bx (OwI w wr B x p c i))
  case atStart => exact ⟨0, by simp, by omega, rfl, HS0⟩
  case round =>
    obtain ⟨i, hq, hil, rfl, HS⟩ := hrel
    clear HS0
    obtain ⟨r0, r1, r2, g0, g1, g2, rl⟩ := c3 HS.out.one.a
    by_cases hlt : i < x.l.length
    · obtain ⟨b, o, q1, qc, rfl, hbB, d0, d1, d2, hq1, dk, dn⟩ := HS.out.one.va.at3 i hlt
      have HC : Bx _ := ⟨HIH.out x.l[i] (by have h9 := szs_mem (List.getElem_mem hlt); omega) wr B _ ⟨⟨q1, qc, rfl, hq1⟩, dk, dn⟩ (Nat.le_trans hB HS.out.one.bel.size) (by have h9 := szs_mem (List.getElem_mem hlt); omega)⟩
      have HD : Bx (I64 x.l[i].k ∧ I64 x.l[i].n) := ⟨dk, dn⟩
      have hml := HS.out.row.lt
      clear hq1 dk dn
      go_wp2_with (first | (go_at_call 6; refine Calls.mono HC.out ?_; rintro e w4 ⟨q, d, rfl, hsp, hb4⟩; have HN : Bx _ := ⟨HS.out.next hB hb4⟩; obtain ⟨u0, t0⟩ := HN.out.row.cell (i * 3) (by omega); obtain ⟨u1, t1⟩ := HN.out.row.cell (i * 3 + 1) (by omega); obtain ⟨u2, t2⟩ := HN.out.row.cell (i * 3 + 2) (by omega); have v0 := HN.out.row.frozen (i * 3); have v1 := HN.out.row.frozen (i * 3 + 1); have v2 := HN.out.row.frozen (i * 3 + 2); have HF : Bx _ := ⟨HN.out.step hB hlt HD.out.1 HD.out.2 (SpV.up (by omega) (Nat.le_refl _) _ hsp)⟩; clear hsp))
      go_roundg (x.l.length - (i + 1))
      case measure => omega
      case rel => exact ⟨i + 1, rfl, by omega, by simp, HF⟩
    · have hie : i = x.l.length := by omega
      subst hie
      obtain ⟨z0, z1, z2, y0, y1, y2, zl⟩ := c3 HS.out.z
      obtain ⟨u0, t0⟩ := HS.out.row.cell (x.l.length * 3) (by omega)
      have v0 := HS.out.row.frozen (x.l.length * 3)
      have hml := HS.out.row.lt
      have HF : Bx _ := ⟨HS.out.fin (.slice (some ⟨w.heap.size + 2, 0, none⟩) x.l.length (x.l.length + 1)) (.int .i64 x.k) (.int .i64 x.n) (.slice (some ⟨w.heap.size + 2, 0, none⟩) x.l.length (x.l.length + 1))⟩
      go_wp2
      refine bodyPost_ret (v := .agg #[.int .i64 x.k, .int .i64 x.n, .slice (some ⟨w.heap.size + 2, 0, none⟩) x.l.length (x.l.length + 1)]) (by simp [results, Try.results6, go_sem, z0, z1, z2, zl]) rfl ⟨_, _, rfl, HF.out.1, HF.out.2⟩
/-- own: the same value in blocks of its own, with a mark behind each list -/
theorem lown_any (w : World) (B : Nat) (v : Value) (x : V) (hv : IsV w B v x) (hB : B ≤ w.heap.size) (h65 : x.sz ≤ 65536) : Calls Try.prog 6 #[v] w (OwPost w x) := by
  have key : ∀ N : Nat, ∀ (x : V), x.sz ≤ N → ∀ (w : World) (B : Nat) (v : Value), IsV w B v x → B ≤ w.heap.size → x.sz ≤ 65536 → Calls Try.prog 6 #[v] w (OwPost w x) := by
    intro N
    induction N with
    | zero => intro x h; have := x.sz_pos; omega
    | succ N ih => intro x h w B v hv hB h65; exact lown_rec (N + 1) (fun x' h' => ih x' (by omega)) w B v x hv hB h h65
  exact key x.sz x (Nat.le_refl _) w B v hv hB h65
end Go.Proofs.Ytikijkpklneihaa
namespace Go.Proofs.Ytikijkpklneihaa
open Go.RowKit
set_option linter.unusedVariables false
set_option linter.unusedSimpArgs false

/-- whose a block is: a tree's number, and the way to the list that lies in it (the last step first) -/
abbrev Gh := Nat → Option (Nat × List Nat)
/-- a list's capacity: what was handed out (a tree of an even number) has no room behind it -/
def Cp (id n c : Nat) : Prop := n ≤ c ∧ (id % 2 = 0 → c = n)
mutual
/-- a value's list, each list of it in a block of its own, which the ghost knows -/
def TrV (W : World) (ρ : Gh) (id : Nat) (q : List Nat) : V → Option Addr → Nat → Prop
  | .mk _ _ l, p, c => Cp id l.length c ∧ c ≤ 2147483648 ∧ ((l = [] ∧ p = none ∧ c = 0) ∨ ∃ b, p = some ⟨b, 0, none⟩ ∧ ρ b = some (id, q) ∧ MRow W b (c * 3) ∧ TrAll W ρ id q b 0 l)
def TrAll (W : World) (ρ : Gh) (id : Nat) (q : List Nat) (b i : Nat) : List V → Prop
  | [] => True
  | v :: vs => (W.cell? ⟨b, i * 3, none⟩ = some (.int .i64 v.k) ∧ W.cell? ⟨b, i * 3 + 1, none⟩ = some (.int .i64 v.n) ∧ I64 v.k ∧ I64 v.n ∧ ∃ p c, W.cell? ⟨b, i * 3 + 2, none⟩ = some (.slice p v.l.length c) ∧ TrV W ρ id (i :: q) v p c) ∧ TrAll W ρ id q b (i + 1) vs
end
/-- one of them -/
structure TrIn (W : World) (ρ : Gh) (id : Nat) (q : List Nat) (b i : Nat) (v : V) : Prop where
  c0 : W.cell? ⟨b, i * 3, none⟩ = some (.int .i64 v.k)
  c1 : W.cell? ⟨b, i * 3 + 1, none⟩ = some (.int .i64 v.n)
  k64 : I64 v.k
  n64 : I64 v.n
  c2 : ∃ p c, W.cell? ⟨b, i * 3 + 2, none⟩ = some (.slice p v.l.length c) ∧ TrV W ρ id (i :: q) v p c
theorem TrAll.get {W : World} {ρ : Gh} {id : Nat} {q : List Nat} {b : Nat} {l : List V} : ∀ {i : Nat}, TrAll W ρ id q b i l → ∀ j (h : j < l.length), TrIn W ρ id q b (i + j) l[j] := by
  induction l with
  | nil => intro i _ j h; simp at h
  | cons v vs ih =>
    intro i h j hj
    simp only [TrAll] at h
    cases j with
    | zero => obtain ⟨⟨h0, h1, h2, h3, h4⟩, _⟩ := h; exact ⟨h0, h1, h2, h3, h4⟩
    | succ j =>
      have := ih h.2 j (by simpa using hj)
      have e : i + 1 + j = i + (j + 1) := by omega
      rw [e] at this
      simpa using this
theorem TrAll.of_get {W : World} {ρ : Gh} {id : Nat} {q : List Nat} {b : Nat} {l : List V} : ∀ {i : Nat}, (∀ j (h : j < l.length), TrIn W ρ id q b (i + j) l[j]) → TrAll W ρ id q b i l := by
  induction l with
  | nil => intro i _; simp [TrAll]
  | cons v vs ih =>
    intro i h
    simp only [TrAll]
    have h0 := h 0 (by simp)
    rw [List.getElem_cons_zero, Nat.add_zero] at h0
    refine ⟨⟨h0.c0, h0.c1, h0.k64, h0.n64, h0.c2⟩, ih (fun j hj => ?_)⟩
    have := h (j + 1) (by simpa using hj)
    have e : i + 1 + j = i + (j + 1) := by omega
    rw [e]
    simpa using this
theorem TrV.iff {W : World} {ρ : Gh} {id : Nat} {q : List Nat} {x : V} {p : Option Addr} {c : Nat} : TrV W ρ id q x p c ↔ Cp id x.l.length c ∧ c ≤ 2147483648 ∧ ((x.l = [] ∧ p = none ∧ c = 0) ∨ ∃ b, p = some ⟨b, 0, none⟩ ∧ ρ b = some (id, q) ∧ MRow W b (c * 3) ∧ TrAll W ρ id q b 0 x.l) := by
  cases x; simp only [TrV, V.l]
/-- the blocks of a tree, from a place on -/
def Und (ρ : Gh) (id : Nat) (q : List Nat) (b : Nat) : Prop := ∃ s, ρ b = some (id, s ++ q)
theorem Und.kid {ρ : Gh} {id i b : Nat} {q : List Nat} (h : Und ρ id (i :: q) b) : Und ρ id q b := by
  obtain ⟨s, hs⟩ := h
  exact ⟨s ++ [i], by rw [hs]; simp⟩
theorem Und.self {ρ : Gh} {id b : Nat} {q : List Nat} (h : ρ b = some (id, q)) : Und ρ id q b := ⟨[], by simpa using h⟩
/-- two places of a list have no block in common, nor has the list's own -/
theorem Und.apart {ρ : Gh} {id i j b : Nat} {q : List Nat} (h : Und ρ id (i :: q) b) (h2 : Und ρ id (j :: q) b) : i = j := by
  obtain ⟨s, hs⟩ := h
  obtain ⟨t, ht⟩ := h2
  rw [hs] at ht
  simp only [Option.some.injEq, Prod.mk.injEq, true_and] at ht
  have hl : s.length = t.length := by
    have := congrArg List.length ht
    simp at this
    exact this
  have := (List.append_inj ht hl).2
  simp at this
  exact this
theorem Und.not_self {ρ : Gh} {id i b : Nat} {q : List Nat} (h : Und ρ id (i :: q) b) : ρ b ≠ some (id, q) := fun e => by
  obtain ⟨s, hs⟩ := h
  rw [hs] at e
  simp only [Option.some.injEq, Prod.mk.injEq, true_and] at e
  have := congrArg List.length e
  simp at this
  omega
theorem MRow.same {W W' : World} {m N : Nat} (h : MRow W m N) (hb : W'.heap[m]? = W.heap[m]?) : MRow W' m N := by
  obtain ⟨C, h1, h2⟩ := h.ex
  exact ⟨C, hb.trans h1, h2⟩
/-- a tree stays where its blocks stay -/
theorem TrV.keep {W W' : World} {ρ : Gh} {id : Nat} : ∀ x : V, ∀ {q : List Nat} {p : Option Addr} {c : Nat}, TrV W ρ id q x p c → (∀ b, b < W.heap.size → Und ρ id q b → W'.heap[b]? = W.heap[b]?) → TrV W' ρ id q x p c := by
  intro x
  induction x using V.ind with
  | h k n l ih =>
    intro q p c h hb
    obtain ⟨h1, h2, h3⟩ := TrV.iff.1 h
    refine TrV.iff.2 ⟨h1, h2, ?_⟩
    rcases h3 with h3 | ⟨b, e1, e2, e3, e4⟩
    · exact .inl h3
    · have hs := hb b e3.lt (Und.self e2)
      have hc : ∀ o, W'.cell? ⟨b, o, none⟩ = W.cell? ⟨b, o, none⟩ := fun o => World.cell?_of_block (a := ⟨b, o, none⟩) hs
      refine .inr ⟨b, e1, e2, e3.same hs, TrAll.of_get fun j hj => ?_⟩
      have g := e4.get j hj
      obtain ⟨p', c', g1, g2⟩ := g.c2
      exact ⟨by rw [hc]; exact g.c0, by rw [hc]; exact g.c1, g.k64, g.n64, p', c', by rw [hc]; exact g1, ih _ (List.getElem_mem hj) g2 fun y hy hu => hb y hy (by rw [Nat.zero_add] at hu; exact hu.kid)⟩
/-- it reads as the value does -/
theorem TrV.sl {W : World} {ρ : Gh} {id : Nat} : ∀ x : V, ∀ {q : List Nat} {p : Option Addr} {c : Nat}, TrV W ρ id q x p c → SlV W W.heap.size p c x.l := by
  intro x
  induction x using V.ind with
  | h k n l ih =>
    intro q p c h
    obtain ⟨h1, h2, h3⟩ := TrV.iff.1 h
    refine ⟨h1.1, by unfold maxLen; omega, ?_⟩
    rcases h3 with h3 | ⟨b, e1, e2, e3, e4⟩
    · exact .inl h3.1
    · refine .inr ⟨b, 0, e1, e3.lt, AtVs.of_get fun j hj => ?_⟩
      have g := e4.get j hj
      obtain ⟨p', c', g1, g2⟩ := g.c2
      have ej : 0 + 3 * j = (0 + j) * 3 := by omega
      rw [ej]
      exact ⟨g.c0, g.c1, g.k64, g.n64, p', c', g1, ih _ (List.getElem_mem hj) g2⟩
mutual
/-- a tree whose places are marked -/
def mkV : Int → V → V
  | n, .mk k m l => .mk k m (mkL n 0 l)
def mkL : Int → Nat → List V → List V
  | _, _, [] => []
  | n, i, x :: xs => .mk 50 (-n - i) (mkV (n + i + 1) x).l :: mkL n (i + 1) xs
end
theorem mkL_len (n : Int) : ∀ (l : List V) (i : Nat), (mkL n i l).length = l.length
  | [], _ => by simp [mkL]
  | x :: xs, i => by simp [mkL, mkL_len n xs (i + 1)]
theorem mkL_at (n : Int) : ∀ (l : List V) (i j : Nat) (h : j < l.length), (mkL n i l)[j]'(by rw [mkL_len]; exact h) = .mk 50 (-n - ((i + j : Nat) : Int)) (mkV (n + ((i + j : Nat) : Int) + 1) l[j]).l
  | x :: xs, i, 0, h => by simp [mkL]
  | x :: xs, i, j + 1, h => by
    have := mkL_at n xs (i + 1) j (by simpa using h)
    have e : i + 1 + j = i + (j + 1) := by omega
    simp only [e] at this
    simpa [mkL] using this
end Go.Proofs.Ytikijkpklneihaa
namespace Go.Proofs.Ytikijkpklneihaa
open Go.RowKit
set_option linter.unusedVariables false
set_option linter.unusedSimpArgs false

theorem TrV.list {W : World} {ρ : Gh} {id : Nat} {q : List Nat} {x y : V} {p : Option Addr} {c : Nat} (h : TrV W ρ id q x p c) (e : y.l = x.l) : TrV W ρ id q y p c := by
  obtain ⟨h1, h2, h3⟩ := TrV.iff.1 h
  rw [← e] at h1 h3
  exact TrV.iff.2 ⟨h1, h2, h3⟩
def mk1 (n : Int) (j : Nat) (x : V) : V := .mk 50 (-n - j) (mkV (n + j + 1) x).l
theorem mkV_l (n : Int) (x : V) : (mkV n x).l = mkL n 0 x.l := by cases x; simp [mkV, V.l]
theorem mkV_len (n : Int) (x : V) : (mkV n x).l.length = x.l.length := by rw [mkV_l, mkL_len]
theorem mkV_at (n : Int) (x : V) (j : Nat) (h : j < x.l.length) : (mkV n x).l[j]'(by rw [mkV_len]; exact h) = mk1 n j x.l[j] := by
  have h2 := mkL_at n x.l 0 j h
  simp only [Nat.zero_add] at h2
  have e : ∀ (a : List V) (q : a = mkL n 0 x.l) (h' : j < a.length), a[j] = (mkL n 0 x.l)[j]'(by rw [← q]; exact h') := by
    intro a q h'
    subst q
    rfl
  rw [e _ (mkV_l n x) _, h2]
  rfl
/-- what only turns blocks under two places, and what is new -/
structure FrM (W W' : World) (S : Nat → Prop) : Prop where
  os : W'.os = W.os
  tape : W'.tape = W.tape
  output : W'.output = W.output
  size : W.heap.size ≤ W'.heap.size
  block : ∀ b, b < W.heap.size → ¬ S b → W'.heap[b]? = W.heap[b]?
theorem FrM.refl (W : World) (S : Nat → Prop) : FrM W W S := ⟨rfl, rfl, rfl, Nat.le_refl _, fun _ _ _ => rfl⟩
theorem FrM.trans {W W' W2 : World} {S : Nat → Prop} (h : FrM W W' S) (g : FrM W' W2 S) : FrM W W2 S :=
  ⟨g.os.trans h.os, g.tape.trans h.tape, g.output.trans h.output, Nat.le_trans h.size g.size, fun b hb hs => (g.block b (Nat.lt_of_lt_of_le hb h.size) hs).trans (h.block b hb hs)⟩
theorem FrM.wide {W W' : World} {S S' : Nat → Prop} (h : FrM W W' S) (hs : ∀ b, S b → S' b) : FrM W W' S' :=
  ⟨h.os, h.tape, h.output, h.size, fun b hb hn => h.block b hb fun e => hn (hs b e)⟩
theorem FrM.of {W W' : World} {S : Nat → Prop} (h : Below W.heap.size W W') : FrM W W' S := ⟨h.os, h.tape, h.output, h.size, fun b hb _ => h.block b hb⟩
theorem FrM.set {W W' : World} {S : Nat → Prop} (h : FrM W W' S) {b : Nat} (hb : S b ∨ W.heap.size ≤ b) (o : Nat) (v : Value) : FrM W (W'.setCell ⟨b, o, none⟩ v) S :=
  ⟨h.os, h.tape, h.output, by simpa [World.size_setCell] using h.size, fun y hy hn => by
    rw [Below.heap_setCell _ ⟨b, o, none⟩ _ _ (fun e => by
      have e' : y = b := e
      subst e'
      rcases hb with hb | hb
      · exact hn hb
      · omega)]
    exact h.block y hy hn⟩
/-- a tree under way: its first places are marked -/
structure MkI (W : World) (ρ : Gh) (id : Nat) (q : List Nat) (p : Option Addr) (c : Nat) (l : List V) (n : Int) (i : Nat) : Prop where
  len : Cp id l.length c
  cap : c ≤ 2147483648
  row : (l = [] ∧ p = none ∧ c = 0) ∨ ∃ b, p = some ⟨b, 0, none⟩ ∧ ρ b = some (id, q) ∧ MRow W b (c * 3) ∧ ∀ j (h : j < l.length), TrIn W ρ id q b j (if j < i then mk1 n j l[j] else l[j])
theorem MkI.start {W : World} {ρ : Gh} {id : Nat} {q : List Nat} {x : V} {p : Option Addr} {c : Nat} (h : TrV W ρ id q x p c) (n : Int) : MkI W ρ id q p c x.l n 0 := by
  obtain ⟨h1, h2, h3⟩ := TrV.iff.1 h
  refine ⟨h1, h2, ?_⟩
  rcases h3 with h3 | ⟨b, e1, e2, e3, e4⟩
  · exact .inl h3
  · exact .inr ⟨b, e1, e2, e3, fun j hj => by
      have := e4.get j hj
      rw [Nat.zero_add] at this
      simpa using this⟩
theorem MkI.done {W : World} {ρ : Gh} {id : Nat} {q : List Nat} {x : V} {p : Option Addr} {c : Nat} {n : Int} (h : MkI W ρ id q p c x.l n x.l.length) : TrV W ρ id q (mkV n x) p c := by
  refine TrV.iff.2 ⟨by rw [mkV_len]; exact h.len, h.cap, ?_⟩
  rcases h.row with ⟨h1, h2⟩ | ⟨b, e1, e2, e3, e4⟩
  · exact .inl ⟨List.eq_nil_of_length_eq_zero (by rw [mkV_len, h1]; rfl), h2⟩
  · refine .inr ⟨b, e1, e2, e3, TrAll.of_get fun j hj => ?_⟩
    have hj2 : j < x.l.length := by rw [mkV_len] at hj; exact hj
    have := e4 j hj2
    rw [if_pos hj2] at this
    rw [Nat.zero_add, mkV_at n x j hj2]
    exact this
theorem TrIn.keep {W W' : World} {ρ : Gh} {id : Nat} {q : List Nat} {b i : Nat} {v : V} (h : TrIn W ρ id q b i v) (hbl : b < W.heap.size) (hr : ρ b = some (id, q)) (hb : ∀ y, y < W.heap.size → ρ y = some (id, q) ∨ Und ρ id (i :: q) y → W'.heap[y]? = W.heap[y]?) : TrIn W' ρ id q b i v := by
  have hc : ∀ o, W'.cell? ⟨b, o, none⟩ = W.cell? ⟨b, o, none⟩ := fun o => World.cell?_of_block (a := ⟨b, o, none⟩) (hb b hbl (.inl hr))
  obtain ⟨p, c, h1, h2⟩ := h.c2
  exact ⟨by rw [hc]; exact h.c0, by rw [hc]; exact h.c1, h.k64, h.n64, p, c, by rw [hc]; exact h1, TrV.keep v h2 fun y hy hu => hb y hy (.inr hu)⟩
/-- what turns no block of the tree leaves it -/
theorem MkI.keep {W W' : World} {ρ : Gh} {id : Nat} {q : List Nat} {p : Option Addr} {c : Nat} {l : List V} {n : Int} {i : Nat} (h : MkI W ρ id q p c l n i) (hb : ∀ y, y < W.heap.size → Und ρ id q y → W'.heap[y]? = W.heap[y]?) : MkI W' ρ id q p c l n i := by
  refine ⟨h.len, h.cap, ?_⟩
  rcases h.row with h3 | ⟨b, e1, e2, e3, e4⟩
  · exact .inl h3
  · exact .inr ⟨b, e1, e2, e3.same (hb b e3.lt (Und.self e2)), fun j hj => (e4 j hj).keep e3.lt e2 fun y hy hu => hb y hy (by
      rcases hu with hu | hu
      · exact Und.self hu
      · exact hu.kid)⟩
/-- a place's list is marked: then its number and its kind -/
theorem MkI.step {W W' : World} {ρ : Gh} {id : Nat} {q : List Nat} {p : Option Addr} {c : Nat} {l : List V} {n : Int} {i b : Nat} {p' : Option Addr} {c' : Nat} (h : MkI W ρ id q p c l n i) (hi : i < l.length) (hp : p = some ⟨b, 0, none⟩) (hc : W.cell? ⟨b, i * 3 + 2, none⟩ = some (.slice p' l[i].l.length c')) (hk : TrV W' ρ id (i :: q) (mkV (n + i + 1) l[i]) p' c') (hb : ∀ y, y < W.heap.size → Und ρ id q y → ¬ Und ρ id (i :: q) y → W'.heap[y]? = W.heap[y]?) (hn : I64 (-n - i)) :
    ∀ W2 : World, W2.heap.size = W'.heap.size → (∀ y, y ≠ b → W2.heap[y]? = W'.heap[y]?) → W2.heap[b]? = ((W'.setCell ⟨b, i * 3 + 1, none⟩ (.int .i64 (-n - i))).setCell ⟨b, i * 3, none⟩ (.int .i64 50)).heap[b]? → MkI W2 ρ id q p c l n (i + 1) := by
  intro W2 hs ho he
  refine ⟨h.len, h.cap, ?_⟩
  rcases h.row with ⟨h1, _⟩ | ⟨b', e1, e2, e3, e4⟩
  · rw [h1] at hi; simp at hi
  · rw [hp] at e1
    simp only [Option.some.injEq, Addr.mk.injEq, and_true] at e1
    subst e1
    have hbl : b < W.heap.size := e3.lt
    have hnu : ∀ j, ¬ Und ρ id (j :: q) b := fun j hu => hu.not_self e2
    have hbW : W'.heap[b]? = W.heap[b]? := hb b hbl (Und.self e2) (hnu i)
    have r1 := e3.same hbW
    have r2 := (r1.set (i * 3 + 1) (.int .i64 (-n - i))).set (i * 3) (.int .i64 50)
    have hlc := h.len.1
    obtain ⟨u0, g0⟩ := r1.cell (i * 3) (by omega)
    obtain ⟨u1, g1⟩ := r1.cell (i * 3 + 1) (by omega)
    have hcell : ∀ o, W2.cell? ⟨b, o, none⟩ = ((W'.setCell ⟨b, i * 3 + 1, none⟩ (.int .i64 (-n - i))).setCell ⟨b, i * 3, none⟩ (.int .i64 50)).cell? ⟨b, o, none⟩ := fun o => World.cell?_of_block (a := ⟨b, o, none⟩) he
    have hoth : ∀ o, o ≠ i * 3 → o ≠ i * 3 + 1 → W2.cell? ⟨b, o, none⟩ = W.cell? ⟨b, o, none⟩ := fun o h0 h1 => by
      rw [hcell, World.cell?_setCell_other (h := by intro e; cases e; exact h0 rfl), World.cell?_setCell_other (h := by intro e; cases e; exact h1 rfl)]
      exact World.cell?_of_block (a := ⟨b, o, none⟩) hbW
    have k0 : W2.cell? ⟨b, i * 3, none⟩ = some (.int .i64 50) := by
      rw [hcell]
      exact World.cell?_setCell_same _ _ _ (by rw [World.cell?_setCell_other (h := by intro e; simp at e)]; exact g0)
    have k1 : W2.cell? ⟨b, i * 3 + 1, none⟩ = some (.int .i64 (-n - i)) := by
      rw [hcell, World.cell?_setCell_other (h := by intro e; simp at e)]
      exact World.cell?_setCell_same _ _ _ g1
    have hW2 : ∀ j y, y < W.heap.size → j ≠ i → Und ρ id (j :: q) y → W2.heap[y]? = W.heap[y]? := fun j y hy hj hu => by
      rw [ho y (fun e => hnu j (e ▸ hu))]
      exact hb y hy hu.kid fun hu2 => hj (hu.apart hu2)
    refine .inr ⟨b, hp, e2, ?_, fun j hj => ?_⟩
    · obtain ⟨C, a1, a2⟩ := r2.ex
      exact ⟨C, he.trans a1, a2⟩
    · rcases Nat.lt_trichotomy j i with h1 | h1 | h1
      · have g := e4 j hj
        rw [if_pos h1] at g
        rw [if_pos (by omega)]
        obtain ⟨a, d, g3, g4⟩ := g.c2
        exact ⟨by rw [hoth _ (by omega) (by omega)]; exact g.c0, by rw [hoth _ (by omega) (by omega)]; exact g.c1, g.k64, g.n64, a, d, by rw [hoth _ (by omega) (by omega)]; exact g3, TrV.keep _ g4 fun y hy hu => hW2 j y hy (by omega) hu⟩
      · subst h1
        rw [if_pos (by omega)]
        have hlen : (mk1 n j l[j]).l.length = l[j].l.length := mkV_len _ _
        refine ⟨k0, k1, (show I64 50 from ⟨by decide, by decide⟩), hn, p', c', ?_, ?_⟩
        · rw [hlen, hoth _ (by omega) (by omega)]; exact hc
        · exact TrV.keep _ (hk.list (y := mk1 n j l[j]) rfl) fun y _ hu => ho y fun e => hnu j (e ▸ hu)
      · have g := e4 j hj
        rw [if_neg (by omega)] at g
        rw [if_neg (by omega)]
        obtain ⟨a, d, g3, g4⟩ := g.c2
        exact ⟨by rw [hoth _ (by omega) (by omega)]; exact g.c0, by rw [hoth _ (by omega) (by omega)]; exact g.c1, g.k64, g.n64, a, d, by rw [hoth _ (by omega) (by omega)]; exact g3, TrV.keep _ g4 fun y hy hu => hW2 j y hy (by omega) hu⟩
end Go.Proofs.Ytikijkpklneihaa
namespace Go.Proofs.Ytikijkpklneihaa
open Go.RowKit
set_option linter.unusedVariables false
set_option linter.unusedSimpArgs false

abbrev agV (k n : Int) (p : Option Addr) (m c : Nat) : Value := .agg #[.int .i64 k, .int .i64 n, .slice p m c]
/-- both trees, and nothing else, are marked -/
def MarkT (x : V) : Prop := ∀ (w : World) (ρ : Gh) (i1 i2 : Nat) (q1 q2 : List Nat) (p1 p2 : Option Addr) (c1 c2 : Nat) (k1 n1 k2 n2 n : Int), TrV w ρ i1 q1 x p1 c1 → TrV w ρ i2 q2 x p2 c2 → i1 ≠ i2 → (∀ b, w.heap.size ≤ b → ρ b = none) → 0 ≤ n → n + x.sz ≤ 1099511627776 →
  Calls Try.prog 26 #[agV k1 n1 p1 x.l.length c1, agV k2 n2 p2 x.l.length c2, .int .i64 n] w fun e w' => e = .returned (.tuple #[]) ∧ Bx (TrV w' ρ i1 q1 (mkV n x) p1 c1 ∧ TrV w' ρ i2 q2 (mkV n x) p2 c2 ∧ FrM w w' fun b => Und ρ i1 q1 b ∨ Und ρ i2 q2 b)
theorem Und.id {ρ : Gh} {i1 i2 b : Nat} {q1 q2 : List Nat} (h : Und ρ i1 q1 b) (g : Und ρ i2 q2 b) : i1 = i2 := by
  obtain ⟨s, hs⟩ := h
  obtain ⟨t, ht⟩ := g
  rw [hs] at ht
  simp at ht
  exact ht.1
/-- mark in the midst -/
structure MkS (w wr : World) (ρ : Gh) (i1 i2 : Nat) (q1 q2 : List Nat) (p1 p2 : Option Addr) (c1 c2 : Nat) (k1 n1 k2 n2 n : Int) (l : List V) (i : Nat) : Prop where
  va : wr.heap[w.heap.size]? = some (.cells #[.int .i64 k1, .int .i64 n1, .slice p1 l.length c1] 24 (0, 0))
  vb : wr.heap[w.heap.size + 1]? = some (.cells #[.int .i64 k2, .int .i64 n2, .slice p2 l.length c2] 24 (0, 0))
  a : MkI wr ρ i1 q1 p1 c1 l n i
  b : MkI wr ρ i2 q2 p2 c2 l n i
  fr : FrM w wr fun b => Und ρ i1 q1 b ∨ Und ρ i2 q2 b
/-- a place that is yet to be marked -/
theorem MkI.place {W : World} {ρ : Gh} {id : Nat} {q : List Nat} {p : Option Addr} {c : Nat} {l : List V} {n : Int} {i : Nat} (h : MkI W ρ id q p c l n i) (hi : i < l.length) : ∃ b p' c', p = some ⟨b, 0, none⟩ ∧ ρ b = some (id, q) ∧ b < W.heap.size ∧ (∀ o, W.frozen? ⟨b, o, none⟩ = false) ∧ W.cell? ⟨b, i * 3, none⟩ = some (.int .i64 l[i].k) ∧ W.cell? ⟨b, i * 3 + 1, none⟩ = some (.int .i64 l[i].n) ∧ W.cell? ⟨b, i * 3 + 2, none⟩ = some (.slice p' l[i].l.length c') ∧ TrV W ρ id (i :: q) l[i] p' c' := by
  rcases h.row with ⟨h1, _⟩ | ⟨b, e1, e2, e3, e4⟩
  · rw [h1] at hi; simp at hi
  · have g := e4 i hi
    rw [if_neg (by omega)] at g
    obtain ⟨a, d, g3, g4⟩ := g.c2
    exact ⟨b, a, d, e1, e2, e3.lt, e3.frozen, g.c0, g.c1, g3, g4⟩
/-- a round: the places' lists were marked, and then their numbers and kinds -/
theorem MkS.round {w wr X : World} {ρ : Gh} {i1 i2 : Nat} {q1 q2 : List Nat} {p1 p2 : Option Addr} {c1 c2 : Nat} {k1 n1 k2 n2 n : Int} {l : List V} {i b1 b2 : Nat} {p1' p2' : Option Addr} {c1' c2' : Nat} (h : MkS w wr ρ i1 i2 q1 q2 p1 p2 c1 c2 k1 n1 k2 n2 n l i) (hne : i1 ≠ i2) (hρ : ∀ b, w.heap.size ≤ b → ρ b = none) (hi : i < l.length)
    (e1 : p1 = some ⟨b1, 0, none⟩) (e2 : p2 = some ⟨b2, 0, none⟩) (r1 : ρ b1 = some (i1, q1)) (r2 : ρ b2 = some (i2, q2)) (d1 : wr.cell? ⟨b1, i * 3 + 2, none⟩ = some (.slice p1' l[i].l.length c1')) (d2 : wr.cell? ⟨b2, i * 3 + 2, none⟩ = some (.slice p2' l[i].l.length c2'))
    (t1 : TrV X ρ i1 (i :: q1) (mkV (n + i + 1) l[i]) p1' c1') (t2 : TrV X ρ i2 (i :: q2) (mkV (n + i + 1) l[i]) p2' c2') (fr : FrM wr X fun b => Und ρ i1 (i :: q1) b ∨ Und ρ i2 (i :: q2) b) (hn : I64 (-n - i)) :
    MkS w ((((X.setCell ⟨b1, i * 3 + 1, none⟩ (.int .i64 (-n - i))).setCell ⟨b2, i * 3 + 1, none⟩ (.int .i64 (-n - i))).setCell ⟨b1, i * 3, none⟩ (.int .i64 50)).setCell ⟨b2, i * 3, none⟩ (.int .i64 50)) ρ i1 i2 q1 q2 p1 p2 c1 c2 k1 n1 k2 n2 n l (i + 1) := by
  have hb12 : b1 ≠ b2 := fun e => by
    rw [e, r2] at r1
    simp at r1
    exact hne r1.1.symm
  have hw : w.heap.size ≤ wr.heap.size := h.fr.size
  have hU1 : ∀ y, Und ρ i1 q1 y → ¬ Und ρ i2 q2 y := fun y a b => hne (a.id b)
  have hlt : ∀ b, ρ b ≠ none → b < w.heap.size := fun b hb => by
    rcases Nat.lt_or_ge b w.heap.size with h1 | h1
    · exact h1
    · exact absurd (hρ b h1) hb
  have hb1 := hlt b1 (by rw [r1]; simp)
  have hb2 := hlt b2 (by rw [r2]; simp)
  obtain ⟨W2, hW2⟩ : ∃ W2, (((X.setCell ⟨b1, i * 3 + 1, none⟩ (.int .i64 (-n - i))).setCell ⟨b2, i * 3 + 1, none⟩ (.int .i64 (-n - i))).setCell ⟨b1, i * 3, none⟩ (.int .i64 50)).setCell ⟨b2, i * 3, none⟩ (.int .i64 50) = W2 := ⟨_, rfl⟩
  have hs2 : W2.heap.size = X.heap.size := by rw [← hW2]; simp [World.size_setCell]
  have ho : ∀ y, y ≠ b1 → y ≠ b2 → W2.heap[y]? = X.heap[y]? := fun y h1 h2 => by
    rw [← hW2, Below.heap_setCell _ ⟨b2, i * 3, none⟩ _ _ h2, Below.heap_setCell _ ⟨b1, i * 3, none⟩ _ _ h1, Below.heap_setCell _ ⟨b2, i * 3 + 1, none⟩ _ _ h2, Below.heap_setCell _ ⟨b1, i * 3 + 1, none⟩ _ _ h1]
  have hat1 : W2.heap[b1]? = ((X.setCell ⟨b1, i * 3 + 1, none⟩ (.int .i64 (-n - i))).setCell ⟨b1, i * 3, none⟩ (.int .i64 50)).heap[b1]? := by
    rw [← hW2, Below.heap_setCell _ ⟨b2, i * 3, none⟩ _ _ hb12]
    simp [World.setCell, Array.getElem?_modify, hb12.symm]
  have hat2 : W2.heap[b2]? = ((X.setCell ⟨b2, i * 3 + 1, none⟩ (.int .i64 (-n - i))).setCell ⟨b2, i * 3, none⟩ (.int .i64 50)).heap[b2]? := by
    rw [← hW2]
    simp [World.setCell, Array.getElem?_modify, hb12]
  rw [hW2]
  have hX1 : ∀ y, y < wr.heap.size → Und ρ i1 q1 y → ¬ Und ρ i1 (i :: q1) y → X.heap[y]? = wr.heap[y]? := fun y hy hu hn' => fr.block y hy fun e => e.elim hn' fun e2 => hU1 y hu e2.kid
  have hX2 : ∀ y, y < wr.heap.size → Und ρ i2 q2 y → ¬ Und ρ i2 (i :: q2) y → X.heap[y]? = wr.heap[y]? := fun y hy hu hn' => fr.block y hy fun e => e.elim (fun e1 => hU1 y e1.kid hu) hn'
  obtain ⟨X1, hX1d⟩ : ∃ X1, (X.setCell ⟨b1, i * 3 + 1, none⟩ (.int .i64 (-n - i))).setCell ⟨b1, i * 3, none⟩ (.int .i64 50) = X1 := ⟨_, rfl⟩
  have A1 := h.a.step (W' := X) hi e1 d1 t1 hX1 hn X1 (by rw [← hX1d]; simp [World.size_setCell]) (fun y hy => by rw [← hX1d, Below.heap_setCell _ ⟨b1, i * 3, none⟩ _ _ hy, Below.heap_setCell _ ⟨b1, i * 3 + 1, none⟩ _ _ hy]) (by rw [hX1d])
  obtain ⟨X2, hX2d⟩ : ∃ X2, (X.setCell ⟨b2, i * 3 + 1, none⟩ (.int .i64 (-n - i))).setCell ⟨b2, i * 3, none⟩ (.int .i64 50) = X2 := ⟨_, rfl⟩
  have A2 := h.b.step (W' := X) hi e2 d2 t2 hX2 hn X2 (by rw [← hX2d]; simp [World.size_setCell]) (fun y hy => by rw [← hX2d, Below.heap_setCell _ ⟨b2, i * 3, none⟩ _ _ hy, Below.heap_setCell _ ⟨b2, i * 3 + 1, none⟩ _ _ hy]) (by rw [hX2d])
  have hnone : ∀ y, w.heap.size ≤ y → y ≠ b1 ∧ y ≠ b2 := fun y hy => ⟨by omega, by omega⟩
  have hbox : ∀ y, w.heap.size ≤ y → y < wr.heap.size → W2.heap[y]? = wr.heap[y]? := fun y hy hy2 => by
    rw [ho y (hnone y hy).1 (hnone y hy).2]
    exact fr.block y hy2 fun e => by
      have hz := hρ y hy
      rcases e with ⟨s, hs⟩ | ⟨s, hs⟩ <;> rw [hz] at hs <;> cases hs
  have hva := (Array.getElem?_eq_some_iff.1 h.va).1
  have hvb := (Array.getElem?_eq_some_iff.1 h.vb).1
  refine ⟨(hbox _ (Nat.le_refl _) hva).trans h.va, (hbox _ (by omega) hvb).trans h.vb, A1.keep fun y hy hu => ?_, A2.keep fun y hy hu => ?_, ?_⟩
  · by_cases e : y = b1
    · subst e
      rw [hat1, hX1d]
    · rw [ho y e fun e' => hU1 y hu (e' ▸ Und.self r2), ← hX1d, Below.heap_setCell _ ⟨b1, i * 3, none⟩ _ _ e, Below.heap_setCell _ ⟨b1, i * 3 + 1, none⟩ _ _ e]
  · by_cases e : y = b2
    · subst e
      rw [hat2, hX2d]
    · rw [ho y (fun e' => hU1 y (e' ▸ Und.self r1) hu) e, ← hX2d, Below.heap_setCell _ ⟨b2, i * 3, none⟩ _ _ e, Below.heap_setCell _ ⟨b2, i * 3 + 1, none⟩ _ _ e]
  · rw [← hW2]
    have f0 : FrM w X fun b => Und ρ i1 q1 b ∨ Und ρ i2 q2 b := h.fr.trans (fr.wide fun b hb => hb.elim (fun e => .inl e.kid) fun e => .inr e.kid)
    exact (((f0.set (.inl (.inl (Und.self r1))) _ _).set (.inl (.inr (Und.self r2))) _ _).set (.inl (.inl (Und.self r1))) _ _).set (.inl (.inr (Und.self r2))) _ _
end Go.Proofs.Ytikijkpklneihaa
namespace Go.Proofs.Ytikijkpklneihaa
open Go.RowKit
set_option linter.unusedVariables false
set_option linter.unusedSimpArgs false

set_option maxRecDepth 100000 in
set_option maxHeartbeats 8000000 in
theorem mark_rec (x : V) (ih : ∀ y : V, y.sz < x.sz → MarkT y) : MarkT x := by
  intro w ρ i1 i2 q1 q2 p1 p2 c1 c2 k1 n1 k2 n2 n h1 h2 hne hρ hn0 hnm
  obtain ⟨H, hH⟩ : ∃ H, w.heap.size = H := ⟨_, rfl⟩
  obtain ⟨w1, hw1⟩ : ∃ w1, (w.alloc (.cells #[.int .i64 k1, .int .i64 n1, .slice p1 x.l.length c1] 24)).alloc (.cells #[.int .i64 k2, .int .i64 n2, .slice p2 x.l.length c2] 24) = w1 := ⟨_, rfl⟩
  have b1 : Below w.heap.size w w1 := by rw [← hw1]; exact two_new _ _ _
  have s1 : w1.heap.size = H + 2 := by rw [← hw1, ← hH]; simp
  have qa : w1.heap[w.heap.size]? = some (.cells #[.int .i64 k1, .int .i64 n1, .slice p1 x.l.length c1] 24 (0, 0)) := by rw [← hw1]; exact (Below.heap_alloc _ _ _ (by simp)).trans (World.alloc_heap_new _ _)
  have qb : w1.heap[w.heap.size + 1]? = some (.cells #[.int .i64 k2, .int .i64 n2, .slice p2 x.l.length c2] 24 (0, 0)) := by rw [← hw1]; exact alloc_at _ _ _
  have HS0 : Bx (MkS w w1 ρ i1 i2 q1 q2 p1 p2 c1 c2 k1 n1 k2 n2 n x.l 0) := ⟨⟨qa, qb, (MkI.start h1 n).keep fun y hy _ => b1.block y hy, (MkI.start h2 n).keep fun y hy _ => b1.block y hy, FrM.of b1⟩⟩
  have hlen := szs_len x.l
  have hsz := V.sz_eq x
  obtain ⟨u0, u1, u2, _, _, _, ul⟩ := c3 qa
  obtain ⟨v0, v1, v2, _, _, _, vl⟩ := c3 qb
  have hcap1 := (TrV.iff.1 h1).1.1
  have hcap2 := (TrV.iff.1 h2).1.1
  have HR : Bx (∀ b, w.heap.size ≤ b → ρ b = none) := ⟨hρ⟩
  have HIH : Bx _ := ⟨ih⟩
  have HSZ : Bx (∀ j (h : j < x.l.length), x.l[j].sz < x.sz ∧ (j : Int) + 1 + x.l[j].sz ≤ x.sz) := ⟨fun j hj => by
    have h3 : szs (x.l.take j) + (x.l[j].sz + szs (x.l.drop (j + 1))) = szs x.l := by
      conv => rhs; rw [← List.take_append_drop j x.l, szs_append, List.drop_eq_getElem_cons hj]
      simp [szs]
    have h4 := szs_len (x.l.take j)
    rw [List.length_take_of_le (by omega)] at h4
    omega⟩
  have hl31 : x.l.length ≤ 1099511627776 := by omega
  clear h1 h2 b1 qa qb hρ ih
  rw [hH] at u0 u1 u2 v0 v1 v2 ul vl
  go_enter Try.func26, Try.ntmps26
  go_wp2
  go_loopg [6] (x.l.length + 1) (fun f v6 wr => ∃ i : Nat, f = x.l.length + 1 - i ∧ i ≤ x.l.length ∧ v6 = .int .i64 i ∧ Bx (MkS w wr ρ i1 i2 q1 q2 p1 p2 c1 c2 k1 n1 k2 n2 n x.l i))
  case atStart => exact ⟨0, by simp, Nat.zero_le _, rfl, HS0⟩
  case round =>
    clear HS0 u0 u1 u2 v0 v1 v2 ul vl hw1
    obtain ⟨i, hf, hi, rfl, HS⟩ := hrel
    have hva := HS.out.va
    have hvb := HS.out.vb
    rw [hH] at hva hvb
    obtain ⟨u0, u1, u2, _, _, _, ul⟩ := c3 hva
    obtain ⟨v0, v1, v2, _, _, _, vl⟩ := c3 hvb
    clear hva hvb
    by_cases hlt : i < x.l.length
    · have hlx : i < x.l.length := by omega
      obtain ⟨b1, p1', c1', rfl, r1, l1, f1, a0, a1, a2, t1⟩ := HS.out.a.place hlx
      obtain ⟨b2, p2', c2', rfl, r2, l2, f2, d0, d1, d2, t2⟩ := HS.out.b.place hlx
      have hsz1 := HSZ.out i hlx
      have hkI : (i : Int) < (x.l.length : Int) := by omega
      have hw1 : IntKind.i64.wrap (n + (i : Int)) = n + i := by rw [IntKind.wrap_i64]; omega
      have hw2 : IntKind.i64.wrap (n + (i : Int) + 1) = n + i + 1 := by rw [IntKind.wrap_i64]; omega
      have hw3 : IntKind.i64.wrap (-n) = -n := by rw [IntKind.wrap_i64]; omega
      have hw4 : IntKind.i64.wrap (-n - (i : Int)) = -n - i := by rw [IntKind.wrap_i64]; omega
      have hρ2 : ∀ b, ρ b ≠ none → b < H := fun b hb => by
        rcases Nat.lt_or_ge b H with h1 | h1
        · exact h1
        · exact absurd (HR.out b (by omega)) hb
      have g1 := hρ2 b1 (by rw [r1]; simp)
      have g2 := hρ2 b2 (by rw [r2]; simp)
      have g12 : b1 ≠ b2 := fun e => by
        rw [e, r2] at r1
        simp at r1
        exact hne r1.1.symm
      have HC : Bx (∀ X, Below wr.heap.size wr X → Calls Try.prog 26 #[agV x.l[i].k x.l[i].n p1' x.l[i].l.length c1', agV x.l[i].k x.l[i].n p2' x.l[i].l.length c2', .int .i64 (n + i + 1)] X fun e w' => e = .returned (.tuple #[]) ∧ Bx (TrV w' ρ i1 (i :: q1) (mkV (n + i + 1) x.l[i]) p1' c1' ∧ TrV w' ρ i2 (i :: q2) (mkV (n + i + 1) x.l[i]) p2' c2' ∧ FrM X w' fun b => Und ρ i1 (i :: q1) b ∨ Und ρ i2 (i :: q2) b)) := ⟨fun X hX => HIH.out x.l[i] hsz1.1 X ρ i1 i2 (i :: q1) (i :: q2) p1' p2' c1' c2' _ _ _ _ _ (TrV.keep _ t1 fun y hy _ => hX.block y hy) (TrV.keep _ t2 fun y hy _ => hX.block y hy) hne (fun b hb => HR.out b (by have := HS.out.fr.size; have := hX.size; omega)) (by omega) (by omega)⟩
      have HN : Bx (∀ X, FrM wr X (fun b => Und ρ i1 (i :: q1) b ∨ Und ρ i2 (i :: q2) b) → TrV X ρ i1 (i :: q1) (mkV (n + i + 1) x.l[i]) p1' c1' → TrV X ρ i2 (i :: q2) (mkV (n + i + 1) x.l[i]) p2' c2' → MkS w ((((X.setCell ⟨b1, i * 3 + 1, none⟩ (.int .i64 (-n - i))).setCell ⟨b2, i * 3 + 1, none⟩ (.int .i64 (-n - i))).setCell ⟨b1, i * 3, none⟩ (.int .i64 50)).setCell ⟨b2, i * 3, none⟩ (.int .i64 50)) ρ i1 i2 q1 q2 (some ⟨b1, 0, none⟩) (some ⟨b2, 0, none⟩) c1 c2 k1 n1 k2 n2 n x.l (i + 1)) := ⟨fun X hX z1 z2 => HS.out.round hne HR.out hlx rfl rfl r1 r2 a2 d2 z1 z2 hX (by unfold I64; omega)⟩
      have HX : Bx (∀ X, FrM wr X (fun b => Und ρ i1 (i :: q1) b ∨ Und ρ i2 (i :: q2) b) → (X.cell? ⟨H, 2, none⟩ = some (.slice (some ⟨b1, 0, none⟩) x.l.length c1) ∧ X.cell? ⟨H + 1, 2, none⟩ = some (.slice (some ⟨b2, 0, none⟩) x.l.length c2) ∧ X.cell? ⟨b1, i * 3, none⟩ = some (.int .i64 x.l[i].k) ∧ X.cell? ⟨b1, i * 3 + 1, none⟩ = some (.int .i64 x.l[i].n) ∧ X.cell? ⟨b1, i * 3 + 2, none⟩ = some (.slice p1' x.l[i].l.length c1') ∧ X.cell? ⟨b2, i * 3, none⟩ = some (.int .i64 x.l[i].k) ∧ X.cell? ⟨b2, i * 3 + 1, none⟩ = some (.int .i64 x.l[i].n) ∧ X.cell? ⟨b2, i * 3 + 2, none⟩ = some (.slice p2' x.l[i].l.length c2')) ∧ (X.frozen? ⟨b1, i * 3, none⟩ = false ∧ X.frozen? ⟨b1, i * 3 + 1, none⟩ = false ∧ X.frozen? ⟨b2, i * 3, none⟩ = false ∧ X.frozen? ⟨b2, i * 3 + 1, none⟩ = false) ∧ b1 < X.heap.size ∧ b2 < X.heap.size ∧ H < X.heap.size ∧ H + 1 < X.heap.size) := ⟨fun X hX => by
        have n1 : ∀ y, H ≤ y → ¬ (Und ρ i1 (i :: q1) y ∨ Und ρ i2 (i :: q2) y) := fun y hy e => by
          have hz := HR.out y (by omega)
          rcases e with ⟨s, hs⟩ | ⟨s, hs⟩ <;> rw [hz] at hs <;> cases hs
        have n2 : ¬ (Und ρ i1 (i :: q1) b1 ∨ Und ρ i2 (i :: q2) b1) := fun e => e.elim (fun e1 => e1.not_self r1) fun e2 => hne ((Und.self r1).id e2)
        have n3 : ¬ (Und ρ i1 (i :: q1) b2 ∨ Und ρ i2 (i :: q2) b2) := fun e => e.elim (fun e1 => hne (e1.id (Und.self r2))) fun e2 => e2.not_self r2
        have k1 := hX.block H ul (n1 H (Nat.le_refl _))
        have k2 := hX.block (H + 1) vl (n1 (H + 1) (by omega))
        have k3 := hX.block b1 l1 n2
        have k4 := hX.block b2 l2 n3
        have hs := hX.size
        exact ⟨⟨(World.cell?_of_block (a := ⟨H, 2, none⟩) k1).trans u2, (World.cell?_of_block (a := ⟨H + 1, 2, none⟩) k2).trans v2, (World.cell?_of_block (a := ⟨b1, _, none⟩) k3).trans a0, (World.cell?_of_block (a := ⟨b1, _, none⟩) k3).trans a1, (World.cell?_of_block (a := ⟨b1, _, none⟩) k3).trans a2, (World.cell?_of_block (a := ⟨b2, _, none⟩) k4).trans d0, (World.cell?_of_block (a := ⟨b2, _, none⟩) k4).trans d1, (World.cell?_of_block (a := ⟨b2, _, none⟩) k4).trans d2⟩, ⟨(World.frozen?_of_block (a := ⟨b1, _, none⟩) k3).trans (f1 _), (World.frozen?_of_block (a := ⟨b1, _, none⟩) k3).trans (f1 _), (World.frozen?_of_block (a := ⟨b2, _, none⟩) k4).trans (f2 _), (World.frozen?_of_block (a := ⟨b2, _, none⟩) k4).trans (f2 _)⟩, by omega, by omega, by omega, by omega⟩⟩
      clear t1 t2 HS hsz1 r1 r2 HIH hρ2
      have e1 : b1 ≠ H := by omega
      have e2 : b1 ≠ H + 1 := by omega
      have e3 : b2 ≠ H := by omega
      have e4 : b2 ≠ H + 1 := by omega
      generalize x.l[i].k = xk at *
      generalize x.l[i].n = xn at *
      go_wp2
      go_region_held3 (fun Y => Y.cell? ⟨H, 2, none⟩ = some (.slice (some ⟨b1, 0, none⟩) x.l.length c1) ∧ Y.cell? ⟨H + 1, 2, none⟩ = some (.slice (some ⟨b2, 0, none⟩) x.l.length c2) ∧ Y.cell? ⟨b1, i * 3, none⟩ = some (.int .i64 xk) ∧ Y.cell? ⟨b1, i * 3 + 1, none⟩ = some (.int .i64 xn) ∧ Y.cell? ⟨b1, i * 3 + 2, none⟩ = some (.slice p1' x.l[i].l.length c1') ∧ Y.cell? ⟨b2, i * 3, none⟩ = some (.int .i64 xk) ∧ Y.cell? ⟨b2, i * 3 + 1, none⟩ = some (.int .i64 xn) ∧ Y.cell? ⟨b2, i * 3 + 2, none⟩ = some (.slice p2' x.l[i].l.length c2'))
        (first | exact ⟨u2, v2, a0, a1, a2, d0, d1, d2⟩ | exact SA.out | go_keep)
        (first
          | (go_at_call 26; refine (HC.out _ (Below.refl _ _).drew).mono ?_; rintro e X ⟨rfl, HM⟩; have HFX : Bx (FrM wr X fun b => Und ρ i1 (i :: q1) b ∨ Und ρ i2 (i :: q2) b) := ⟨⟨HM.out.2.2.os, HM.out.2.2.tape, HM.out.2.2.output, HM.out.2.2.size, HM.out.2.2.block⟩⟩; have SA : Bx _ := ⟨(HX.out X HFX.out).1⟩))
      have HN2 : Bx _ := ⟨HN.out X HFX.out HM.out.1 HM.out.2.1⟩
      obtain ⟨_, ⟨m1, m2, m3, m4⟩, m5, m6, m7, m8⟩ := HX.out X HFX.out
      obtain ⟨j0, j1, j2, j3, j4, j5, j6, j7⟩ := SA.out
      clear SA HX HN HM HC u0 u1 u2 v0 v1 v2 a0 a1 a2 d0 d1 d2 f1 f2 l1 l2 HFX ul vl
      go_wp2
      go_roundg (x.l.length + 1 - (i + 1))
      case measure => omega
      case rel => exact ⟨i + 1, rfl, by omega, by go_num, HN2⟩
    · obtain rfl : i = x.l.length := by omega
      have HD : Bx (TrV wr ρ i1 q1 (mkV n x) p1 c1 ∧ TrV wr ρ i2 q2 (mkV n x) p2 c2 ∧ FrM w wr fun b => Und ρ i1 q1 b ∨ Und ρ i2 q2 b) := ⟨by
        have h := HS.out
        exact ⟨h.a.done, h.b.done, h.fr⟩⟩
      clear HS
      go_wp2
      refine bodyPost_end (v := .tuple #[]) (by simp [results, Try.results26, go_sem]) rfl ?_
      exact ⟨rfl, HD⟩
/-- **MARK**: both trees, and nothing else -/
theorem mark_any (x : V) : MarkT x := by
  have key : ∀ N : Nat, ∀ y : V, y.sz ≤ N → MarkT y := by
    intro N
    induction N with
    | zero => intro y h; have := y.sz_pos; omega
    | succ N ih => intro y h; exact mark_rec y fun z hz => ih z (by omega)
  exact key x.sz x (Nat.le_refl _)
end Go.Proofs.Ytikijkpklneihaa
namespace Go.Proofs.Ytikijkpklneihaa
open Go.RowKit
set_option linter.unusedVariables false
set_option linter.unusedSimpArgs false

/-- another ghost that knows as much of the tree -/
theorem TrV.re {W : World} {ρ ρ' : Gh} {id : Nat} : ∀ x : V, ∀ {q : List Nat} {p : Option Addr} {c : Nat}, TrV W ρ id q x p c → (∀ b s, ρ b = some (id, s ++ q) → ρ' b = some (id, s ++ q)) → TrV W ρ' id q x p c := by
  intro x
  induction x using V.ind with
  | h k n l ih =>
    intro q p c h hr
    obtain ⟨h1, h2, h3⟩ := TrV.iff.1 h
    refine TrV.iff.2 ⟨h1, h2, ?_⟩
    rcases h3 with h3 | ⟨b, e1, e2, e3, e4⟩
    · exact .inl h3
    · refine .inr ⟨b, e1, by have := hr b [] (by simpa using e2); simpa using this, e3, TrAll.of_get fun j hj => ?_⟩
      have g := e4.get j hj
      obtain ⟨p', c', g1, g2⟩ := g.c2
      exact ⟨g.c0, g.c1, g.k64, g.n64, p', c', g1, ih _ (List.getElem_mem hj) g2 fun b s hs => by
        have := hr b (s ++ [0 + j]) (by simpa using hs)
        simpa using this⟩
theorem TrIn.re {W : World} {ρ ρ' : Gh} {id b i : Nat} {q : List Nat} {v : V} (h : TrIn W ρ id q b i v) (hr : ∀ y s, ρ y = some (id, s ++ i :: q) → ρ' y = some (id, s ++ i :: q)) : TrIn W ρ' id q b i v := by
  obtain ⟨p, c, h1, h2⟩ := h.c2
  exact ⟨h.c0, h.c1, h.k64, h.n64, p, c, h1, TrV.re v h2 hr⟩
/-- a tree in blocks that are its own, from lo to below hi; e: 0, if it was handed out -/
def Prv (W : World) (lo hi e : Nat) (x : V) (p : Option Addr) (c : Nat) : Prop :=
  ∀ (id : Nat) (q : List Nat), id % 2 = e → ∃ ρ : Gh, TrV W ρ id q x p c ∧ (∀ b, ρ b ≠ none → lo ≤ b ∧ b < hi) ∧ ∀ b r, ρ b = some r → ∃ s, r = (id, s ++ q)
theorem Prv.keep {W W' : World} {lo hi e : Nat} {x : V} {p : Option Addr} {c : Nat} (h : Prv W lo hi e x p c) (hb : ∀ b, lo ≤ b → b < hi → b < W.heap.size → W'.heap[b]? = W.heap[b]?) : Prv W' lo hi e x p c := fun id q hid => by
  obtain ⟨ρ, h1, h2, h3⟩ := h id q hid
  exact ⟨ρ, TrV.keep x h1 fun b hlt hu => by
    obtain ⟨s, hs⟩ := hu
    have := h2 b (by rw [hs]; simp)
    exact hb b this.1 this.2 hlt, h2, h3⟩
theorem Prv.up {W : World} {lo hi lo' hi' e : Nat} {x : V} {p : Option Addr} {c : Nat} (h : Prv W lo hi e x p c) (hl : lo' ≤ lo) (hh : hi ≤ hi') : Prv W lo' hi' e x p c := fun id q hid => by
  obtain ⟨ρ, h1, h2, h3⟩ := h id q hid
  exact ⟨ρ, h1, fun b hb => by have := h2 b hb; omega, h3⟩
theorem Prv.sl {W : World} {lo hi e : Nat} {x : V} {p : Option Addr} {c : Nat} (h : Prv W lo hi e x p c) (he : e < 2) : SlV W W.heap.size p c x.l := by
  obtain ⟨ρ, h1, _⟩ := h e [] (Nat.mod_eq_of_lt he)
  exact TrV.sl x h1
theorem Prv.list {W : World} {lo hi e : Nat} {x y : V} {p : Option Addr} {c : Nat} (h : Prv W lo hi e x p c) (hl : y.l = x.l) : Prv W lo hi e y p c := fun id q hid => by
  obtain ⟨ρ, h1, h2, h3⟩ := h id q hid
  obtain ⟨a1, a2, a3⟩ := TrV.iff.1 h1
  rw [← hl] at a1 a3
  exact ⟨ρ, TrV.iff.2 ⟨a1, a2, a3⟩, h2, h3⟩
/-- the kids of a row that are made so far -/
def KidsP (W : World) (lo hi e b : Nat) (l : List V) (i : Nat) : Prop :=
  ∀ (id : Nat) (q : List Nat), id % 2 = e → ∃ ρ : Gh, (∀ j (h : j < l.length), j < i → TrIn W ρ id q b j l[j]) ∧ (∀ y, ρ y ≠ none → lo ≤ y ∧ y < hi) ∧ ∀ y r, ρ y = some r → ∃ s j, r = (id, s ++ j :: q)
theorem KidsP.start {W : World} {lo hi e b : Nat} {l : List V} : KidsP W lo hi e b l 0 := fun id q hid =>
  ⟨fun _ => none, fun j h hj => by omega, fun y hy => absurd rfl hy, fun y r h => by cases h⟩
theorem KidsP.keep {W W' : World} {lo hi e b : Nat} {l : List V} {i : Nat} (h : KidsP W lo hi e b l i) (hc : ∀ o, o < i * 3 → W'.cell? ⟨b, o, none⟩ = W.cell? ⟨b, o, none⟩) (hb : ∀ y, lo ≤ y → y < hi → y < W.heap.size → W'.heap[y]? = W.heap[y]?) : KidsP W' lo hi e b l i := fun id q hid => by
  obtain ⟨ρ, h1, h2, h3⟩ := h id q hid
  refine ⟨ρ, fun j hj hji => ?_, h2, h3⟩
  obtain ⟨p, c, g1, g2⟩ := (h1 j hj hji).c2
  have g := h1 j hj hji
  exact ⟨by rw [hc _ (by omega)]; exact g.c0, by rw [hc _ (by omega)]; exact g.c1, g.k64, g.n64, p, c, by rw [hc _ (by omega)]; exact g1, TrV.keep _ g2 fun y hy hu => by
    obtain ⟨s, hs⟩ := hu
    have := h2 y (by rw [hs]; simp)
    exact hb y this.1 this.2 hy⟩
/-- one more kid -/
theorem KidsP.step {W : World} {lo mid hi e b : Nat} {l : List V} {i : Nat} (h : KidsP W lo mid e b l i) (hm : lo ≤ mid) (hh : mid ≤ hi) (hi2 : i < l.length) {p : Option Addr} {c : Nat} (hk : Prv W mid hi e l[i] p c) (c0 : W.cell? ⟨b, i * 3, none⟩ = some (.int .i64 l[i].k)) (c1 : W.cell? ⟨b, i * 3 + 1, none⟩ = some (.int .i64 l[i].n)) (k64 : I64 l[i].k) (n64 : I64 l[i].n) (c2 : W.cell? ⟨b, i * 3 + 2, none⟩ = some (.slice p l[i].l.length c)) : KidsP W lo hi e b l (i + 1) := fun id q hid => by
  obtain ⟨ρ, h1, h2, h3⟩ := h id q hid
  obtain ⟨ρ', k1, k2, k3⟩ := hk id (i :: q) hid
  have ex : ∀ y, ρ y ≠ none → ρ' y = none := fun y hy => by
    cases hr : ρ' y with
    | none => rfl
    | some r =>
      have := h2 y hy
      have := k2 y (by rw [hr]; simp)
      omega
  refine ⟨fun y => if y < mid then ρ y else ρ' y, fun j hj hji => ?_, fun y hy => ?_, fun y r hr => ?_⟩
  · by_cases hjj : j = i
    · subst hjj
      refine ⟨c0, c1, k64, n64, p, c, c2, TrV.re _ k1 fun y s hs => ?_⟩
      have := k2 y (by rw [hs]; simp)
      simp only [if_neg (show ¬ y < mid by omega)]
      exact hs
    · exact (h1 j hj (by omega)).re fun y s hs => by
        have := h2 y (by rw [hs]; simp)
        simp only [if_pos this.2]
        exact hs
  · dsimp only at hy
    split at hy
    · have := h2 y hy; omega
    · have := k2 y hy; omega
  · dsimp only at hr
    split at hr
    · exact h3 y r hr
    · obtain ⟨s, hs⟩ := k3 y r hr
      exact ⟨s, i, hs⟩
/-- all are there -/
theorem KidsP.done {W : World} {lo lo' hi e b c : Nat} {x : V} (h : KidsP W lo hi e b x.l x.l.length) (hb : lo' ≤ b) (hbl : b < lo) (hlh : lo ≤ hi) (hc : x.l.length ≤ c) (ht : e = 0 → c = x.l.length) (hc31 : c ≤ 2147483648) (hr : MRow W b (c * 3)) : Prv W lo' hi e x (some ⟨b, 0, none⟩) c := fun id q hid => by
  obtain ⟨ρ, h1, h2, h3⟩ := h id q hid
  have hne : ∀ y s, ρ y = some s → y ≠ b := fun y s hs e => by
    have := h2 y (by rw [hs]; simp)
    omega
  refine ⟨fun y => if y = b then some (id, q) else ρ y, TrV.iff.2 ⟨⟨hc, fun h0 => ht (by omega)⟩, hc31, .inr ⟨b, rfl, by simp, hr, TrAll.of_get fun j hj => ?_⟩⟩, fun y hy => ?_, fun y r hy => ?_⟩
  · rw [Nat.zero_add]
    exact (h1 j hj hj).re fun y s hs => by
      simp only [if_neg (hne y _ hs)]
      exact hs
  · dsimp only at hy
    split at hy
    · omega
    · have := h2 y hy; omega
  · dsimp only at hy
    split at hy
    · simp only [Option.some.injEq] at hy
      exact ⟨[], by rw [← hy]; rfl⟩
    · obtain ⟨s, j, hs⟩ := h3 y r hy
      exact ⟨s ++ [j], by rw [hs]; simp⟩
/-- no list at all -/
theorem Prv.nil {W : World} {lo hi e : Nat} {x : V} (h : x.l = []) : Prv W lo hi e x none 0 := fun id q hid =>
  ⟨fun _ => none, TrV.iff.2 ⟨⟨by rw [h]; simp, fun _ => by rw [h]; rfl⟩, by omega, .inl ⟨h, rfl, rfl⟩⟩, fun y hy => absurd rfl hy, fun y r h => by cases h⟩
end Go.Proofs.Ytikijkpklneihaa
namespace Go.Proofs.Ytikijkpklneihaa
open Go.RowKit
set_option linter.unusedVariables false
set_option linter.unusedSimpArgs false

theorem KidsP.up {W : World} {lo hi hi' e b : Nat} {l : List V} {i : Nat} (h : KidsP W lo hi e b l i) (hh : hi ≤ hi') : KidsP W lo hi' e b l i := fun id q hid => by
  obtain ⟨ρ, h1, h2, h3⟩ := h id q hid
  exact ⟨ρ, h1, fun y hy => by have := h2 y hy; omega, h3⟩
theorem MRow.other {W : World} {m N : Nat} (h : MRow W m N) {b : Nat} (j : Nat) (u : Value) (hb : m ≠ b) : MRow (W.setCell ⟨b, j, none⟩ u) m N := by
  obtain ⟨C, h1, h2⟩ := h.ex
  exact ⟨C, (Below.heap_setCell W ⟨b, j, none⟩ u m hb).trans h1, h2⟩
/-- own in the midst -/
structure OwJ (w wr : World) (B : Nat) (x : V) (p : Option Addr) (c i : Nat) : Prop where
  one : OneB w wr B x p c
  z : wr.heap[w.heap.size + 1]? = some z3
  row : MRow wr (w.heap.size + 2) ((x.l.length + 1) * 3)
  els : ∀ j (h : j < x.l.length), j < i → SpIn wr (w.heap.size + 3) wr.heap.size (w.heap.size + 2) (j * 3) x.l[j]
  kp : KidsP wr (w.heap.size + 3) wr.heap.size 1 (w.heap.size + 2) x.l i
theorem OwJ.next {w wr W : World} {B : Nat} {x : V} {p : Option Addr} {c i : Nat} (h : OwJ w wr B x p c i) (hB : B ≤ w.heap.size) (hb : Below wr.heap.size wr W) : OwJ w W B x p c i :=
  ⟨h.one.next hB hb, keep_h hb h.z, h.row.next hb, fun j hj hi => (h.els j hj hi).next hb h.row.lt, KidsP.up (h.kp.keep (fun o _ => hb.cell (p := ⟨w.heap.size + 2, o, none⟩) h.row.lt) fun y _ _ hy => hb.block y hy) hb.size⟩
def OwP2 (w : World) (x : V) (e : Ending) (w' : World) : Prop := ∃ p c, e = .returned (.agg #[.int .i64 x.k, .int .i64 x.n, .slice p x.l.length c]) ∧ SpV w' w.heap.size w'.heap.size x p c ∧ Prv w' w.heap.size w'.heap.size 1 x p c ∧ Below w.heap.size w w'
/-- one more is stored -/
theorem OwJ.step {w w4 : World} {B : Nat} {x : V} {p : Option Addr} {c i : Nat} (h : OwJ w w4 B x p c i) (hB : B ≤ w.heap.size) (hi : i < x.l.length) {q : Option Addr} {d : Nat} (hk : I64 x.l[i].k) (hn : I64 x.l[i].n) (hs : SpV w4 (w.heap.size + 3) w4.heap.size x.l[i] q d) {wr : World} (hwr : OwJ w wr B x p c i) (hb4 : Below wr.heap.size wr w4) (hpv : Prv w4 wr.heap.size w4.heap.size 1 x.l[i] q d) :
    OwJ w (((w4.setCell ⟨w.heap.size + 2, i * 3, none⟩ (.int .i64 x.l[i].k)).setCell ⟨w.heap.size + 2, i * 3 + 1, none⟩ (.int .i64 x.l[i].n)).setCell ⟨w.heap.size + 2, i * 3 + 2, none⟩ (.slice q x.l[i].l.length d)) B x p c (i + 1) := by
  obtain ⟨W5, hW5⟩ : ∃ W5, ((w4.setCell ⟨w.heap.size + 2, i * 3, none⟩ (.int .i64 x.l[i].k)).setCell ⟨w.heap.size + 2, i * 3 + 1, none⟩ (.int .i64 x.l[i].n)).setCell ⟨w.heap.size + 2, i * 3 + 2, none⟩ (.slice q x.l[i].l.length d) = W5 := ⟨_, rfl⟩
  have hoth : ∀ b, b ≠ w.heap.size + 2 → W5.heap[b]? = w4.heap[b]? := fun b hb => by
    rw [← hW5, Below.heap_setCell _ _ _ _ hb, Below.heap_setCell _ _ _ _ hb, Below.heap_setCell _ _ _ _ hb]
  have hsz : W5.heap.size = w4.heap.size := by rw [← hW5]; simp [World.size_setCell]
  have hbel : Below w.heap.size w W5 := by
    rw [← hW5]
    exact ((h.one.bel.setCell (p := ⟨w.heap.size + 2, i * 3, none⟩) (by show _ ≤ w.heap.size + 2; omega) _).setCell (p := ⟨w.heap.size + 2, i * 3 + 1, none⟩) (by show _ ≤ w.heap.size + 2; omega) _).setCell (p := ⟨w.heap.size + 2, i * 3 + 2, none⟩) (by show _ ≤ w.heap.size + 2; omega) _
  have hmid : Mid (w.heap.size + 3) w4.heap.size w4 W5 := ⟨fun b o h1 h2 => by simp only [World.cell?]; rw [hoth b (by omega)]⟩
  obtain ⟨u0, e0⟩ := h.row.cell (i * 3) (by omega)
  obtain ⟨u1, e1⟩ := h.row.cell (i * 3 + 1) (by omega)
  obtain ⟨u2, e2⟩ := h.row.cell (i * 3 + 2) (by omega)
  obtain ⟨n0, n1, n2⟩ := cell_in3 (a := .int .i64 x.l[i].k) (b := .int .i64 x.l[i].n) (c := .slice q x.l[i].l.length d) e0 e1 e2
  rw [hW5] at n0 n1 n2
  rw [hW5]
  refine ⟨⟨(hoth _ (by omega)).trans h.one.a, h.one.va.lo (Lo.blocks fun b hb => hoth b (by omega)), hbel⟩, (hoth _ (by omega)).trans h.z, by rw [← hW5]; exact ((h.row.set _ _).set _ _).set _ _, fun j hj hji => ?_, ?_⟩
  rotate_left
  · have k4 : KidsP w4 (w.heap.size + 3) wr.heap.size 1 (w.heap.size + 2) x.l i := hwr.kp.keep (fun o _ => hb4.cell (p := ⟨w.heap.size + 2, o, none⟩) hwr.row.lt) fun y _ _ hy => hb4.block y hy
    have k5 : KidsP W5 (w.heap.size + 3) wr.heap.size 1 (w.heap.size + 2) x.l i := k4.keep (fun o ho => by rw [← hW5]; exact cell_set3 (.inr ⟨by omega, by omega, by omega⟩)) fun y hy _ _ => hoth y (by omega)
    have hwl := hwr.row.lt
    have p5 : Prv W5 wr.heap.size w4.heap.size 1 x.l[i] q d := hpv.keep fun y hy _ _ => hoth y (by omega)
    rw [hsz]
    exact k5.step (by omega) hb4.size hi p5 n0 n1 hk hn n2
  rw [hsz]
  rcases Nat.lt_or_ge j i with h3 | h3
  · have q := h.els j hj h3
    obtain ⟨p', c', q1, q2⟩ := q.c2
    have hc : ∀ o, o < i * 3 → W5.cell? ⟨w.heap.size + 2, o, none⟩ = w4.cell? ⟨w.heap.size + 2, o, none⟩ := fun o ho => by rw [← hW5]; exact cell_set3 (.inr ⟨by omega, by omega, by omega⟩)
    exact ⟨by rw [hc _ (by omega)]; exact q.c0, by rw [hc _ (by omega)]; exact q.c1, q.k64, q.n64, p', c', by rw [hc _ (by omega)]; exact q1, SpV.mid hmid _ q2⟩
  · have : j = i := by omega
    subst this
    exact ⟨n0, n1, hk, hn, q, d, n2, SpV.mid hmid _ hs⟩

/-- the mark is set, and it is done -/
theorem OwJ.fin {w wr : World} {B : Nat} {x : V} {p : Option Addr} {c : Nat} (h : OwJ w wr B x p c x.l.length) (hx : x.l.length + 1 ≤ 2147483648) (a b d e : Value) : ∀ W5 : World, (((((wr.setCell ⟨w.heap.size + 2, x.l.length * 3, none⟩ (.int .i64 (-99))).setCell ⟨w.heap.size, 2, none⟩ a).setCell ⟨w.heap.size + 1, 0, none⟩ b).setCell ⟨w.heap.size + 1, 1, none⟩ d).setCell ⟨w.heap.size + 1, 2, none⟩ e) = W5 →
    SpV W5 w.heap.size W5.heap.size x (some ⟨w.heap.size + 2, 0, none⟩) (x.l.length + 1) ∧ Prv W5 w.heap.size W5.heap.size 1 x (some ⟨w.heap.size + 2, 0, none⟩) (x.l.length + 1) ∧ Below w.heap.size w W5 := by
  obtain ⟨W1, hW1⟩ : ∃ W1, wr.setCell ⟨w.heap.size + 2, x.l.length * 3, none⟩ (.int .i64 (-99)) = W1 := ⟨_, rfl⟩
  intro W5 hW5
  rw [hW1] at hW5
  have hb1 : Below w.heap.size w W1 := by rw [← hW1]; exact h.one.bel.setCell (p := ⟨w.heap.size + 2, x.l.length * 3, none⟩) (by show _ ≤ w.heap.size + 2; omega) _
  have hb5 : Below w.heap.size w W5 := by
    rw [← hW5]; exact below3 (hb1.setCell (p := ⟨w.heap.size, 2, none⟩) (Nat.le_refl _) _) (by omega) _ _ _
  have hup : ∀ b o, w.heap.size + 2 ≤ b → W5.cell? ⟨b, o, none⟩ = W1.cell? ⟨b, o, none⟩ := fun b o hb => by
    simp only [World.cell?]
    rw [← hW5, set3_other _ _ _ (by omega), Below.heap_setCell _ _ _ _ (by show b ≠ w.heap.size; omega)]
  have hs1 : W1.heap.size = wr.heap.size := by rw [← hW1]; simp [World.size_setCell]
  have hs5 : W5.heap.size = wr.heap.size := by rw [← hW5, ← hs1]; simp [World.size_setCell]
  obtain ⟨u, hu⟩ := h.row.cell (x.l.length * 3) (by omega)
  have hml := h.row.lt
  have hoth : ∀ b o, b ≠ w.heap.size + 2 ∨ o ≠ x.l.length * 3 → W1.cell? ⟨b, o, none⟩ = wr.cell? ⟨b, o, none⟩ := fun b o hb => by
    rw [← hW1, World.cell?_setCell_other]
    intro e; cases e; rcases hb with hb | hb <;> exact hb rfl
  have hmid : Mid (w.heap.size + 3) wr.heap.size wr W5 := ⟨fun b o h1 h2 => by rw [hup b o (by omega), hoth b o (.inl (by omega))]⟩
  refine ⟨SpV.iff.2 ⟨w.heap.size + 2, rfl, rfl, by omega, by omega, ?_, SpAll.of_get (fun i hi => ?_)⟩, ?_, hb5⟩
  rotate_right
  · have hk : KidsP W5 (w.heap.size + 3) wr.heap.size 1 (w.heap.size + 2) x.l x.l.length := h.kp.keep (fun o ho => by rw [hup _ _ (by omega), hoth _ _ (.inr (by omega))]) fun y hy _ hy2 => by
      rw [← hW5, set3_other _ _ _ (by omega), Below.heap_setCell _ _ _ _ (by show y ≠ w.heap.size; omega), ← hW1, Below.heap_setCell _ _ _ _ (by show y ≠ w.heap.size + 2; omega)]
    rw [hs5]
    refine hk.done (by omega) (by omega) (by omega) (by omega) (by omega) hx ?_
    rw [← hW5, ← hW1]
    exact ((((h.row.set _ _).other _ _ (by omega)).other _ _ (by omega)).other _ _ (by omega)).other _ _ (by omega)
  · rw [hup _ _ (by omega), ← hW1]; exact World.cell?_setCell_same _ _ _ hu
  · have q := h.els i hi hi
    obtain ⟨p', c', q1, q2⟩ := q.c2
    have hc : ∀ o, o ≠ x.l.length * 3 → W5.cell? ⟨w.heap.size + 2, o, none⟩ = wr.cell? ⟨w.heap.size + 2, o, none⟩ := fun o ho => by rw [hup _ _ (by omega), hoth _ _ (.inr ho)]
    have e0 : 0 + i * 3 = i * 3 := by omega
    rw [e0]
    exact ⟨by rw [hc _ (by omega)]; exact q.c0, by rw [hc _ (by omega)]; exact q.c1, q.k64, q.n64, p', c', by rw [hc _ (by omega)]; exact q1, SpV.up (by omega) (by omega) _ (SpV.mid hmid _ q2)⟩

set_option maxRecDepth 100000 in
set_option maxHeartbeats 4000000 in
theorem lownP_rec (N : Nat) (ih : ∀ (x : V), x.sz < N → ∀ (w : World) (B : Nat) (v : Value), IsV w B v x → B ≤ w.heap.size → x.sz ≤ 1000000 → Calls Try.prog 6 #[v] w (OwP2 w x))
    (w : World) (B : Nat) (v : Value) (x : V) (hv : IsV w B v x) (hB : B ≤ w.heap.size) (hN : x.sz ≤ N) (h65 : x.sz ≤ 1000000) : Calls Try.prog 6 #[v] w (OwP2 w x) := by
  obtain ⟨⟨p, c, rfl, h1⟩, h2, h3⟩ := hv
  have hlen := szs_len x.l
  have hsz := V.sz_eq x
  have hlc : x.l.length ≤ c := h1.1
  have hcm : c ≤ maxLen := h1.2.1
  unfold maxLen at hcm
  obtain ⟨W0, hW0⟩ : ∃ W0, (w.alloc (Obj.cells #[.int .i64 x.k, .int .i64 x.n, .slice p x.l.length c] 24)).alloc z3 = W0 := ⟨_, rfl⟩
  have hz0 : W0.heap.size = w.heap.size + 2 := by rw [← hW0]; simp
  have ha0 : W0.heap[w.heap.size]? = some (Obj.cells #[.int .i64 x.k, .int .i64 x.n, .slice p x.l.length c] 24) := by rw [← hW0]; exact (Below.heap_alloc _ _ _ (by simp)).trans (World.alloc_heap_new _ _)
  have ha1 : W0.heap[w.heap.size + 1]? = some z3 := by rw [← hW0]; exact alloc_at _ _ _
  have hb0 : Below w.heap.size w W0 := by rw [← hW0]; exact two_new _ _ _
  have hmk := make_vals W0 (x.l.length + 1) (by omega)
  simp only [Int.natCast_add, Int.cast_ofNat_Int] at hmk
  rw [hz0] at hmk
  obtain ⟨c0, c1, c2, f0, f1, f2, cl⟩ := c3 ha0
  obtain ⟨W1, hW1⟩ : ∃ W1, W0.alloc (.cells (zerosV (x.l.length + 1)) 24) = W1 := ⟨_, rfl⟩
  rw [hW1] at hmk
  have hb1 : Below W0.heap.size W0 W1 := by rw [← hW1]; exact below1 _ _
  have HS0 : Bx (OwJ w W1 B x p c 0) := ⟨⟨⟨keep_h hb1 ha0, h1.lo (Lo.of ((hb0.trans (hb1.mono hb0.size)).mono hB)), hb0.trans (hb1.mono hb0.size)⟩, keep_h hb1 ha1, ⟨_, by rw [← hz0, ← hW1]; exact World.alloc_heap_new _ _, zerosV_size _⟩, fun j hj hi => by omega, KidsP.start⟩⟩
  have HIH : Bx _ := ⟨ih⟩
  have HK : Bx (I64 x.k ∧ I64 x.n) := ⟨h2, h3⟩
  clear h1 h2 h3 ih hb0 hb1 ha0 ha1 hz0
  go_enter Try.func6, Try.ntmps6
  go_wp2
  clear c0 c1 c2 f0 f1 f2 cl hW0 hW1 hmk
  go_loopg [4] x.l.length (fun q v wr => ∃ i : Nat, q = x.l.length - i ∧ i ≤ x.l.length ∧ v = .int .i64 i ∧ Bx (OwJ w wr B x p c i))
  case atStart => exact ⟨0, by simp, by omega, rfl, HS0⟩
  case round =>
    obtain ⟨i, hq, hil, rfl, HS⟩ := hrel
    clear HS0
    obtain ⟨r0, r1, r2, g0, g1, g2, rl⟩ := c3 HS.out.one.a
    by_cases hlt : i < x.l.length
    · obtain ⟨b, o, q1, qc, rfl, hbB, d0, d1, d2, hq1, dk, dn⟩ := HS.out.one.va.at3 i hlt
      have HC : Bx _ := ⟨HIH.out x.l[i] (by have h9 := szs_mem (List.getElem_mem hlt); omega) wr B _ ⟨⟨q1, qc, rfl, hq1⟩, dk, dn⟩ (Nat.le_trans hB HS.out.one.bel.size) (by have h9 := szs_mem (List.getElem_mem hlt); omega)⟩
      have HD : Bx (I64 x.l[i].k ∧ I64 x.l[i].n) := ⟨dk, dn⟩
      have hml := HS.out.row.lt
      clear hq1 dk dn
      go_wp2_with (first | (go_at_call 6; refine Calls.mono HC.out ?_; rintro e w4 ⟨q, d, rfl, hsp, hpv, hb4⟩; have HN : Bx _ := ⟨HS.out.next hB hb4⟩; obtain ⟨u0, t0⟩ := HN.out.row.cell (i * 3) (by omega); obtain ⟨u1, t1⟩ := HN.out.row.cell (i * 3 + 1) (by omega); obtain ⟨u2, t2⟩ := HN.out.row.cell (i * 3 + 2) (by omega); have v0 := HN.out.row.frozen (i * 3); have v1 := HN.out.row.frozen (i * 3 + 1); have v2 := HN.out.row.frozen (i * 3 + 2); have HF : Bx _ := ⟨HN.out.step hB hlt HD.out.1 HD.out.2 (SpV.up (by omega) (Nat.le_refl _) _ hsp) HS.out hb4 hpv⟩; clear hsp hpv))
      go_roundg (x.l.length - (i + 1))
      case measure => omega
      case rel => exact ⟨i + 1, rfl, by omega, by simp, HF⟩
    · have hie : i = x.l.length := by omega
      subst hie
      obtain ⟨z0, z1, z2, y0, y1, y2, zl⟩ := c3 HS.out.z
      obtain ⟨u0, t0⟩ := HS.out.row.cell (x.l.length * 3) (by omega)
      have v0 := HS.out.row.frozen (x.l.length * 3)
      have hml := HS.out.row.lt
      have HF : Bx _ := ⟨HS.out.fin (by omega) (.slice (some ⟨w.heap.size + 2, 0, none⟩) x.l.length (x.l.length + 1)) (.int .i64 x.k) (.int .i64 x.n) (.slice (some ⟨w.heap.size + 2, 0, none⟩) x.l.length (x.l.length + 1)) _ rfl⟩
      go_wp2
      refine bodyPost_ret (v := .agg #[.int .i64 x.k, .int .i64 x.n, .slice (some ⟨w.heap.size + 2, 0, none⟩) x.l.length (x.l.length + 1)]) (by simp [results, Try.results6, go_sem, z0, z1, z2, zl]) rfl ⟨_, _, rfl, HF.out.1, HF.out.2.1, HF.out.2.2⟩
/-- own: the same value in blocks of its own, with a mark behind each list -/
theorem lownP_any (w : World) (B : Nat) (v : Value) (x : V) (hv : IsV w B v x) (hB : B ≤ w.heap.size) (h65 : x.sz ≤ 1000000) : Calls Try.prog 6 #[v] w (OwP2 w x) := by
  have key : ∀ N : Nat, ∀ (x : V), x.sz ≤ N → ∀ (w : World) (B : Nat) (v : Value), IsV w B v x → B ≤ w.heap.size → x.sz ≤ 1000000 → Calls Try.prog 6 #[v] w (OwP2 w x) := by
    intro N
    induction N with
    | zero => intro x h; have := x.sz_pos; omega
    | succ N ih => intro x h w B v hv hB h65; exact lownP_rec (N + 1) (fun x' h' => ih x' (by omega)) w B v x hv hB h h65
  exact key x.sz x (Nat.le_refl _) w B v hv hB h65
end Go.Proofs.Ytikijkpklneihaa
namespace Go.Proofs.Ytikijkpklneihaa
open Go.RowKit
set_option linter.unusedVariables false
set_option linter.unusedSimpArgs false

/-! ### the book: values that were handed out, each with what it must read as -/
theorem set1b {W : World} {b : Nat} {cur : Array Value} {t : TypeId} (h : W.heap[b]? = some (.cells cur t (0, 0))) (o : Nat) (v : Value) : (W.setCell ⟨b, o, none⟩ v).heap[b]? = some (.cells (cur.setIfInBounds o v) t (0, 0)) := by
  simp [World.setCell, Array.getElem?_modify, h]
theorem own_last3 {W : World} {B n g c : Nat} {e : TypeId} {xs : List Value} {a0 b0 d0 : Value} (a b d : Value) (h : W.ownsRow B e 3 (.slice (some ⟨g, 0, none⟩) (n + 1) c) (n + 1) (xs ++ [a0, b0, d0])) (hx : xs.length = n * 3) :
    (((W.setCell ⟨g, n * 3, none⟩ a).setCell ⟨g, n * 3 + 1, none⟩ b).setCell ⟨g, n * 3 + 2, none⟩ d).ownsRow B e 3 (.slice (some ⟨g, 0, none⟩) (n + 1) c) (n + 1) (xs ++ [a, b, d]) := by
  refine ⟨by simp; omega, ?_⟩
  rcases h.2 with ⟨e1, _⟩ | ⟨g', cap, cur, e1, h1, h2, h3, h4, h5, h6⟩
  · cases e1
  · simp only [Value.slice.injEq, Option.some.injEq, Addr.mk.injEq] at e1
    obtain ⟨⟨rfl, _⟩, _, rfl⟩ := e1
    refine .inr ⟨g, c, _, rfl, h1, set1b (set1b (set1b h2 _ _) _ _) _ _, h3, h4, by simpa using h5, ?_⟩
    have e2 : ((n + 1) * 3) = xs.length + 3 := by omega
    simp only [Array.toList_setIfInBounds, List.take_set, h6]
    have q0 : n * 3 = xs.length := hx.symm
    rw [q0]
    simp [List.set_append_right]
/-- a row's values, each with its tree -/
def Ents (W : World) (ρ : Gh) (e n : Nat) (X : Nat → V) (cs : List Value) : Prop :=
  ∀ i, i < n → ∃ p c, cs[i * 3]? = some (.int .i64 (X i).k) ∧ cs[i * 3 + 1]? = some (.int .i64 (X i).n) ∧ cs[i * 3 + 2]? = some (.slice p (X i).l.length c) ∧ I64 (X i).k ∧ I64 (X i).n ∧ TrV W ρ (2 * i + e) [] (X i) p c
theorem Ents.keep {W W' : World} {ρ : Gh} {e n : Nat} {X : Nat → V} {cs : List Value} (h : Ents W ρ e n X cs) (hb : ∀ b, b < W.heap.size → ρ b ≠ none → W'.heap[b]? = W.heap[b]?) : Ents W' ρ e n X cs := fun i hi => by
  obtain ⟨p, c, h1, h2, h3, h4, h5, h6⟩ := h i hi
  exact ⟨p, c, h1, h2, h3, h4, h5, TrV.keep _ h6 fun b hb2 hu => by
    obtain ⟨s, hs⟩ := hu
    exact hb b hb2 (by rw [hs]; simp)⟩
theorem Ents.re {W : World} {ρ ρ' : Gh} {e n : Nat} {X : Nat → V} {cs : List Value} (h : Ents W ρ e n X cs) (hr : ∀ b id s, ρ b = some (id, s) → ρ' b = some (id, s)) : Ents W ρ' e n X cs := fun i hi => by
  obtain ⟨p, c, h1, h2, h3, h4, h5, h6⟩ := h i hi
  exact ⟨p, c, h1, h2, h3, h4, h5, TrV.re _ h6 fun b s hs => hr b _ _ hs⟩
/-- one more -/
theorem Ents.snoc {W : World} {ρ : Gh} {e n : Nat} {X : Nat → V} {cs : List Value} (h : Ents W ρ e n X cs) (hl : cs.length = n * 3) {x : V} {p : Option Addr} {c : Nat} (hk : I64 x.k) (hn : I64 x.n) (ht : TrV W ρ (2 * n + e) [] x p c) : Ents W ρ e (n + 1) (fun j => if j = n then x else X j) (cs ++ [.int .i64 x.k, .int .i64 x.n, .slice p x.l.length c]) := fun i hi => by
  by_cases he : i = n
  · subst he
    simp only [if_true]
    refine ⟨p, c, ?_, ?_, ?_, hk, hn, ht⟩
    · rw [List.getElem?_append_right (by omega), hl, Nat.sub_self]; rfl
    · rw [List.getElem?_append_right (by omega), hl, Nat.add_sub_cancel_left]; rfl
    · rw [List.getElem?_append_right (by omega), hl, Nat.add_sub_cancel_left]; rfl
  · obtain ⟨p', c', h1, h2, h3, h4, h5, h6⟩ := h i (by omega)
    simp only [if_neg he]
    exact ⟨p', c', by rw [List.getElem?_append_left (by omega)]; exact h1, by rw [List.getElem?_append_left (by omega)]; exact h2, by rw [List.getElem?_append_left (by omega)]; exact h3, h4, h5, h6⟩
structure Bk (W : World) (lo h : Nat) (ρ : Gh) (ov wv : Value) (n : Nat) (X : Nat → V) : Prop where
  hd : W.heap[h]? = some (.cells #[ov, wv] 30 (0, 0))
  low : h < lo
  siz : lo ≤ W.heap.size
  orow : ∃ cs, W.ownsRow lo 24 3 ov n cs ∧ Ents W ρ 0 n X cs
  wrow : ∃ cs, W.ownsRow lo 24 3 wv n cs ∧ Ents W ρ 1 n X cs
  sup : ∀ b, ρ b ≠ none → b < W.heap.size ∧ b ≠ h ∧ ov.ownBlock ≠ some b ∧ wv.ownBlock ≠ some b
  ids : ∀ b id q, ρ b = some (id, q) → id < 2 * n
  ne : ∀ b, ov.ownBlock = some b → wv.ownBlock ≠ some b
/-- it stays where its blocks stay -/
theorem Bk.keep {W W' : World} {lo h : Nat} {ρ : Gh} {ov wv : Value} {n : Nat} {X : Nat → V} (hB : Bk W lo h ρ ov wv n X) (hs : W.heap.size ≤ W'.heap.size) (hb : ∀ b, b < W.heap.size → b = h ∨ ov.ownBlock = some b ∨ wv.ownBlock = some b ∨ ρ b ≠ none → W'.heap[b]? = W.heap[b]?) : Bk W' lo h ρ ov wv n X := by
  obtain ⟨cs, o1, o2⟩ := hB.orow
  obtain ⟨ds, w1, w2⟩ := hB.wrow
  have hl := hB.low
  have hz := hB.siz
  exact ⟨(hb h (by omega) (.inl rfl)).trans hB.hd, hl, by omega, ⟨cs, own_same o1 fun g o hg ho => (hb g (heap_lt ho) (.inr (.inl hg))).trans ho, o2.keep fun b h1 h2 => hb b h1 (.inr (.inr (.inr h2)))⟩, ⟨ds, own_same w1 fun g o hg ho => (hb g (heap_lt ho) (.inr (.inr (.inl hg)))).trans ho, w2.keep fun b h1 h2 => hb b h1 (.inr (.inr (.inr h2)))⟩, fun b hb2 => by have := hB.sup b hb2; exact ⟨by omega, this.2⟩, hB.ids, hB.ne⟩
theorem Bk.next {W W' : World} {lo h : Nat} {ρ : Gh} {ov wv : Value} {n : Nat} {X : Nat → V} (hB : Bk W lo h ρ ov wv n X) (hb : Below W.heap.size W W') : Bk W' lo h ρ ov wv n X := hB.keep hb.size fun b h1 _ => hb.block b h1
/-- one of its values, and what it must read as -/
theorem Bk.at_ {W : World} {lo h : Nat} {ρ : Gh} {ov wv : Value} {n : Nat} {X : Nat → V} (hB : Bk W lo h ρ ov wv n X) {i : Nat} (hi : i < n) : ∃ g c g' c' p pc p' pc', ov = .slice (some ⟨g, 0, none⟩) n c ∧ wv = .slice (some ⟨g', 0, none⟩) n c' ∧ (n ≤ c ∧ c ≤ maxLen ∧ n ≤ c' ∧ c' ≤ maxLen ∧ g < W.heap.size ∧ g' < W.heap.size ∧ h < W.heap.size) ∧
    (W.cell? ⟨g, i * 3, none⟩ = some (.int .i64 (X i).k) ∧ W.cell? ⟨g, i * 3 + 1, none⟩ = some (.int .i64 (X i).n) ∧ W.cell? ⟨g, i * 3 + 2, none⟩ = some (.slice p (X i).l.length pc)) ∧
    (W.cell? ⟨g', i * 3, none⟩ = some (.int .i64 (X i).k) ∧ W.cell? ⟨g', i * 3 + 1, none⟩ = some (.int .i64 (X i).n) ∧ W.cell? ⟨g', i * 3 + 2, none⟩ = some (.slice p' (X i).l.length pc')) ∧ (W.cell? ⟨h, 0, none⟩ = some ov ∧ W.cell? ⟨h, 1, none⟩ = some wv) ∧ (I64 (X i).k ∧ I64 (X i).n) ∧ TrV W ρ (2 * i) [] (X i) p pc ∧ TrV W ρ (2 * i + 1) [] (X i) p' pc' := by
  obtain ⟨cs, o1, o2⟩ := hB.orow
  obtain ⟨ds, w1, w2⟩ := hB.wrow
  obtain ⟨p, pc, a1, a2, a3, a4, a5, a6⟩ := o2 i hi
  obtain ⟨p', pc', b1, b2, b3, b4, b5, b6⟩ := w2 i hi
  have hl := hB.low
  have hz := hB.siz
  have key : ∀ {v : Value} {cs : List Value}, W.ownsRow lo 24 3 v n cs → ∃ g c, v = .slice (some ⟨g, 0, none⟩) n c ∧ n ≤ c ∧ c ≤ maxLen ∧ g < W.heap.size ∧ ∀ j u, j < n * 3 → cs[j]? = some u → W.cell? ⟨g, j, none⟩ = some u := fun {v cs} ho => by
    rcases ho.2 with ⟨_, e⟩ | ⟨g, cap, cur, e1, h1, h2, h3, h4, h5, h6⟩
    · omega
    · refine ⟨g, cap, e1, h3, h4, heap_lt h2, fun j u hj hu => cell_blk h2 ?_⟩
      rw [← h6, List.getElem?_take_of_lt hj, Array.getElem?_toList] at hu
      exact hu
  obtain ⟨g, c, e1, q1, q2, q3, q4⟩ := key o1
  obtain ⟨g', c', f1, r1, r2, r3, r4⟩ := key w1
  exact ⟨g, c, g', c', p, pc, p', pc', e1, f1, ⟨q1, q2, r1, r2, q3, r3, by omega⟩, ⟨q4 _ _ (by omega) a1, q4 _ _ (by omega) a2, q4 _ _ (by omega) a3⟩, ⟨r4 _ _ (by omega) b1, r4 _ _ (by omega) b2, r4 _ _ (by omega) b3⟩, ⟨cell_blk hB.hd rfl, cell_blk hB.hd rfl⟩, ⟨a4, a5⟩, a6, b6⟩
theorem TrV.isv {W : World} {ρ : Gh} {id : Nat} {q : List Nat} {x : V} {p : Option Addr} {c : Nat} (h : TrV W ρ id q x p c) (hk : I64 x.k) (hn : I64 x.n) : IsV W W.heap.size (agV x.k x.n p x.l.length c) x := ⟨⟨p, c, rfl, TrV.sl x h⟩, hk, hn⟩
end Go.Proofs.Ytikijkpklneihaa
namespace Go.Proofs.Ytikijkpklneihaa
set_option linter.unusedVariables false
set_option linter.unusedSimpArgs false

/-! ### a drawn region whose operations yield the same whatever the order: one frame for all of it -/
section
variable {P : Program} {ops : Array Oper} {Q : Exit → Act → World → Prop} {S : World → Prop}
def unlF (L : Array Bool) : Nat := L.toList.count false
theorem unlF_set {L : Array Bool} {i : Nat} (h : L.getD i true = false) : unlF (L.setIfInBounds i true) + 1 = unlF L := by
  have hi : i < L.size := by
    rcases Nat.lt_or_ge i L.size with h' | h'
    · exact h'
    · rw [Array.getD_eq_getD_getElem?, Array.getElem?_eq_none h'] at h; cases h
  have he : L.toList[i]? = some false := by
    rw [Array.getD_eq_getD_getElem?, Array.getElem?_eq_getElem hi] at h
    rw [Array.getElem?_toList, Array.getElem?_eq_getElem hi]
    simpa using h
  unfold unlF
  rw [Array.toList_setIfInBounds]
  have key : ∀ (l : List Bool) (i : Nat), l[i]? = some false → (l.set i true).count false + 1 = l.count false := by
    intro l
    induction l with
    | nil => intro i h; simp at h
    | cons b r ih =>
      intro i h
      cases i with
      | zero =>
        simp at h; subst h
        simp
      | succ k =>
        simp at h
        have := ih k h
        rw [List.set_cons_succ, List.count_cons, List.count_cons]
        omega
  exact key _ _ he
def flowEnd : List Oper → List Value → Act → Act
  | o :: os, v :: vs, a => flowEnd os vs (a.put o.dst v)
  | _, _, a => a
theorem put_size (a : Act) (d : Option Tmp) (v : Value) : (a.put d v).tmps.size = a.tmps.size := by cases d <;> simp [Act.put]
theorem put_def (a : Act) (d : Option Tmp) (v : Value) : (a.put d v).defers = a.defers := by cases d <;> rfl
theorem put_ne (a : Act) (d : Option Tmp) (v : Value) {t : Tmp} (h : d ≠ some t) : (a.put d v).tmps[t]? = a.tmps[t]? := by
  cases d with
  | none => rfl
  | some d =>
    have : d ≠ t := fun e => h (by rw [e])
    simp [Act.put, Array.getElem?_setIfInBounds_ne this]
theorem put_eq (a : Act) (v : Value) (t : Tmp) : (a.put (some t) v).tmps[t]? = if t < a.tmps.size then some v else none := by
  simp [Act.put, Array.getElem?_setIfInBounds]
theorem flow_size : ∀ (os : List Oper) (vs : List Value) (a : Act), (flowEnd os vs a).tmps.size = a.tmps.size ∧ (flowEnd os vs a).defers = a.defers
  | [], _, a => ⟨rfl, rfl⟩
  | _ :: _, [], a => ⟨rfl, rfl⟩
  | o :: os, v :: vs, a => by
    obtain ⟨h1, h2⟩ := flow_size os vs (a.put o.dst v)
    exact ⟨h1.trans (put_size _ _ _), h2.trans (put_def _ _ _)⟩
theorem flow_ne {t : Tmp} : ∀ (os : List Oper) (vs : List Value) (a : Act), (∀ o ∈ os, o.dst ≠ some t) → (flowEnd os vs a).tmps[t]? = a.tmps[t]?
  | [], _, a, _ => rfl
  | _ :: _, [], a, _ => rfl
  | o :: os, v :: vs, a, h => by
    show (flowEnd os vs (a.put o.dst v)).tmps[t]? = _
    rw [flow_ne os vs _ (fun x hx => h x (List.mem_cons_of_mem _ hx)), put_ne _ _ _ (h o List.mem_cons_self)]
theorem flow_at {t : Tmp} : ∀ (os : List Oper) (vs : List Value) (a : Act), vs.length = os.length → os.Pairwise (fun x y => ∀ d, x.dst = some d → y.dst ≠ some d) → ∀ (i : Nat) (o : Oper) (v : Value), os[i]? = some o → vs[i]? = some v → o.dst = some t → (flowEnd os vs a).tmps[t]? = if t < a.tmps.size then some v else none
  | [], _, a, _, _ => fun i o v h => by simp at h
  | _ :: _, [], a, h, _ => by simp at h
  | o :: os, v :: vs, a, hl, hp => by
    intro i x y hx hy hd
    rw [List.pairwise_cons] at hp
    cases i with
    | zero =>
      simp at hx hy
      subst hx; subst hy
      show (flowEnd os vs (a.put o.dst v)).tmps[t]? = _
      rw [flow_ne os vs _ (fun z hz => hp.1 z hz t hd), hd, put_eq]
    | succ k =>
      simp at hx hy
      show (flowEnd os vs (a.put o.dst v)).tmps[t]? = _
      rw [flow_at os vs (a.put o.dst v) (by simpa using hl) hp.2 k x y hx hy hd, put_size]
/-- what an operation does in the frame of the end -/
def FlowStep (P : Program) (ops : Array Oper) (S : World → Prop) (F : Act) (o : Oper) (v : Value) : Prop :=
  (Region.wanted o (yielded ops F.tmps) = true ∧ ∀ w, S w → (execOp F.eval o).run P w = .ok (.value v) w) ∨
  (Region.wanted o (yielded ops F.tmps) = false ∧ v = undef) ∨
  (Region.wanted o (yielded ops F.tmps) = true ∧ ∀ w, S w → ∃ f args, (execOp F.eval o).run P w = .ok (.enter f args) w ∧ Calls P f args w fun e w' => e = .returned v ∧ S w')
def FlowAll (P : Program) (ops : Array Oper) (S : World → Prop) (F : Act) : List Oper → List Value → Prop
  | o :: os, v :: vs => FlowStep P ops S F o v ∧ FlowAll P ops S F os vs
  | [], [] => True
  | _, _ => False
theorem FlowAll.len {F : Act} : ∀ {os : List Oper} {vs : List Value}, FlowAll P ops S F os vs → vs.length = os.length
  | [], [], _ => rfl
  | [], _ :: _, h => h.elim
  | _ :: _, [], h => h.elim
  | _ :: os, _ :: vs, h => by simp [FlowAll.len h.2]
theorem FlowAll.at_ {F : Act} : ∀ {os : List Oper} {vs : List Value}, FlowAll P ops S F os vs → ∀ (i : Nat) (o : Oper), os[i]? = some o → ∃ v, vs[i]? = some v ∧ FlowStep P ops S F o v
  | [], [], _ => fun i o h => by simp at h
  | [], _ :: _, h => h.elim
  | _ :: _, [], h => h.elim
  | _ :: os, v :: vs, h => by
    intro i o hi
    cases i with
    | zero => simp at hi; subst hi; exact ⟨v, rfl, h.1⟩
    | succ k => simp at hi; simpa using FlowAll.at_ h.2 k o hi
/-- the shape: who looks at another one's temporary waits for it; each has its own temporary -/
def flowOk (ops : Array Oper) : Bool :=
  Region.noSelect ops &&
  (List.range ops.size).all fun i => match ops[i]? with
    | none => true
    | some o => (o.after.all fun e => !(Region.binds .any e) || decide (e.on < i)) && (List.range ops.size).all fun j => match ops[j]? with
      | none => true
      | some oj => match oj.dst with
        | none => true
        | some d => (!(o.looksAt ops).contains d || o.after.any fun e => e.on == j && Region.binds .any e) && (i == j || o.dst != some d)
theorem flow_spec (h : flowOk ops = true) {i : Nat} {o : Oper} (hi : ops[i]? = some o) :
    (∀ e ∈ o.after, Region.binds .any e = true → e.on < i) ∧ ∀ (j : Nat) (oj : Oper) (d : Tmp), ops[j]? = some oj → oj.dst = some d →
      (d ∈ o.looksAt ops → ∃ e ∈ o.after, e.on = j ∧ Region.binds .any e = true) ∧ (i ≠ j → o.dst ≠ some d) := by
  unfold flowOk at h
  rw [Bool.and_eq_true] at h
  have h2 := List.all_eq_true.1 h.2 i (by simpa using (Array.getElem?_eq_some_iff.1 hi).1)
  simp only [hi] at h2
  rw [Bool.and_eq_true] at h2
  refine ⟨fun e he hb => by have := Array.all_eq_true'.1 h2.1 e he; simpa [hb] using this, fun j oj d hj hd => ?_⟩
  have h3 := List.all_eq_true.1 h2.2 j (by simpa using (Array.getElem?_eq_some_iff.1 hj).1)
  simp only [hj, hd] at h3
  rw [Bool.and_eq_true] at h3
  refine ⟨fun hm => ?_, fun hne => ?_⟩
  · rcases Bool.or_eq_true _ _ ▸ h3.1 with h4 | h4
    · simp [hm] at h4
    · rw [Array.any_eq_true'] at h4
      obtain ⟨e, he, h5⟩ := h4
      rw [Bool.and_eq_true] at h5
      exact ⟨e, he, by simpa using h5.1, h5.2⟩
  · rcases Bool.or_eq_true _ _ ▸ h3.2 with h4 | h4
    · exact absurd (by simpa using h4) hne
    · simpa using h4
theorem all_on {L : Array Bool} (hL : L.size = ops.size) (hdown : ∀ (i : Nat) (o : Oper), ops[i]? = some o → ∀ e ∈ o.after, Region.binds .any e = true → e.on < i) (hr : Region.ready .any ops L = []) : ∀ i, i < ops.size → L.getD i false = true := by
  intro i
  induction i using Nat.strongRecOn with
  | ind i ih =>
    intro hi
    cases h : L.getD i false with
    | true => rfl
    | false =>
      have hmem : i ∈ Region.ready .any ops L := by
        refine mem_ready.2 ⟨?_, ops[i], Array.getElem?_eq_getElem hi, fun e he hbd => ?_⟩
        · rw [Array.getD_eq_getD_getElem?, Array.getElem?_eq_getElem (by omega)] at h ⊢
          exact h
        · have := hdown i ops[i] (Array.getElem?_eq_getElem hi) e he hbd
          exact ih e.on this (by omega)
      rw [hr] at hmem
      cases hmem
/-- a frame that agrees with that of the end but for what has not come up yet -/
structure Agr (ops : Array Oper) (F : Act) (L : Array Bool) (a : Act) : Prop where
  def_ : a.defers = F.defers
  size : a.tmps.size = F.tmps.size
  get : ∀ t, (∀ (j : Nat) (o : Oper), ops[j]? = some o → o.dst = some t → L.getD j false = true) → a.tmps[t]? = F.tmps[t]?
theorem Agr.eval {F : Act} {L : Array Bool} {a : Act} (h : Agr ops F L a) (hok : flowOk ops = true) {i : Nat} {o : Oper} (hi : ops[i]? = some o) (hall : ∀ e ∈ o.after, Region.binds .any e = true → L.getD e.on false = true) :
    ∀ t ∈ o.looksAt ops, a.tmps[t]? = F.tmps[t]? := by
  intro t ht
  refine h.get t (fun j oj hj hd => ?_)
  obtain ⟨e, he, h1, h2⟩ := ((flow_spec hok hi).2 j oj t hj hd).1 ht
  rw [← h1]
  exact hall e he h2
theorem eval_same {F a : Act} {o : Oper} (hs : ∀ cs b, o.op ≠ .select cs b) (h : ∀ t ∈ o.looksAt ops, a.tmps[t]? = F.tmps[t]?) : execOp a.eval o = execOp F.eval o := by
  refine execOp_congr o hs (fun x hx => ?_)
  cases x with
  | tmp t =>
    have : t ∈ o.looksAt ops := List.mem_append_left _ (List.mem_filterMap.2 ⟨.tmp t, by simpa using hx, rfl⟩)
    simp only [Act.eval, Array.getD_eq_getD_getElem?, h t this]
  | _ => rfl
theorem want_same {F a : Act} {o : Oper} (h : ∀ t ∈ o.looksAt ops, a.tmps[t]? = F.tmps[t]?) : Region.wanted o (yielded ops a.tmps) = Region.wanted o (yielded ops F.tmps) := by
  unfold Region.wanted
  cases hg : o.guard with
  | none => rfl
  | some gw =>
    obtain ⟨g, want⟩ := gw
    have : yielded ops a.tmps g = yielded ops F.tmps g := by
      unfold yielded
      cases ht : (ops[g]?).bind (·.dst) with
      | none => rfl
      | some t => simp only [Option.bind_some, h t (by simp [Oper.looksAt, hg, ht])]
    simp only [this]
theorem Agr.put {F : Act} {L : Array Bool} {a : Act} (h : Agr ops F L a) (hok : flowOk ops = true) {i : Nat} {o : Oper} (hi : ops[i]? = some o) (hL : L.size = ops.size) {v : Value} (hv : ∀ t, o.dst = some t → F.tmps[t]? = if t < F.tmps.size then some v else none) :
    Agr ops F (L.setIfInBounds i true) (a.put o.dst v) := by
  refine ⟨(put_def _ _ _).trans h.def_, (put_size _ _ _).trans h.size, fun t ht => ?_⟩
  by_cases hd : o.dst = some t
  · rw [hv t hd, hd, put_eq, h.size]
  · rw [put_ne _ _ _ hd]
    refine h.get t (fun j oj hj hdj => ?_)
    have := ht j oj hj hdj
    by_cases hji : i = j
    · subst hji
      rw [hi] at hj
      cases hj
      exact absurd hdj hd
    · rw [getD_set_ne false hji] at this
      exact this
theorem flow_any {F : Act} (hok : flowOk ops = true)
    (hstep : ∀ (i : Nat) (o : Oper), ops[i]? = some o → ∃ v, FlowStep P ops S F o v ∧ ∀ t, o.dst = some t → F.tmps[t]? = if t < F.tmps.size then some v else none)
    (hend : ∀ w, S w → Q .normal F w) : ∀ (fuel : Nat) (L : Array Bool) (a : Act) (w : World), unlF L ≤ fuel → L.size = ops.size → Agr ops F L a → S w → wpAny P .any ops Q fuel L a w := by
  have hfin : ∀ (L : Array Bool) (a : Act) (w : World), L.size = ops.size → Agr ops F L a → S w → Region.ready .any ops L = [] → Q .normal a w := by
    intro L a w hL hA hS hr
    have hon := all_on hL (fun i o hi => (flow_spec hok hi).1) hr
    have : a = F := by
      have h1 : a.tmps = F.tmps := Array.ext_getElem? (fun t => hA.get t (fun j o hj _ => hon j (Array.getElem?_eq_some_iff.1 hj).1))
      cases a; cases F
      simp only at h1
      have h2 := hA.def_
      simp only at h2
      rw [h1, h2]
    rw [this]
    exact hend w hS
  have hns : Region.noSelect ops = true := by
    unfold flowOk at hok
    rw [Bool.and_eq_true] at hok
    exact hok.1
  intro fuel
  induction fuel with
  | zero =>
    intro L a w hf hL hA hS
    have hr : Region.ready .any ops L = [] := by
      rw [List.eq_nil_iff_forall_not_mem]
      intro i hi
      obtain ⟨hu, _⟩ := mem_ready.1 hi
      have := unlF_set hu
      omega
    exact ⟨hr, hfin L a w hL hA hS hr⟩
  | succ fuel ih =>
    intro L a w hf hL hA hS
    refine ⟨fun hr => hfin L a w hL hA hS hr, fun i hi => ?_⟩
    obtain ⟨hu, o, ho, hall⟩ := mem_ready.1 hi
    obtain ⟨v, hst, hv⟩ := hstep i o ho
    have hlook := hA.eval hok ho hall
    have he := eval_same (fun cs b => Region.noSelect_spec hns i o cs b ho) hlook
    have hw := want_same hlook
    have hnext : ∀ w', S w' → wpAny P .any ops Q fuel (L.setIfInBounds i true) (a.put o.dst v) w' := fun w' hS' => ih _ _ _ (by have := unlF_set hu; omega) (by simpa using hL) (hA.put hok ho hL hv) hS'
    unfold wpOp
    simp only [ho]
    rw [hw]
    rcases hst with ⟨h1, h2⟩ | ⟨h1, rfl⟩ | ⟨h1, h2⟩
    · rw [if_pos h1]
      refine .inl ?_
      unfold Oper.wp
      rw [he, h2 w hS]
      exact hnext w hS
    · rw [if_neg (by rw [h1]; decide)]
      exact hnext w hS
    · rw [if_pos h1]
      refine .inl ?_
      unfold Oper.wp
      obtain ⟨f, args, h3, h4⟩ := h2 w hS
      rw [he, h3, Oper.upon_enter]
      refine Calls.mono h4 ?_
      rintro e w' ⟨rfl, h5⟩
      exact hnext w' h5
/-- **A REGION THAT DRAWS ITS ORDER, WHERE EACH OPERATION YIELDS ONE VALUE**: the values, the condition that is kept, and what each operation does in the frame of the end -/
theorem region_flow {id : Nat} {a : Act} {w : World} (vs : List Value) (S : World → Prop) (hm : P.follows .mixedOrders = true) (hok : flowOk ops = true) (hS : S w.drew)
    {F : Act} (hF : flowEnd ops.toList vs a = F) (hall : FlowAll P ops S F ops.toList vs) (hend : ∀ w', S w' → Q .normal F w') : (Code.region id ops true).wp P Q a w := by
  have hpw : ops.toList.Pairwise (fun x y => ∀ d, x.dst = some d → y.dst ≠ some d) := by
    rw [List.pairwise_iff_getElem]
    intro i j hi hj hij d h1 h2
    have hi' : ops[i]? = some (ops.toList[i]) := by rw [← Array.getElem?_toList]; exact List.getElem?_eq_getElem hi
    have hj' : ops[j]? = some (ops.toList[j]) := by rw [← Array.getElem?_toList]; exact List.getElem?_eq_getElem hj
    exact ((flow_spec hok hj').2 i _ d hi' h1).2 (by omega) h2
  obtain ⟨hs1, hs2⟩ := flow_size ops.toList vs a
  refine wp_region_any hm (flow_any (F := F) (S := S) hok (fun i o hi => ?_) hend ops.size _ a _ ?_ (by simp) ?_ hS)
  · obtain ⟨v, hv, hst⟩ := hall.at_ i o (by rw [Array.getElem?_toList]; exact hi)
    refine ⟨v, hst, fun t ht => ?_⟩
    have := flow_at ops.toList vs a hall.len hpw i o v (by rw [Array.getElem?_toList]; exact hi) hv ht
    rw [← hF, this, hs1]
  · unfold unlF
    refine Nat.le_trans List.count_le_length ?_
    simp
  · refine ⟨by rw [← hF, hs2], by rw [← hF, hs1], fun t ht => ?_⟩
    rw [← hF]
    refine (flow_ne ops.toList vs a (fun o ho hd => ?_)).symm
    obtain ⟨j, hj⟩ := List.getElem?_of_mem ho
    rw [Array.getElem?_toList] at hj
    have := ht j o hj hd
    have hlt := (Array.getElem?_eq_some_iff.1 hj).1
    simp [hlt] at this
theorem region_flowL {l : List Oper} {id : Nat} {a : Act} {w : World} (vs : List Value) (S : World → Prop) (hm : P.follows .mixedOrders = true) (hok : flowOk l.toArray = true) (hS : S w.drew)
    {F : Act} (hF : flowEnd l vs a = F) (hall : FlowAll P l.toArray S F l vs) (hend : ∀ w', S w' → Q .normal F w') : (Code.region id l.toArray true).wp P Q a w :=
  region_flow vs S hm hok hS (by simpa using hF) (by simpa using hall) hend
theorem flow_cons {F : Act} {o : Oper} {os : List Oper} {v : Value} {vs : List Value} (h1 : FlowStep P ops S F o v) (h2 : FlowAll P ops S F os vs) : FlowAll P ops S F (o :: os) (v :: vs) := ⟨h1, h2⟩
theorem flow_nil {F : Act} : FlowAll P ops S F [] [] := trivial
theorem flow_pure {F : Act} {o : Oper} {v : Value} (hw : Region.wanted o (yielded ops F.tmps) = true) (h : ∀ w, S w → (execOp F.eval o).run P w = .ok (.value v) w) : FlowStep P ops S F o v := .inl ⟨hw, h⟩
theorem flow_not {F : Act} {o : Oper} (hw : Region.wanted o (yielded ops F.tmps) = false) : FlowStep P ops S F o undef := .inr (.inl ⟨hw, rfl⟩)
theorem flow_call {F : Act} {o : Oper} {v : Value} (f : FuncId) (args : Array Value) (hw : Region.wanted o (yielded ops F.tmps) = true) (h : ∀ w, S w → (execOp F.eval o).run P w = .ok (.enter f args) w) (hc : ∀ w, S w → Calls P f args w fun e w' => e = .returned v ∧ S w') : FlowStep P ops S F o v := .inr (.inr ⟨hw, fun w hS => ⟨f, args, h w hS, hc w hS⟩⟩)
end
end Go.Proofs.Ytikijkpklneihaa
namespace Go.Proofs.Ytikijkpklneihaa
set_option linter.unusedVariables false
set_option linter.unusedSimpArgs false

/-! ### the frame of the end, where the temporaries follow one another -/
theorem flow_run : ∀ (os : List Oper) (vs : List Value) (t0 : Nat) (tl : List Value) (df : List Deferred), os.map (·.dst) = (List.range' t0 os.length).map some → vs.length = os.length → t0 + os.length ≤ tl.length →
    flowEnd os vs ⟨tl.toArray, df⟩ = ⟨(tl.take t0 ++ (vs ++ tl.drop (t0 + os.length))).toArray, df⟩
  | [], vs, t0, tl, df, _, h2, h3 => by
    obtain rfl : vs = [] := List.eq_nil_of_length_eq_zero (by simpa using h2)
    simp [flowEnd]
  | o :: os, [], t0, tl, df, _, h2, h3 => by simp at h2
  | o :: os, v :: vs, t0, tl, df, h1, h2, h3 => by
    rw [List.length_cons, List.range'_succ, List.map_cons, List.map_cons, List.cons.injEq] at h1
    simp only [List.length_cons] at h2 h3
    have hd : o.dst = some t0 := h1.1
    have ht : t0 < tl.length := by omega
    show flowEnd os vs (Act.put ⟨tl.toArray, df⟩ o.dst v) = _
    rw [hd]
    show flowEnd os vs ⟨tl.toArray.setIfInBounds t0 v, df⟩ = _
    rw [List.setIfInBounds_toArray, flow_run os vs (t0 + 1) (tl.set t0 v) df h1.2 (by omega) (by rw [List.length_set]; omega)]
    have e1 : (tl.set t0 v).take (t0 + 1) = tl.take t0 ++ [v] := by
      rw [List.take_succ_eq_append_getElem (by rw [List.length_set]; exact ht), List.getElem_set_self, List.take_set_of_le (Nat.le_refl _)]
    have e2 : (tl.set t0 v).drop (t0 + 1 + os.length) = tl.drop (t0 + (os.length + 1)) := by
      rw [List.drop_set_of_lt (by omega), show t0 + 1 + os.length = t0 + (os.length + 1) by omega]
    rw [e1, e2]
    simp
theorem flow_split : ∀ (m : Nat) (l : List Oper) (vs : List Value) (a : Act), vs.length = l.length → flowEnd l vs a = flowEnd (l.drop m) (vs.drop m) (flowEnd (l.take m) (vs.take m) a)
  | 0, l, vs, a, _ => rfl
  | m + 1, [], vs, a, h => by
    obtain rfl : vs = [] := List.eq_nil_of_length_eq_zero (by simpa using h)
    rfl
  | m + 1, o :: l, [], a, h => by simp at h
  | m + 1, o :: l, v :: vs, a, h => by
    show flowEnd l vs (a.put o.dst v) = flowEnd (l.drop m) (vs.drop m) (flowEnd (l.take m) (vs.take m) (a.put o.dst v))
    exact flow_split m l vs _ (by simpa using h)
theorem flowF {l : List Oper} {vs : List Value} {tl : List Value} {df : List Deferred} {F : Act} (t0 m : Nat) (h1 : (l.take m).map (·.dst) = (List.range' t0 m).map some) (h2 : vs.length = l.length) (h3 : m ≤ l.length) (h4 : t0 + m ≤ tl.length)
    (h5 : flowEnd (l.drop m) (vs.drop m) ⟨(tl.take t0 ++ (vs.take m ++ tl.drop (t0 + m))).toArray, df⟩ = F) : flowEnd l vs ⟨tl.toArray, df⟩ = F := by
  have e : (l.take m).length = m := by rw [List.length_take]; omega
  rw [flow_split m l vs _ h2, flow_run (l.take m) (vs.take m) t0 tl df (by rw [e]; exact h1) (by rw [List.length_take, List.length_take]; omega) (by rw [e]; exact h4), e]
  exact h5
end Go.Proofs.Ytikijkpklneihaa
namespace Go.Proofs.Ytikijkpklneihaa
set_option linter.unusedVariables false
set_option linter.unusedSimpArgs false

/-! ### a drawn region whose operations may make memory: by what holds of the values that have come up -/
section
variable {P : Program} {ops : Array Oper} {Q : Exit → Act → World → Prop}
abbrev Vals := Nat → Option Value
def Vals.put (u : Vals) (i : Nat) (v : Value) : Vals := fun j => if j = i then some v else u j
theorem Vals.put_self (u : Vals) (i : Nat) (v : Value) : u.put i v i = some v := by simp [Vals.put]
theorem Vals.put_ne (u : Vals) {i j : Nat} (v : Value) (h : j ≠ i) : u.put i v j = u j := by simp [Vals.put, h]
/-- a frame, with what has come up -/
structure AgrV (ops : Array Oper) (a0 : Act) (u : Vals) (a : Act) : Prop where
  def_ : a.defers = a0.defers
  size : a.tmps.size = a0.tmps.size
  get : ∀ (j : Nat) (o : Oper) (t : Tmp) (v : Value), ops[j]? = some o → o.dst = some t → u j = some v → a.tmps[t]? = if t < a0.tmps.size then some v else none
  old : ∀ t : Tmp, (∀ (j : Nat) (o : Oper), ops[j]? = some o → o.dst = some t → u j = none) → a.tmps[t]? = a0.tmps[t]?
theorem AgrV.put {a0 : Act} {u : Vals} {a : Act} (h : AgrV ops a0 u a) (hok : flowOk ops = true) {i : Nat} {o : Oper} (hi : ops[i]? = some o) (v : Value) : AgrV ops a0 (u.put i v) (a.put o.dst v) := by
  refine ⟨(put_def _ _ _).trans h.def_, (put_size _ _ _).trans h.size, fun j oj t x hj hd hx => ?_, fun t ht => ?_⟩
  · by_cases hji : j = i
    · subst hji
      rw [hi] at hj
      cases hj
      rw [Vals.put_self] at hx
      cases hx
      rw [hd, put_eq, h.size]
    · rw [Vals.put_ne _ _ hji] at hx
      have hne : o.dst ≠ some t := fun e => by
        have := ((flow_spec hok hi).2 j oj t hj hd).2 (fun e' => hji e'.symm)
        exact this e
      rw [put_ne _ _ _ hne]
      exact h.get j oj t x hj hd hx
  · have hne : o.dst ≠ some t := fun e => by
      have := ht i o hi e
      rw [Vals.put_self] at this
      cases this
    rw [put_ne _ _ _ hne]
    refine h.old t fun j oj hj hd => ?_
    have := ht j oj hj hd
    by_cases hji : j = i
    · subst hji; rw [Vals.put_self] at this; cases this
    · rw [Vals.put_ne _ _ hji] at this; exact this
theorem AgrV.at_ {a0 : Act} {u : Vals} {a : Act} (h : AgrV ops a0 u a) {j : Nat} {o : Oper} {t : Tmp} {v : Value} (hj : ops[j]? = some o) (hd : o.dst = some t) (hv : u j = some v) (ht : t < a0.tmps.size) : a.eval (.tmp t) = v := by
  have := h.get j o t v hj hd hv
  rw [if_pos ht] at this
  simp [Act.eval, Array.getD_eq_getD_getElem?, this]
theorem AgrV.was {a0 : Act} {u : Vals} {a : Act} (h : AgrV ops a0 u a) {t : Tmp} (hn : (ops.toList.all fun o => o.dst != some t) = true) : a.eval (.tmp t) = a0.eval (.tmp t) := by
  have := h.old t fun j o hj hd => by
    have hm : o ∈ ops.toList := by
      rw [← Array.getElem?_toList] at hj
      exact List.mem_of_getElem? hj
    have := List.all_eq_true.1 hn o hm
    simp [hd] at this
  simp [Act.eval, Array.getD_eq_getD_getElem?, this]
/-- what an operation does with what has come up -/
def StepV (P : Program) (S : Vals → World → Prop) (u : Vals) (i : Nat) (o : Oper) (a : Act) (w : World) : Prop :=
  o.guard = none ∧ ((∃ v w', (execOp a.eval o).run P w = .ok (.value v) w' ∧ S (u.put i v) w') ∨ (∃ w', (execOp a.eval o).run P w = .ok .skip w' ∧ S (u.put i undef) w') ∨ ∃ f args, (execOp a.eval o).run P w = .ok (.enter f args) w ∧ Calls P f args w fun e w' => ∃ v, e = .returned v ∧ S (u.put i v) w')
theorem flow_anyV {a0 : Act} (S : Vals → World → Prop) (hok : flowOk ops = true)
    (hstep : ∀ (u : Vals) (w : World) (i : Nat) (o : Oper) (a : Act), S u w → u i = none → ops[i]? = some o → (∀ e ∈ o.after, Region.binds .any e = true → ∃ v, u e.on = some v) → AgrV ops a0 u a → StepV P S u i o a w)
    (hend : ∀ (u : Vals) (a : Act) (w : World), (∀ i, i < ops.size → ∃ v, u i = some v) → AgrV ops a0 u a → S u w → Q .normal a w) :
    ∀ (fuel : Nat) (L : Array Bool) (u : Vals) (a : Act) (w : World), unlF L ≤ fuel → L.size = ops.size → (∀ i, L.getD i false = true → ∃ v, u i = some v) → (∀ i, L.getD i true = false → u i = none) → AgrV ops a0 u a → S u w → wpAny P .any ops Q fuel L a w := by
  have hfin : ∀ (L : Array Bool) (u : Vals) (a : Act) (w : World), L.size = ops.size → (∀ i, L.getD i false = true → ∃ v, u i = some v) → AgrV ops a0 u a → S u w → Region.ready .any ops L = [] → Q .normal a w := by
    intro L u a w hL h1 hA hS hr
    have hon := all_on hL (fun i o hi => (flow_spec hok hi).1) hr
    exact hend u a w (fun i hi => h1 i (hon i hi)) hA hS
  intro fuel
  induction fuel with
  | zero =>
    intro L u a w hf hL h1 h2 hA hS
    have hr : Region.ready .any ops L = [] := by
      rw [List.eq_nil_iff_forall_not_mem]
      intro i hi
      obtain ⟨hu, _⟩ := mem_ready.1 hi
      have := unlF_set hu
      omega
    exact ⟨hr, hfin L u a w hL h1 hA hS hr⟩
  | succ fuel ih =>
    intro L u a w hf hL h1 h2 hA hS
    refine ⟨fun hr => hfin L u a w hL h1 hA hS hr, fun i hi => ?_⟩
    obtain ⟨hu, o, ho, hall⟩ := mem_ready.1 hi
    obtain ⟨hg, hst⟩ := hstep u w i o a hS (h2 i hu) ho (fun e he hb => h1 _ (hall e he hb)) hA
    have hnext : ∀ v w', S (u.put i v) w' → wpAny P .any ops Q fuel (L.setIfInBounds i true) (a.put o.dst v) w' := fun v w' hS' => by
      refine ih _ (u.put i v) _ _ (by have := unlF_set hu; omega) (by simpa using hL) (fun j hj => ?_) (fun j hj => ?_) (hA.put hok ho v) hS'
      · by_cases hji : j = i
        · subst hji; exact ⟨v, Vals.put_self _ _ _⟩
        · rw [getD_set_ne false (fun e => hji e.symm)] at hj
          rw [Vals.put_ne _ _ hji]
          exact h1 j hj
      · by_cases hji : j = i
        · subst hji
          exfalso
          have hlt : j < L.size := by
            rcases Nat.lt_or_ge j L.size with h' | h'
            · exact h'
            · rw [Array.getD_eq_getD_getElem?, Array.getElem?_eq_none h'] at hu; cases hu
          rw [Array.getD_eq_getD_getElem?, Array.getElem?_setIfInBounds_self_of_lt hlt] at hj
          cases hj
        · rw [getD_set_ne true (fun e => hji e.symm)] at hj
          rw [Vals.put_ne _ _ hji]
          exact h2 j hj
    unfold wpOp
    simp only [ho]
    rw [if_pos (by simp [Region.wanted, hg])]
    refine .inl ?_
    unfold Oper.wp
    rcases hst with ⟨v, w', h3, h4⟩ | ⟨w', h3, h4⟩ | ⟨f, args, h3, h4⟩
    · rw [h3]
      exact hnext v w' h4
    · rw [h3]
      exact hnext undef w' h4
    · rw [h3, Oper.upon_enter]
      refine Calls.mono h4 ?_
      rintro e w' ⟨v, rfl, h5⟩
      exact hnext v w' h5
/-- **A REGION THAT DRAWS ITS ORDER, BY WHAT HOLDS OF THE VALUES THAT HAVE COME UP** -/
theorem region_flowV {l : List Oper} {id : Nat} {a : Act} {w : World} (S : Vals → World → Prop) (hm : P.follows .mixedOrders = true) (hok : flowOk l.toArray = true) (hS : S (fun _ => none) w.drew)
    (hstep : ∀ (u : Vals) (w : World) (i : Nat) (o : Oper) (b : Act), S u w → u i = none → l[i]? = some o → (∀ e ∈ o.after, Region.binds .any e = true → ∃ v, u e.on = some v) → AgrV l.toArray a u b → StepV P S u i o b w)
    (hend : ∀ (u : Vals) (vs : List Value) (w' : World), vs.length = l.length → (∀ i, i < l.length → u i = vs[i]?) → S u w' → ∃ F, flowEnd l vs a = F ∧ Q .normal F w') : (Code.region id l.toArray true).wp P Q a w := by
  refine wp_region_any hm (flow_anyV (a0 := a) S hok (fun u w i o b h1 h2 h3 h4 h5 => hstep u w i o b h1 h2 (by simpa using h3) h4 h5) (fun u b w' h1 h2 h3 => ?_) _ _ (fun _ => none) a _ ?_ (by simp) (fun i hi => ?_) (fun _ _ => rfl) ⟨rfl, rfl, (fun _ _ _ _ _ _ h => by cases h), fun _ _ => rfl⟩ hS)
  · obtain ⟨vs, hvl, hvs⟩ : ∃ vs : List Value, vs.length = l.length ∧ ∀ i, i < l.length → u i = vs[i]? := by
      have key : ∀ n, n ≤ l.length → ∃ vs : List Value, vs.length = n ∧ ∀ i, i < n → u i = vs[i]? := by
        intro n
        induction n with
        | zero => intro _; exact ⟨[], rfl, fun i h => by omega⟩
        | succ n ih =>
          intro hn
          obtain ⟨vs, hl, hv⟩ := ih (by omega)
          obtain ⟨v, hvn⟩ := h1 n (by simp; omega)
          refine ⟨vs ++ [v], by simp [hl], fun i hi => ?_⟩
          by_cases hin : i < n
          · rw [List.getElem?_append_left (by omega)]; exact hv i hin
          · obtain rfl : i = n := by omega
            rw [List.getElem?_append_right (by omega), hl, Nat.sub_self, hvn]; rfl
      exact key _ (Nat.le_refl _)
    have hpw : l.Pairwise (fun x y => ∀ d, x.dst = some d → y.dst ≠ some d) := by
      rw [List.pairwise_iff_getElem]
      intro i j hi hj hij d q1 q2
      exact ((flow_spec hok (i := j) (o := l[j]) (by simp [hj])).2 i l[i] d (by simp [hi]) q1).2 (by omega) q2
    obtain ⟨hs1, hs2⟩ := flow_size l vs a
    have hb : b = flowEnd l vs a := by
      have e1 : b.tmps = (flowEnd l vs a).tmps := Array.ext_getElem? fun t => by
        by_cases hex : ∃ (j : Nat) (o : Oper), l[j]? = some o ∧ o.dst = some t
        · obtain ⟨j, o, hj, hd⟩ := hex
          have hjl := (List.getElem?_eq_some_iff.1 hj).1
          obtain ⟨v, hv⟩ := h1 j (by simpa using hjl)
          rw [h2.get j o t v (by simpa using hj) hd hv, flow_at l vs a hvl hpw j o v hj (by rw [← hvs j hjl]; exact hv) hd]
        · have hno : ∀ o ∈ l, o.dst ≠ some t := fun o ho e => by
            obtain ⟨j, hj⟩ := List.getElem?_of_mem ho
            exact hex ⟨j, o, hj, e⟩
          rw [flow_ne l vs a hno]
          exact h2.old t fun j o hj hd => absurd hd (hno o (List.mem_of_getElem? (by simpa using hj)))
      have e2 : b.defers = (flowEnd l vs a).defers := h2.def_.trans hs2.symm
      cases b
      cases hf : flowEnd l vs a
      rw [hf] at e1 e2
      simp only at e1 e2
      rw [e1, e2]
    obtain ⟨F, hF, hQ⟩ := hend u vs w' hvl hvs h3
    rw [hb, hF]
    exact hQ
  · unfold unlF
    refine Nat.le_trans List.count_le_length ?_
    simp
  · exfalso
    revert hi
    rw [Array.getD_eq_getD_getElem?, Array.getElem?_replicate]
    split <;> simp
end
end Go.Proofs.Ytikijkpklneihaa
namespace Go.Proofs.Ytikijkpklneihaa
open Go.RowKit
set_option linter.unusedVariables false
set_option linter.unusedSimpArgs false

/-! ### a value that is put behind a field's row, in a drawn region -/
theorem put_eqs (u : Vals) (j : Nat) (v : Value) : ∀ k, k ≠ j → u.put j v k = u k := fun k hk => Vals.put_ne _ _ hk
theorem put_eq_self (u : Vals) (j : Nat) (v : Value) : u.put j v j = some v := Vals.put_self _ _ _
def hdr (fo : Nat) (a b : Value) : Array Value := if fo = 0 then #[a, b] else #[b, a]
theorem hdr_at {fo : Nat} (hf : fo < 2) (a b : Value) : (hdr fo a b)[fo]? = some a := by
  rcases fo with _ | _ | fo
  · rfl
  · rfl
  · omega
theorem hdr_set {fo : Nat} (hf : fo < 2) (a b y : Value) : (hdr fo a b).setIfInBounds fo y = hdr fo y b := by
  rcases fo with _ | _ | fo
  · rfl
  · rfl
  · omega
def z3c : List Value := [.int .i64 0, .int .i64 0, .slice none 0 0]
theorem row_cells {W : World} {lo n g c : Nat} {e : TypeId} {xs : List Value} (h : W.ownsRow lo e 3 (.slice (some ⟨g, 0, none⟩) (n + 1) c) (n + 1) xs) : ∃ u0 u1 u2, W.cell? ⟨g, n * 3, none⟩ = some u0 ∧ W.cell? ⟨g, n * 3 + 1, none⟩ = some u1 ∧ W.cell? ⟨g, n * 3 + 2, none⟩ = some u2 ∧ (∀ o, W.frozen? ⟨g, o, none⟩ = false) ∧ g < W.heap.size := by
  rcases h.2 with ⟨e1, _⟩ | ⟨g', cap, cur, e1, h1, h2, h3, h4, h5, h6⟩
  · cases e1
  · simp only [Value.slice.injEq, Option.some.injEq, Addr.mk.injEq] at e1
    obtain ⟨⟨rfl, _⟩, _, rfl⟩ := e1
    exact ⟨cur[n * 3]'(by omega), cur[n * 3 + 1]'(by omega), cur[n * 3 + 2]'(by omega), cell_blk h2 (Array.getElem?_eq_getElem _), cell_blk h2 (Array.getElem?_eq_getElem _), cell_blk h2 (Array.getElem?_eq_getElem _), fun o => frz_blk h2, heap_lt h2⟩
/-- what is so throughout: jl the row's load, jc the value's, jb a slice of one, ja append, jx its place, js the store there, jh the row's store -/
structure KpS (w0 : World) (lo h fo : Nat) (vv ot : Value) (n : Nat) (cs : List Value) (x : V) (own : Bool) (p0 : Option Addr) (c0 : Nat) (cv : Nat → Option Value) (jl jc jb ja jx js jh : Nat) (u : Vals) (w : World) : Prop where
  os : w.os = w0.os
  tape : w.tape = w0.tape
  output : w.output = w0.output
  size : w0.heap.size ≤ w.heap.size
  blk : ∀ b, b < w0.heap.size → b ≠ h → vv.ownBlock ≠ some b → w.heap[b]? = w0.heap[b]?
  pur : ∀ k v, u k = some v → ∀ c, cv k = some c → v = c
  hd0 : u jh = none → w.heap[h]? = some (.cells (hdr fo vv ot) 30 (0, 0))
  hd1 : ∀ y, u ja = some y → u jh ≠ none → w.heap[h]? = some (.cells (hdr fo y ot) 30 (0, 0))
  row : u ja = none → w.ownsRow lo 24 3 vv n cs
  bs : ∀ v, u jb = some v → u ja = none → ∃ g, v = .slice (some ⟨g, 0, none⟩) 1 1 ∧ w0.heap.size ≤ g ∧ w.heap[g]? = some (.cells z3c.toArray 24 (0, 0))
  call : ∀ v, u jc = some v → ∃ p c, v = agV x.k x.n p x.l.length c ∧ (own = false → p = p0 ∧ c = c0) ∧ (own = true → ∃ s t, w0.heap.size ≤ s ∧ t ≤ w.heap.size ∧ Prv w s t 1 x p c ∧ (∀ y, u ja = some y → ∀ b, s ≤ b → b < t → y.ownBlock ≠ some b))
  app : ∀ v, u ja = some v → ∃ g c, v = .slice (some ⟨g, 0, none⟩) (n + 1) c ∧ n + 1 ≤ c ∧ (vv.ownBlock = some g ∨ w0.heap.size ≤ g) ∧ (u js = none → w.ownsRow lo 24 3 v (n + 1) (cs ++ z3c)) ∧ ∀ y, u js ≠ none → u jc = some y → ∃ p c', y = agV x.k x.n p x.l.length c' ∧ w.ownsRow lo 24 3 v (n + 1) (cs ++ [.int .i64 x.k, .int .i64 x.n, .slice p x.l.length c'])
  ptr : ∀ v, u jx = some v → ∃ g c, u ja = some (.slice (some ⟨g, 0, none⟩) (n + 1) c) ∧ v = .pointer (some ⟨g, n * 3, none⟩)
  d1 : u ja ≠ none → u jl ≠ none
  d2 : u jh ≠ none → u ja ≠ none
  d3 : u js ≠ none → u jc ≠ none ∧ u ja ≠ none
  vlt : ∀ b, vv.ownBlock = some b → b < w0.heap.size
  d4 : u ja ≠ none → u jb ≠ none
section
variable {w0 : World} {lo h fo : Nat} {vv ot : Value} {n : Nat} {cs : List Value} {x : V} {own : Bool} {p0 : Option Addr} {c0 : Nat} {cv : Nat → Option Value} {jl jc jb ja jx js jh : Nat} {u : Vals} {w : World}
theorem KpS.get (H : KpS w0 lo h fo vv ot n cs x own p0 c0 cv jl jc jb ja jx js jh u w) {k : Nat} (hk : ∃ v, u k = some v) {c : Value} (hc : cv k = some c) : u k = some c := by
  obtain ⟨v, hv⟩ := hk
  rw [hv, H.pur k v hv c hc]
/-- a value that hangs on nothing -/
theorem KpS.pure (H : KpS w0 lo h fo vv ot n cs x own p0 c0 cv jl jc jb ja jx js jh u w) {k : Nat} {v : Value} (hk : k ≠ jb ∧ k ≠ ja ∧ k ≠ jx ∧ k ≠ js ∧ k ≠ jh) (hkc : k = jc → own = false ∧ v = agV x.k x.n p0 x.l.length c0 ∧ u js = none) (hv : cv k = some v) : KpS w0 lo h fo vv ot n cs x own p0 c0 cv jl jc jb ja jx js jh (u.put k v) w := by
  obtain ⟨k1, k2, k3, k4, k5⟩ := hk
  have e1 := put_eqs u k v jb (Ne.symm k1)
  have e2 := put_eqs u k v ja (Ne.symm k2)
  have e3 := put_eqs u k v jx (Ne.symm k3)
  have e4 := put_eqs u k v js (Ne.symm k4)
  have e5 := put_eqs u k v jh (Ne.symm k5)
  have ne : ∀ j, u j ≠ none → u.put k v j ≠ none := fun j hj => by
    by_cases e : j = k
    · subst e; rw [put_eq_self]; simp
    · rw [put_eqs u k v j e]; exact hj
  refine ⟨H.os, H.tape, H.output, H.size, H.blk, fun k' v' hk' c hc => ?_, ?_, ?_, ?_, ?_, fun v' hv' => ?_, fun v' hv' => ?_, ?_, ?_, ?_, ?_, H.vlt, by rw [e1, e2]; exact H.d4⟩
  · by_cases e : k' = k
    · subst e
      rw [put_eq_self] at hk'
      rw [hv] at hc
      exact (Option.some.inj hk').symm.trans (Option.some.inj hc)
    · rw [put_eqs u k v k' e] at hk'
      exact H.pur k' v' hk' c hc
  · rw [e5]; exact H.hd0
  · rw [e2, e5]; exact H.hd1
  · rw [e2]; exact H.row
  · rw [e1, e2]; exact H.bs
  · rw [e2]
    by_cases e : jc = k
    · obtain ⟨q1, q2, _⟩ := hkc e.symm
      subst e
      rw [put_eq_self] at hv'
      obtain rfl := Option.some.inj hv'
      exact ⟨p0, c0, q2, fun _ => ⟨rfl, rfl⟩, fun e => by rw [q1] at e; cases e⟩
    · rw [put_eqs u k v jc e] at hv'
      exact H.call v' hv'
  · rw [e2] at hv'
    rw [e4]
    obtain ⟨g, c, a1, a2, a3, a4, a5⟩ := H.app v' hv'
    refine ⟨g, c, a1, a2, a3, a4, fun y hy hc => ?_⟩
    by_cases e : jc = k
    · exact absurd (hkc e.symm).2.2 hy
    · rw [put_eqs u k v jc e] at hc
      exact a5 y hy hc
  · rw [e2, e3]; exact H.ptr
  · rw [e2]; exact fun hj => ne jl (H.d1 hj)
  · rw [e2, e5]; exact H.d2
  · rw [e2, e4]; exact fun hj => ⟨ne jc (H.d3 hj).1, (H.d3 hj).2⟩
/-- the place behind the row -/
theorem KpS.place (H : KpS w0 lo h fo vv ot n cs x own p0 c0 cv jl jc jb ja jx js jh u w) (hN : jx ≠ jb ∧ jx ≠ ja ∧ jx ≠ jl ∧ jx ≠ js ∧ jx ≠ jh ∧ jx ≠ jc) (hc : cv jx = none) {g c : Nat} (ha : u ja = some (.slice (some ⟨g, 0, none⟩) (n + 1) c)) : KpS w0 lo h fo vv ot n cs x own p0 c0 cv jl jc jb ja jx js jh (u.put jx (.pointer (some ⟨g, n * 3, none⟩))) w := by
  obtain ⟨k1, k2, k3, k4, k5, k6⟩ := hN
  obtain ⟨pv, hpv⟩ : ∃ pv, Value.pointer (some ⟨g, n * 3, none⟩) = pv := ⟨_, rfl⟩
  rw [hpv]
  have e1 := put_eqs u jx pv jb (Ne.symm k1)
  have e2 := put_eqs u jx pv ja (Ne.symm k2)
  have e3 := put_eqs u jx pv jl (Ne.symm k3)
  have e4 := put_eqs u jx pv js (Ne.symm k4)
  have e5 := put_eqs u jx pv jh (Ne.symm k5)
  have e6 := put_eqs u jx pv jc (Ne.symm k6)
  refine ⟨H.os, H.tape, H.output, H.size, H.blk, fun k' v' hk' c hc' => ?_, ?_, ?_, ?_, ?_, ?_, ?_, fun v hv => ?_, ?_, ?_, ?_, H.vlt, by rw [e1, e2]; exact H.d4⟩
  · by_cases e : k' = jx
    · subst e; rw [hc] at hc'; cases hc'
    · rw [put_eqs u jx pv k' e] at hk'; exact H.pur k' v' hk' c hc'
  · rw [e5]; exact H.hd0
  · rw [e2, e5]; exact H.hd1
  · rw [e2]; exact H.row
  · rw [e1, e2]; exact H.bs
  · rw [e2, e6]; exact H.call
  · rw [e2, e4, e6]; exact H.app
  · rw [put_eq_self] at hv
    rw [e2]
    exact ⟨g, c, ha, (Option.some.inj hv).symm.trans hpv.symm⟩
  · rw [e2, e3]; exact H.d1
  · rw [e2, e5]; exact H.d2
  · rw [e2, e4, e6]; exact H.d3
/-- a slice of one zero -/
theorem KpS.build (H : KpS w0 lo h fo vv ot n cs x own p0 c0 cv jl jc jb ja jx js jh u w) (hN : jb ≠ jx ∧ jb ≠ ja ∧ jb ≠ jl ∧ jb ≠ js ∧ jb ≠ jh ∧ jb ≠ jc) (hc : cv jb = none) (hna : u ja = none) : KpS w0 lo h fo vv ot n cs x own p0 c0 cv jl jc jb ja jx js jh (u.put jb (.slice (some ⟨w.heap.size, 0, none⟩) 1 1)) (w.alloc (.cells z3c.toArray 24)) := by
  obtain ⟨k1, k2, k3, k4, k5, k6⟩ := hN
  have hb := below1 w (.cells z3c.toArray 24)
  have hq : ∀ {b : Nat} {o : Obj}, w.heap[b]? = some o → (w.alloc (.cells z3c.toArray 24)).heap[b]? = some o := fun {b o} ho => (hb.block b (heap_lt ho)).trans ho
  obtain ⟨pv, hpv⟩ : ∃ pv, Value.slice (some ⟨w.heap.size, 0, none⟩) 1 1 = pv := ⟨_, rfl⟩
  rw [hpv]
  have e1 := put_eqs u jb pv jx (Ne.symm k1)
  have e2 := put_eqs u jb pv ja (Ne.symm k2)
  have e3 := put_eqs u jb pv jl (Ne.symm k3)
  have e4 := put_eqs u jb pv js (Ne.symm k4)
  have e5 := put_eqs u jb pv jh (Ne.symm k5)
  have e6 := put_eqs u jb pv jc (Ne.symm k6)
  refine ⟨hb.os.trans H.os, hb.tape.trans H.tape, hb.output.trans H.output, Nat.le_trans H.size hb.size, fun b h1 h2 h3 => (hb.block b (Nat.lt_of_lt_of_le h1 H.size)).trans (H.blk b h1 h2 h3), fun k' v' hk' c hc' => ?_, fun hu => ?_, fun y hy => ?_, fun hu => own_new (H.row hna) hb, fun v hv _ => ?_, fun v hv => ?_, fun v hv => ?_, ?_, ?_, ?_, ?_, H.vlt, fun _ => by rw [put_eq_self]; simp⟩
  · by_cases e : k' = jb
    · subst e; rw [hc] at hc'; cases hc'
    · rw [put_eqs u jb pv k' e] at hk'; exact H.pur k' v' hk' c hc'
  · rw [e5] at hu; exact hq (H.hd0 hu)
  · rw [e2, hna] at hy; cases hy
  · rw [put_eq_self] at hv
    obtain rfl := Option.some.inj hv
    exact ⟨w.heap.size, hpv.symm, H.size, World.alloc_heap_new _ _⟩
  · rw [e6] at hv
    rw [e2, hna]
    obtain ⟨p, c, q1, q2, q3⟩ := H.call v hv
    refine ⟨p, c, q1, q2, fun ho => ?_⟩
    obtain ⟨s, t, s1, s2, s3, _⟩ := q3 ho
    exact ⟨s, t, s1, Nat.le_trans s2 hb.size, s3.keep fun b _ _ h3 => hb.block b h3, fun y hy => by cases hy⟩
  · rw [e2, hna] at hv; cases hv
  · rw [e1, e2]; exact H.ptr
  · rw [e2, e3]; exact H.d1
  · rw [e2, e5]; exact H.d2
  · rw [e2, e4, e6]; exact H.d3
/-- append -/
theorem KpS.append (H : KpS w0 lo h fo vv ot n cs x own p0 c0 cv jl jc jb ja jx js jh u w) (hN : ja ≠ jx ∧ ja ≠ jb ∧ ja ≠ jl ∧ ja ≠ js ∧ ja ≠ jh ∧ ja ≠ jc) (hc : cv ja = none) (hna : u ja = none) (hl : u jl ≠ none) {g0 : Nat} (hb : u jb = some (.slice (some ⟨g0, 0, none⟩) 1 1)) (hlo : lo ≤ w0.heap.size) (hhl : h < lo) (hn : n ≤ 1000000) :
    ∃ g c W3, (∀ ty, (Builtin.append_ #[22, 22] ty #[vv, .slice (some ⟨g0, 0, none⟩) 1 1]).run Try.prog w = .ok (.slice (some ⟨g, 0, none⟩) (n + 1) c) W3) ∧ KpS w0 lo h fo vv ot n cs x own p0 c0 cv jl jc jb ja jx js jh (u.put ja (.slice (some ⟨g, 0, none⟩) (n + 1) c)) W3 := by
  obtain ⟨k1, k2, k3, k4, k5, k6⟩ := hN
  obtain ⟨g1, b1, b2, b3⟩ := H.bs _ hb hna
  simp only [Value.slice.injEq, Option.some.injEq, Addr.mk.injEq, and_true] at b1
  obtain rfl := b1
  have ho := H.row hna
  have hsz := H.size
  obtain ⟨i0, hi, hz0, hz1, hz2⟩ := info_parts infoVl
  obtain ⟨g, c, W3, r1, r2, r3, r4, _⟩ := run_append_lies (P := Try.prog) w 22 24 lo 24 i0 _ _ _ Try.underlying22 hi hz0 hz1 hz2 rfl (by decide) vv n cs ho ⟨g0, 0, none⟩ 1 1 z3c (by simp [z3c]) (block_cells _ _ _ _ b3) (by simp [z3c, Value.oneCell']) (by omega) (by unfold maxLen; omega) (by omega) (by omega) _ rfl
  have hcap : n + 1 ≤ c := by
    rcases r2.2 with ⟨e1, _⟩ | ⟨g', cap', cur, e1, _, _, q1, _⟩
    · cases e1
    · simp only [Value.slice.injEq] at e1
      obtain ⟨_, _, rfl⟩ := e1
      exact q1
  have hg3 : vv.ownBlock = some g ∨ w.heap.size ≤ g := r4.elim .inl fun e => .inr (by omega)
  obtain ⟨pv, hpv⟩ : ∃ pv, Value.slice (some ⟨g, 0, none⟩) (n + 1) c = pv := ⟨_, rfl⟩
  have hvl : ∀ b, vv.ownBlock = some b → lo ≤ b := fun b hb => own_base ho b hb
  have hvw : ∀ b, vv.ownBlock = some b → b < w.heap.size := fun b hb => (owns_block ho hb).2
  refine ⟨g, c, W3, fun ty => r1, ?_⟩
  rw [hpv]
  have e1 := put_eqs u ja pv jx (Ne.symm k1)
  have e2 := put_eqs u ja pv jb (Ne.symm k2)
  have e3 := put_eqs u ja pv jl (Ne.symm k3)
  have e4 := put_eqs u ja pv js (Ne.symm k4)
  have e5 := put_eqs u ja pv jh (Ne.symm k5)
  have e6 := put_eqs u ja pv jc (Ne.symm k6)
  have hjh : u jh = none := by
    cases hh : u jh with
    | none => rfl
    | some y => exact absurd hna (H.d2 (by rw [hh]; simp))
  have hjs : u js = none := by
    cases hh : u js with
    | none => rfl
    | some y => exact absurd hna (H.d3 (by rw [hh]; simp)).2
  refine ⟨r3.os.trans H.os, r3.tape.trans H.tape, r3.output.trans H.output, Nat.le_trans H.size r3.size, fun b h1 h2 h3 => (r3.block b (by omega) (Ne.symm h3)).trans (H.blk b h1 h2 h3), fun k' v' hk' c hc' => ?_, fun hu => ?_, fun y hy hu => ?_, fun hu => ?_, fun v hv hu => ?_, fun v hv => ?_, fun v hv => ?_, fun v hv => ?_, fun _ => by rw [e3]; exact hl, fun _ => by rw [put_eq_self]; simp, fun hu => by rw [e4, hjs] at hu; exact absurd rfl hu, H.vlt, fun _ => by rw [e2, hb]; simp⟩
  · by_cases e : k' = ja
    · subst e; rw [hc] at hc'; cases hc'
    · rw [put_eqs u ja pv k' e] at hk'; exact H.pur k' v' hk' c hc'
  · rw [r3.block h (by omega) (fun e => by have := hvl h e.symm; omega)]
    exact H.hd0 hjh
  · rw [e5, hjh] at hu; exact absurd rfl hu
  · rw [put_eq_self] at hu; cases hu
  · rw [put_eq_self] at hu; cases hu
  · rw [e6] at hv
    obtain ⟨p, c', q1, q2, q3⟩ := H.call v hv
    refine ⟨p, c', q1, q2, fun hq => ?_⟩
    obtain ⟨s, t, s1, s2, s3, _⟩ := q3 hq
    refine ⟨s, t, s1, Nat.le_trans s2 r3.size, s3.keep fun b h1 h2 h3 => r3.block b h3 fun e => ?_, fun y hy b h1 h2 hyb => ?_⟩
    · have := H.vlt b e.symm
      omega
    · rw [put_eq_self] at hy
      obtain rfl := Option.some.inj hy
      rw [← hpv] at hyb
      simp only [Value.ownBlock, Option.some.injEq] at hyb
      subst hyb
      rcases hg3 with h3 | h3
      · have := H.vlt _ h3
        omega
      · omega
  · rw [put_eq_self] at hv
    obtain rfl := Option.some.inj hv
    rw [e4, hjs]
    exact ⟨g, c, hpv.symm, hcap, hg3.elim .inl fun e => .inr (by omega), fun _ => by rw [← hpv]; exact r2, fun y hy => absurd rfl hy⟩
  · rw [e1] at hv
    obtain ⟨g', c', q, _⟩ := H.ptr v hv
    rw [hna] at q; cases q
/-- a call that makes a tree -/
theorem KpS.called (H : KpS w0 lo h fo vv ot n cs x own p0 c0 cv jl jc jb ja jx js jh u w) (hN : jc ≠ jx ∧ jc ≠ jb ∧ jc ≠ jl ∧ jc ≠ js ∧ jc ≠ jh ∧ jc ≠ ja) (hc : cv jc = none) (hnc : u jc = none) (hown : own = true) {w' : World} {p : Option Addr} {c : Nat} (hb : Below w.heap.size w w') (hp : Prv w' w.heap.size w'.heap.size 1 x p c) (hhw : h < w.heap.size) :
    KpS w0 lo h fo vv ot n cs x own p0 c0 cv jl jc jb ja jx js jh (u.put jc (agV x.k x.n p x.l.length c)) w' := by
  obtain ⟨k1, k2, k3, k4, k5, k6⟩ := hN
  obtain ⟨pv, hpv⟩ : ∃ pv, agV x.k x.n p x.l.length c = pv := ⟨_, rfl⟩
  have hq : ∀ {b : Nat} {o : Obj}, w.heap[b]? = some o → w'.heap[b]? = some o := fun {b o} ho => (hb.block b (heap_lt ho)).trans ho
  rw [hpv]
  have e1 := put_eqs u jc pv jx (Ne.symm k1)
  have e2 := put_eqs u jc pv jb (Ne.symm k2)
  have e3 := put_eqs u jc pv jl (Ne.symm k3)
  have e4 := put_eqs u jc pv js (Ne.symm k4)
  have e5 := put_eqs u jc pv jh (Ne.symm k5)
  have e6 := put_eqs u jc pv ja (Ne.symm k6)
  have hjs : u js = none := by
    cases hh : u js with
    | none => rfl
    | some y => exact absurd hnc (H.d3 (by rw [hh]; simp)).1
  refine ⟨hb.os.trans H.os, hb.tape.trans H.tape, hb.output.trans H.output, Nat.le_trans H.size hb.size, fun b h1 h2 h3 => (hb.block b (Nat.lt_of_lt_of_le h1 H.size)).trans (H.blk b h1 h2 h3), fun k' v' hk' c hc' => ?_, fun hu => ?_, fun y hy hu => ?_, fun hu => ?_, fun v hv hu => ?_, fun v hv => ?_, fun v hv => ?_, ?_, ?_, ?_, fun hu => ?_, H.vlt, by rw [e2, e6]; exact H.d4⟩
  · by_cases e : k' = jc
    · subst e; rw [hc] at hc'; cases hc'
    · rw [put_eqs u jc pv k' e] at hk'; exact H.pur k' v' hk' c hc'
  · rw [e5] at hu; exact hq (H.hd0 hu)
  · rw [e6] at hy; rw [e5] at hu; exact hq (H.hd1 y hy hu)
  · rw [e6] at hu; exact own_new (H.row hu) hb
  · rw [e2] at hv; rw [e6] at hu
    obtain ⟨g, a1, a2, a3⟩ := H.bs v hv hu
    exact ⟨g, a1, a2, hq a3⟩
  · rw [put_eq_self] at hv
    obtain rfl := Option.some.inj hv
    refine ⟨p, c, hpv.symm, fun e => (by rw [hown] at e; cases e), fun _ => ⟨w.heap.size, w'.heap.size, H.size, Nat.le_refl _, hp, fun y hy b h1 _ hyb => ?_⟩⟩
    rw [e6] at hy
    obtain ⟨g, c', a1, _, _, a4, _⟩ := H.app y hy
    have := (owns_block (a4 hjs) hyb).2
    omega
  · rw [e6] at hv
    rw [e4, hjs]
    obtain ⟨g, c', a1, a2, a3, a4, a5⟩ := H.app v hv
    exact ⟨g, c', a1, a2, a3, fun _ => own_new (a4 hjs) hb, fun y hy => absurd rfl hy⟩
  · rw [e1, e6]; exact H.ptr
  · rw [e6, e3]; exact H.d1
  · rw [e5, e6]; exact H.d2
  · rw [e4, hjs] at hu; exact absurd rfl hu
/-- the value is stored behind the row -/
theorem KpS.stored (H : KpS w0 lo h fo vv ot n cs x own p0 c0 cv jl jc jb ja jx js jh u w) (hN : js ≠ jx ∧ js ≠ jb ∧ js ≠ jl ∧ js ≠ jc ∧ js ≠ jh ∧ js ≠ ja) (hc : cv js = none) (hns : u js = none) (hlen : cs.length = n * 3) (hhl : h < lo) {g c : Nat} (ha : u ja = some (.slice (some ⟨g, 0, none⟩) (n + 1) c)) {p : Option Addr} {c' : Nat} (hcl : u jc = some (agV x.k x.n p x.l.length c')) (y : Value) :
    KpS w0 lo h fo vv ot n cs x own p0 c0 cv jl jc jb ja jx js jh (u.put js y) (((w.setCell ⟨g, n * 3, none⟩ (.int .i64 x.k)).setCell ⟨g, n * 3 + 1, none⟩ (.int .i64 x.n)).setCell ⟨g, n * 3 + 2, none⟩ (.slice p x.l.length c')) := by
  obtain ⟨k1, k2, k3, k4, k5, k6⟩ := hN
  have e1 := put_eqs u js y jx (Ne.symm k1)
  have e2 := put_eqs u js y jb (Ne.symm k2)
  have e3 := put_eqs u js y jl (Ne.symm k3)
  have e4 := put_eqs u js y jc (Ne.symm k4)
  have e5 := put_eqs u js y jh (Ne.symm k5)
  have e6 := put_eqs u js y ja (Ne.symm k6)
  obtain ⟨g', c2, a1, a2, a3, a4, _⟩ := H.app _ ha
  simp only [Value.slice.injEq, Option.some.injEq, Addr.mk.injEq, and_true, true_and] at a1
  obtain ⟨rfl, rfl⟩ := a1
  have hrow := own_last3 (.int .i64 x.k) (.int .i64 x.n) (.slice p x.l.length c') (a4 hns) hlen
  have hglo : lo ≤ g := (owns_block (a4 hns) rfl).1
  obtain ⟨W2, hW2⟩ : ∃ W2, ((w.setCell ⟨g, n * 3, none⟩ (.int .i64 x.k)).setCell ⟨g, n * 3 + 1, none⟩ (.int .i64 x.n)).setCell ⟨g, n * 3 + 2, none⟩ (.slice p x.l.length c') = W2 := ⟨_, rfl⟩
  have hoth : ∀ b, b ≠ g → W2.heap[b]? = w.heap[b]? := fun b hb => by
    rw [← hW2, Below.heap_setCell _ _ _ _ hb, Below.heap_setCell _ _ _ _ hb, Below.heap_setCell _ _ _ _ hb]
  have hsz : W2.heap.size = w.heap.size := by rw [← hW2]; simp [World.size_setCell]
  have hos : W2.os = w.os ∧ W2.tape = w.tape ∧ W2.output = w.output := by rw [← hW2]; exact ⟨rfl, rfl, rfl⟩
  rw [hW2] at hrow ⊢
  refine ⟨hos.1.trans H.os, hos.2.1.trans H.tape, hos.2.2.trans H.output, by rw [hsz]; exact H.size, fun b h1 h2 h3 => ?_, fun k' v' hk' c hc' => ?_, fun hu => ?_, fun z hz hu => ?_, fun hu => ?_, fun v hv hu => ?_, fun v hv => ?_, fun v hv => ?_, ?_, ?_, ?_, fun _ => ?_, H.vlt, by rw [e2, e6]; exact H.d4⟩
  · rw [hoth b (fun e => by
      subst e
      rcases a3 with a3 | a3
      · exact h3 a3
      · omega)]
    exact H.blk b h1 h2 h3
  · by_cases e : k' = js
    · subst e; rw [hc] at hc'; cases hc'
    · rw [put_eqs u js y k' e] at hk'; exact H.pur k' v' hk' c hc'
  · rw [e5] at hu; rw [hoth h (by omega)]; exact H.hd0 hu
  · rw [e6] at hz; rw [e5] at hu; rw [hoth h (by omega)]; exact H.hd1 z hz hu
  · rw [e6, ha] at hu; cases hu
  · rw [e6, ha] at hu; cases hu
  · rw [e4] at hv
    obtain ⟨p', c3, q1, q2, q3⟩ := H.call v hv
    refine ⟨p', c3, q1, q2, fun ho => ?_⟩
    obtain ⟨s, t, s1, s2, s3, s4⟩ := q3 ho
    exact ⟨s, t, s1, by omega, s3.keep fun b h1 h2 _ => hoth b fun e => s4 _ ha b h1 h2 (by rw [e]; rfl), fun z hz => by rw [e6] at hz; exact s4 z hz⟩
  · rw [e6, ha] at hv
    obtain rfl := Option.some.inj hv
    refine ⟨g, c, rfl, a2, a3, fun hu => (by rw [put_eq_self] at hu; cases hu), fun z _ hz => ?_⟩
    rw [e4, hcl] at hz
    exact ⟨p, c', (Option.some.inj hz).symm, hrow⟩
  · rw [e1, e6]; exact H.ptr
  · rw [e6, e3]; exact H.d1
  · rw [e5, e6]; exact H.d2
  · rw [e4, e6, hcl, ha]; simp
/-- the row is stored in its field -/
theorem KpS.headed (H : KpS w0 lo h fo vv ot n cs x own p0 c0 cv jl jc jb ja jx js jh u w) (hN : jh ≠ jx ∧ jh ≠ jb ∧ jh ≠ jl ∧ jh ≠ jc ∧ jh ≠ js ∧ jh ≠ ja) (hc : cv jh = none) (hnh : u jh = none) (hfo : fo < 2) (hhl : h < lo) (hlo : lo ≤ w0.heap.size) {av : Value} (ha : u ja = some av) (hst : ∀ s t : Nat, own = true → w0.heap.size ≤ s → ¬ (s ≤ h ∧ h < t)) (y : Value) :
    KpS w0 lo h fo vv ot n cs x own p0 c0 cv jl jc jb ja jx js jh (u.put jh y) (w.setCell ⟨h, fo, none⟩ av) := by
  obtain ⟨k1, k2, k3, k4, k5, k6⟩ := hN
  have e1 := put_eqs u jh y jx (Ne.symm k1)
  have e2 := put_eqs u jh y jb (Ne.symm k2)
  have e3 := put_eqs u jh y jl (Ne.symm k3)
  have e4 := put_eqs u jh y jc (Ne.symm k4)
  have e5 := put_eqs u jh y js (Ne.symm k5)
  have e6 := put_eqs u jh y ja (Ne.symm k6)
  have hoth : ∀ b, b ≠ h → (w.setCell ⟨h, fo, none⟩ av).heap[b]? = w.heap[b]? := fun b hb => Below.heap_setCell _ _ _ _ hb
  have hhd := set1b (H.hd0 hnh) fo av
  rw [hdr_set hfo] at hhd
  have hown : ∀ {B n c : Nat} {v : Value} {xs : List Value}, w.ownsRow lo 24 3 v n xs → (w.setCell ⟨h, fo, none⟩ av).ownsRow lo 24 3 v n xs := fun {B n c v xs} ho => own_same ho fun g o hg hgo => by
    rw [hoth g (by have := own_base ho g hg; omega)]
    exact hgo
  refine ⟨H.os, H.tape, H.output, by simpa [World.size_setCell] using H.size, fun b h1 h2 h3 => ?_, fun k' v' hk' c hc' => ?_, fun hu => ?_, fun z hz hu => ?_, fun hu => ?_, fun v hv hu => ?_, fun v hv => ?_, fun v hv => ?_, ?_, ?_, fun _ => by rw [e6, ha]; simp, ?_, H.vlt, by rw [e2, e6]; exact H.d4⟩
  · rw [hoth b h2]; exact H.blk b h1 h2 h3
  · by_cases e : k' = jh
    · subst e; rw [hc] at hc'; cases hc'
    · rw [put_eqs u jh y k' e] at hk'; exact H.pur k' v' hk' c hc'
  · rw [put_eq_self] at hu; cases hu
  · rw [e6, ha] at hz
    obtain rfl := Option.some.inj hz
    exact hhd
  · rw [e6, ha] at hu; cases hu
  · rw [e6, ha] at hu; cases hu
  · rw [e4] at hv
    obtain ⟨p', c3, q1, q2, q3⟩ := H.call v hv
    refine ⟨p', c3, q1, q2, fun ho => ?_⟩
    obtain ⟨s, t, s1, s2, s3, s4⟩ := q3 ho
    exact ⟨s, t, s1, by simpa [World.size_setCell] using s2, s3.keep fun b h1 h2 _ => hoth b fun e => hst s t ho s1 (by subst e; exact ⟨h1, h2⟩), fun z hz => by rw [e6] at hz; exact s4 z hz⟩
  · rw [e6] at hv
    rw [e5, e4]
    obtain ⟨g, c, a1, a2, a3, a4, a5⟩ := H.app v hv
    refine ⟨g, c, a1, a2, a3, fun hu => hown (B := 0) (c := 0) (a4 hu), fun z h1 h2 => ?_⟩
    obtain ⟨p, c', q1, q2⟩ := a5 z h1 h2
    exact ⟨p, c', q1, hown (B := 0) (c := 0) q2⟩
  · rw [e1, e6]; exact H.ptr
  · rw [e6, e3]; exact H.d1
  · rw [e5, e4, e6]; exact H.d3
end
end Go.Proofs.Ytikijkpklneihaa
namespace Go.Proofs.Ytikijkpklneihaa
open Go.RowKit
set_option linter.unusedVariables false
set_option linter.unusedSimpArgs false

/-- a value stays where its blocks stay, but for a block that has no number in it -/
theorem InV.skip {w w' : World} {B h : Nat} (hB : ∀ b o, b < B → b ≠ h → w'.cell? ⟨b, o, none⟩ = w.cell? ⟨b, o, none⟩) (hh : ∀ o k, w.cell? ⟨h, o, none⟩ ≠ some (.int .i64 k)) : ∀ x : V, ∀ {b off : Nat}, InV w B b off x → b < B → InV w' B b off x := by
  intro x
  induction x using V.ind with
  | h k n l ih =>
    intro b off h' hb
    obtain ⟨h0, h1, h2, h3, p, cap, h4, h5, h6, h7⟩ := h'
    have hne : b ≠ h := fun e => by subst e; exact hh _ _ h0
    refine ⟨by rw [hB _ _ hb hne]; exact h0, by rw [hB _ _ hb hne]; exact h1, h2, h3, p, cap, by rw [hB _ _ hb hne]; exact h4, h5, h6, ?_⟩
    rcases h7 with h7 | ⟨b', o', h8, h9, h10⟩
    · exact .inl h7
    · exact .inr ⟨b', o', h8, h9, AtVs.of_get (fun i hi => ih _ (List.getElem_mem hi) (h10.get i hi) h9)⟩
theorem SlV.skip {w w' : World} {B h : Nat} {p : Option Addr} {cap : Nat} {l : List V} (hB : ∀ b o, b < B → b ≠ h → w'.cell? ⟨b, o, none⟩ = w.cell? ⟨b, o, none⟩) (hh : ∀ o k, w.cell? ⟨h, o, none⟩ ≠ some (.int .i64 k)) (hs : SlV w B p cap l) : SlV w' B p cap l := by
  obtain ⟨h5, h6, h7⟩ := hs
  refine ⟨h5, h6, ?_⟩
  rcases h7 with h7 | ⟨b', o', h8, h9, h10⟩
  · exact .inl h7
  · exact .inr ⟨b', o', h8, h9, AtVs.of_get fun i hi => (h10.get i hi).skip hB hh _ h9⟩
theorem IsV.skip {w w' : World} {B h : Nat} {v : Value} {x : V} (hB : ∀ b o, b < B → b ≠ h → w'.cell? ⟨b, o, none⟩ = w.cell? ⟨b, o, none⟩) (hh : ∀ o k, w.cell? ⟨h, o, none⟩ ≠ some (.int .i64 k)) (hv : IsV w B v x) : IsV w' B v x := by
  obtain ⟨⟨p, cap, h1, h2⟩, h3, h4⟩ := hv
  exact ⟨⟨p, cap, h1, h2.skip hB hh⟩, h3, h4⟩
/-- what the region leaves -/
structure KpE (w0 : World) (lo h fo : Nat) (vv ot : Value) (n : Nat) (cs : List Value) (x : V) (own : Bool) (p0 : Option Addr) (c0 : Nat) (w : World) (av : Value) (p : Option Addr) (c : Nat) : Prop where
  os : w.os = w0.os
  tape : w.tape = w0.tape
  output : w.output = w0.output
  size : w0.heap.size ≤ w.heap.size
  blk : ∀ b, b < w0.heap.size → b ≠ h → vv.ownBlock ≠ some b → w.heap[b]? = w0.heap[b]?
  hd : w.heap[h]? = some (.cells (hdr fo av ot) 30 (0, 0))
  row : w.ownsRow lo 24 3 av (n + 1) (cs ++ [.int .i64 x.k, .int .i64 x.n, .slice p x.l.length c])
  at_ : ∀ b, av.ownBlock = some b → vv.ownBlock = some b ∨ w0.heap.size ≤ b
  old : own = false → p = p0 ∧ c = c0
  new : own = true → ∃ s t, w0.heap.size ≤ s ∧ t ≤ w.heap.size ∧ Prv w s t 1 x p c ∧ ∀ b, s ≤ b → b < t → av.ownBlock ≠ some b
theorem KpS.fin {w0 : World} {lo h fo : Nat} {vv ot : Value} {n : Nat} {cs : List Value} {x : V} {own : Bool} {p0 : Option Addr} {c0 : Nat} {cv : Nat → Option Value} {jl jc jb ja jx js jh : Nat} {u : Vals} {w : World} (H : KpS w0 lo h fo vv ot n cs x own p0 c0 cv jl jc jb ja jx js jh u w) {av y : Value} (ha : u ja = some av) (hc : u jc = some y) (hs : u js ≠ none) (hh : u jh ≠ none) : ∃ p c, KpE w0 lo h fo vv ot n cs x own p0 c0 w av p c := by
  obtain ⟨g, c, a1, a2, a3, a4, a5⟩ := H.app av ha
  obtain ⟨p, c', q1, q2⟩ := a5 y hs hc
  obtain ⟨p2, c2, r1, r2, r3⟩ := H.call y hc
  have e : p2 = p ∧ c2 = c' := by
    rw [q1] at r1
    simp [agV] at r1
    exact ⟨r1.1.symm, r1.2.symm⟩
  obtain ⟨rfl, rfl⟩ := e
  refine ⟨p2, c2, H.os, H.tape, H.output, H.size, H.blk, H.hd1 av ha hh, q2, fun b hb => ?_, r2, fun ho => ?_⟩
  · rw [a1] at hb
    simp only [Value.ownBlock, Option.some.injEq] at hb
    subst hb
    exact a3
  · obtain ⟨s, t, s1, s2, s3, s4⟩ := r3 ho
    exact ⟨s, t, s1, s2, s3, fun b h1 h2 => s4 av ha b h1 h2⟩
/-- two ghosts at once -/
def orG (ρ ρ' : Gh) : Gh := fun b => match ρ b with
  | some r => some r
  | none => ρ' b
theorem orG_l {ρ ρ' : Gh} {b : Nat} {r : Nat × List Nat} (h : ρ b = some r) : orG ρ ρ' b = some r := by simp [orG, h]
theorem orG_r {ρ ρ' : Gh} {b : Nat} {r : Nat × List Nat} (h : ρ' b = some r) (hn : ρ b = none) : orG ρ ρ' b = some r := by simp [orG, h, hn]
theorem orG_ne {ρ ρ' : Gh} {b : Nat} (h : orG ρ ρ' b ≠ none) : ρ b ≠ none ∨ ρ' b ≠ none := by
  cases hr : ρ b with
  | some r => exact .inl (by simp)
  | none => exact .inr (by simpa [orG, hr] using h)
theorem orG_some {ρ ρ' : Gh} {b : Nat} {r : Nat × List Nat} (h : orG ρ ρ' b = some r) : ρ b = some r ∨ ρ' b = some r := by
  cases hr : ρ b with
  | some r' => exact .inl (by simpa [orG, hr] using h)
  | none => exact .inr (by simpa [orG, hr] using h)
/-- the frame of what grows the book -/
structure KF (w w' : World) (h : Nat) (ov wv : Value) : Prop where
  os : w'.os = w.os
  tape : w'.tape = w.tape
  output : w'.output = w.output
  size : w.heap.size ≤ w'.heap.size
  blk : ∀ b, b < w.heap.size → b ≠ h → ov.ownBlock ≠ some b → wv.ownBlock ≠ some b → w'.heap[b]? = w.heap[b]?
/-- the book, one more kept -/
theorem Bk.push {w W0 W1 W1' W2 : World} {lo h : Nat} {ρ : Gh} {ov wv av bv : Value} {n : Nat} {X : Nat → V} {cs ds : List Value} {x : V} {p0 p p' : Option Addr} {c0 c c' s t : Nat} (hB : Bk w lo h ρ ov wv n X) (o1 : w.ownsRow lo 24 3 ov n cs) (o2 : Ents w ρ 0 n X cs) (w1 : w.ownsRow lo 24 3 wv n ds) (w2 : Ents w ρ 1 n X ds)
    (hb0 : Below w.heap.size w W0) (E1 : KpE W0 lo h 0 ov wv n cs x false p0 c0 W1 av p c) (hb1 : Below W1.heap.size W1 W1') (E2 : KpE W1' lo h 1 wv av n ds x true p' c' W2 bv p' c') (hk : I64 x.k) (hn : I64 x.n) (hp : Prv w s t 0 x p0 c0) (htl : t ≤ lo) (hst : ¬ (s ≤ h ∧ h < t)) (hρ : ∀ b, s ≤ b → b < t → ρ b = none) :
    (∃ ρ', Bk W2 lo h ρ' av bv (n + 1) (fun j => if j = n then x else X j) ∧ ∀ b, ρ' b ≠ none → ρ b ≠ none ∨ (s ≤ b ∧ b < t) ∨ w.heap.size ≤ b) ∧ KF w W2 h ov wv ∧ Prv W2 s t 0 x p0 c0 := by
  have hlow := hB.low
  have hsiz := hB.siz
  have z0 := hb0.size
  have z1 := E1.size
  have z1' := hb1.size
  have z2 := E2.size
  obtain ⟨rfl, rfl⟩ := E1.old rfl
  have hovl : ∀ b, ov.ownBlock = some b → lo ≤ b ∧ b < w.heap.size := fun b hb => owns_block o1 hb
  have hwvl : ∀ b, wv.ownBlock = some b → lo ≤ b ∧ b < w.heap.size := fun b hb => owns_block w1 hb
  have f1 : ∀ b, b < w.heap.size → b ≠ h → ov.ownBlock ≠ some b → W1'.heap[b]? = w.heap[b]? := fun b h1 h2 h3 => (hb1.block b (by omega)).trans ((E1.blk b (by omega) h2 h3).trans (hb0.block b h1))
  have f2 : ∀ b, b < w.heap.size → b ≠ h → ov.ownBlock ≠ some b → wv.ownBlock ≠ some b → W2.heap[b]? = w.heap[b]? := fun b h1 h2 h3 h4 => (E2.blk b (by omega) h2 h4).trans (f1 b h1 h2 h3)
  have hav : ∀ b, av.ownBlock = some b → ov.ownBlock = some b ∨ w.heap.size ≤ b := fun b hb => (E1.at_ b hb).elim .inl fun e => .inr (by omega)
  have havs : ∀ b, av.ownBlock = some b → b < W1.heap.size := fun b hb => (owns_block E1.row hb).2
  have havne : ∀ b, av.ownBlock = some b → wv.ownBlock ≠ some b := fun b h1 h2 => by
    rcases hav b h1 with h3 | h3
    · exact hB.ne b h3 h2
    · have := hwvl b h2; omega
  have hbv : ∀ b, bv.ownBlock = some b → wv.ownBlock = some b ∨ W1'.heap.size ≤ b := E2.at_
  have hrow : W2.ownsRow lo 24 3 av (n + 1) (cs ++ [.int .i64 x.k, .int .i64 x.n, .slice p x.l.length c]) := own_same (own_new E1.row hb1) fun g o hg ho => by
    have := havs g hg
    rw [E2.blk g (by omega) (by have := own_base E1.row g hg; omega) (havne g hg)]
    exact ho
  have hpW : Prv W2 s t 0 x p c := hp.keep fun b h1 h2 h3 => f2 b h3 (fun e => hst (by subst e; exact ⟨h1, h2⟩)) (fun e => by have := hovl b e; omega) (fun e => by have := hwvl b e; omega)
  obtain ⟨s2, t2, s21, s22, s23, s24⟩ := E2.new rfl
  obtain ⟨ρa, a1, a2, a3⟩ := hpW (2 * n + 0) [] (by omega)
  obtain ⟨ρb, b1, b2, b3⟩ := s23 (2 * n + 1) [] (by omega)
  have d1 : ∀ b, ρ b ≠ none → ρa b = none ∧ ρb b = none := fun b hb => by
    refine ⟨?_, ?_⟩
    · cases h1 : ρa b with
      | none => rfl
      | some r =>
        have := a2 b (by rw [h1]; simp)
        exact absurd (hρ b this.1 this.2) hb
    · cases h1 : ρb b with
      | none => rfl
      | some r =>
        have := b2 b (by rw [h1]; simp)
        have := (hB.sup b hb).1
        omega
  have d2 : ∀ b, ρa b ≠ none → ρ b = none ∧ ρb b = none := fun b hb => by
    have h0 := a2 b hb
    refine ⟨hρ b h0.1 h0.2, ?_⟩
    cases h1 : ρb b with
    | none => rfl
    | some r =>
      have := b2 b (by rw [h1]; simp)
      omega
  have d3 : ∀ b, ρb b ≠ none → ρ b = none ∧ ρa b = none := fun b hb => by
    refine ⟨?_, ?_⟩
    · cases h1 : ρ b with
      | none => rfl
      | some r => exact absurd (d1 b (by rw [h1]; simp)).2 hb
    · cases h1 : ρa b with
      | none => rfl
      | some r => exact absurd (d2 b (by rw [h1]; simp)).2 hb
  have hre : ∀ b id q, ρ b = some (id, q) → orG ρ (orG ρa ρb) b = some (id, q) := fun b id q hb => orG_l hb
  have hra : ∀ b q, ρa b = some (2 * n + 0, q ++ []) → orG ρ (orG ρa ρb) b = some (2 * n + 0, q ++ []) := fun b q hb => orG_r (orG_l hb) (d2 b (by rw [hb]; simp)).1
  have hrb : ∀ b q, ρb b = some (2 * n + 1, q ++ []) → orG ρ (orG ρa ρb) b = some (2 * n + 1, q ++ []) := fun b q hb => orG_r (orG_r hb (d3 b (by rw [hb]; simp)).2) (d3 b (by rw [hb]; simp)).1
  have hsup := hB.sup
  have hke : ∀ b, b < w.heap.size → ρ b ≠ none → W2.heap[b]? = w.heap[b]? := fun b h1 h2 => by
    obtain ⟨_, g2, g3, g4⟩ := hsup b h2
    exact f2 b h1 g2 g3 g4
  refine ⟨⟨orG ρ (orG ρa ρb), ⟨E2.hd, hlow, by omega, ⟨_, hrow, ((o2.keep hke).re hre).snoc o1.1 hk hn (TrV.re x a1 hra)⟩, ⟨_, E2.row, ((w2.keep hke).re hre).snoc w1.1 hk hn (TrV.re x b1 hrb)⟩, fun b hb => ?_, fun b id q hb => ?_, fun b h1 h2 => ?_⟩, fun b hb => ?_⟩, ⟨E2.os.trans (hb1.os.trans (E1.os.trans hb0.os)), E2.tape.trans (hb1.tape.trans (E1.tape.trans hb0.tape)), E2.output.trans (hb1.output.trans (E1.output.trans hb0.output)), by omega, f2⟩, hpW⟩
  · rcases orG_ne hb with h1 | h1
    · obtain ⟨g1, g2, g3, g4⟩ := hsup b h1
      refine ⟨by omega, g2, fun e => ?_, fun e => ?_⟩
      · rcases hav b e with h3 | h3
        · exact g3 h3
        · omega
      · rcases hbv b e with h3 | h3
        · exact g4 h3
        · omega
    · rcases orG_ne h1 with h2 | h2
      · have h0 := a2 b h2
        refine ⟨by omega, fun e => hst (by subst e; exact h0), fun e => ?_, fun e => ?_⟩
        · have := own_base E1.row b e; omega
        · have := own_base E2.row b e; omega
      · have h0 := b2 b h2
        refine ⟨by omega, by omega, fun e => ?_, s24 b h0.1 h0.2⟩
        have := havs b e
        omega
  · rcases orG_some hb with h1 | h1
    · have := hB.ids b id q h1; omega
    · rcases orG_some h1 with h2 | h2
      · obtain ⟨s', e⟩ := a3 b _ h2
        simp only [Prod.mk.injEq] at e
        omega
      · obtain ⟨s', e⟩ := b3 b _ h2
        simp only [Prod.mk.injEq] at e
        omega
  · rcases hbv b h2 with h3 | h3
    · exact havne b h1 h3
    · have := havs b h1; omega
  · rcases orG_ne hb with h1 | h1
    · exact .inl h1
    · rcases orG_ne h1 with h2 | h2
      · exact .inr (.inl (a2 b h2))
      · have := b2 b h2
        exact .inr (.inr (by omega))
end Go.Proofs.Ytikijkpklneihaa
namespace Go.Proofs.Ytikijkpklneihaa
open Go.RowKit
set_option linter.unusedVariables false
set_option linter.unusedSimpArgs false

theorem eqB_iff {x y : V} : eqB x y = true ↔ x = y := by simp [eqB]
/-- two boxes with values -/
structure TwoB (w W : World) (B : Nat) (x y : V) (p : Option Addr) (c : Nat) (p' : Option Addr) (c' : Nat) : Prop where
  a : W.heap[w.heap.size]? = some (Obj.cells #[.int .i64 x.k, .int .i64 x.n, .slice p x.l.length c] 24)
  b : W.heap[w.heap.size + 1]? = some (Obj.cells #[.int .i64 y.k, .int .i64 y.n, .slice p' y.l.length c'] 24)
  va : SlV W B p c x.l
  vb : SlV W B p' c' y.l
  bel : Below w.heap.size w W
theorem TwoB.next {w W W' : World} {B : Nat} {x y : V} {p : Option Addr} {c : Nat} {p' : Option Addr} {c' : Nat} (h : TwoB w W B x y p c p' c') (hB : B ≤ w.heap.size) (hb : Below W.heap.size W W') : TwoB w W' B x y p c p' c' :=
  ⟨keep_h hb h.a, keep_h hb h.b, h.va.lo (Lo.of (hb.mono (Nat.le_trans hB h.bel.size))), h.vb.lo (Lo.of (hb.mono (Nat.le_trans hB h.bel.size))), h.bel.trans (hb.mono h.bel.size)⟩
theorem TwoB.start (w : World) (B : Nat) (x y : V) (p : Option Addr) (c : Nat) (p' : Option Addr) (c' : Nat) (hx : SlV w B p c x.l) (hy : SlV w B p' c' y.l) (hB : B ≤ w.heap.size) :
    TwoB w ((w.alloc (Obj.cells #[.int .i64 x.k, .int .i64 x.n, .slice p x.l.length c] 24)).alloc (Obj.cells #[.int .i64 y.k, .int .i64 y.n, .slice p' y.l.length c'] 24)) B x y p c p' c' :=
  ⟨(Below.heap_alloc _ _ _ (by simp)).trans (World.alloc_heap_new _ _), alloc_at _ _ _, hx.lo (Lo.of ((two_new _ _ _).mono hB)), hy.lo (Lo.of ((two_new _ _ _).mono hB)), two_new _ _ _⟩
/-- the i-th of both, with what is read on the way -/
structure Rd (w W : World) (x y : V) (p : Option Addr) (c : Nat) (p' : Option Addr) (c' : Nat) (b o b' o' i : Nat) (k n : Int) (s : Value) (k' n' : Int) (s' : Value) : Prop where
  a2 : W.cell? ⟨w.heap.size, 2, none⟩ = some (.slice p x.l.length c)
  b2 : W.cell? ⟨w.heap.size + 1, 2, none⟩ = some (.slice p' y.l.length c')
  d0 : W.cell? ⟨b, o + i * 3, none⟩ = some (.int .i64 k)
  d1 : W.cell? ⟨b, o + i * 3 + 1, none⟩ = some (.int .i64 n)
  d2 : W.cell? ⟨b, o + i * 3 + 2, none⟩ = some s
  e0 : W.cell? ⟨b', o' + i * 3, none⟩ = some (.int .i64 k')
  e1 : W.cell? ⟨b', o' + i * 3 + 1, none⟩ = some (.int .i64 n')
  e2 : W.cell? ⟨b', o' + i * 3 + 2, none⟩ = some s'

set_option maxRecDepth 100000 in
set_option maxHeartbeats 4000000 in
theorem same_rec (N : Nat) (ih : ∀ (x y : V), x.sz < N → ∀ (w : World) (B : Nat) (v u : Value), IsV w B v x → IsV w B u y → B ≤ w.heap.size → Calls Try.prog 12 #[v, u] w fun e w' => e = .returned (.bool (eqB x y)) ∧ Below w.heap.size w w')
    (w : World) (B : Nat) (v u : Value) (x y : V) (hv : IsV w B v x) (hu : IsV w B u y) (hB : B ≤ w.heap.size) (hN : x.sz ≤ N) :
    Calls Try.prog 12 #[v, u] w fun e w' => e = .returned (.bool (eqB x y)) ∧ Below w.heap.size w w' := by
  obtain ⟨⟨p, c, rfl, h1⟩, h2, h3⟩ := hv
  obtain ⟨⟨p', c', rfl, k1⟩, k2, k3⟩ := hu
  have HT0 : Bx _ := ⟨TwoB.start w B x y p c p' c' h1 k1 hB⟩
  have hlc : x.l.length ≤ c := h1.1
  have hlc' : y.l.length ≤ c' := k1.1
  have hcm : c ≤ maxLen := h1.2.1
  have hcm' : c' ≤ maxLen := k1.2.1
  unfold maxLen at hcm hcm'
  have HIH : Bx _ := ⟨ih⟩
  clear h1 h2 h3 k1 k2 k3 ih
  by_cases hk : x.k = y.k
  · by_cases hn : x.n = y.n
    · by_cases hl : x.l.length = y.l.length
      · have b1 : (x.k != y.k) = false := by simpa using hk
        have b2 : (x.n != y.n) = false := by simpa using hn
        have b3 : ((x.l.length : Int) != (y.l.length : Int)) = false := by simp; omega
        have HH : Bx (x.k = y.k ∧ x.n = y.n ∧ x.l.length = y.l.length) := ⟨hk, hn, hl⟩
        clear hk hn hl
        go_enter Try.func12, Try.ntmps12
        go_wp2
        go_loopg [5] x.l.length (fun q v wr => ∃ i : Nat, q = x.l.length - i ∧ i ≤ x.l.length ∧ v = .int .i64 i ∧ Bx (TwoB w wr B x y p c p' c' ∧ ∀ j (h : j < x.l.length) (h' : j < y.l.length), j < i → x.l[j] = y.l[j]))
        case atStart => exact ⟨0, by simp, by omega, rfl, ⟨HT0.out, fun j _ _ h => by omega⟩⟩
        case round =>
          obtain ⟨i, hq, hil, rfl, HS⟩ := hrel
          clear HT0
          obtain ⟨r0, r1, r2, _, _, _, rl⟩ := c3 HS.out.1.a
          obtain ⟨s0, s1, s2, _, _, _, sl⟩ := c3 HS.out.1.b
          by_cases hlt : i < x.l.length
          · have hlt' : i < y.l.length := by have := HH.out.2.2; omega
            obtain ⟨b, o, q1, qc, rfl, hbB, d0, d1, d2, hq1, dk, dn⟩ := HS.out.1.va.at3 i hlt
            obtain ⟨b', o', q2, qc2, rfl, hbB', e0, e1, e2, hq2, ek, en⟩ := HS.out.1.vb.at3 i hlt'
            have HRd : Bx (∀ W, Below wr.heap.size wr W → Rd w W x y (some ⟨b, o, none⟩) c (some ⟨b', o', none⟩) c' b o b' o' i x.l[i].k x.l[i].n (.slice q1 x.l[i].l.length qc) y.l[i].k y.l[i].n (.slice q2 y.l[i].l.length qc2)) := ⟨fun W hb => by
              have hw := HS.out.1.bel.size
              have hc : ∀ z k, z < wr.heap.size → W.cell? ⟨z, k, none⟩ = wr.cell? ⟨z, k, none⟩ := fun z k hz => hb.cell (p := ⟨z, k, none⟩) hz
              exact ⟨by rw [hc _ _ rl]; exact r2, by rw [hc _ _ sl]; exact s2, by rw [hc _ _ (by omega)]; exact d0, by rw [hc _ _ (by omega)]; exact d1, by rw [hc _ _ (by omega)]; exact d2, by rw [hc _ _ (by omega)]; exact e0, by rw [hc _ _ (by omega)]; exact e1, by rw [hc _ _ (by omega)]; exact e2⟩⟩
            have HC : Bx (∀ W, Below wr.heap.size wr W → Calls Try.prog 12 #[.agg #[.int .i64 x.l[i].k, .int .i64 x.l[i].n, .slice q1 x.l[i].l.length qc], .agg #[.int .i64 y.l[i].k, .int .i64 y.l[i].n, .slice q2 y.l[i].l.length qc2]] W fun e w' => e = .returned (.bool (eqB x.l[i] y.l[i])) ∧ Below W.heap.size W w') := ⟨fun W hb =>
              HIH.out x.l[i] y.l[i] (by have h9 := szs_mem (List.getElem_mem hlt); have := V.sz_eq x; omega) W B _ _ ⟨⟨q1, qc, rfl, hq1.lo (Lo.of (hb.mono (Nat.le_trans hB HS.out.1.bel.size)))⟩, dk, dn⟩ ⟨⟨q2, qc2, rfl, hq2.lo (Lo.of (hb.mono (Nat.le_trans hB HS.out.1.bel.size)))⟩, ek, en⟩ (Nat.le_trans hB (Nat.le_trans HS.out.1.bel.size hb.size))⟩
            clear hq1 hq2 dk dn ek en r0 r1 s0 s1 d0 d1 d2 e0 e1 e2
            have hbr : Below wr.heap.size wr wr := Below.refl _ _
            have HF : Bx (∀ w', Below wr.heap.size wr w' → w'.cell? ⟨w.heap.size, 2, none⟩ = some (.slice (some ⟨b, o, none⟩) x.l.length c) ∧ w'.cell? ⟨w.heap.size + 1, 2, none⟩ = some (.slice (some ⟨b', o', none⟩) y.l.length c') ∧ w'.cell? ⟨b, o + i * 3, none⟩ = some (.int .i64 x.l[i].k) ∧ w'.cell? ⟨b, o + i * 3 + 1, none⟩ = some (.int .i64 x.l[i].n) ∧ w'.cell? ⟨b, o + i * 3 + 2, none⟩ = some (.slice q1 x.l[i].l.length qc) ∧ w'.cell? ⟨b', o' + i * 3, none⟩ = some (.int .i64 y.l[i].k) ∧ w'.cell? ⟨b', o' + i * 3 + 1, none⟩ = some (.int .i64 y.l[i].n) ∧ w'.cell? ⟨b', o' + i * 3 + 2, none⟩ = some (.slice q2 y.l[i].l.length qc2) ∧ Below wr.heap.size wr w') := ⟨fun W hb => by obtain ⟨a1, a2, a3, a4, a5, a6, a7, a8⟩ := HRd.out W hb; exact ⟨a1, a2, a3, a4, a5, a6, a7, a8, hb⟩⟩
            go_wp2_with fail
            go_region_held (fun w' => w'.cell? ⟨w.heap.size, 2, none⟩ = some (.slice (some ⟨b, o, none⟩) x.l.length c) ∧ w'.cell? ⟨w.heap.size + 1, 2, none⟩ = some (.slice (some ⟨b', o', none⟩) y.l.length c') ∧ w'.cell? ⟨b, o + i * 3, none⟩ = some (.int .i64 x.l[i].k) ∧ w'.cell? ⟨b, o + i * 3 + 1, none⟩ = some (.int .i64 x.l[i].n) ∧ w'.cell? ⟨b, o + i * 3 + 2, none⟩ = some (.slice q1 x.l[i].l.length qc) ∧ w'.cell? ⟨b', o' + i * 3, none⟩ = some (.int .i64 y.l[i].k) ∧ w'.cell? ⟨b', o' + i * 3 + 1, none⟩ = some (.int .i64 y.l[i].n) ∧ w'.cell? ⟨b', o' + i * 3 + 2, none⟩ = some (.slice q2 y.l[i].l.length qc2) ∧ Below wr.heap.size wr w')
              (first | exact HF.out _ hbr.drew | exact HF.out _ hbr | exact HF.out _ hb4)
              (first | (go_at_call 12; refine Calls.mono (HC.out _ hbr.drew) ?_; rintro e w4 ⟨rfl, hb4'⟩; have hb4 : Below wr.heap.size wr w4 := hbr.drew.trans (hb4'.mono (Nat.le_refl _))))
            all_goals
              have HN : Bx _ := ⟨HS.out.1.next hB hb4⟩
              have HE : Bx (eqB x.l[i] y.l[i] = false → eqB x y = false) := ⟨fun h => eqB_no (fun e => by subst e; rw [eqB_yes rfl] at h; cases h)⟩
              cases hee : eqB x.l[i] y.l[i]
              · go_wp2
                go_ret
                exact ⟨congrArg (fun z => Ending.returned (.bool z)) (HE.out hee).symm, HN.out.bel⟩
              · go_wp2
                go_roundg (x.l.length - (i + 1))
                case measure => omega
                case rel => exact ⟨i + 1, rfl, by omega, by simp, ⟨HN.out, fun j h h' hj => by
                  rcases Nat.lt_or_ge j i with h3 | h3
                  · exact HS.out.2 j h h' h3
                  · have : j = i := by omega
                    subst this
                    exact eqB_iff.1 hee⟩⟩
          · have HE : Bx (eqB x y = true ∧ Below w.heap.size w wr) := ⟨eqB_yes (V.ext HH.out.1 HH.out.2.1 (List.ext_getElem HH.out.2.2 (fun j h h' => HS.out.2 j h h' (by omega)))), HS.out.1.bel⟩
            clear HS
            go_wp2
            go_ret
            exact ⟨congrArg (fun z => Ending.returned (.bool z)) HE.out.1.symm, HE.out.2⟩
      · have b1 : (x.k != y.k) = false := by simpa using hk
        have b2 : (x.n != y.n) = false := by simpa using hn
        have b3 : ((x.l.length : Int) != (y.l.length : Int)) = true := by simp; omega
        have e : eqB x y = false := eqB_no (fun e => hl (by rw [e]))
        rw [e]
        clear hk hn hl
        go_enter Try.func12, Try.ntmps12
        go_wp2
        go_ret
        exact ⟨rfl, HT0.out.bel⟩
    · have b1 : (x.k != y.k) = false := by simpa using hk
      have b2 : (x.n != y.n) = true := by simpa using hn
      have e : eqB x y = false := eqB_no (fun e => hn (by rw [e]))
      rw [e]
      clear hk hn
      go_enter Try.func12, Try.ntmps12
      go_wp2
      go_ret
      exact ⟨rfl, HT0.out.bel⟩
  · have b1 : (x.k != y.k) = true := by simpa using hk
    have e : eqB x y = false := eqB_no (fun e => hk (by rw [e]))
    rw [e]
    clear hk
    go_enter Try.func12, Try.ntmps12
    go_wp2
    go_ret
    exact ⟨rfl, HT0.out.bel⟩
/-- same: are two values alike? -/
theorem same_any (w : World) (B : Nat) (v u : Value) (x y : V) (hv : IsV w B v x) (hu : IsV w B u y) (hB : B ≤ w.heap.size) : Calls Try.prog 12 #[v, u] w fun e w' => e = .returned (.bool (eqB x y)) ∧ Below w.heap.size w w' := by
  have key : ∀ N : Nat, ∀ (x y : V), x.sz ≤ N → ∀ (w : World) (B : Nat) (v u : Value), IsV w B v x → IsV w B u y → B ≤ w.heap.size → Calls Try.prog 12 #[v, u] w fun e w' => e = .returned (.bool (eqB x y)) ∧ Below w.heap.size w w' := by
    intro N
    induction N with
    | zero => intro x y h; have := x.sz_pos; omega
    | succ N ih => intro x y h w B v u hv hu hB; exact same_rec (N + 1) (fun x' y' h' => ih x' y' (by omega)) w B v u x y hv hu hB h
  exact key x.sz x y (Nat.le_refl _) w B v u hv hu hB
end Go.Proofs.Ytikijkpklneihaa
