import Derived.Test.YtikijkpklneihaaCVG
import Derived.RangeFuncBound
import Derived.RangeFuncCalls
import Derived.Shelf.Abstract
import Derived.Shelf.RegionOpen
import Derived.TacticsInMore
import Derived.LoopNIn
import Derived.LoopIn
import Derived.Sort.LoopGhostIn
namespace Go.Proofs.Ytikijkpklneihaa
open Go.RowKit Go.Shelf
set_option linter.unusedVariables false
set_option linter.unusedSimpArgs false
attribute [local go_sem] Oper.semAt_some

/-- a list in memory, below lo or in the block rb -/
structure Lst (W : World) (lo rb : Nat) (p : Option Addr) (c : Nat) (l : List V) : Prop where
  len : l.length ≤ c
  max : c ≤ maxLen
  at_ : ∀ i (h : i < l.length), ∃ b o q d, p = some ⟨b, o, none⟩ ∧ (b < lo ∨ b = rb) ∧ W.cell? ⟨b, o + i * 3, none⟩ = some (.int .i64 l[i].k) ∧ W.cell? ⟨b, o + i * 3 + 1, none⟩ = some (.int .i64 l[i].n) ∧ W.cell? ⟨b, o + i * 3 + 2, none⟩ = some (.slice q l[i].l.length d) ∧ SlV W lo q d l[i].l ∧ I64 l[i].k ∧ I64 l[i].n
theorem Lst.of {W : World} {lo rb : Nat} {p : Option Addr} {c : Nat} {l : List V} (h : SlV W lo p c l) : Lst W lo rb p c l :=
  ⟨h.1, h.2.1, fun i hi => by
    obtain ⟨b, o, q, d, e, hb, h1, h2, h3, h4, h5, h6⟩ := h.at3 i hi
    exact ⟨b, o, q, d, e, .inl hb, h1, h2, h3, h4, h5, h6⟩⟩
theorem Lst.keep {W W' : World} {lo rb : Nat} {p : Option Addr} {c : Nat} {l : List V} (h : Lst W lo rb p c l) (hl : ∀ b, b < lo → W'.heap[b]? = W.heap[b]?) (hr : W'.heap[rb]? = W.heap[rb]?) : Lst W' lo rb p c l :=
  ⟨h.len, h.max, fun i hi => by
    obtain ⟨b, o, q, d, e, hb, h1, h2, h3, h4, h5, h6⟩ := h.at_ i hi
    have hc : W'.heap[b]? = W.heap[b]? := by
      rcases hb with hb | rfl
      · exact hl b hb
      · exact hr
    have hcell : ∀ k, W'.cell? ⟨b, k, none⟩ = W.cell? ⟨b, k, none⟩ := fun k => by simp [World.cell?, hc]
    exact ⟨b, o, q, d, e, hb, by rw [hcell]; exact h1, by rw [hcell]; exact h2, by rw [hcell]; exact h3, h4.lo (Lo.blocks hl), h5, h6⟩⟩

/-- what the iterator has of its own -/
structure EI (foot : World → Nat → Prop) (lo rb : Nat) (O : Obj) (wr : World) (v : Value) (st : List (List V)) : Prop where
  stk : StkQ wr (rb + 1) (Lst wr lo rb) v st
  nf : ∀ g, v.ownBlock = some g → ¬ foot wr g
  root : wr.heap[rb]? = some O
  isc : O.isCells = true
  nfr : ¬ foot wr rb
  sz : rb + 2 ≤ wr.heap.size
  lo_ : lo ≤ rb
theorem EI.sep {foot : World → Nat → Prop} {lo rb : Nat} {O : Obj} {wr wr' : World} {v : Value} {st : List (List V)} (h : EI foot lo rb O wr v st) (hs : Sep lo foot wr wr') : EI foot lo rb O wr' v st := by
  have hroot : wr'.heap[rb]? = some O := hs.same rb O h.root h.isc h.nfr
  obtain ⟨xs, ho, hr⟩ := h.stk.own
  refine ⟨⟨xs, own_same ho (fun g o hg hgo => ?_), hr.mono (fun p c l hq => hq.keep hs.low (by rw [hroot, h.root]))⟩, fun g hg hf => ?_, hroot, h.isc, fun hf => ?_, Nat.le_trans h.sz hs.size, h.lo_⟩
  · obtain ⟨o', h1, h2⟩ := own_cells ho hg
    rw [hgo] at h1; cases h1
    exact hs.same g o hgo h2 (h.nf g hg)
  · obtain ⟨o', h1, h2⟩ := own_cells ho hg
    rcases hs.new g hf with h3 | h3
    · exact h.nf g hg h3
    · have := (Array.getElem?_eq_some_iff.1 h1).1; omega
  · rcases hs.new rb hf with h3 | h3
    · exact h.nfr h3
    · have := h.sz; omega
theorem sep_alloc {α : Type} {J : List α → World → Prop} {lo : Nat} {foot : World → Nat → Prop} (hJ : AbidC lo foot J) {pre : List α} {wr : World} (hj : J pre wr) (hlo : lo ≤ wr.heap.size) (o : Obj) : J pre (wr.alloc o) ∧ Sep lo foot wr (wr.alloc o) ∧ ∀ b, foot (wr.alloc o) b → foot wr b := by
  obtain ⟨h1, h2⟩ := hJ.go pre wr (wr.alloc o) none hj (World.grownBy_alloc wr o none) (fun r e => by cases e)
  exact ⟨h1, ⟨fun b hb => Below.heap_alloc _ _ _ (by omega), by simp, fun b x hb _ _ => (Below.heap_alloc _ _ _ (Array.getElem?_eq_some_iff.1 hb).1).trans hb, fun b hf => .inl (h2 b hf)⟩, h2⟩
theorem EI.push {α : Type} {J : List α → World → Prop} {foot : World → Nat → Prop} {lo rb : Nat} {O : Obj} {X w' : World} {u : Value} {g cap : Nat} {st : List (List V)} {xs : List Value} {r : Option Addr} {rc : Nat} {l : List V} (hJ : AbidC lo foot J) {pre : List α} (hj : J pre X) (h : EI foot lo rb O X u st)
    (hown : X.ownsRow (rb + 1) 22 1 u st.length xs) (hrow : RowQ (Lst X lo rb) st xs) (hl : SlV X lo r rc l)
    (hown' : w'.ownsRow (rb + 1) 22 1 (.slice (some ⟨g, 0, none⟩) (st.length + 1) cap) (st.length + 1) (xs ++ [.slice r l.length rc])) (hg : X.grownBy w' u.ownBlock) (hat : u.ownBlock = some g ∨ g = X.heap.size) :
    J pre w' ∧ EI foot lo rb O w' (.slice (some ⟨g, 0, none⟩) (st.length + 1) cap) (st ++ [l]) ∧ (∀ b, b < lo → w'.heap[b]? = X.heap[b]?) ∧ w'.heap[rb]? = X.heap[rb]? := by
  obtain ⟨h1, h2⟩ := hJ.go pre X w' u.ownBlock hj hg (fun r e => ⟨by have := own_base hown r e; have := h.lo_; omega, h.nf r e, own_cells hown e⟩)
  have hsz := h.sz
  have hlo := h.lo_
  have hlow : ∀ b, b < lo → w'.heap[b]? = X.heap[b]? := fun b hb => hg.block b (by omega) (fun e => by have := own_base hown b e.symm; omega)
  have hroot : w'.heap[rb]? = X.heap[rb]? := hg.block rb (by omega) (fun e => by have := own_base hown rb e.symm; omega)
  have hnf : ∀ g', some g = some g' → ¬ foot w' g' := fun g' e hf => by
    cases e
    have hf' := h2 _ hf
    rcases hat with h3 | h3
    · exact h.nf _ h3 hf'
    · have := (hJ.cells pre X _ hj hf').2; omega
  refine ⟨h1, ⟨⟨_, by simpa using hown', (hrow.append (ms := [l]) (ys := [.slice r l.length rc]) ⟨r, rc, [], rfl, Lst.of hl, rfl⟩).mono (fun p c m hq => hq.keep hlow hroot)⟩, hnf, hroot.trans h.root, h.isc, fun hf => h.nfr (h2 _ hf), Nat.le_trans hsz hg.size, hlo⟩, hlow, hroot⟩

theorem or_turn {a b c : Prop} : ((a ∨ b) ∨ c) ↔ (b ∨ (c ∨ a)) :=
  ⟨fun h => h.elim (fun h => h.elim (fun h => .inr (.inr h)) .inl) (fun h => .inr (.inl h)), fun h => h.elim (fun h => .inl (.inr h)) (fun h => h.elim .inr (fun h => .inl (.inl h)))⟩
/-- all that stand in a value were handed out -/
def AllOf (x : V) (xs : List (Value × V)) : Prop := (∀ y, Nod x y ↔ y ∈ xs.map Prod.snd) ∧ xs.length = x.sz
/-- some of them -/
def SomeOf (x : V) (xs : List (Value × V)) : Prop := ∀ y ∈ xs.map Prod.snd, Nod x y
/-- what is handed out, and what is left -/
def Left (x : V) (pre : List (Value × V)) (R : V → Prop) : Prop := ∀ y, Nod x y ↔ y ∈ pre.map Prod.snd ∨ R y
theorem Left.one {x : V} {pre : List (Value × V)} {R R' : V → Prop} {a : Value × V} (h : Left x pre R) (hR : ∀ y, R y ↔ (y = a.2 ∨ R' y)) : Left x (pre ++ [a]) R' := by
  intro y
  rw [h y, hR y]
  simp only [List.map_append, List.mem_append, List.map_cons, List.map_nil, List.mem_singleton]
  constructor
  · rintro (h1 | h1 | h1)
    · exact .inl (.inl h1)
    · exact .inl (.inr h1)
    · exact .inr h1
  · rintro ((h1 | h1) | h1)
    · exact .inl h1
    · exact .inr (.inl h1)
    · exact .inr (.inr h1)
theorem Left.same {x : V} {pre : List (Value × V)} {R R' : V → Prop} (h : Left x pre R) (hR : ∀ y, R y ↔ R' y) : Left x pre R' := fun y => by rw [h y, hR y]
theorem Left.some {x : V} {pre : List (Value × V)} {R : V → Prop} (h : Left x pre R) : SomeOf x pre := fun y hy => (h y).2 (.inl hy)

theorem infoSl' : (Try.prog.info? 22).map (fun i => (i.zero, i.size, i.bytes)) = some (some (.slice none 0 0), 1, 24) := by kernel_rfl

set_option maxRecDepth 100000 in
set_option maxHeartbeats 2000000 in
theorem each_in (n : Nat) (k m : Int) (p : Option Addr) (L c : Nat) (w : World) :
    CallsIn Fence.wide n Try.prog 28 #[.agg #[.int .i64 k, .int .i64 m, .slice p L c]] w fun e w' => e = .returned (.func (.func 37) #[] #[.pointer (some ⟨w.heap.size, 0, none⟩)]) ∧ w' = w.alloc (.cells #[.int .i64 k, .int .i64 m, .slice p L c] 24) := by
  refine callsIn_of_wp Try.func28 rfl trivial ?_ rfl
  simp only [Try.ntmps28, List.size_toArray, List.length_cons, List.length_nil, Nat.reduceAdd, Nat.reduceSub, Array.replicate_succ, Array.replicate_zero, List.push_toArray, List.append_toArray, List.nil_append, List.cons_append]
  gi_wp2
  go_ret
  exact ⟨rfl, rfl⟩

set_option maxRecDepth 100000 in
set_option maxHeartbeats 4000000 in
theorem each1_in (n : Nat) (hn : 1 ≤ n) (lo Bs : Nat) (w0 : World) (x : V) (p : Option Addr) (cap : Nat) (hlo : lo ≤ w0.heap.size)
    (hBs : w0.heap[Bs]? = some (.cells #[.int .i64 x.k, .int .i64 x.n, .slice p x.l.length cap] 24)) (hv : SlV w0 lo p cap x.l) (hk : I64 x.k) (hm : I64 x.n) (hx : x.sz ≤ 65536) :
    SeqSep Fence.wide n Try.prog 37 #[.pointer (some ⟨Bs, 0, none⟩)] (fun a : Value × V => #[a.1]) (fun a W => IsV W lo a.1 a.2)
      (AllOf x) (SomeOf x) x.sz lo w0 := by
  intro l foot J Jx W hW hJ hY h0
  have hbx : W.heap[Bs]? = some (.cells #[.int .i64 x.k, .int .i64 x.n, .slice p x.l.length cap] 24) := (hW.block Bs (Array.getElem?_eq_some_iff.1 hBs).1).trans hBs
  have d0 : W.cell? ⟨Bs, 0, none⟩ = some (.int .i64 x.k) := by simp [World.cell?, hbx]
  have d1 : W.cell? ⟨Bs, 1, none⟩ = some (.int .i64 x.n) := by simp [World.cell?, hbx]
  have d2 : W.cell? ⟨Bs, 2, none⟩ = some (.slice p x.l.length cap) := by simp [World.cell?, hbx]
  have hvW : SlV W lo p cap x.l := hv.lo (Lo.of (hW.mono hlo))
  have hloW : lo ≤ W.heap.size := Nat.le_trans hlo hW.size
  obtain ⟨i0, hi, iz0, iz1, iz2⟩ := info_parts infoSl'
  refine callsIn_of_wp Try.func37 rfl trivial ?_ rfl
  simp only [Try.ntmps37, List.size_toArray, List.length_cons, List.length_nil, Nat.reduceAdd, Nat.reduceSub, Array.replicate_succ, Array.replicate_zero, List.push_toArray, List.append_toArray, List.nil_append, List.cons_append]
  gi_wp2
  obtain ⟨rb, hrb⟩ : ∃ rb, rb = W.heap.size := ⟨_, rfl⟩
  obtain ⟨O, hO⟩ : ∃ O, O = Obj.cells #[Value.int IntKind.i64 x.k, Value.int IntKind.i64 x.n, Value.slice p x.l.length cap] 24 := ⟨_, rfl⟩
  obtain ⟨W0, hW0⟩ : ∃ W0, ((W.alloc (Obj.cells #[Value.int IntKind.i64 x.k, Value.int IntKind.i64 x.n, Value.slice p x.l.length cap] 24)).alloc (Obj.cells #[Value.slice (some ⟨W.heap.size, 0, none⟩) 1 1] 22)) = W0 := ⟨_, rfl⟩
  obtain ⟨j1, s1, t1⟩ := sep_alloc hJ h0 hloW (Obj.cells #[Value.int IntKind.i64 x.k, Value.int IntKind.i64 x.n, Value.slice p x.l.length cap] 24)
  obtain ⟨j2, s2, t2⟩ := sep_alloc hJ j1 (by simp; omega) (Obj.cells #[Value.slice (some ⟨W.heap.size, 0, none⟩) 1 1] 22)
  rw [hW0] at j2 s2 t2
  have s12 := s1.trans s2
  have hr0 : W0.heap[rb]? = some O := by
    rw [hrb, hO, ← hW0]
    exact (Below.heap_alloc _ _ _ (by simp)).trans (World.alloc_heap_new W _)
  have hr1 : W0.heap[rb + 1]? = some (Obj.cells #[Value.slice (some ⟨W.heap.size, 0, none⟩) 1 1] 22) := by rw [hrb, ← hW0]; exact alloc_at _ _ _
  have hz0 : W0.heap.size = rb + 2 := by rw [hrb, ← hW0]; simp
  have hnew : ∀ b, W.heap.size ≤ b → ¬ foot W0 b := fun b hb hf => by
    have := (hJ.cells [] W b h0 (t1 b (t2 b hf))).2
    omega
  have hlst : Lst W0 lo rb (some ⟨rb, 0, none⟩) 1 [x] := ⟨by simp, by simp [maxLen], fun i hi => by
    have : i = 0 := by simpa using hi
    subst this
    rw [hO] at hr0
    exact ⟨rb, 0, p, cap, rfl, .inr rfl, by simp [World.cell?, hr0], by simp [World.cell?, hr0], by simp [World.cell?, hr0], hvW.lo (Lo.blocks s12.low), hk, hm⟩⟩
  have HE0 : Bx (J [] W0 ∧ EI foot lo rb O W0 (.slice (some ⟨rb + 1, 0, none⟩) 1 1) [[x]]) :=
    ⟨j2, ⟨⟨[.slice (some ⟨rb, 0, none⟩) 1 1], ⟨rfl, .inr ⟨_, 1, _, rfl, Nat.le_refl _, by rw [hrb] at hr1 ⊢; exact hr1, by simp, by simp [maxLen], by simp, by simp⟩⟩, ⟨_, _, [], rfl, hlst, rfl⟩⟩, fun g hg => by rw [ownB] at hg; cases hg; exact hnew _ (by omega), hr0, by rw [hO]; rfl, hnew _ (by omega), by omega, by omega⟩⟩
  rw [hW0]
  rw [← hrb]
  clear hrb hO
  clear hlst hnew hr0 hr1 s12 s1 s2 t1 t2 j1 j2 hvW hW0 d0 d1 d2 hbx hBs hv
  gi_loopg [3] (x.sz + 1) (fun k v wr => ∃ (pre : List (Value × V)) (st : List (List V)), k = stz st + st.length ∧ k ≤ x.sz + 1 ∧ pre.length + stz st = x.sz ∧ Bx (J pre wr ∧ EI foot lo rb O wr v st ∧ Left x pre (Nodst st)))
  case atStart => exact ⟨[], [[x]], by simp [stz, szs], Nat.le_refl _, by simp [stz, szs], ⟨HE0.out.1, HE0.out.2, fun y => by simp [Nodst, Nods]⟩⟩
  case round =>
    obtain ⟨pre, st, hk', hkS, hpl, HS⟩ := hrel
    clear HE0
    rcases List.eq_nil_or_concat st with rfl | ⟨qs, l', rfl⟩
    · have HF : Bx (J pre wr ∧ AllOf x pre) := ⟨HS.out.1, fun y => by rw [HS.out.2.2 y]; simp [Nodst], by simpa [stz] using hpl⟩
      clear hpl hk'
      rcases HS.out.2.1.stk.val with ⟨rfl, _⟩ | ⟨g, gc, rfl, _⟩
      · gi_wp2
        go_end0
        exact ⟨⟨_, rfl⟩, .inl ⟨pre, HF.out.2, HF.out.1⟩⟩
      · rw [show ([] : List (List V)).length = 0 from rfl]
        gi_wp2
        go_end0
        exact ⟨⟨_, rfl⟩, .inl ⟨pre, HF.out.2, HF.out.1⟩⟩
    · rw [List.concat_eq_append] at HS hk' hpl
      obtain ⟨g, gc, q, qc, rfl, hg, hgl, hgc, hgm, c0, HQ, hst⟩ := HS.out.2.1.stk.pop
      have hlq := HQ.len
      have hqm := HQ.max
      simp only [stz_append, stz, List.length_append, List.length_singleton, Nat.add_zero] at hk' hpl
      unfold maxLen at hgm hqm
      have HST : Bx (J pre wr ∧ EI foot lo rb O wr (.slice (some ⟨g, 0, none⟩) qs.length gc) qs ∧ Left x pre (fun y => Nods l' y ∨ Nodst qs y) ∧ Lst wr lo rb q qc l') :=
        ⟨HS.out.1, ⟨hst, HS.out.2.1.nf, HS.out.2.1.root, HS.out.2.1.isc, HS.out.2.1.nfr, HS.out.2.1.sz, HS.out.2.1.lo_⟩, HS.out.2.2.same (fun y => by rw [nodst_snoc, or_comm]), HQ⟩
      have hll := szs_len l'
      clear HQ HS hst
      gi_wp2
      gi_loopg [3, 26] l'.length (fun k v iv wr' => ∃ (i : Nat) (pre : List (Value × V)) (st : List (List V)), k = l'.length - i ∧ i ≤ l'.length ∧ iv = .int .i64 i ∧ pre.length + szs (l'.drop i) + stz st = x.sz ∧ stz st + st.length + szs (l'.drop i) ≤ stz qs + qs.length + szs l' ∧ Bx (J pre wr' ∧ EI foot lo rb O wr' v st ∧ Left x pre (fun y => Nods (l'.drop i) y ∨ Nodst st y) ∧ Lst wr' lo rb q qc l'))
      case atStart => exact ⟨0, pre, qs, by simp, by omega, rfl, by simp <;> omega, by simp, ⟨HST.out.1, HST.out.2.1, by simpa using HST.out.2.2.1, HST.out.2.2.2⟩⟩
      case round =>
        obtain ⟨i, pre, st, hk'', hil, rfl, hpl', hms, HR⟩ := hrel
        clear HST
        by_cases hlt : i < l'.length
        · obtain ⟨b, o, r, rc, rfl, hbB, d0, d1, d2, hR, e1, e2⟩ := HR.out.2.2.2.at_ i hlt
          have hdr := szs_drop hlt
          have hsz := HR.out.2.1.sz
          have hlr := HR.out.2.1.lo_
          obtain ⟨j1, s1, t1⟩ := sep_alloc hJ HR.out.1 (by omega) (Obj.cells #[.int .i64 l'[i].k, .int .i64 l'[i].n, .slice r l'[i].l.length rc] 24)
          have hv1 : SlV (wr.alloc (Obj.cells #[.int .i64 l'[i].k, .int .i64 l'[i].n, .slice r l'[i].l.length rc] 24)) lo r rc l'[i].l := hR.lo (Lo.blocks s1.low)
          obtain ⟨fn, tmps, assign, body, hy, hRd⟩ := hY pre (.agg #[.int .i64 l'[i].k, .int .i64 l'[i].n, .slice r l'[i].l.length rc], l'[i]) _ j1 ⟨⟨r, rc, rfl, hv1⟩, e1, e2⟩ (by omega)
          dsimp only at hy
          gi_wp2
          refine hRd.mono ?_
          have HP : Bx (SomeOf x (pre ++ [(.agg #[.int .i64 l'[i].k, .int .i64 l'[i].n, .slice r l'[i].l.length rc], l'[i])])) := ⟨(HR.out.2.2.1.one (R' := fun y => (Nods l'[i].l y ∨ Nods (l'.drop (i + 1)) y) ∨ Nodst st y) (fun y => by rw [nods_drop hlt]; simp only [or_assoc])).some⟩
          have HL1 : Bx (Left x (pre ++ [(.agg #[.int .i64 l'[i].k, .int .i64 l'[i].n, .slice r l'[i].l.length rc], l'[i])]) (fun y => (Nods l'[i].l y ∨ Nods (l'.drop (i + 1)) y) ∨ Nodst st y)) := ⟨HR.out.2.2.1.one (fun y => by rw [nods_drop hlt]; simp only [or_assoc])⟩
          have HE1 : Bx (EI foot lo rb O (wr.alloc (Obj.cells #[.int .i64 l'[i].k, .int .i64 l'[i].n, .slice r l'[i].l.length rc] 24)) u3 st ∧ Lst (wr.alloc (Obj.cells #[.int .i64 l'[i].k, .int .i64 l'[i].n, .slice r l'[i].l.length rc] 24)) lo rb (some ⟨b, o, none⟩) qc l') := ⟨HR.out.2.1.sep s1, HR.out.2.2.2.keep s1.low ((HR.out.2.1.sep s1).root.trans HR.out.2.1.root.symm)⟩
          have htb : (wr.alloc (Obj.cells #[.int .i64 l'[i].k, .int .i64 l'[i].n, .slice r l'[i].l.length rc] 24)).heap[wr.heap.size]? = some (Obj.cells #[.int .i64 l'[i].k, .int .i64 l'[i].n, .slice r l'[i].l.length rc] 24) := World.alloc_heap_new _ _
          have hntb : ¬ foot (wr.alloc (Obj.cells #[.int .i64 l'[i].k, .int .i64 l'[i].n, .slice r l'[i].l.length rc] 24)) wr.heap.size := fun hf => by
            have := (hJ.cells _ _ _ HR.out.1 (t1 _ hf)).2; omega
          have hV1 : Bx _ := ⟨hv1⟩
          clear hRd hy hR HR d0 d1 d2 t1 s1 j1 hv1
          rintro e W3 (⟨rfl, hJ3, hk3⟩ | ⟨rfl, hJx3⟩)
          · have h3b : W3.heap[wr.heap.size]? = some (Obj.cells #[.int .i64 l'[i].k, .int .i64 l'[i].n, .slice r l'[i].l.length rc] 24) := hk3.same _ _ htb rfl hntb
            have g2 : W3.cell? ⟨wr.heap.size, 2, none⟩ = some (.slice r l'[i].l.length rc) := by simp [World.cell?, h3b]
            have hE3 : EI foot lo rb O W3 u3 st := HE1.out.1.sep hk3
            have hL3 : Lst W3 lo rb (some ⟨b, o, none⟩) qc l' := HE1.out.2.keep hk3.low (hE3.root.trans HE1.out.1.root.symm)
            have hV3 : SlV W3 lo r rc l'[i].l := hV1.out.lo (Lo.blocks hk3.low)
            have hz3 : wr.heap.size + 1 ≤ W3.heap.size := by have := hk3.size; simpa using this
            by_cases hkid : 0 < l'[i].l.length
            · obtain ⟨j4, s4, t4⟩ := sep_alloc hJ hJ3 (by omega) (Obj.cells #[.slice r l'[i].l.length rc] 22)
              have hE4 := hE3.sep s4
              obtain ⟨xs, ho, hrow⟩ := hE4.stk.own
              have HJ4 : Bx _ := ⟨j4⟩
              have HE4 : Bx _ := ⟨hE4⟩
              have HO : Bx _ := ⟨ho⟩
              have HRW : Bx _ := ⟨hrow⟩
              have HL4 : Bx _ := ⟨hL3.keep s4.low (hE4.root.trans hE3.root.symm)⟩
              have HV4 : Bx _ := ⟨hV3.lo (Lo.blocks s4.low)⟩
              clear j4 hE4 ho hrow hL3 hV3 s4 t4 hE3 hJ3 hk3 HE1
              gi_wp2_with (first | (gi_at_builtin; refine wpListIn_app _ rfl (.tmp 38) (.tmp 41) 45 rfl (rb + 1) 22 i0 (.slice none 0 0) 1 24 Try.underlying45 hi iz0 iz1 iz2 rfl (by decide) u3 st.length xs rfl HO.out ⟨W3.heap.size, 0, none⟩ 1 1 [.slice r l'[i].l.length rc] rfl rfl (slice_one _ _ _ 22 (World.alloc_heap_new _ _)) (slice_cell _ _ _) (by decide) (by unfold maxLen; omega) (by omega) (by simp; omega) (W3.heap.size + 1) (by simp) ?_; intro gg gcap w' hown' hgrow hgi hgl'; obtain ⟨q1, q2, q3, q4⟩ := EI.push hJ HJ4.out HE4.out HO.out HRW.out HV4.out hown' hgrow (by simpa using hgi)))
              gi_roundg (l'.length - (i + 1))
              case measure => omega
              case rel => exact ⟨i + 1, _, st ++ [l'[i].l], rfl, by omega, by simp, by simp only [stz_append, stz, List.length_append, List.length_singleton]; omega, by simp only [stz_append, stz, List.length_append, List.length_singleton]; omega, ⟨q1, q2, HL1.out.same (fun y => by rw [nodst_snoc]; exact or_turn), HL4.out.keep q3 q4⟩⟩
            · have hs0 : szs l'[i].l = 0 := by rw [List.eq_nil_of_length_eq_zero (show l'[i].l.length = 0 by omega)]; simp [szs]
              have HN : Bx (∀ y, ¬ Nods l'[i].l y) := ⟨fun y h => by rw [List.eq_nil_of_length_eq_zero (show l'[i].l.length = 0 by omega)] at h; exact nods_nil y h⟩
              have HH : Bx (J _ W3 ∧ EI foot lo rb O W3 u3 st ∧ Lst W3 lo rb (some ⟨b, o, none⟩) qc l') := ⟨hJ3, hE3, hL3⟩
              clear hE3 hL3 hJ3 hk3 hV3
              gi_wp2
              gi_roundg (l'.length - (i + 1))
              case measure => omega
              case rel => exact ⟨i + 1, _, st, rfl, by omega, by simp, by simp only [List.length_append, List.length_singleton]; omega, by omega, ⟨HH.out.1, HH.out.2.1, HL1.out.same (fun y => by simp [HN.out y]), HH.out.2.2⟩⟩
          · gi_wp2
            refine bodyPost_ret (results_none rfl _ _ _) rfl ?_
            exact ⟨⟨_, rfl⟩, .inr ⟨_, HP.out, hJx3⟩⟩
        · have hie : i = l'.length := by omega
          subst hie
          simp only [List.drop_length, szs, Nat.add_zero] at hpl' hms
          have HF : Bx (J pre wr ∧ EI foot lo rb O wr u3 st ∧ Left x pre (Nodst st)) := ⟨HR.out.1, HR.out.2.1, HR.out.2.2.1.same (fun y => by simp [nods_nil])⟩
          clear HR
          gi_wp2
          gi_roundg (stz st + st.length)
          case measure => omega
          case rel => exact ⟨pre, st, rfl, by omega, hpl', ⟨HF.out.1, HF.out.2.1, HF.out.2.2⟩⟩
end Go.Proofs.Ytikijkpklneihaa
