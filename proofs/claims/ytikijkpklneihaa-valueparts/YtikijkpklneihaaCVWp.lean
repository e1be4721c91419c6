import Derived.Test.YtikijkpklneihaaCVTr
import Derived.Test.YtikijkpklneihaaCVWi
import Derived.Test.YtikijkpklneihaaCVWx
namespace Go.Proofs.Ytikijkpklneihaa
open Go.RowKit
set_option linter.unusedVariables false
set_option linter.unusedSimpArgs false

/-- the ghost that a copy's ghost gives -/
def ghG (G : Gm) (id : Nat) (q : List Nat) : Gh := fun b => (G b).map fun p => (id, p.1.reverse ++ q)
theorem ghG_at {G : Gm} {id : Nat} {q : List Nat} {b : Nat} {π : List Nat} {l : List V} (h : G b = some (π, l)) : ghG G id q b = some (id, π.reverse ++ q) := by simp [ghG, h]
theorem ghG_ne {G : Gm} {id : Nat} {q : List Nat} {b : Nat} (h : ghG G id q b ≠ none) : ∃ p, G b = some p := by
  cases hg : G b with
  | none => simp [ghG, hg] at h
  | some p => exact ⟨p, rfl⟩
theorem RwG.mrow {W : World} {lo B : Nat} {G : Gm} {n b : Nat} {π : List Nat} {l : List V} (h : RwG W lo B G n b π l) : MRow W b (l.length * 3) := by
  obtain ⟨cur, h1, h2⟩ := h.blk
  exact ⟨cur, h1, h2⟩
/-- a copy is a tree in blocks of its own -/
theorem OwT.tr {W : World} {lo : Nat} {G : Gm} {ρ : Gh} {id : Nat} {q0 : List Nat} (h : OwT W lo G) (hr : ∀ b π l, G b = some (π, l) → ρ b = some (id, π.reverse ++ q0)) : ∀ x : V, ∀ {π : List Nat} {q : Option Addr} {c : Nat}, ChG G π q c x.l → x.sz ≤ 1000000 → TrV W ρ id (π.reverse ++ q0) x q c := by
  intro x
  induction x using V.ind with
  | h k n l ih =>
    intro π q c hc hs
    have hl := szs_len l
    simp only [V.sz] at hs
    rcases hc with ⟨h1, rfl, rfl⟩ | ⟨g, rfl, hcl, hg⟩
    · change l = [] at h1
      subst h1
      exact TrV.iff.2 ⟨⟨by simp [V.l], fun _ => rfl⟩, by omega, .inl ⟨rfl, rfl, rfl⟩⟩
    · change c = l.length at hcl
      change G g = some (π, l) at hg
      subst hcl
      have hrw := h g π l hg
      refine TrV.iff.2 ⟨⟨Nat.le_refl _, fun _ => rfl⟩, by omega, .inr ⟨g, rfl, hr _ _ _ hg, hrw.mrow, TrAll.of_get fun i hi => ?_⟩⟩
      have hi' : i < l.length := hi
      have e := hrw.el i hi'
      obtain ⟨q', c', e1, _, e3⟩ := e.c2
      have hk := szs_mem (List.getElem_mem hi')
      rw [Nat.zero_add]
      refine ⟨e.c0, e.c1, e.k64, e.n64, q', c', e1, ?_⟩
      rw [show i :: (π.reverse ++ q0) = (π ++ [i]).reverse ++ q0 by simp]
      exact ih _ (List.getElem_mem hi') (e3 hi') (by omega)
/-- what does not lie about that place is not turned -/
theorem OwT.offT {W W' : World} {lo id : Nat} {q0 : List Nat} {ρ : Gh} {G : Gm} (h : OwT W lo G) (hr : ∀ b π l, G b = some (π, l) → ρ b = some (id, π.reverse ++ q0)) {b k : Nat} {σ : List Nat} {m : List V} {y : V} {q' : Option Addr} {c' : Nat} (hb : G b = some (σ, m)) (hs : St3 G W W' b k y q' c') (hrb : ∀ N, MRow W b N → MRow W' b N) : ∀ x : V, ∀ {π : List Nat} {q : Option Addr} {c : Nat}, ¬ π <+: σ → ChG G π q c x.l → x.sz ≤ 1000000 → TrV W' ρ id (π.reverse ++ q0) x q c := by
  intro x
  induction x using V.ind with
  | h k n l ih =>
    intro π q c hp hc hz
    have hl := szs_len l
    simp only [V.sz] at hz
    rcases hc with ⟨h1, rfl, rfl⟩ | ⟨g, rfl, hcl, hg⟩
    · change l = [] at h1
      subst h1
      exact TrV.iff.2 ⟨⟨by simp [V.l], fun _ => rfl⟩, by omega, .inl ⟨rfl, rfl, rfl⟩⟩
    · change c = l.length at hcl
      change G g = some (π, l) at hg
      subst hcl
      have hrw := h g π l hg
      have hgb : g ≠ b := by
        intro e
        subst e
        rw [hg] at hb
        injection hb with hb
        injection hb with e1 e2
        subst e1
        exact hp (List.prefix_refl _)
      have hc : ∀ o, W'.cell? ⟨g, o, none⟩ = W.cell? ⟨g, o, none⟩ := fun o => by simp [World.cell?, hs.oth g _ hg hgb]
      have hgw : MRow W' g (l.length * 3) := hrw.mrow.same (hs.oth g _ hg hgb)
      refine TrV.iff.2 ⟨⟨Nat.le_refl _, fun _ => rfl⟩, by omega, .inr ⟨g, rfl, hr _ _ _ hg, hgw, TrAll.of_get fun i hi => ?_⟩⟩
      have hi : i < l.length := hi
      have e := hrw.el i hi
      obtain ⟨q2, c2, e1, _, e3⟩ := e.c2
      have hk := szs_mem (List.getElem_mem hi)
      rw [Nat.zero_add]
      refine ⟨by rw [hc]; exact e.c0, by rw [hc]; exact e.c1, e.k64, e.n64, q2, c2, by rw [hc]; exact e1, ?_⟩
      rw [show i :: (π.reverse ++ q0) = (π ++ [i]).reverse ++ q0 by simp]
      exact ih _ (List.getElem_mem hi) (fun hq => hp ((List.prefix_append _ _).trans hq)) (e3 hi) (by omega)
/-- behind the store the whole reads with the part put in -/
theorem OwT.withT {W W' : World} {lo id : Nat} {q0 : List Nat} {ρ : Gh} {G : Gm} (h : OwT W lo G) (hr : ∀ b π l, G b = some (π, l) → ρ b = some (id, π.reverse ++ q0)) {b : Nat} {k : Int} {σ : List Nat} {m : List V} {y z : V} {q' : Option Addr} {c' : Nat} (hb : G b = some (σ, m)) (hs : St3 G W W' b k.toNat y q' c') (hrb : ∀ N, MRow W b N → MRow W' b N) (hy : TrV W' ρ id (k.toNat :: σ.reverse ++ q0) y q' c') : ∀ (pre : List Int) (x : V) (π : List Nat) (q : Option Addr) (c : Nat), findV x (pre ++ [k]) = some z → ChG G π q c x.l → wq W pre q = some (some ⟨b, 0, none⟩) → σ = π ++ pre.map Int.toNat → x.sz ≤ 1000000 → TrV W' ρ id (π.reverse ++ q0) (putV x (pre ++ [k]) y) q c := by
  intro pre
  induction pre with
  | nil =>
    intro x π q c hf hc hw hsg hz
    simp only [List.nil_append] at hf ⊢
    simp only [List.map_nil, List.append_nil] at hsg
    subst hsg
    obtain ⟨hg, hl, _⟩ := find_cons hf
    have hxl := szs_len x.l
    rw [V.sz_eq] at hz
    simp only [wq, Option.some.injEq] at hw
    subst hw
    have e1 : (putV x [k] y).l = x.l.set k.toNat y := rfl
    refine TrV.iff.2 ?_
    rw [e1]
    rcases hc with ⟨h1, h2, _⟩ | ⟨g, hq, hcl, hgg⟩
    · cases h2
    · injection hq with hq
      injection hq with hq
      subst hq
      have hrw := h b _ _ hgg
      subst hcl
      refine ⟨⟨by simp, fun _ => by simp⟩, by omega, .inr ⟨b, rfl, hr _ _ _ hgg, hrb _ hrw.mrow, TrAll.of_get fun i hi => ?_⟩⟩
      rw [Nat.zero_add]
      have hi' : i < x.l.length := by simpa using hi
      by_cases hik : i = k.toNat
      · subst hik
        rw [List.getElem_set_self]
        exact ⟨hs.c0, hs.c1, hs.k64, hs.n64, q', c', hs.c2, hy⟩
      · rw [List.getElem_set_ne (by omega)]
        have e := hrw.el i hi'
        obtain ⟨q2, c2, e1, _, e3⟩ := e.c2
        have hk := szs_mem (List.getElem_mem hi')
        exact ⟨by rw [hs.rest _ (by omega) (by omega) (by omega)]; exact e.c0, by rw [hs.rest _ (by omega) (by omega) (by omega)]; exact e.c1, e.k64, e.n64, q2, c2, by rw [hs.rest _ (by omega) (by omega) (by omega)]; exact e1, by
          have := h.offT hr hb hs hrb _ pre_no (e3 hi') (by omega)
          simpa using this⟩
  | cons k1 pre ih =>
    intro x π q c hf hc hw hsg hz
    rw [List.cons_append] at hf ⊢
    obtain ⟨hg, hl, hf2⟩ := find_cons hf
    have hxl := szs_len x.l
    rw [V.sz_eq] at hz
    have e1 : (putV x (k1 :: (pre ++ [k])) y).l = x.l.set k1.toNat (putV x.l[k1.toNat] (pre ++ [k]) y) := by
      rw [put_l, getD_of hl]
    refine TrV.iff.2 ?_
    rw [e1]
    rcases hc with ⟨h1, h2, _⟩ | ⟨g, rfl, hcl, hgg⟩
    · rw [h1] at hl; simp at hl
    · have hrw := h g _ _ hgg
      subst hcl
      have hgb : g ≠ b := by
        intro e
        subst e
        rw [hgg] at hb
        injection hb with hb
        injection hb with e1 e2
        rw [hsg] at e1
        have := congrArg List.length e1
        simp at this
      have hc : ∀ o, W'.cell? ⟨g, o, none⟩ = W.cell? ⟨g, o, none⟩ := fun o => by simp [World.cell?, hs.oth g _ hgg hgb]
      have hgw : MRow W' g (x.l.length * 3) := hrw.mrow.same (hs.oth g _ hgg hgb)
      refine ⟨⟨by simp, fun _ => by simp⟩, by omega, .inr ⟨g, rfl, hr _ _ _ hgg, hgw, TrAll.of_get fun i hi => ?_⟩⟩
      rw [Nat.zero_add]
      have hi' : i < x.l.length := by simpa using hi
      have e := hrw.el i hi'
      obtain ⟨q2, c2, e1, _, e3⟩ := e.c2
      have hk := szs_mem (List.getElem_mem hi')
      by_cases hik : i = k1.toNat
      · subst hik
        rw [List.getElem_set_self]
        rw [wq_cons e1] at hw
        have r := ih x.l[k1.toNat] (π ++ [k1.toNat]) q2 c2 hf2 (e3 hi') hw (by rw [hsg]; simp) (by omega)
        have hkn : ∀ v : V, ∀ ks : List Int, (putV v (ks ++ [k]) y).k = v.k ∧ (putV v (ks ++ [k]) y).n = v.n := by
          intro v ks
          cases ks with
          | nil => exact ⟨rfl, rfl⟩
          | cons a rs => exact ⟨rfl, rfl⟩
        have hln : ∀ v : V, ∀ ks : List Int, (putV v (ks ++ [k]) y).l.length = v.l.length := by
          intro v ks
          cases ks with
          | nil => rw [List.nil_append, put_l, List.length_set]
          | cons a rs => rw [List.cons_append, put_l, List.length_set]
        refine ⟨by rw [(hkn _ _).1, hc]; exact e.c0, by rw [(hkn _ _).2, hc]; exact e.c1, by rw [(hkn _ _).1]; exact e.k64, by rw [(hkn _ _).2]; exact e.n64, q2, c2, by rw [hln, hc]; exact e1, by simpa using r⟩
      · rw [List.getElem_set_ne (by omega)]
        exact ⟨by rw [hc]; exact e.c0, by rw [hc]; exact e.c1, e.k64, e.n64, q2, c2, by rw [hc]; exact e1, by
          have := h.offT hr hb hs hrb _ (pre_ne (by rw [hsg]; simp; rfl) hik) (e3 hi') (by omega)
          simpa using this⟩
/-- the end: what the whole reads as -/
theorem wi_endT {W2 w3 W5 : World} {lo O : Nat} {G G2 : Gm} {x y z : V} {ks : List Int} {qo qp : Option Addr} {co cp : Nat} {b o : Nat} {q : Option Addr} {c : Nat} (hT : OwT W2 lo G) (hroot : ChG G [] qo co x.l) (hz : findV x ks = some z) (hx : x.sz ≤ 1000000) (hy : y.sz ≤ 1000000) (hy1 : I64 y.k) (hy2 : I64 y.n) (hp : PlI W2 G x ks O qo ks.length z b o q c)
    (hT2 : OwT w3 W2.heap.size G2) (hch : ChG G2 [] qp cp y.l) (hb3 : Below W2.heap.size W2 w3) (hO : O < W2.heap.size)
    (h5 : ∀ g p, G g = some p → g ≠ b → W5.heap[g]? = w3.heap[g]?) (h52 : ∀ g p, G2 g = some p → W5.heap[g]? = w3.heap[g]?) (hs5 : w3.heap.size ≤ W5.heap.size)
    (hb5 : b ≠ O → W5.heap[b]? = (((w3.setCell ⟨b, o, none⟩ (.int .i64 y.k)).setCell ⟨b, o + 1, none⟩ (.int .i64 y.n)).setCell ⟨b, o + 2, none⟩ (.slice qp y.l.length cp)).heap[b]?) (hne : ∀ g p, G g = some p → g ≠ O) :
    (ks = [] ∧ b = O ∧ o = 0 ∧ putV x ks y = y ∧ Prv W5 W2.heap.size w3.heap.size 0 y qp cp) ∨ (b ≠ O ∧ (putV x ks y).k = x.k ∧ (putV x ks y).n = x.n ∧ (putV x ks y).l.length = x.l.length ∧ Prv W5 lo w3.heap.size 0 (putV x ks y) qo co) := by
  have hT25 : OwT W5 W2.heap.size G2 := hT2.keep h52
  have hlt2 : ∀ g p, G2 g = some p → W2.heap.size ≤ g ∧ g < w3.heap.size := fun g p hg => ⟨(hT2 g p.1 p.2 hg).ge, (hT2 g p.1 p.2 hg).lt⟩
  have hlt1 : ∀ g p, G g = some p → lo ≤ g ∧ g < W2.heap.size := fun g p hg => ⟨(hT g p.1 p.2 hg).ge, (hT g p.1 p.2 hg).lt⟩
  rcases hp.pos with ⟨h1, h2, h3⟩ | ⟨j, m, hj, hij, ho, hg, hw⟩
  · have : ks = [] := List.eq_nil_of_length_eq_zero h1
    subst this
    refine .inl ⟨rfl, h2, h3, rfl, fun id q hid => ⟨ghG G2 id q, ?_, fun b hb => ?_, fun b r hb => ?_⟩⟩
    · have := hT25.tr (ρ := ghG G2 id q) (id := id) (q0 := q) (fun b π l hg => ghG_at hg) y hch hy
      simpa using this
    · obtain ⟨p, hp⟩ := ghG_ne hb
      exact hlt2 b p hp
    · cases hg : G2 b with
      | none => simp [ghG, hg] at hb
      | some p => exact ⟨p.1.reverse, by simp [ghG, hg] at hb; rw [← hb]⟩
  · have hbO := hne b _ hg
    have hks := take_all ks hij.symm hj
    obtain ⟨pre, hpre⟩ : ∃ pre, ks.take j = pre := ⟨_, rfl⟩
    obtain ⟨k, hk⟩ : ∃ k, ks[j] = k := ⟨_, rfl⟩
    rw [hpre, hk] at hks
    rw [hpre] at hg hw
    rw [hk] at ho
    rw [hks] at hz ⊢
    refine .inr ⟨hbO, by cases pre <;> rfl, by cases pre <;> rfl, by cases pre <;> simp [put_l], ?_⟩
    have hb5' := hb5 hbO
    obtain ⟨cur, hcu⟩ := hp.blk
    have hbl : b < W2.heap.size := (Array.getElem?_eq_some_iff.1 hcu).1
    have e0 : w3.cell? ⟨b, o, none⟩ = some (.int .i64 z.k) := by rw [hb3.cell (p := ⟨b, o, none⟩) hbl]; exact hp.c0
    have e1 : w3.cell? ⟨b, o + 1, none⟩ = some (.int .i64 z.n) := by rw [hb3.cell (p := ⟨b, o + 1, none⟩) hbl]; exact hp.c1
    have e2 : w3.cell? ⟨b, o + 2, none⟩ = some (.slice q z.l.length c) := by rw [hb3.cell (p := ⟨b, o + 2, none⟩) hbl]; exact hp.c2
    have hcell : ∀ t, W5.cell? ⟨b, t, none⟩ = (((w3.setCell ⟨b, o, none⟩ (.int .i64 y.k)).setCell ⟨b, o + 1, none⟩ (.int .i64 y.n)).setCell ⟨b, o + 2, none⟩ (.slice qp y.l.length cp)).cell? ⟨b, t, none⟩ := fun t => by simp only [World.cell?, hb5']
    have ne : ∀ {s t : Nat}, s ≠ t → (⟨b, s, none⟩ : Addr) ≠ ⟨b, t, none⟩ := fun h e => h (by injection e)
    have hst : St3 G W2 W5 b k.toNat y qp cp := by
      rw [ho] at *
      refine ⟨fun g p hgp hgb => ?_, fun t h1 h2 h3 => ?_, ?_, ?_, ?_, hy1, hy2, Nat.le_trans hb3.size hs5⟩
      · rw [h5 g p hgp hgb]
        exact hb3.block g (hT g p.1 p.2 hgp).lt
      · rw [hcell, World.cell?_setCell_other _ _ _ _ (ne (by omega)), World.cell?_setCell_other _ _ _ _ (ne (by omega)), World.cell?_setCell_other _ _ _ _ (ne (by omega))]
        exact hb3.cell (p := ⟨b, t, none⟩) hbl
      · rw [hcell, World.cell?_setCell_other _ _ _ _ (ne (by omega)), World.cell?_setCell_other _ _ _ _ (ne (by omega))]
        exact World.cell?_setCell_same _ _ _ e0
      · rw [hcell, World.cell?_setCell_other _ _ _ _ (ne (by omega))]
        exact World.cell?_setCell_same _ _ _ (by rw [World.cell?_setCell_other _ _ _ _ (ne (by omega))]; exact e1)
      · rw [hcell]
        exact World.cell?_setCell_same _ _ _ (by rw [World.cell?_setCell_other _ _ _ _ (ne (by omega)), World.cell?_setCell_other _ _ _ _ (ne (by omega))]; exact e2)
    have hrow : ∀ N, MRow W2 b N → MRow W5 b N := fun N h => by
      obtain ⟨C, c1, c2⟩ := h.ex
      have c3 : w3.heap[b]? = some (.cells C 24 (0, 0)) := (hb3.block b hbl).trans c1
      have c4 := set1_blk (set1_blk (set1_blk c3 o (.int .i64 y.k)) (o + 1) (.int .i64 y.n)) (o + 2) (.slice qp y.l.length cp)
      exact ⟨_, hb5'.trans c4, by simpa using c2⟩
    intro id q hid
    obtain ⟨σ, hσ⟩ : ∃ σ, pre.map Int.toNat = σ := ⟨_, rfl⟩
    rw [hσ] at hg
    refine ⟨fun b => if b < W2.heap.size then ghG G id q b else ghG G2 id (k.toNat :: σ.reverse ++ q) b, ?_, fun g hgn => ?_, fun g r hgr => ?_⟩
    · have hyT := hT25.tr (ρ := fun b => if b < W2.heap.size then ghG G id q b else ghG G2 id (k.toNat :: σ.reverse ++ q) b) (id := id) (q0 := k.toNat :: σ.reverse ++ q) (fun g π l hg2 => by
        simp only [if_neg (Nat.not_lt.2 (hlt2 g _ hg2).1)]
        exact ghG_at hg2) y hch hy
      have := hT.withT (ρ := fun b => if b < W2.heap.size then ghG G id q b else ghG G2 id (k.toNat :: σ.reverse ++ q) b) (id := id) (q0 := q) (fun g π l hg2 => by
        simp only [if_pos (hlt1 g _ hg2).2]
        exact ghG_at hg2) hg hst hrow (by simpa using hyT) pre x [] qo co hz hroot hw (by simp [hσ]) hx
      simpa using this
    · dsimp only at hgn
      split at hgn
      · obtain ⟨p, hp⟩ := ghG_ne hgn
        have := hlt1 g p hp
        have := hb3.size
        omega
      · obtain ⟨p, hp⟩ := ghG_ne hgn
        have := hlt2 g p hp
        have := hlt1 b _ hg
        omega
    · dsimp only at hgr
      split at hgr
      · cases hg2 : G g with
        | none => simp [ghG, hg2] at hgr
        | some p => exact ⟨p.1.reverse, by simp [ghG, hg2] at hgr; rw [← hgr]⟩
      · cases hg2 : G2 g with
        | none => simp [ghG, hg2] at hgr
        | some p => exact ⟨p.1.reverse ++ k.toNat :: σ.reverse, by simp [ghG, hg2] at hgr; rw [← hgr]; simp⟩
end Go.Proofs.Ytikijkpklneihaa
namespace Go.Proofs.Ytikijkpklneihaa
open Go.RowKit
set_option linter.unusedVariables false
set_option linter.unusedSimpArgs false

set_option maxRecDepth 100000 in
set_option maxHeartbeats 2000000 in
theorem Part_own (w : World) (B : Nat) (v : Value) (x y : V) (pp : Option Addr) (pc : Nat) (ks : List Int) (hv : IsV w B v x) (hp : Pth w B pp pc ks) (hB : B ≤ w.heap.size) (hf : findV x ks = some y) (hx : x.sz ≤ 200000) :
    Calls Try.prog 7 #[v, .slice pp ks.length pc] w fun e w' => ∃ qp cp, e = .returned (.tuple #[.agg #[.int .i64 y.k, .int .i64 y.n, .slice qp y.l.length cp], .bool true]) ∧ (I64 y.k ∧ I64 y.n) ∧ Prv w' w.heap.size w'.heap.size 0 y qp cp ∧ Below w.heap.size w w' := by
  have hys : y.sz ≤ 200000 := by have := find_sz hf; omega
  obtain ⟨⟨p, cap, rfl, h1⟩, h2, h3⟩ := hv
  obtain ⟨W0, hW0⟩ : ∃ W0, (w.alloc (Obj.cells #[Value.int IntKind.i64 x.k, Value.int IntKind.i64 x.n, Value.slice p x.l.length cap] 24)).alloc z3 = W0 := ⟨_, rfl⟩
  have hb0 : Below w.heap.size w W0 := by rw [← hW0]; exact two_new _ _ _
  have ha0 : W0.heap[w.heap.size]? = some (Obj.cells #[Value.int IntKind.i64 x.k, Value.int IntKind.i64 x.n, Value.slice p x.l.length cap] 24) := by
    rw [← hW0]; exact (Below.heap_alloc _ _ _ (by simp)).trans (World.alloc_heap_new _ _)
  have ha1 : W0.heap[w.heap.size + 1]? = some z3 := by rw [← hW0]; exact alloc_at _ _ _
  obtain ⟨c0, c1, c2, f0, f1, f2, hAl⟩ := c3 ha0
  have hLo : Lo B w W0 := Lo.of (hb0.mono hB)
  have HF : Bx _ := ⟨find_any W0 B (.agg #[.int .i64 x.k, .int .i64 x.n, .slice p x.l.length cap]) x pp pc ks ⟨⟨p, cap, rfl, h1.lo hLo⟩, h2, h3⟩ (hp.lo hLo) (by have := hb0.size; omega)⟩
  have HB0 : Bx _ := ⟨hb0⟩
  have HH1 : Bx _ := ⟨ha1⟩
  have HY : Bx _ := ⟨hys⟩
  clear hp h1 h2 h3 hb0 ha0 ha1 hLo hys hx
  go_enter Try.func7, Try.ntmps7
  go_wp2_with (first | (go_at_call 21; refine Calls.mono HF.out ?_; rintro e w2 (⟨y', u, hf', rfl, hu, hb2⟩ | ⟨hf', _, _⟩); rotate_left; exact absurd (hf.symm.trans hf') (by simp); obtain rfl : y = y' := Option.some.inj (hf.symm.trans hf'); have hz2 := hb2.size; have HU : Bx _ := ⟨hu⟩; obtain ⟨⟨q, d, rfl, _⟩, _, _⟩ := hu; obtain ⟨W3, hW3⟩ : ∃ W3, w2.alloc (Obj.cells #[.int .i64 y.k, .int .i64 y.n, .slice q y.l.length d] 24) = W3 := ⟨_, rfl⟩; have HB3 : Bx (Below w2.heap.size w2 W3) := ⟨by rw [← hW3]; exact below1 _ _⟩; have h3a : W3.heap[w2.heap.size]? = some (Obj.cells #[.int .i64 y.k, .int .i64 y.n, .slice q y.l.length d] 24) := (by rw [← hW3]; exact World.alloc_heap_new _ _); obtain ⟨d0, d1, d2, e0, e1, e2, hDl⟩ := c3 h3a; clear h3a) | (go_at_call 22; refine Calls.mono (own_any W3 B (.agg #[.int .i64 y.k, .int .i64 y.n, .slice q y.l.length d]) y (HU.out.lo (Lo.of (HB3.out.mono (by have := HB0.out.size; omega)))) (by have := HB0.out.size; omega) HY.out) ?_; rintro e w4 ⟨q', c', G, rfl, HO, HCh, hb4⟩; have hw1 : w.heap.size + 1 < W0.heap.size := (Array.getElem?_eq_some_iff.1 HH1.out).1; have hr4 : w4.heap[w.heap.size + 1]? = some z3 := (hb4.block _ (by have := HB3.out.size; omega)).trans ((HB3.out.block _ (by omega)).trans ((hb2.block _ hw1).trans HH1.out)); obtain ⟨r0, r1, r2, s0, s1, s2, hAl3⟩ := c3 hr4; have HO' : Bx _ := ⟨HO⟩; have HC' : Bx _ := ⟨HCh⟩; clear HO HCh hr4))
  refine bodyPost_ret (v := .tuple #[.agg #[.int .i64 y.k, .int .i64 y.n, .slice q' y.l.length c'], .bool true]) (by simp [results, Try.results7, go_sem, r0, r1, r2, hAl3]) rfl ⟨_, _, rfl, ⟨HU.out.k64, HU.out.n64⟩, ?_, ?_⟩
  · have hz3 := HB3.out.size
    have hT5 : OwT (((w4.setCell ⟨w.heap.size + 1, 0, none⟩ (.int .i64 y.k)).setCell ⟨w.heap.size + 1, 1, none⟩ (.int .i64 y.n)).setCell ⟨w.heap.size + 1, 2, none⟩ (.slice q' y.l.length c')) W3.heap.size G := HO'.out.keep fun b p hg => set3_other _ _ _ (by
      have := (HO'.out b p.1 p.2 hg).ge
      omega)
    intro id q0 hid
    refine ⟨ghG G id q0, ?_, fun b hb => ?_, fun b r hb => ?_⟩
    · have := hT5.tr (ρ := ghG G id q0) (id := id) (q0 := q0) (fun b π l hg => ghG_at hg) y HC'.out (by have := HY.out; omega)
      simpa using this
    · obtain ⟨p, hp⟩ := ghG_ne hb
      have h1 := (HO'.out b p.1 p.2 hp).ge
      have h2 := (HO'.out b p.1 p.2 hp).lt
      have h3 := HB0.out.size
      simp only [World.size_setCell]
      omega
    · cases hg : G b with
      | none => simp [ghG, hg] at hb
      | some p => exact ⟨p.1.reverse, by simp [ghG, hg] at hb; rw [← hb]⟩
  · exact below3 (((HB0.out.trans (hb2.mono HB0.out.size)).trans (HB3.out.mono (by have := HB0.out.size; omega))).trans (hb4.mono (by have := HB0.out.size; have := HB3.out.size; omega))) (by omega) _ _ _
set_option maxRecDepth 100000 in
set_option maxHeartbeats 4000000 in
theorem With_own (w : World) (B : Nat) (v u : Value) (x y z : V) (pp : Option Addr) (pc : Nat) (ks : List Int) (hv : IsV w B v x) (hu : IsV w B u y) (hp : Pth w B pp pc ks) (hB : B ≤ w.heap.size) (hf : findV x ks = some z) (hx : x.sz ≤ 200000) (hy : y.sz ≤ 200000) :
    Calls Try.prog 8 #[v, .slice pp ks.length pc, u] w fun e w' => ∃ qa ca, e = .returned (.tuple #[.agg #[.int .i64 (putV x ks y).k, .int .i64 (putV x ks y).n, .slice qa (putV x ks y).l.length ca], .bool true]) ∧ (I64 (putV x ks y).k ∧ I64 (putV x ks y).n) ∧ Prv w' w.heap.size w'.heap.size 0 (putV x ks y) qa ca ∧ Below w.heap.size w w' := by
  obtain ⟨⟨p, cap, rfl, h1⟩, h2, h3⟩ := hv
  obtain ⟨⟨r, rcap, rfl, k1⟩, k2, k3⟩ := hu
  have hpl := hp.len
  have hpm := hp.max
  unfold maxLen at hpm
  obtain ⟨A, hA⟩ : ∃ A, A = w.heap.size := ⟨_, rfl⟩
  obtain ⟨W0, hW0⟩ : ∃ W0, ((w.alloc (Obj.cells #[.int .i64 x.k, .int .i64 x.n, .slice p x.l.length cap] 24)).alloc (Obj.cells #[.int .i64 y.k, .int .i64 y.n, .slice r y.l.length rcap] 24)).alloc z3 = W0 := ⟨_, rfl⟩
  have hb0 : Below A w W0 := by rw [hA, ← hW0]; exact three_new _ _ _ _
  have hz0 : W0.heap.size = A + 3 := by rw [hA, ← hW0]; simp
  have ha0 : W0.heap[A]? = some (Obj.cells #[.int .i64 x.k, .int .i64 x.n, .slice p x.l.length cap] 24) := by
    rw [hA, ← hW0]; exact (Below.heap_alloc _ _ _ (by simp; omega)).trans ((Below.heap_alloc _ _ _ (by simp)).trans (World.alloc_heap_new _ _))
  have ha1 : W0.heap[A + 1]? = some (Obj.cells #[.int .i64 y.k, .int .i64 y.n, .slice r y.l.length rcap] 24) := by
    rw [hA, ← hW0]; exact (Below.heap_alloc _ _ _ (by simp)).trans (alloc_at _ _ _)
  have ha2 : W0.heap[A + 2]? = some z3 := by
    rw [hA, ← hW0]; have := World.alloc_heap_new ((w.alloc (Obj.cells #[.int .i64 x.k, .int .i64 x.n, .slice p x.l.length cap] 24)).alloc (Obj.cells #[.int .i64 y.k, .int .i64 y.n, .slice r y.l.length rcap] 24)) z3; simpa using this
  obtain ⟨c0, c1, c2, f0, f1, f2, hAl⟩ := c3 ha0
  have hLo : Lo B w W0 := Lo.of (hb0.mono (by omega))
  have HF : Bx _ := ⟨find_any W0 B (.agg #[.int .i64 x.k, .int .i64 x.n, .slice p x.l.length cap]) x pp pc ks ⟨⟨p, cap, rfl, h1.lo hLo⟩, h2, h3⟩ (hp.lo hLo) (by omega)⟩
  have HP : Bx (Pth w B pp pc ks) := ⟨hp⟩
  -- a world behind W0
  have HN : Bx (∀ X, Below W0.heap.size W0 X → (X.heap[A]? = some (Obj.cells #[.int .i64 x.k, .int .i64 x.n, .slice p x.l.length cap] 24) ∧ X.heap[A + 1]? = some (Obj.cells #[.int .i64 y.k, .int .i64 y.n, .slice r y.l.length rcap] 24) ∧ X.heap[A + 2]? = some z3) ∧ (IsV X B (.agg #[.int .i64 x.k, .int .i64 x.n, .slice p x.l.length cap]) x ∧ IsV X B (.agg #[.int .i64 y.k, .int .i64 y.n, .slice r y.l.length rcap]) y) ∧ Below A w X ∧ A + 3 ≤ X.heap.size ∧ Pth X B pp pc ks) := ⟨fun X hX => by
    have hs := hX.size
    have hbX : Below A w X := hb0.trans (hX.mono (by omega))
    have hLX : Lo B w X := Lo.of (hbX.mono (by omega))
    exact ⟨⟨(hX.block A (by omega)).trans ha0, (hX.block (A + 1) (by omega)).trans ha1, (hX.block (A + 2) (by omega)).trans ha2⟩, ⟨⟨⟨p, cap, rfl, h1.lo hLX⟩, h2, h3⟩, ⟨⟨r, rcap, rfl, k1.lo hLX⟩, k2, k3⟩⟩, hbX, by omega, hp.lo hLX⟩⟩
  have HI : Bx ((I64 x.k ∧ I64 x.n) ∧ I64 y.k ∧ I64 y.n) := ⟨⟨h2, h3⟩, k2, k3⟩
  have HSZ : Bx (x.sz ≤ 200000 ∧ y.sz ≤ 200000) := ⟨hx, hy⟩
  have HBA : Bx (B ≤ A) := ⟨by omega⟩
  clear hp h1 h2 h3 k1 k2 k3 hb0 ha0 ha1 ha2 hLo hx hy hB hz0
  subst hA
  go_enter Try.func8, Try.ntmps8
  go_wp2_with (first
    | (go_at_call 21; refine Calls.mono HF.out ?_; clear HF; rintro e w1 (⟨z', a1, hf', rfl, hu1, hb1⟩ | ⟨hf', _, _⟩); rotate_left; exact absurd (hf.symm.trans hf') (by simp); obtain rfl : z = z' := Option.some.inj (hf.symm.trans hf'); clear hf'; obtain ⟨⟨q1, d1, rfl, _⟩, _, _⟩ := hu1; obtain ⟨W1, hW1⟩ : ∃ W1, w1.alloc (Obj.cells #[.int .i64 z.k, .int .i64 z.n, .slice q1 z.l.length d1] 24) = W1 := ⟨_, rfl⟩; have HB1 : Bx (Below W0.heap.size W0 W1) := ⟨hb1.trans (by rw [← hW1]; exact (below1 _ _).mono hb1.size)⟩; obtain ⟨m0, m1, m2, n0, n1, n2, hM⟩ := c3 (HN.out W1 HB1.out).1.1; clear hb1 c0 c1 c2 f0 f1 f2 hAl)
    | (go_at_call 22; refine Calls.mono (own_any W1 B (.agg #[.int .i64 x.k, .int .i64 x.n, .slice p x.l.length cap]) x (HN.out W1 HB1.out).2.1.1 (by have := HBA.out; have := (HN.out W1 HB1.out).2.2.2.1; omega) HSZ.out.1) ?_; rintro e w2 ⟨qo, co, G, rfl, hT, hroot, hb2⟩; obtain ⟨W2, hW2⟩ : ∃ W2, w2.alloc (Obj.cells #[.int .i64 x.k, .int .i64 x.n, .slice qo x.l.length co] 24) = W2 := ⟨_, rfl⟩; have hbb : Below w2.heap.size w2 W2 := (by rw [← hW2]; exact below1 _ _); have hO2 : W2.heap[w2.heap.size]? = some (Obj.cells #[.int .i64 x.k, .int .i64 x.n, .slice qo x.l.length co] 24) := (by rw [← hW2]; exact World.alloc_heap_new _ _); have HB2 : Bx (Below W0.heap.size W0 W2) := ⟨HB1.out.trans ((hb2.trans (hbb.mono hb2.size)).mono HB1.out.size)⟩; have HO : Bx (OwT W2 W1.heap.size G ∧ ChG G [] qo co x.l ∧ W2.heap[w2.heap.size]? = some (Obj.cells #[.int .i64 x.k, .int .i64 x.n, .slice qo x.l.length co] 24) ∧ (∀ g p, G g = some p → g < w2.heap.size) ∧ W1.heap.size ≤ w2.heap.size) := ⟨hT.below hbb, hroot, hO2, fun g p hg => (hT g p.1 p.2 hg).lt, hb2.size⟩; obtain ⟨O, hOe⟩ : ∃ O, w2.heap.size = O := ⟨_, rfl⟩; have hOB : Bx _ := ⟨hOe⟩; clear hT hroot hb2 hbb hO2 m0 m1 m2 n0 n1 n2 hM))
  rw [hOB.out] at HO
  have HPL : Bx (PlI W2 G x ks O qo 0 x O 0 qo co) := ⟨by
    obtain ⟨m0, m1, m2, _⟩ := c3 HO.out.2.2.1
    exact ⟨by simp, m0, m1, m2, ⟨_, HO.out.2.2.1⟩, HO.out.2.1, rfl, .inl ⟨rfl, rfl, rfl⟩⟩⟩
  clear hOe hOB hW0 hW1 hW2
  go_loopg [11, 27] ks.length (fun k pv iv wr => ∃ (i : Nat) (y' : V) (b o : Nat) (q : Option Addr) (c : Nat), k = ks.length - i ∧ i ≤ ks.length ∧ iv = .int .i64 i ∧ pv = .pointer (some ⟨b, o, none⟩) ∧ wr = W2 ∧ Bx (PlI W2 G x ks O qo i y' b o q c))
  case atStart => exact ⟨0, x, O, 0, qo, co, by simp, by omega, rfl, rfl, rfl, HPL⟩
  case round =>
    clear HPL
    obtain ⟨i, y', b, o, q, c, hk, hil, rfl, rfl, rfl, HPL⟩ := hrel
    by_cases hlt : i < ks.length
    · obtain ⟨e, g, he, q', c', hke, rfl, rfl, hn⟩ := PlI.next HO.out.1 HPL.out hlt hf
      obtain ⟨b2, o2, rfl, _, g0, _⟩ := (HN.out wr HB2.out).2.2.2.2.at_ i hlt
      rw [hke] at g0
      have g2 := HPL.out.c2
      have HNX : Bx _ := ⟨hn⟩
      clear hn HPL hke
      go_wp2
      go_roundg (ks.length - (i + 1))
      case measure => omega
      case rel => exact ⟨i + 1, y'.l[e], g, e * 3, q', c', rfl, by omega, by simp, by simp, rfl, HNX⟩
    · have hie : i = ks.length := by omega
      subst hie
      have hyz : z = y' := by
        have := HPL.out.f
        rw [hf] at this
        simpa [findV] using this
      subst hyz
      obtain ⟨y0, y1, y2, z0, z1, z2, hYl⟩ := c3 (HN.out wr HB2.out).1.2.1
      have HOW : Bx (Calls Try.prog 22 #[.agg #[.int .i64 y.k, .int .i64 y.n, .slice r y.l.length rcap]] wr (OnPost wr y)) := ⟨own_any wr B _ y (HN.out wr HB2.out).2.1.2 (by have := HBA.out; have := (HN.out wr HB2.out).2.2.2.1; omega) HSZ.out.2⟩
      have HZ : Bx (w.heap.size + 3 ≤ W1.heap.size ∧ O < wr.heap.size ∧ b < wr.heap.size ∧ w.heap.size + 3 ≤ b ∧ w.heap.size + 2 ≠ b) := ⟨by
        have q1 := (HN.out W1 HB1.out).2.2.2.1
        have q2 := (Array.getElem?_eq_some_iff.1 HO.out.2.2.1).1
        obtain ⟨cur, q3⟩ := HPL.out.blk
        have q4 := (Array.getElem?_eq_some_iff.1 q3).1
        have q5 := HO.out.2.2.2.2
        have q6 : w.heap.size + 3 ≤ b := by
          rcases HPL.out.pos with ⟨_, h2, _⟩ | ⟨j, m, hj, _, _, hg, _⟩
          · omega
          · have := (HO.out.1 b _ _ hg).ge
            omega
        exact ⟨q1, q2, q4, q6, by omega⟩⟩
      have HST : Bx (∀ w3, Below wr.heap.size wr w3 → (w3.cell? ⟨b, o, none⟩ = some (.int .i64 z.k) ∧ w3.cell? ⟨b, o + 1, none⟩ = some (.int .i64 z.n) ∧ w3.cell? ⟨b, o + 2, none⟩ = some (.slice q z.l.length c)) ∧ (∀ t, w3.frozen? ⟨b, t, none⟩ = false) ∧ b < w3.heap.size ∧ w3.heap[O]? = wr.heap[O]? ∧ w3.heap[w.heap.size + 2]? = some z3) := ⟨fun w3 h3 => by
        obtain ⟨cur, q3⟩ := HPL.out.blk
        have hbl := HZ.out.2.2.1
        have hb3 := (h3.block b hbl).trans q3
        exact ⟨⟨by rw [h3.cell (p := ⟨b, o, none⟩) hbl]; exact HPL.out.c0, by rw [h3.cell (p := ⟨b, o + 1, none⟩) hbl]; exact HPL.out.c1, by rw [h3.cell (p := ⟨b, o + 2, none⟩) hbl]; exact HPL.out.c2⟩, fun t => by simp [World.frozen?, hb3], Nat.lt_of_lt_of_le hbl h3.size, h3.block O HZ.out.2.1, (h3.block _ (by have := HZ.out; omega)).trans (HN.out wr HB2.out).1.2.2⟩⟩
      have HEND : Bx (∀ w3 qp cp G2, OwT w3 wr.heap.size G2 → ChG G2 [] qp cp y.l → Below wr.heap.size wr w3 → ∀ W5, (∀ g, g ≠ b → g ≠ w.heap.size + 2 → W5.heap[g]? = w3.heap[g]?) → w3.heap.size ≤ W5.heap.size → (b ≠ O → W5.heap[b]? = (((w3.setCell ⟨b, o, none⟩ (.int .i64 y.k)).setCell ⟨b, o + 1, none⟩ (.int .i64 y.n)).setCell ⟨b, o + 2, none⟩ (.slice qp y.l.length cp)).heap[b]?) →
        (ks = [] ∧ b = O ∧ o = 0 ∧ putV x ks y = y ∧ Prv W5 wr.heap.size w3.heap.size 0 y qp cp) ∨ (b ≠ O ∧ (putV x ks y).k = x.k ∧ (putV x ks y).n = x.n ∧ (putV x ks y).l.length = x.l.length ∧ Prv W5 W1.heap.size w3.heap.size 0 (putV x ks y) qo co)) := ⟨fun w3 qp cp G2 a1 a2 a3 W5 a4 a5 a6 => by
        have hz := HZ.out
        have hsx := HSZ.out
        refine wi_endT (lo := W1.heap.size) HO.out.1 HO.out.2.1 hf (by omega) (by omega) HI.out.2.1 HI.out.2.2 HPL.out a1 a2 a3 hz.2.1 (fun g p hg hgb => a4 g hgb ?_) (fun g p hg => a4 g ?_ ?_) a5 a6 (fun g p hg => Nat.ne_of_lt (HO.out.2.2.2.1 g p hg))
        · have := (HO.out.1 g _ _ hg).ge
          omega
        · have := (a1 g _ _ hg).ge
          omega
        · have := (a1 g _ _ hg).ge
          omega⟩
      have HBW : Bx (Below w.heap.size w wr) := ⟨(HN.out wr HB2.out).2.2.1⟩
      rcases HPL.out.pos with ⟨h1, h2, h3⟩ | ⟨j, m, hj, hij, ho, hg, hw⟩
      · subst h2 h3
        have hk0 : ks = [] := List.eq_nil_of_length_eq_zero h1
        clear HPL hk
        go_wp2_with (first
          | (go_at_call 22; refine Calls.mono HOW.out ?_; clear HOW; rintro e w3 ⟨qp, cp, G2, rfl, hT2, hch, hb3⟩; obtain ⟨⟨e0, e1, e2⟩, ef, hbl, hO3, hA3⟩ := HST.out w3 hb3; have ef0 := ef 0; have ef1 := ef 1; have ef2 := ef 2; rw [Nat.zero_add] at e1 e2; obtain ⟨W4, hW4⟩ : ∃ W4, ((w3.setCell ⟨b, 0, none⟩ (.int .i64 y.k)).setCell ⟨b, 1, none⟩ (.int .i64 y.n)).setCell ⟨b, 2, none⟩ (.slice qp y.l.length cp) = W4 := ⟨_, rfl⟩; have hO4 : W4.heap[b]? = some (Obj.cells #[.int .i64 y.k, .int .i64 y.n, .slice qp y.l.length cp] 24) := (by rw [← hW4]; exact set3 (hO3.trans HO.out.2.2.1)); have hA4 : W4.heap[w.heap.size + 1 + 1]? = some z3 := (by rw [← hW4]; exact (set3_other _ _ _ HZ.out.2.2.2.2).trans hA3); obtain ⟨p0, p1, p2, q0, q1, q2, hPl⟩ := c3 hO4; obtain ⟨r0, r1, r2, s0, s1, s2, hAl⟩ := c3 hA4; have HX : Bx (OwT w3 wr.heap.size G2 ∧ ChG G2 [] qp cp y.l ∧ Below wr.heap.size wr w3) := ⟨hT2, hch, hb3⟩; have HW4 : Bx _ := ⟨hW4⟩; clear hT2 hch hb3 hO4 hA4 hO3 hA3 HST ef))
        refine bodyPost_ret (v := .tuple #[.agg #[.int .i64 y.k, .int .i64 y.n, .slice qp y.l.length cp], .bool true]) (by simp [results, Try.results8, go_sem, r0, r1, r2, hAl]) rfl ?_
        rcases HEND.out w3 qp cp G2 HX.out.1 HX.out.2.1 HX.out.2.2 (((W4.setCell ⟨w.heap.size + 1 + 1, 0, none⟩ (.int .i64 y.k)).setCell ⟨w.heap.size + 1 + 1, 1, none⟩ (.int .i64 y.n)).setCell ⟨w.heap.size + 1 + 1, 2, none⟩ (.slice qp y.l.length cp)) (fun g g1 g2 => by rw [set3_other _ _ _ g2, ← HW4.out, set3_other _ _ _ g1]) (by simp [← HW4.out]) (fun h => absurd rfl h) with ⟨_, _, _, e4, e5⟩ | ⟨e1, _⟩
        · rw [e4]
          have hs34 : w3.heap.size = W4.heap.size := by rw [← HW4.out]; simp
          have hz := HZ.out
          have hbz := HBW.out.size
          refine ⟨_, _, rfl, HI.out.2, e5.up hbz (by simp only [World.size_setCell]; omega), ?_⟩
          refine below3 (A := w.heap.size + 1 + 1) ?_ (by omega) _ _ _
          rw [← HW4.out]
          exact below3 (HBW.out.trans (HX.out.2.2.mono HBW.out.size)) (by have := HZ.out; omega) _ _ _
        · exact absurd rfl e1
      · have hbO : b ≠ O := Nat.ne_of_lt (HO.out.2.2.2.1 b _ hg)
        clear HPL hk hg hw ho hij hj
        go_wp2_with (first
          | (go_at_call 22; refine Calls.mono HOW.out ?_; clear HOW; rintro e w3 ⟨qp, cp, G2, rfl, hT2, hch, hb3⟩; obtain ⟨⟨e0, e1, e2⟩, ef, hbl, hO3, hA3⟩ := HST.out w3 hb3; have ef0 := ef o; have ef1 := ef (o + 1); have ef2 := ef (o + 2); obtain ⟨W4, hW4⟩ : ∃ W4, ((w3.setCell ⟨b, o, none⟩ (.int .i64 y.k)).setCell ⟨b, o + 1, none⟩ (.int .i64 y.n)).setCell ⟨b, o + 2, none⟩ (.slice qp y.l.length cp) = W4 := ⟨_, rfl⟩; have hO4 : W4.heap[O]? = some (Obj.cells #[.int .i64 x.k, .int .i64 x.n, .slice qo x.l.length co] 24) := (by rw [← hW4]; exact (set3o _ _ _ (fun e => hbO e.symm)).trans (hO3.trans HO.out.2.2.1)); have hA4 : W4.heap[w.heap.size + 1 + 1]? = some z3 := (by rw [← hW4]; exact (set3o _ _ _ HZ.out.2.2.2.2).trans hA3); obtain ⟨p0, p1, p2, q0, q1, q2, hPl⟩ := c3 hO4; obtain ⟨r0, r1, r2, s0, s1, s2, hAl⟩ := c3 hA4; have HX : Bx (OwT w3 wr.heap.size G2 ∧ ChG G2 [] qp cp y.l ∧ Below wr.heap.size wr w3) := ⟨hT2, hch, hb3⟩; have HW4 : Bx _ := ⟨hW4⟩; clear hT2 hch hb3 hO4 hA4 hO3 hA3 HST ef))
        refine bodyPost_ret (v := .tuple #[.agg #[.int .i64 x.k, .int .i64 x.n, .slice qo x.l.length co], .bool true]) (by simp [results, Try.results8, go_sem, r0, r1, r2, hAl]) rfl ?_
        rcases HEND.out w3 qp cp G2 HX.out.1 HX.out.2.1 HX.out.2.2 (((W4.setCell ⟨w.heap.size + 1 + 1, 0, none⟩ (.int .i64 x.k)).setCell ⟨w.heap.size + 1 + 1, 1, none⟩ (.int .i64 x.n)).setCell ⟨w.heap.size + 1 + 1, 2, none⟩ (.slice qo x.l.length co)) (fun g g1 g2 => by rw [set3_other _ _ _ g2, ← HW4.out, set3o _ _ _ g1]) (by simp [← HW4.out]) (fun h => by rw [set3_other _ _ _ (fun e => HZ.out.2.2.2.2 e.symm), ← HW4.out]) with ⟨_, e1, _⟩ | ⟨_, e2, e3, e4, e5⟩
        · exact absurd e1 hbO
        · have hs34 : w3.heap.size = W4.heap.size := by rw [← HW4.out]; simp
          have hz := HZ.out
          have hbz := HBW.out.size
          refine ⟨qo, co, by rw [e2, e3, e4], ⟨by rw [e2]; exact HI.out.1.1, by rw [e3]; exact HI.out.1.2⟩, e5.up (by omega) (by simp only [World.size_setCell]; omega), ?_⟩
          refine below3 (A := w.heap.size + 1 + 1) ?_ (by omega) _ _ _
          rw [← HW4.out]
          exact below3o (HBW.out.trans (HX.out.2.2.mono HBW.out.size)) (by have := HZ.out; omega) _ _ _
end Go.Proofs.Ytikijkpklneihaa
