import Derived.Test.YtikijkpklneihaaCVPa
namespace Go.Proofs.Ytikijkpklneihaa
open Go.RowKit
set_option linter.unusedVariables false
set_option linter.unusedSimpArgs false

/-- the place at which With stands, behind i steps -/
structure PlI (W : World) (G : Gm) (x : V) (ks : List Int) (O : Nat) (qo : Option Addr) (i : Nat) (y : V) (b o : Nat) (q : Option Addr) (c : Nat) : Prop where
  f : findV x ks = findV y (ks.drop i)
  c0 : W.cell? ⟨b, o, none⟩ = some (.int .i64 y.k)
  c1 : W.cell? ⟨b, o + 1, none⟩ = some (.int .i64 y.n)
  c2 : W.cell? ⟨b, o + 2, none⟩ = some (.slice q y.l.length c)
  blk : ∃ cur, W.heap[b]? = some (.cells cur 24 (0, 0))
  ch : ChG G ((ks.take i).map Int.toNat) q c y.l
  wq : wq W (ks.take i) qo = some q
  pos : (i = 0 ∧ b = O ∧ o = 0) ∨ ∃ j m, ∃ (hj : j < ks.length), i = j + 1 ∧ o = ks[j].toNat * 3 ∧ G b = some ((ks.take j).map Int.toNat, m) ∧ Go.Proofs.Ytikijkpklneihaa.wq W (ks.take j) qo = some (some ⟨b, 0, none⟩)
theorem PlI.next {W : World} {lo : Nat} {G : Gm} (hT : OwT W lo G) {x z : V} {ks : List Int} {O : Nat} {qo : Option Addr} {i : Nat} {y : V} {b o : Nat} {q : Option Addr} {c : Nat} (h : PlI W G x ks O qo i y b o q c) (hi : i < ks.length) (hz : findV x ks = some z) :
    ∃ (e g : Nat) (he : e < y.l.length) (q' : Option Addr) (c' : Nat), ks[i] = (e : Int) ∧ q = some ⟨g, 0, none⟩ ∧ c = y.l.length ∧ PlI W G x ks O qo (i + 1) y.l[e] g (e * 3) q' c' := by
  have hf := h.f
  rw [hz, List.drop_eq_getElem_cons hi] at hf
  obtain ⟨hg, hl, h2⟩ := find_cons hf.symm
  have h0 := (goes_lt hg).1
  rcases h.ch with ⟨h1, _, _⟩ | ⟨g, rfl, hc, hgg⟩
  · rw [h1] at hl; simp at hl
  · have hr := hT g _ _ hgg
    have e := hr.el _ hl
    obtain ⟨q', c', e1, _, e3⟩ := e.c2
    obtain ⟨cur, hcu, _⟩ := hr.blk
    refine ⟨ks[i].toNat, g, hl, q', c', by omega, rfl, hc, ⟨by rw [hz]; exact h2.symm, e.c0, e.c1, e1, ⟨cur, hcu⟩, ?_, ?_, .inr ⟨i, _, hi, rfl, rfl, hgg, h.wq⟩⟩⟩
    · have := e3 hl
      rw [List.take_succ_eq_append_getElem hi, List.map_append]
      exact this
    · rw [List.take_succ_eq_append_getElem hi, wq_append _ h.wq, wq_cons e1]
      rfl
theorem take_all {α : Type} (l : List α) {j : Nat} (h : j + 1 = l.length) (hj : j < l.length) : l = l.take j ++ [l[j]] := by
  rw [← List.take_succ_eq_append_getElem hj, h, List.take_length]
/-- the end: what the whole reads as -/
theorem wi_end {W2 w3 W5 : World} {lo O : Nat} {G G2 : Gm} {x y z : V} {ks : List Int} {qo qp : Option Addr} {co cp : Nat} {b o : Nat} {q : Option Addr} {c : Nat} (hT : OwT W2 lo G) (hroot : ChG G [] qo co x.l) (hz : findV x ks = some z) (hx : x.sz ≤ 1000000) (hy : y.sz ≤ 1000000) (hy1 : I64 y.k) (hy2 : I64 y.n) (hp : PlI W2 G x ks O qo ks.length z b o q c)
    (hT2 : OwT w3 W2.heap.size G2) (hch : ChG G2 [] qp cp y.l) (hb3 : Below W2.heap.size W2 w3) (hO : O < W2.heap.size)
    (h5 : ∀ g p, G g = some p → g ≠ b → W5.heap[g]? = w3.heap[g]?) (h52 : ∀ g p, G2 g = some p → W5.heap[g]? = w3.heap[g]?) (hs5 : w3.heap.size ≤ W5.heap.size)
    (hb5 : b ≠ O → W5.heap[b]? = (((w3.setCell ⟨b, o, none⟩ (.int .i64 y.k)).setCell ⟨b, o + 1, none⟩ (.int .i64 y.n)).setCell ⟨b, o + 2, none⟩ (.slice qp y.l.length cp)).heap[b]?) (hne : ∀ g p, G g = some p → g ≠ O) :
    (ks = [] ∧ b = O ∧ o = 0 ∧ putV x ks y = y ∧ SlV W5 W5.heap.size qp cp y.l) ∨ (b ≠ O ∧ (putV x ks y).k = x.k ∧ (putV x ks y).n = x.n ∧ (putV x ks y).l.length = x.l.length ∧ SlV W5 W5.heap.size qo co (putV x ks y).l) := by
  have hT25 : OwT W5 W2.heap.size G2 := hT2.keep h52
  have hyS := hT25.sl y hch hy
  rcases hp.pos with ⟨h1, h2, h3⟩ | ⟨j, m, hj, hij, ho, hg, hw⟩
  · have : ks = [] := List.eq_nil_of_length_eq_zero h1
    subst this
    exact .inl ⟨rfl, h2, h3, rfl, hyS⟩
  · have hbO := hne b _ hg
    have hks := take_all ks hij.symm hj
    obtain ⟨pre, hpre⟩ : ∃ pre, ks.take j = pre := ⟨_, rfl⟩
    obtain ⟨k, hk⟩ : ∃ k, ks[j] = k := ⟨_, rfl⟩
    rw [hpre, hk] at hks
    rw [hpre] at hg hw
    rw [hk] at ho
    rw [hks] at hz ⊢
    refine .inr ⟨hbO, by cases pre <;> rfl, by cases pre <;> rfl, by cases pre <;> simp [put_l], ?_⟩
    have hb5' := hb5 hbO
    obtain ⟨cur, hcu⟩ := hp.blk
    have hbl : b < W2.heap.size := (Array.getElem?_eq_some_iff.1 hcu).1
    have e0 : w3.cell? ⟨b, o, none⟩ = some (.int .i64 z.k) := by rw [hb3.cell (p := ⟨b, o, none⟩) hbl]; exact hp.c0
    have e1 : w3.cell? ⟨b, o + 1, none⟩ = some (.int .i64 z.n) := by rw [hb3.cell (p := ⟨b, o + 1, none⟩) hbl]; exact hp.c1
    have e2 : w3.cell? ⟨b, o + 2, none⟩ = some (.slice q z.l.length c) := by rw [hb3.cell (p := ⟨b, o + 2, none⟩) hbl]; exact hp.c2
    have hcell : ∀ t, W5.cell? ⟨b, t, none⟩ = (((w3.setCell ⟨b, o, none⟩ (.int .i64 y.k)).setCell ⟨b, o + 1, none⟩ (.int .i64 y.n)).setCell ⟨b, o + 2, none⟩ (.slice qp y.l.length cp)).cell? ⟨b, t, none⟩ := fun t => by simp only [World.cell?, hb5']
    have ne : ∀ {s t : Nat}, s ≠ t → (⟨b, s, none⟩ : Addr) ≠ ⟨b, t, none⟩ := fun h e => h (by injection e)
    have hst : St3 G W2 W5 b k.toNat y qp cp := by
      rw [ho] at *
      refine ⟨fun g p hgp hgb => ?_, fun t h1 h2 h3 => ?_, ?_, ?_, ?_, hy1, hy2, Nat.le_trans hb3.size hs5⟩
      · rw [h5 g p hgp hgb]
        exact hb3.block g (hT g p.1 p.2 hgp).lt
      · rw [hcell, World.cell?_setCell_other _ _ _ _ (ne (by omega)), World.cell?_setCell_other _ _ _ _ (ne (by omega)), World.cell?_setCell_other _ _ _ _ (ne (by omega))]
        exact hb3.cell (p := ⟨b, t, none⟩) hbl
      · rw [hcell, World.cell?_setCell_other _ _ _ _ (ne (by omega)), World.cell?_setCell_other _ _ _ _ (ne (by omega))]
        exact World.cell?_setCell_same _ _ _ e0
      · rw [hcell, World.cell?_setCell_other _ _ _ _ (ne (by omega))]
        exact World.cell?_setCell_same _ _ _ (by rw [World.cell?_setCell_other _ _ _ _ (ne (by omega))]; exact e1)
      · rw [hcell]
        exact World.cell?_setCell_same _ _ _ (by rw [World.cell?_setCell_other _ _ _ _ (ne (by omega)), World.cell?_setCell_other _ _ _ _ (ne (by omega))]; exact e2)
    exact hT.with hg hst hyS pre x [] qo co hz hroot hw (by simp) hx
end Go.Proofs.Ytikijkpklneihaa
