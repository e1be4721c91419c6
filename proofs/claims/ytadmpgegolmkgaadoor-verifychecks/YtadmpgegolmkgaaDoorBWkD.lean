import Derived.Test.YtadmpgegolmkgaaDoorBWsB
import Derived.Test.YtadmpgegolmkgaaDoorBWsI
set_option linter.unusedVariables false
set_option linter.unusedSimpArgs false
set_option maxHeartbeats 4000000
set_option maxRecDepth 100000
namespace Go.Proofs.YtadmpgegolmkgaaDoor
open Go.RowKit Go.MapKept Go.ChangeMaps Go.WideShapes
def aC : List (Nat × Wy) -> List Wy -> (Nat -> Bool) -> Bool × List Wy × (Nat -> Bool)
 | [], K, D => (true, K, D)
 | (i, p) :: r, K, D => if bI K i p then aC r (aI K i p) (aP K i D) else (false, aI K i p, aP K i D)
def eX : List Int -> Wy -> List (Nat × Wy)
 | k :: t :: r, p => (t.toNat, if k = 0 then (p.1 + 1, p.2) else p) :: eX r p
 | _, _ => []
theorem l7 {ks : List Int} {p : Wy} {j : Nat} (h : 2 * j + 1 < ks.length) : eX (ks.drop (2 * j)) p = ((ks[2 * j + 1]).toNat, if ks[2 * j] = 0 then (p.1 + 1, p.2) else p) :: eX (ks.drop (2 * (j + 1))) p := by
 rw [List.drop_eq_getElem_cons (show 2 * j < ks.length by omega), List.drop_eq_getElem_cons h, eX, show 2 * (j + 1) = 2 * j + 1 + 1 by omega]
def WkH (B wb : Nat) (g : WG) (gb : Nat) : Prop := ∀ k, iJ wb g gb k -> B <= k
theorem aK.hi {w w' : World} {wb : Nat} {g : WG} {A : WA} {L gb : Nat} {P : Prs} {K : List Wy} {D : Nat -> Bool} {B : Nat} (h : aK w wb g A L gb P K D w') (hB : WkH B wb g gb) (hw : B <= w.heap.size) : Below B w w' /\ ∃ gb', WkM w' wb g A L gb' P K D /\ WkH B wb g gb' := by
 obtain ⟨gb', s, x, hg⟩ := h
 refine ⟨x.bel hw fun k hk q => by have := hB k q; omega, gb', s, fun k q => ?_⟩
 rcases q with (q | q | q) | q | q
 ·exact hB k (.inl (.inl q))
 ·rcases hg with e | e
  ·exact hB k (.inl (.inr (.inl (q.trans e))))
  ·omega
 ·exact hB k (.inl (.inr (.inr q)))
 ·exact hB k (.inr (.inl q))
 ·exact hB k (.inr (.inr q))
abbrev wyC (p : Wy) : Obj := .cells #[.int .i64 (p.1 : Int), .int .u64 (p.2 : Int)] 66 (0, 0)
theorem vY (w : World) (wb : Nat) (g : WG) (A : WA) (L gb : Nat) (P : Prs) (K : List Wy) (D : Nat -> Bool) (h : WkM w wb g A L gb P K D) (B : Nat) (ks : List Int) (la : Option Addr) (lc : Nat) (hi : aF w B la lc ks) (hB : WkH B wb g gb) (hBw : B <= w.heap.size) (hev : ks.length % 2 = 0) (ht : ∀ j (q : 2 * j + 1 < ks.length), 0 <= ks[2 * j + 1] /\ ks[2 * j + 1] < g.n) (p : Wy) (hp : p.1 < 4611686018427387904) :
  Calls Tryd.prog 84 #[.pointer (some ⟨wb, 0, none⟩), .slice la ks.length lc, .agg #[.int .i64 (p.1 : Int), .int .u64 (p.2 : Int)]] w fun e w' => e = .returned (.bool (aC (eX ks p) K D).1) /\ Bx (aK w wb g A L gb P (aC (eX ks p) K D).2.1 (aC (eX ks p) K D).2.2 w') := by
 obtain ⟨H, hH⟩ : ∃ H, w.heap.size = H := ⟨_, rfl⟩
 have nH := h.own (k := H) (by omega)
 have nH1 := h.own (k := H + 1) (by omega)
 obtain ⟨w0, hw0⟩ : ∃ w0, w.alloc (.cells #[.int .i64 (p.1 : Int), .int .u64 (p.2 : Int)] 66) = w0 := ⟨_, rfl⟩
 have b0 : Below w.heap.size w w0 := by rw [← hw0]; exact ak w _
 have s0 : w0.heap.size = H + 1 := by rw [← hw0]; simp [hH]
 have q0 : w0.heap[H]? = some (wyC p) := by rw [← hw0]; exact aj _ _ _ hH
 have p0 : w0.cell? ⟨H, 0, none⟩ = some (.int .i64 (p.1 : Int)) := aa q0 rfl
 have p1 : w0.cell? ⟨H, 1, none⟩ = some (.int .u64 (p.2 : Int)) := aa q0 rfl
 obtain ⟨w1, hw1⟩ : ∃ w1, w0.alloc (.cells #[.int .i64 (p.1 : Int), .int .u64 (p.2 : Int)] 66) = w1 := ⟨_, rfl⟩
 have b1 : Below w0.heap.size w0 w1 := by rw [← hw1]; exact ak w0 _
 have q1 : w1.heap[H]? = some (wyC p) := (b1.block H (by omega)).trans q0
 have r1 : w1.heap[H + 1]? = some (wyC p) := by rw [← hw1]; exact aj _ _ _ s0
 have t0 : w1.cell? ⟨H + 1, 0, none⟩ = some (.int .i64 (p.1 : Int)) := aa r1 rfl
 have t1 : w1.frozen? ⟨H + 1, 0, none⟩ = false := aL r1
 obtain ⟨w2, hw2⟩ : ∃ w2, w1.setCell ⟨H + 1, 0, none⟩ (.int .i64 ((p.1 : Int) + 1)) = w2 := ⟨_, rfl⟩
 have q2 : w2.heap[H]? = some (wyC p) := by rw [← hw2, Below.heap_setCell w1 ⟨H + 1, 0, none⟩ _ H (by simp)]; exact q1
 have r2 : w2.heap[H + 1]? = some (wyC (p.1 + 1, p.2)) := by
  have := heap_setCell_same w1 (H + 1) 0 _ 66 (.int .i64 ((p.1 : Int) + 1)) r1
  rw [← hw2, this]
  simp
 have b2 : Below w.heap.size w w2 := by
  have x : Fx (fun _ => False) w w2 := by
   rw [← hw2]
   refine Fx.set (P := fun _ => False) (p := ⟨H + 1, 0, none⟩) ((Fx.of b0).trans (Fx.of b1)) (.inr ?_) _
   show w.heap.size <= H + 1
   omega
  exact ⟨x.os, x.tape, x.output, x.size, fun k hk => x.block k hk id⟩
 have H0 : Bx (∃ Kj Dj, aC (eX ks p) K D = aC (eX (ks.drop (2 * 0)) p) Kj Dj /\ aK w wb g A L gb P Kj Dj w2 /\ w2.heap[H]? = some (wyC p) /\ w2.heap[H + 1]? = some (wyC (p.1 + 1, p.2))) := ⟨K, D, by simp, aK.refl h b2, q2, r2⟩
 obtain ⟨R, hR⟩ : ∃ R, aC (eX ks p) K D = R := ⟨_, rfl⟩
 rw [hR] at H0 ⊢
 have HI : Bx (aF w B la lc ks) := ⟨hi⟩
 have HH : Bx (WkH B wb g gb) := ⟨hB⟩
 have HT : Bx (∀ j (q : 2 * j + 1 < ks.length), 0 <= ks[2 * j + 1] /\ ks[2 * j + 1] < g.n) := ⟨ht⟩
 have HE : Bx (ks.length % 2 = 0) := ⟨hev⟩
 have HN : Bx ((¬ iJ wb g gb H /\ ¬ iJ wb g gb (H + 1)) /\ w.heap.size = H /\ B <= H) := ⟨⟨nH, nH1⟩, hH, by omega⟩
 have hcl := hi.cap
 have hml := hi.max
 unfold maxLen at hml
 clear h hi hB ht nH nH1 b0 b1 b2 q0 q1 r1 q2 r2 hR hev
 go_enter Tryd.func84, Tryd.ntmps84
 go_wp2
 clear s0
 go_loopg [8, 9] (ks.length + 1) (fun g1 v8 v9 wr => ∃ j : Nat, g1 = ks.length + 1 - 2 * j /\ 2 * j <= ks.length /\ v8 = .int .i64 (2 * (j : Int)) /\ Bx (∃ Kj Dj, R = aC (eX (ks.drop (2 * j)) p) Kj Dj /\ aK w wb g A L gb P Kj Dj wr /\ wr.heap[H]? = some (wyC p) /\ wr.heap[H + 1]? = some (wyC (p.1 + 1, p.2))))
 case atStart => exact ⟨0, by simp, by omega, rfl, H0⟩
 case round =>
  obtain ⟨j, hg, hj, rfl, HJ⟩ := hrel
  clear H0 p0 p1 t0 t1
  obtain ⟨Kj, Dj, hRj, hPj, q, r⟩ := HJ.out
  by_cases hlt : 2 * j < ks.length
  ·have hlt2 : 2 * j + 1 < ks.length := by have := HE.out; omega
   obtain ⟨gbj, sj, xj, hgj⟩ := hPj
   have p0 : wr.cell? ⟨H, 0, none⟩ = some (.int .i64 (p.1 : Int)) := aa q rfl
   have p1 : wr.cell? ⟨H, 1, none⟩ = some (.int .u64 (p.2 : Int)) := aa q rfl
   obtain ⟨E, hE⟩ : ∃ E, wr.heap.size = E := ⟨_, rfl⟩
   obtain ⟨W1, hW1⟩ : ∃ W1, wr.alloc (.cells #[.int .i64 (p.1 : Int), .int .u64 (p.2 : Int)] 66) = W1 := ⟨_, rfl⟩
   have bW : Below wr.heap.size wr W1 := by rw [← hW1]; exact ak wr _
   have e1 : W1.heap[E]? = some (wyC p) := by rw [← hW1]; exact aj _ _ _ hE
   have hwE : w.heap.size <= E := by have := xj.size; omega
   have hBE : B <= E := by have := HN.out; omega
   have hlb : Below B w W1 := (xj.bel (by have := HN.out; omega) fun k hk q' => by have := HH.out k q'; omega).trans (bW.mono (by omega))
   have hiW := HI.out.below hlb
   obtain ⟨b, o, hla, hbB, hcs⟩ := hiW.at_ (by omega)
   have c0 := hcs (2 * j) hlt
   have c1 := hcs (2 * j + 1) hlt2
   obtain ⟨ht0, ht1⟩ := HT.out j hlt2
   rw [l7 hlt2] at hRj
   have qE : E ≠ H := by have := ah q; omega
   have q1E : H < wr.heap.size := ah q
   have r1E : H + 1 < wr.heap.size := ah r
   generalize ks[2 * j + 1] = t at *
   obtain ⟨tn, rfl⟩ : ∃ tn : Nat, t = tn := ⟨t.toNat, by omega⟩
   have hCOME : ∀ (X : World) (pp : Wy), Below wr.heap.size wr X -> Calls Tryd.prog 41 #[.pointer (some ⟨wb, 0, none⟩), .int .i64 (tn : Int), .agg #[.int .i64 (pp.1 : Int), .int .u64 (pp.2 : Int)]] X fun e w' => e = .returned (.bool (bI Kj tn pp)) /\ Bx (aK w wb g A L gb P (aI Kj tn pp) (aP Kj tn Dj) w' /\ w'.heap[H]? = some (wyC p) /\ w'.heap[H + 1]? = some (wyC (p.1 + 1, p.2))) := fun X pp hX => by
    refine (ja X wb g A L gbj P Kj Dj (sj.below hX) tn (by omega) pp).mono ?_
    rintro e w' ⟨rfl, hb⟩
    have hn : ∀ k c, wr.heap[k]? = some (.cells c 66 (0, 0)) -> ¬ iJ wb g gb k -> ¬ iJ wb g gbj k := fun k c hk hn q' => by
     rcases q' with (q' | q' | q') | q' | q'
     ·exact hn (.inl (.inl q'))
     ·obtain ⟨gc, ss⟩ := sj.se
      obtain ⟨c2, f2, hgg⟩ := bM ss.row gbj rfl
      exact dh hk hgg (by decide) q'
     ·exact hn (.inl (.inr (.inr q')))
     ·exact hn (.inr (.inl q'))
     ·exact hn (.inr (.inr q'))
    refine ⟨rfl, ⟨aK.trans (xj.trans (Fx.of hX)) hgj hb.out, ?_, ?_⟩⟩
    ·exact hb.out.own ((hX.block H q1E).trans q) (hn H _ q HN.out.1.1)
    ·exact hb.out.own ((hX.block (H + 1) r1E).trans r) (hn (H + 1) _ r HN.out.1.2)
   have htn : (tn : Int).toNat = tn := by omega
   have hltI : 2 * (j : Int) < (ks.length : Int) := by omega
   have hlt2I : 2 * (j : Int) + 1 < (ks.length : Int) := by omega
   have hwr : IntKind.i64.wrap (2 * (j : Int) + 1) = 2 * (j : Int) + 1 := by rw [IntKind.wrap_i64]; omega
   have hnn : (2 * (j : Int) + 1).toNat = 2 * j + 1 := by omega
   have hw2 : IntKind.i64.wrap (2 * (j : Int) + 2) = 2 * (j : Int) + 2 := by rw [IntKind.wrap_i64]; omega
   have hn0 : (0 : Int) <= 2 * (j : Int) + 1 := by omega
   have e0 : W1.cell? ⟨E, 0, none⟩ = some (.int .i64 (p.1 : Int)) := aa e1 rfl
   have e2 : W1.cell? ⟨E, 1, none⟩ = some (.int .u64 (p.2 : Int)) := aa e1 rfl
   have f0 : ∀ i, W1.frozen? ⟨E, i, none⟩ = false := fun i => aL e1
   rw [htn] at hRj
   cases hz : decide (ks[2 * j] = 0) with
   | false =>
    have hz0 := of_decide_eq_false hz
    rw [if_neg hz0] at hRj
    have hzb : (ks[2 * j] == 0) = false := by simp [hz0]
    have HC : Bx _ := ⟨hCOME (W1.drewN 1) p (below_drewN bW 1)⟩
    have HRj : Bx (R = if bI Kj tn p then aC (eX (ks.drop (2 * (j + 1))) p) (aI Kj tn p) (aP Kj tn Dj) else (false, aI Kj tn p, aP Kj tn Dj)) := ⟨hRj⟩
    generalize ks[2 * j] = kk at *
    clear hCOME hRj hz hz0 sj xj hgj bW hlb hiW hcs q r e1 htn hwE hBE qE q1E r1E HJ hml
    subst hla
    cases hcb : bI Kj tn p with
    | true =>
     rw [hcb] at HC HRj
     go_wp2
     go_region_with (first
      | (go_at_call 41; refine HC.out.mono ?_; rintro e w3 ⟨rfl, hw⟩))
     all_goals
      go_wp2
      go_roundg (ks.length + 1 - 2 * (j + 1))
      case measure => omega
      case rel => exact ⟨j + 1, rfl, by omega, congrArg (Value.int .i64) (by omega), ⟨_, _, HRj.out, hw.out⟩⟩
    | false =>
     rw [hcb] at HC HRj
     go_wp2
     go_region_with (first
      | (go_at_call 41; refine HC.out.mono ?_; rintro e w3 ⟨rfl, hw⟩))
     all_goals
      go_wp2
      go_ret
      have hr : R = (false, aI Kj tn p, aP Kj tn Dj) := HRj.out
      rw [hr]
      exact ⟨rfl, ⟨hw.out.1⟩⟩
   | true =>
    have hz0 := of_decide_eq_true hz
    rw [if_pos hz0] at hRj
    have hzb : (ks[2 * j] == 0) = true := by simp [hz0]
    rw [hz0] at c0
    obtain ⟨pp, hpp⟩ : ∃ pp : Wy, (p.1 + 1, p.2) = pp := ⟨_, rfl⟩
    rw [hpp] at hRj r hCOME
    have r1 := (bW.block (H + 1) r1E).trans r
    have u0 : W1.cell? ⟨H + 1, 0, none⟩ = some (.int .i64 (pp.1 : Int)) := aa r1 rfl
    have u1 : W1.cell? ⟨H + 1, 1, none⟩ = some (.int .u64 (pp.2 : Int)) := aa r1 rfl
    obtain ⟨W2, hW2⟩ : ∃ W2, (W1.setCell ⟨E, 0, none⟩ (.int .i64 (pp.1 : Int))).setCell ⟨E, 1, none⟩ (.int .u64 (pp.2 : Int)) = W2 := ⟨_, rfl⟩
    have x2 : W2.heap[E]? = some (wyC pp) := by
     have y1 := heap_setCell_same W1 E 0 _ 66 (.int .i64 (pp.1 : Int)) e1
     have y2 := heap_setCell_same _ E 1 _ 66 (.int .u64 (pp.2 : Int)) y1
     rw [← hW2, y2]
     simp
    have b2 : Below wr.heap.size wr W2 := by
     have x : Fx (fun _ => False) wr W2 := by
      rw [← hW2]
      exact Fx.set (P := fun _ => False) (p := ⟨E, 1, none⟩) (Fx.set (P := fun _ => False) (p := ⟨E, 0, none⟩) (Fx.of bW) (.inr (by show wr.heap.size <= E; omega)) _) (.inr (by show wr.heap.size <= E; omega)) _
     exact ⟨x.os, x.tape, x.output, x.size, fun k hk => x.block k hk id⟩
    have v0 : W2.cell? ⟨E, 0, none⟩ = some (.int .i64 (pp.1 : Int)) := aa x2 rfl
    have v1 : W2.cell? ⟨E, 1, none⟩ = some (.int .u64 (pp.2 : Int)) := aa x2 rfl
    have hkE : ∀ k, k ≠ E -> W2.heap[k]? = W1.heap[k]? := fun k hk => by
     rw [← hW2]
     exact (Below.heap_setCell _ ⟨E, 1, none⟩ _ k hk).trans (Below.heap_setCell W1 ⟨E, 0, none⟩ _ k hk)
    have c1' : W2.cell? ⟨b, o + (2 * j + 1), none⟩ = some (.int .i64 (tn : Int)) := by
     rw [World.cell?_of_block (w := W1) (hkE b (by omega))]
     exact c1
    have HC : Bx _ := ⟨hCOME (W2.drewN 1) pp (below_drewN b2 1)⟩
    have HRj : Bx (R = if bI Kj tn pp then aC (eX (ks.drop (2 * (j + 1))) p) (aI Kj tn pp) (aP Kj tn Dj) else (false, aI Kj tn pp, aP Kj tn Dj)) := ⟨hRj⟩
    have HPP : Bx ((p.1 + 1, p.2) = pp) := ⟨hpp⟩
    generalize ks[2 * j] = kk at *
    clear hCOME hRj hz hz0 sj xj hgj bW hlb hiW hcs q r r1 e1 htn hwE hBE qE q1E r1E HJ hml x2 b2 hkE c1 hpp
    subst hla
    cases hcb : bI Kj tn pp with
    | true =>
     rw [hcb] at HC HRj
     go_wp2
     go_region_with (first
      | (go_at_call 41; refine HC.out.mono ?_; rintro e w3 ⟨rfl, hw⟩))
     all_goals
      go_wp2
      go_roundg (ks.length + 1 - 2 * (j + 1))
      case measure => omega
      case rel => exact ⟨j + 1, rfl, by omega, congrArg (Value.int .i64) (by omega), ⟨_, _, HRj.out, hw.out.1, hw.out.2.1, by rw [HPP.out]; exact hw.out.2.2⟩⟩
    | false =>
     rw [hcb] at HC HRj
     go_wp2
     go_region_with (first
      | (go_at_call 41; refine HC.out.mono ?_; rintro e w3 ⟨rfl, hw⟩))
     all_goals
      go_wp2
      go_ret
      have hr : R = (false, aI Kj tn pp, aP Kj tn Dj) := HRj.out
      rw [hr]
      exact ⟨rfl, ⟨hw.out.1⟩⟩
  ·have hje : 2 * j = ks.length := by omega
   have hltI : ¬ 2 * (j : Int) < (ks.length : Int) := by omega
   rw [hje, List.drop_length] at hRj
   have HR : Bx (R = (true, Kj, Dj)) := ⟨hRj⟩
   have HF : Bx (aK w wb g A L gb P Kj Dj wr) := ⟨hPj⟩
   clear hRj hPj q r HJ
   go_wp2
   go_ret
   rw [HR.out]
   exact ⟨rfl, HF⟩
end Go.Proofs.YtadmpgegolmkgaaDoor
