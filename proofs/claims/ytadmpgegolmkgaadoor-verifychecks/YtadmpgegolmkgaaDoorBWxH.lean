import Derived.Test.YtadmpgegolmkgaaDoorBWzL
import Derived.Test.YtadmpgegolmkgaaDoorBWzA
import Derived.Test.YtadmpgegolmkgaaDoorBWzB
import Derived.Test.YtadmpgegolmkgaaDoorBWzM
import Derived.Test.YtadmpgegolmkgaaDoorBYH
set_option linter.unusedVariables false
set_option linter.unusedSimpArgs false
set_option maxHeartbeats 4000000
set_option maxRecDepth 100000
namespace Go.Proofs.YtadmpgegolmkgaaDoor
open Go.RowKit
theorem cK.frame {W W' : World} {B g c : Nat} {s : List CIn} {G : List (Nat × Nat)} (h : cK W B g c s G) (e : W'.heap[g]? = W.heap[g]?) (hb : ∀ (y : Nat) (cs : Array Value), W.heap[y]? = some (.cells cs 3 (0, 0)) -> W'.heap[y]? = W.heap[y]?) : cK W' B g c s G := by
 obtain ⟨cs, h1⟩ := h.blk
 have hc : ∀ i, W'.cell? ⟨g, i, none⟩ = W.cell? ⟨g, i, none⟩ := fun i => World.cell?_of_block (a := ⟨g, i, none⟩) e
 refine ⟨h.base, ⟨cs, e.trans h1⟩, h.cap, h.max, h.len, fun i a b j hj => by rw [hc]; exact h.at_ i a b j hj, by rw [hc]; exact h.mark, fun i a b => ?_⟩
 obtain ⟨cs2, k1⟩ := (h.kid i a b).blk
 exact (h.kid i a b).later (hb _ cs2 k1) (Nat.le_refl _)

abbrev Ae : Obj := .cells #[.int .i64 25, .int .i64 0, .int .i64 0, .slice none 0 0] 43
abbrev Bv (E : Nat) : Array Value := #[.int .i64 1, .int .i64 1, .int .i64 3, .bool false, .slice (some ⟨E, 0, none⟩) 1 1]
theorem LtU.more {W : World} {B : Nat} {pa ta : Option Addr} {pc tc : Nat} {u : CUn} {G : List (Nat × Nat)} {C : List PG} (h : LtU W B pa ta pc tc u G C) (hB : B <= W.heap.size) (hn : u.ae.length <= 2147483647) {D : Nat} {cD : Array Value} (hD : W.heap[D]? = some (.cells cD 25 (0, 0))) :
  ∃ gp cp W3, (∀ ty, (Builtin.append_ #[22, 22] ty #[.slice pa u.ae.length pc, .slice (some ⟨W.heap.size + 1, 0, none⟩) 1 1]).run Tryd.prog ((W.alloc Ae).alloc (.cells (Bv W.heap.size) 40)) = .ok (.slice (some ⟨gp, 0, none⟩) (u.ae.length + 1) cp) W3) /\ Below B W W3 /\ W3.heap[D]? = some (.cells cD 25 (0, 0)) /\
   ∀ X : World, W3.heap.size <= X.heap.size -> (∀ y, y ≠ D -> y < W3.heap.size -> X.heap[y]? = W3.heap[y]?) -> dL X X.heap.size (some ⟨gp, 0, none⟩) cp ta tc (lg u) := by
 obtain ⟨j0, hj0, jz0, jz1, jz2⟩ := info_parts xM
 obtain ⟨W1, hW1⟩ : ∃ W1, W.alloc Ae = W1 := ⟨_, rfl⟩
 have b1 : Below W.heap.size W W1 := by rw [← hW1]; exact ak _ _
 have q1 : W1.heap[W.heap.size]? = some Ae := by rw [← hW1]; exact aj _ _ _ rfl
 have s1 : W1.heap.size = W.heap.size + 1 := by rw [← hW1]; simp
 have hall1 : W1.ownsRow B 40 5 (.slice pa u.ae.length pc) u.ae.length (pgL u.ae C) := cO h.all fun y _ hy => b1.block y hy
 obtain ⟨gp, cp, W3, r3, n3, q3, hcp, _⟩ := app1 Tryd.underlying22 hj0 jz0 jz1 jz2 rfl (by decide) W1 B _ u.ae.length _ hall1 (Bv W.heap.size) rfl (by simp [Value.oneCell']) (by unfold maxLen; omega) (by omega) (by omega)
 have kk := bM hall1
 have b3 : Below B W1 W3 := (Below.refl _ _).grown q3 (by omega) fun k hk => (aD hall1 hk).1
 have s3 := b3.size
 have hk13 : ∀ (y : Nat) (cs : Array Value) (t : TypeId), t ≠ 40 -> W1.heap[y]? = some (.cells cs t (0, 0)) -> W3.heap[y]? = W1.heap[y]? := fun y cs t ht hy => by
  rw [hy]
  exact dF q3 hy fun e => by
   obtain ⟨c', fz, hc'⟩ := kk y e
   rw [hy] at hc'
   simp at hc'
   exact ht hc'.2.1
 have hk03 : ∀ (y : Nat) (cs : Array Value) (t : TypeId), t ≠ 40 -> W.heap[y]? = some (.cells cs t (0, 0)) -> W3.heap[y]? = W.heap[y]? := fun y cs t ht hy => by
  have e1 := b1.block y (ah hy)
  rw [hk13 y cs t ht (e1.trans hy), e1]
 refine ⟨gp, cp, W3, ?_, (b1.mono hB).trans b3, (hk03 D _ _ (by decide) hD).trans hD, fun X hs hX => ?_⟩
 ·rw [← s1, hW1]
  exact r3
 ·have hXk : ∀ (y : Nat) (cs : Array Value) (t : TypeId), t ≠ 40 -> t ≠ 25 -> W.heap[y]? = some (.cells cs t (0, 0)) -> X.heap[y]? = W.heap[y]? := fun y cs t ht ht2 hy => by
   have e1 := hk03 y cs t ht hy
   rw [hX y (fun e => by rw [e, hD] at hy; simp at hy; exact ht2 hy.2.symm) (ah (e1.trans hy)), e1]
  have hXq : X.heap[W.heap.size]? = some Ae := by
   have e1 := hk13 W.heap.size _ _ (by decide) q1
   rw [hX _ (fun e => by have := ah hD; omega) (ah (e1.trans q1)), e1, q1]
  have hgD : gp ≠ D := fun e => by
   obtain ⟨cur, hb⟩ := jq n3
   have := (hk03 D _ _ (by decide) hD).trans hD
   rw [e, this] at hb
   simp at hb
  have hXg : ∀ i, X.cell? ⟨gp, i, none⟩ = W3.cell? ⟨gp, i, none⟩ := fun i => by
   obtain ⟨cur, hb⟩ := jq n3
   exact World.cell?_of_block (a := ⟨gp, i, none⟩) (hX gp hgD (ah hb))
  have hgl : gp < X.heap.size := by
   obtain ⟨cur, hb⟩ := jq n3
   exact Nat.lt_of_lt_of_le (ah hb) hs
  have hlen := h.len
  have hml : (lg u).ae.length = u.ae.length + 1 := by simp [lg]
  have hcap := (lh n3).2
  have htall : X.ownsRow B 49 3 (.slice ta u.types.length tc) u.types.length (tyC u.types G) := by
   refine bS h.tall fun g o hg ho => ?_
   obtain ⟨c', fz, hc'⟩ := bM h.tall g hg
   have hfz : fz = (0, 0) := by
    rcases h.tall.2 with ⟨e, _⟩ | ⟨g', cap, cur, e, hB', hg', _⟩
    ·rw [e] at hg; cases hg
    ·simp only [Value.slice.injEq] at e
     obtain ⟨e1, _⟩ := e
     rw [e1] at hg
     simp [Value.ownBlock] at hg
     subst hg
     rw [hg'] at hc'
     simp at hc'
     exact hc'.2.symm
   subst hfz
   rw [hXk g c' _ (by decide) (by decide) hc']
   exact ho
  refine ⟨⟨by rw [hml]; exact hcp, by rw [hml]; omega, fun _ => ⟨gp, 0, rfl, hgl, fun j hj => ?_⟩⟩, nQ htall u.types rfl fun g e hg j hj => ?_⟩
  ·rw [hml] at hj
   rw [Nat.zero_add]
   have hsn : pgL u.ae C ++ (Bv W.heap.size).toList = pgL (u.ae ++ [qP]) (C ++ [((W.heap.size, 1), [])]) := by
    rw [lm hlen]
    rfl
   have hc2 : ∀ i, i < 5 -> X.cell? ⟨gp, j * 5 + i, none⟩ = (nM ((u.ae ++ [qP])[j]'(by simp; omega)) ((C ++ [((W.heap.size, 1), [])])[j]'(by simp; omega)))[i]? := fun i hi => by
    rw [hXg, n3.cellAt (j * 5 + i) (by omega), hsn]
    exact lq _ _ j _ _ i hi
   by_cases hjn : j < u.ae.length
   ·have hj2 : j < C.length := by omega
    have e1 : (u.ae ++ [qP])[j]'(by simp; omega) = u.ae[j] := List.getElem_append_left hjn
    have e2 : (C ++ [((W.heap.size, 1), [])])[j]'(by simp; omega) = C[j] := List.getElem_append_left hj2
    rw [e1, e2] at hc2
    have hC : cK X B C[j].1.1 C[j].1.2 u.ae[j].code C[j].2 := (h.cod j hjn hj2).later (fun y cs t ht _ hy => hXk y cs t (by rcases ht with rfl | rfl <;> decide) (by rcases ht with rfl | rfl <;> decide) hy) (Nat.le_refl _)
    have e3 : (lg u).ae[j]'(by rw [hml]; exact hj) = u.ae[j] := List.getElem_append_left hjn
    rw [e3]
    exact ⟨some ⟨C[j].1.1, 0, none⟩, C[j].1.2, hc2 0 (by omega), hc2 1 (by omega), hc2 2 (by omega), hc2 3 (by omega), hc2 4 (by omega), hC.read⟩
   ·obtain rfl : j = u.ae.length := by omega
    have e1 : (u.ae ++ [qP])[u.ae.length]'(by simp) = qP := by simp
    have e2 : (C ++ [((W.heap.size, 1), [])])[u.ae.length]'(by simp; omega) = ((W.heap.size, 1), []) := by simp [← hlen]
    rw [e1, e2] at hc2
    have e3 : (lg u).ae[u.ae.length]'(by rw [hml]; exact hj) = qP := by simp [lg]
    rw [e3]
    refine ⟨some ⟨W.heap.size, 0, none⟩, 1, hc2 0 (by omega), hc2 1 (by omega), hc2 2 (by omega), hc2 3 (by omega), hc2 4 (by omega), by decide, by decide, fun _ => ⟨W.heap.size, 0, rfl, ah hXq, fun i hi => ?_⟩⟩
    have hi0 : i = 0 := by simp [qP] at hi; omega
    subst hi0
    exact ⟨none, 0, aa hXq rfl, aa hXq rfl, aa hXq rfl, aa hXq rfl, iF _ _ _ _⟩
  ·have hj2 : j < G.length := by have := h.tlen; omega
   rw [e] at htall
   have k : ∀ i, i < 3 -> X.cell? ⟨g, j * 3 + i, none⟩ = (nK u.types[j] G[j])[i]? := fun i hi => by
    rw [htall.cellAt (j * 3 + i) (by omega)]
    exact nL _ _ j hj hj2 i hi
   have hK : dz X B G[j].1 G[j].2 u.types[j].kids := by
    obtain ⟨cs, hb⟩ := (h.tkid j hj hj2).blk
    exact (h.tkid j hj hj2).later (hXk _ cs _ (by decide) (by decide) hb) (Nat.le_refl _)
   exact ⟨some ⟨G[j].1, 0, none⟩, G[j].2, k 0 (by omega), k 1 (by omega), k 2 (by omega), hK.ints⟩
theorem ve (w : World) (i : Int) (n : Nat) (h0 : 0 < n) (hn : n <= 4611686018427387904) : Calls Tryd.prog 15 #[.int .i64 i, .int .i64 (n : Int)] w fun e w' => ∃ r : Nat, e = .returned (.int .i64 (r : Int)) /\ r < n /\ w = w' := by
 have hb1 : decide ((n : Int) < 1) = false := decide_eq_false (by omega)
 have hz : ((n : Int) == 0) = false := by simp; omega
 have h1 : -(n : Int) < i.tmod n /\ i.tmod n < n := by
  have a1 := Int.lt_tmod_of_pos i (show (0 : Int) < n by omega)
  have a2 := Int.tmod_lt_of_pos i (show (0 : Int) < n by omega)
  exact ⟨a1, a2⟩
 go_enter Tryd.func15, Tryd.ntmps15
 go_wp2
 ·go_ret
  exact ⟨(i.tmod (n : Int) + n).toNat, by rw [Int.toNat_of_nonneg (by omega)]; rfl, by omega, rfl⟩
 ·go_ret
  exact ⟨(i.tmod (n : Int)).toNat, by rw [Int.toNat_of_nonneg (by omega)]; rfl, by omega, rfl⟩
end Go.Proofs.YtadmpgegolmkgaaDoor
namespace Go.Proofs.YtadmpgegolmkgaaDoor
open Go.RowKit
theorem rq (w : World) (i : Int) : Calls Tryd.prog 15 #[.int .i64 i, .int .i64 0] w fun e w' => e = .returned (.int .i64 0) /\ w = w' := by
 go_enter Tryd.func15, Tryd.ntmps15
 go_wp2
 go_ret
 exact ⟨rfl, rfl⟩
structure HG (wE : World) (S : Nat) (wT X : World) (hv gv : Value) (nh ng : Nat) (hl gl : List Value) : Prop where
 bel : Below wE.heap.size wE X
 rest : ∀ y, S <= y -> y < wT.heap.size -> X.heap[y]? = wT.heap[y]?
 siz : wT.heap.size <= X.heap.size
 hrow : X.ownsRow wE.heap.size 3 1 hv nh hl
 grow : X.ownsRow wE.heap.size 3 1 gv ng gl
 ne : ∀ y, hv.ownBlock = some y -> gv.ownBlock ≠ some y
 hno : ∀ y, hv.ownBlock = some y -> y < S ∨ wT.heap.size <= y
 gno : ∀ y, gv.ownBlock = some y -> y < S ∨ wT.heap.size <= y
variable {wE wT X Y : World} {S : Nat} {hv gv : Value} {nh ng : Nat} {hl gl : List Value}
theorem HG.swap (h : HG wE S wT X hv gv nh ng hl gl) : HG wE S wT X gv hv ng nh gl hl :=
 ⟨h.bel, h.rest, h.siz, h.grow, h.hrow, fun y hy e => h.ne y e hy, h.gno, h.hno⟩
theorem HG.under (h : HG wE S wT X hv gv nh ng hl gl) (hY : Below X.heap.size X Y) : HG wE S wT Y hv gv nh ng hl gl :=
 ⟨h.bel.trans (hY.mono h.bel.size), fun y h1 h2 => (hY.block y (Nat.lt_of_lt_of_le h2 h.siz)).trans (h.rest y h1 h2), Nat.le_trans h.siz hY.size, aZ h.hrow hY, aZ h.grow hY, h.ne, h.hno, h.gno⟩
theorem ku {w w' : World} {v : Value} {l : List Int} (h : HiO w w' v l) (hm : l.length <= maxLen) : w'.ownsRow w.heap.size 3 1 v l.length (bn l) /\ ∀ y, v.ownBlock = some y -> w.heap.size <= y /\ y < w'.heap.size := by
 rcases h.row with ⟨rfl, rfl⟩ | ⟨g, h1, rfl, h2⟩
 ·exact ⟨⟨by simp [bn], .inl ⟨rfl, rfl⟩⟩, fun y hy => by cases hy⟩
 ·have ho : w'.ownsRow w.heap.size 3 1 (.slice (some ⟨g, 0, none⟩) l.length l.length) l.length (bn l) := ⟨by simp [bn], .inr ⟨g, l.length, _, rfl, h1, h2, Nat.le_refl _, hm, by simp, by rw [List.take_of_length_le (by simp)]; simp [bn]⟩⟩
  exact ⟨ho, fun y hy => aD ho hy⟩
theorem HG.start {w8 w9 w10 : World} {l : List Int} (h8 : HiO wE w8 hv l) (h9 : HiO w8 w9 gv l) (hb : Below w9.heap.size w9 w10) (hm : l.length <= maxLen) : HG wE w9.heap.size w10 w10 hv gv l.length l.length (bn l) (bn l) := by
 obtain ⟨a1, a2⟩ := ku h8 hm
 obtain ⟨c1, c2⟩ := ku h9 hm
 have s8 := h8.bel.size
 have s9 := h9.bel.size
 refine ⟨(h8.bel.trans (h9.bel.mono s8)).trans (hb.mono (by omega)), fun _ _ _ => rfl, Nat.le_refl _, aZ (aZ a1 h9.bel) hb, rE (aZ c1 hb) s8, fun y hy hy2 => ?_, fun y hy => ?_, fun y hy => ?_⟩
 ·have := a2 y hy; have := c2 y hy2; omega
 ·have := a2 y hy; omega
 ·have := c2 y hy; omega
theorem Af {m : Value} {xs : List Value} {k n : Nat} (hk : k < n) (hx : xs.length = n) : (List.replicate k m ++ xs.drop k).set k m = List.replicate (k + 1) m ++ xs.drop (k + 1) := by
 rw [List.set_append_right _ _ (by simp), List.length_replicate, Nat.sub_self, List.drop_eq_getElem_cons (by omega), List.set_cons_zero, List.replicate_succ', List.append_assoc]
 rfl
theorem iI {n c k : Nat} {a : Option Addr} {B : Nat} {xs : List Value} (h : X.ownsRow B 3 1 (.slice a n c) n xs) (hk : k < n) : ∃ b, a = some ⟨b, 0, none⟩ /\ b < X.heap.size /\ B <= b /\ n <= c /\ X.frozen? ⟨b, k, none⟩ = false /\ X.cell? ⟨b, k, none⟩ = xs[k]? /\ k < xs.length := by
 have hl := h.1
 rcases h.2 with ⟨e, _⟩ | ⟨g, cap, cur, e, h1, h2, h3, _⟩
 ·have := h.1
  injection e with e1 e2 e3
  omega
 ·injection e with e1 e2 e3
  subst e1
  subst e3
  exact ⟨g, rfl, ah h2, h1, h3, h.frozenAt k, h.cellAt k (by omega), by omega⟩
theorem HG.setH {b c k : Nat} {m : Value} {xs : List Value} (h : HG wE S wT X (.slice (some ⟨b, 0, none⟩) nh c) gv nh ng (List.replicate k m ++ xs.drop k) gl) (hk : k < nh) (hx : xs.length = nh) : HG wE S wT (X.setCell ⟨b, k, none⟩ m) (.slice (some ⟨b, 0, none⟩) nh c) gv nh ng (List.replicate (k + 1) m ++ xs.drop (k + 1)) gl := by
 obtain ⟨o1, o2⟩ := h.hrow.stored k m
 rw [Af hk hx] at o1
 have hb := (aD h.hrow (g := b) rfl).1
 have hoth : ∀ y, y ≠ b -> (X.setCell ⟨b, k, none⟩ m).heap[y]? = X.heap[y]? := fun y hy => Below.heap_setCell X ⟨b, k, none⟩ m y hy
 refine ⟨h.bel.setCell (p := ⟨b, k, none⟩) hb m, fun y h1 h2 => ?_, Nat.le_trans h.siz o2.size, o1, bS h.grow fun g o hg ho => ?_, h.ne, h.hno, h.gno⟩
 ·rw [hoth y (fun e => by have := h.hno b rfl; omega)]
  exact h.rest y h1 h2
 ·rw [hoth g (fun e => h.ne b rfl (e ▸ hg))]
  exact ho
theorem HG.BV {b c k : Nat} {m : Value} {xs : List Value} (h : HG wE S wT X hv (.slice (some ⟨b, 0, none⟩) ng c) nh ng hl (List.replicate k m ++ xs.drop k)) (hk : k < ng) (hx : xs.length = ng) : HG wE S wT (X.setCell ⟨b, k, none⟩ m) hv (.slice (some ⟨b, 0, none⟩) ng c) nh ng hl (List.replicate (k + 1) m ++ xs.drop (k + 1)) :=
 (h.swap.setH hk hx).swap
theorem HG.BO (h : HG wE S wT X hv gv nh ng hl gl) (x : Int) (hn : nh + 1 <= 17592186044416) : ∃ b c W3, (∀ ty, (Builtin.append_ #[32, 32] ty #[hv, .slice (some ⟨X.heap.size, 0, none⟩) 1 1]).run Tryd.prog (X.alloc (.cells #[.int .i64 x] 3)) = .ok (.slice (some ⟨b, 0, none⟩) (nh + 1) c) W3) /\ HG wE S wT W3 (.slice (some ⟨b, 0, none⟩) (nh + 1) c) gv (nh + 1) ng (hl ++ [.int .i64 x]) gl := by
 obtain ⟨i0, hi0, iz0, iz1, iz2⟩ := info_parts gQ
 obtain ⟨b, c, W3, r, o, gr, hc, hat⟩ := app1 Tryd.underlying32 hi0 iz0 iz1 iz2 rfl (by decide) X wE.heap.size hv nh _ h.hrow #[.int .i64 x] rfl (by simp [Value.oneCell']) (by unfold maxLen; omega) (by omega) h.bel.size
 have hsz := gr.size
 have hgX : ∀ y, gv.ownBlock = some y -> y < X.heap.size := fun y hy => (aD h.grow hy).2
 refine ⟨b, c, W3, r, ⟨h.bel.grown gr h.bel.size fun z hz => (aD h.hrow hz).1, fun y h1 h2 => ?_, Nat.le_trans h.siz hsz, o, bS h.grow fun g v hg hv2 => ?_, fun y hy hy2 => ?_, fun y hy => ?_, h.gno⟩⟩
 ·rw [gr.block y (Nat.lt_of_lt_of_le h2 h.siz) (fun e => by have := h.hno y e.symm; omega)]
  exact h.rest y h1 h2
 ·rw [gr.block g (hgX g hg) (fun e => h.ne g e.symm hg)]
  exact hv2
 ·simp only [Value.ownBlock, Option.some.injEq] at hy
  subst hy
  rcases hat with e | e
  ·exact h.ne b e hy2
  ·have := hgX b hy2; omega
 ·simp only [Value.ownBlock, Option.some.injEq] at hy
  subst hy
  rcases hat with e | e
  ·exact h.hno b e
  ·exact .inr (Nat.le_trans h.siz e)
theorem HG.BX (h : HG wE S wT X hv gv nh ng hl gl) (x : Int) (hn : ng + 1 <= 17592186044416) : ∃ b c W3, (∀ ty, (Builtin.append_ #[32, 32] ty #[gv, .slice (some ⟨X.heap.size, 0, none⟩) 1 1]).run Tryd.prog (X.alloc (.cells #[.int .i64 x] 3)) = .ok (.slice (some ⟨b, 0, none⟩) (ng + 1) c) W3) /\ HG wE S wT W3 hv (.slice (some ⟨b, 0, none⟩) (ng + 1) c) nh (ng + 1) hl (gl ++ [.int .i64 x]) := by
 obtain ⟨b, c, W3, r, q⟩ := h.swap.BO x hn
 exact ⟨b, c, W3, r, q.swap⟩
end Go.Proofs.YtadmpgegolmkgaaDoor
namespace Go.Proofs.YtadmpgegolmkgaaDoor
open Go.RowKit
theorem ru {P : Program} {w w' : World} {ops : Array Oper} {rest : List Oper} {o : Oper} {a : Act} {Q : Exit -> Act -> World -> Prop} (hgd : o.guard = none) (x : Operand) (t : TypeId)
  (ho : o.op = .call { callee := .builtin .clear, args := #[x], argTypes := #[t] }) {u : Value} (hx : a.eval x = u) (hr : ∀ ty, (Builtin.clear_ #[t] ty #[u]).run P w = .ok (.tuple #[]) w')
  (h : wpList P ops Q rest (a.put o.dst (.tuple #[])) w') : wpList P ops Q (o :: rest) a w := by
 refine wpList_plain hgd fun K hK => ?_
 unfold Oper.wp
 simp [execOp, ho, resolve, invoke, builtin, hx, hr, Result.andThen]
 exact hK _ _ h
theorem vg (w : World) (M : Nat) (hm : w.heap[M]? = some (.map #[] 0)) : ∃ W, (∀ ty, (Builtin.clear_ #[71] ty #[.map (some M)]).run Tryd.prog w = .ok (.tuple #[]) W) /\ Fx (· = M) w W := by
 have hu : Tryd.prog.underlying 71 = some (.map 120 64) := Tryd.underlying71
 have hMl := (Array.getElem?_eq_some_iff.1 hm).1
 have hg : (getObj M).run Tryd.prog w = .ok (.map #[] 0) w := by simp [getObj, Sem.run, hm]
 have hs : (setObj M (.map #[] 0)).run Tryd.prog w = .ok () { w with heap := w.heap.set! M (.map #[] 0) } := by simp [setObj, Sem.run, hm]
 refine ⟨{ w with heap := w.heap.set! M (.map #[] 0) }, fun ty => by simp [Builtin.clear_, run_underlying hu, hg, hs, Result.andThen], ?_⟩
 refine ⟨rfl, rfl, rfl, by simp, fun k hk hn => ?_⟩
 simp only [Array.set!_eq_setIfInBounds, Array.getElem?_setIfInBounds]
 rw [if_neg (fun e => hn e.symm)]
theorem map_nil (W : World) : (binOp .eql 71 (.map none) (.map none)).run Tryd.prog W = .ok (.bool true) W := by
 have hu : Tryd.prog.underlying 71 = some (.map 120 64) := Tryd.underlying71
 have e : ∀ d, (Op.equalIn (d + 1) 71 (.map none) (.map none)).run Tryd.prog W = .ok true W := fun d => by simp [Op.equalIn, run_underlying hu]
 simp only [binOp]
 simp [Op.equal, Op.maxDepth, e 9999]
theorem yD : (Tryd.prog.info? 120).map (fun i => (i.zero, i.size, i.bytes)) = some (some (.agg #[.int .u64 0, .int .u64 0]), 2, 16) := by kernel_rfl
theorem iE {w : World} {b i : Nat} {C : Array Value} {v : Value} (h : w.heap[b]? = some (.cells C 75 (0, 0))) : (w.setCell ⟨b, i, none⟩ v).heap[b]? = some (.cells (C.setIfInBounds i v) 75 (0, 0)) := heap_setCell_same w b i C _ v h
theorem yE (w : World) (wb : Nat) (a b c : Int) (r : Bool) (cd : Value) (kb n db dc : Nat) (h : w.heap[wb]? = some (wkO a b c r cd kb n db dc 0 (.slice none 0 0) (.map none))) :
  Calls Tryd.prog 40 #[.pointer (some ⟨wb, 7, none⟩), .int .i64 1] w fun e w' => e = .returned (.tuple #[]) /\ ∃ pv mv, Bx (w'.heap[wb]? = some (wkO a b c r cd kb n db dc 0 pv mv) /\ Fx (· = wb) w w') := by
 obtain ⟨H, hH⟩ : ∃ H, w.heap.size = H := ⟨_, rfl⟩
 have hwl : wb < H := hH ▸ (Array.getElem?_eq_some_iff.1 h).1
 have HL : Bx (∀ W, _) := ⟨fun W => BH W⟩
 unfold wkO at h
 -- the levels
 have a7 : w.cell? ⟨wb, 7, none⟩ = some (.int .i64 0) := (cell_of_row w _ 7 _ _ _ h).trans rfl
 have f7 : w.frozen? ⟨wb, 7, none⟩ = false := by simp [World.frozen?, h]
 obtain ⟨W1, hW1⟩ : ∃ W1, w.setCell ⟨wb, 7, none⟩ (.int .i64 0) = W1 := ⟨_, rfl⟩
 have h1 : W1.heap[wb]? = some (.cells #[.int .i64 a, .int .i64 b, .int .i64 c, .bool r, cd, .slice (some ⟨kb, 0, none⟩) n n, .slice (some ⟨db, 0, none⟩) 1 dc, .int .i64 0, .slice none 0 0, .map none] 75 (0, 0)) := by rw [← hW1]; exact iE h
 have x1 : Fx (· = wb) w W1 := by rw [← hW1]; exact Fx.set (P := (· = wb)) (p := ⟨wb, 7, none⟩) (Fx.refl _ w) (.inl rfl) _
 have s1 : W1.heap.size = H := by rw [← hW1]; simpa using hH
 have b8 : W1.cell? ⟨wb, 8, none⟩ = some (.slice none 0 0) := (cell_of_row W1 _ 8 _ _ _ h1).trans rfl
 -- the pairs
 obtain ⟨i0, hi0, hz0, hz1, hz2⟩ := info_parts yD
 obtain ⟨g, cc, W3, r1, r2, r3, r4, r5⟩ := run_append_lies (P := Tryd.prog) (W1.alloc (.cells #[.int .u64 0, .int .u64 0] 120)) 70 70 (H + 1) 120 i0 (.agg #[.int .u64 0, .int .u64 0]) 2 16 Tryd.underlying70 hi0 hz0 hz1 hz2 rfl (by decide) (.slice none 0 0) 0 [] ⟨rfl, .inl ⟨rfl, rfl⟩⟩ ⟨H, 0, none⟩ 1 1 [.int .u64 0, .int .u64 0] rfl (by
  have := World.news_of_block (w := W1.alloc (.cells #[.int .u64 0, .int .u64 0] 120)) (cs := #[.int .u64 0, .int .u64 0]) (heap_alloc_new W1 _)
  rw [s1] at this
  exact this) (by intro u hu; simp at hu; subst hu; rfl) (by decide) (by unfold maxLen; omega) (by omega) (by simp [s1]) _ rfl
 have b3 : Below H W1 W3 := ((s1 ▸ ak W1 _)).grown r3 (by simp; omega) (fun k e => by cases e)
 have run3 : ∀ ty, (Builtin.append_ #[70, 70] ty #[.slice none 0 0, .slice (some ⟨H, 0, none⟩) 1 1]).run Tryd.prog (W1.alloc (.cells #[.int .u64 0, .int .u64 0] 120)) = .ok (.slice (some ⟨g, 0, none⟩) 1 cc) W3 := fun ty => r1
 have s3 : H <= W3.heap.size := by have := b3.size; omega
 have h3 : W3.heap[wb]? = _ := (b3.block wb hwl).trans h1
 have x3 : Fx (· = wb) w W3 := x1.trans (Fx.of (s1.symm ▸ b3))
 have c8 : W3.cell? ⟨wb, 8, none⟩ = some (.slice none 0 0) := (cell_of_row W3 _ 8 _ _ _ h3).trans rfl
 have g8 : W3.frozen? ⟨wb, 8, none⟩ = false := by simp [World.frozen?, h3]
 obtain ⟨W4, hW4⟩ : ∃ W4, W3.setCell ⟨wb, 8, none⟩ (.slice (some ⟨g, 0, none⟩) 1 cc) = W4 := ⟨_, rfl⟩
 have h4 : W4.heap[wb]? = some (.cells #[.int .i64 a, .int .i64 b, .int .i64 c, .bool r, cd, .slice (some ⟨kb, 0, none⟩) n n, .slice (some ⟨db, 0, none⟩) 1 dc, .int .i64 0, .slice (some ⟨g, 0, none⟩) 1 cc, .map none] 75 (0, 0)) := by rw [← hW4]; exact iE h3
 have x4 : Fx (· = wb) w W4 := by rw [← hW4]; exact Fx.set (P := (· = wb)) (p := ⟨wb, 8, none⟩) x3 (.inl rfl) _
 have s4 : H <= W4.heap.size := by have := x4.size; omega
 have d9 : W4.cell? ⟨wb, 9, none⟩ = some (.map none) := (cell_of_row W4 _ 9 _ _ _ h4).trans rfl
 -- the map
 obtain ⟨M, hM⟩ : ∃ M, W4.heap.size = M := ⟨_, rfl⟩
 obtain ⟨W5, hW5⟩ : ∃ W5, W4.alloc (.map #[] 0) = W5 := ⟨_, rfl⟩
 have h5 := (show W5.heap[wb]? = W4.heap[wb]? by rw [← hW5]; exact (ak W4 _).block wb (by omega)).trans h4
 have m5 : W5.heap[M]? = some (.map #[] 0) := by rw [← hW5, ← hM]; exact heap_alloc_new W4 _
 have x5 : Fx (· = wb) w W5 := by rw [← hW5]; exact x4.alloc _
 have e9 : W5.cell? ⟨wb, 9, none⟩ = some (.map none) := (cell_of_row W5 _ 9 _ _ _ h5).trans rfl
 have k9 : W5.frozen? ⟨wb, 9, none⟩ = false := by simp [World.frozen?, h5]
 obtain ⟨W6, hW6⟩ : ∃ W6, W5.setCell ⟨wb, 9, none⟩ (.map (some M)) = W6 := ⟨_, rfl⟩
 have h6 : W6.heap[wb]? = some (.cells #[.int .i64 a, .int .i64 b, .int .i64 c, .bool r, cd, .slice (some ⟨kb, 0, none⟩) n n, .slice (some ⟨db, 0, none⟩) 1 dc, .int .i64 0, .slice (some ⟨g, 0, none⟩) 1 cc, .map (some M)] 75 (0, 0)) := by rw [← hW6]; exact iE h5
 have m6 : W6.heap[M]? = some (.map #[] 0) := by rw [← hW6, Below.heap_setCell W5 ⟨wb, 9, none⟩ _ M (by simp; omega)]; exact m5
 have x6 : Fx (· = wb) w W6 := by rw [← hW6]; exact Fx.set (P := (· = wb)) (p := ⟨wb, 9, none⟩) x5 (.inl rfl) _
 have l9 : W6.cell? ⟨wb, 9, none⟩ = some (.map (some M)) := (cell_of_row W6 _ 9 _ _ _ h6).trans rfl
 obtain ⟨W7, run7, x7⟩ := vg W6 M m6
 have h7 : W7.heap[wb]? = _ := (x7.block wb (Array.getElem?_eq_some_iff.1 h6).1 (by omega)).trans h6
 have HX : Bx (W7.heap[wb]? = some (wkO a b c r cd kb n db dc 0 (.slice (some ⟨g, 0, none⟩) 1 cc) (.map (some M))) /\ Fx (· = wb) w W7) := ⟨h7, ⟨x7.os.trans x6.os, x7.tape.trans x6.tape, x7.output.trans x6.output, Nat.le_trans x6.size x7.size, fun k hk hn => (x7.block k (Nat.lt_of_lt_of_le hk x6.size) (by omega)).trans (x6.block k hk hn)⟩⟩
 have hmm := @run_makeMap Tryd.prog
 have hmn := map_nil
 clear h h1 h3 h4 h5 h6 h7 x1 x3 x4 x5 x6 x7 m5 m6 r1 r2 r3 r4 r5 b3 hi0 hz0 hz1 hz2
 go_enter Tryd.func40, Tryd.ntmps40
 go_wp2_with (first
  | (go_at_call 59; refine (HL.out _).mono ?_; rintro e w1 ⟨rfl, rfl⟩)
  | (at_builtin; refine jQ rfl (.tmp 16) (.tmp 18) 70 rfl rfl rfl run3 ?_; clear run3)
  | (at_builtin; refine ru rfl (.tmp 34) 71 rfl rfl run7 ?_; clear run7))
 go_returns
 exact ⟨rfl, _, _, HX⟩
theorem yF (w : World) (wb : Nat) (h : w.cell? ⟨wb, 7, none⟩ = some (.int .i64 0)) :
  Calls Tryd.prog 42 #[.pointer (some ⟨wb, 7, none⟩), .int .i64 0] w fun e w' => e = .returned (.int .u64 0) /\ ∃ k, w' = w.drewN k := by
 go_enter Tryd.func42, Tryd.ntmps42
 go_wp2
 go_quiet (fail)
 go_wp2
 refine wp_loop_rounds 1 ?_
 rw [rounds_succ]
 go_wp2
 go_ret
 exact ⟨rfl, _, rfl⟩
theorem sG (w : World) : Calls Tryd.prog 81 #[.int .i64 0] w fun e w' => e = .returned (.int .u64 1) /\ w = w' := by
 go_enter Tryd.func81, Tryd.ntmps81
 go_wp2
 go_ret
 exact ⟨rfl, rfl⟩
theorem vk (x : Value) (w : World) : Calls Tryd.prog 89 #[x, .int .u64 0, .int .i64 0, .int .i64 0, .int .u64 1] w fun e w' => e = .returned (.int .u64 1) /\ w = w' := by
 have HB : Bx (∀ W, _) := ⟨fun W => sG W⟩
 have o0 : bits BinOp.andNot IntKind.u64 0 1 = 0 := by kernel_rfl
 have o1 : bits BinOp.or IntKind.u64 0 1 = 1 := by kernel_rfl
 go_enter Tryd.func89, Tryd.ntmps89
 go_wp2_with (first
  | (go_at_call 81; refine (HB.out _).mono ?_; rintro e w1 ⟨rfl, rfl⟩))
 go_ret
 exact ⟨rfl, rfl⟩
theorem Ag (w : World) (wb : Nat) (h : w.cell? ⟨wb, 7, none⟩ = some (.int .i64 0)) :
  Calls Tryd.prog 82 #[.pointer (some ⟨wb, 7, none⟩), .int .u64 0, .int .i64 0] w fun e w' => e = .returned (.int .u64 1) /\ ∃ k, w' = w.drewN k := by
 have HB : Bx (∀ W, _) := ⟨fun W => sG W⟩
 have HC : Bx (∀ W, _) := ⟨fun W => vk (.pointer (some ⟨wb, 7, none⟩)) W⟩
 go_enter Tryd.func82, Tryd.ntmps82
 go_wp2
 go_region_with (first
  | (go_at_call 81; refine (HB.out _).mono ?_; rintro e w1 ⟨rfl, rfl⟩)
  | (go_at_call 89; refine (HC.out _).mono ?_; rintro e w1 ⟨rfl, rfl⟩))
 all_goals
  go_wp2
  go_ret
  exact ⟨rfl, _, rfl⟩
theorem nR : ∀ (K : List (Int × Int)) (i : Nat) (h : i < K.length), (kC K)[i * 2]? = some (.int .i64 K[i].1) /\ (kC K)[i * 2 + 1]? = some (.int .u64 K[i].2)
 | p :: r, 0, _ => by simp [kC]
 | p :: r, i + 1, h => by
  have := nR r i (by simpa using h)
  simp only [kC, List.getElem?_toArray, List.flatMap_cons, List.getElem_cons_succ] at this ⊢
  have e : ∀ k, ([Value.int .i64 p.1, .int .u64 p.2] ++ List.flatMap (fun p => [Value.int .i64 p.1, .int .u64 p.2]) r)[2 + k]? = (List.flatMap (fun p => [Value.int .i64 p.1, .int .u64 p.2]) r)[k]? := fun k => by
   rw [List.getElem?_append_right (by simp)]
   simp
  rw [show (i + 1) * 2 = 2 + i * 2 by omega, show 2 + i * 2 + 1 = 2 + (i * 2 + 1) by omega, e, e]
  exact this
theorem yG : ∀ (K : List (Int × Int)) (i : Nat) (h : i < K.length) (a s : Int), ((K.flatMap fun p => [Value.int .i64 p.1, .int .u64 p.2]).set (i * 2) (.int .i64 a)).set (i * 2 + 1) (.int .u64 s) = (K.set i (a, s)).flatMap fun p => [Value.int .i64 p.1, .int .u64 p.2]
 | p :: r, 0, _, a, s => by simp
 | p :: r, i + 1, h, a, s => by
  have := yG r i (by simpa using h) a s
  rw [show (i + 1) * 2 = i * 2 + 1 + 1 by omega]
  simp only [List.flatMap_cons, List.set_cons_succ, List.cons_append, List.nil_append]
  rw [this]
theorem Bw (K : List (Int × Int)) (i : Nat) (h : i < K.length) (a s : Int) : ((kC K).setIfInBounds (i * 2) (.int .i64 a)).setIfInBounds (i * 2 + 1) (.int .u64 s) = kC (K.set i (a, s)) := by
 unfold kC
 rw [← yG K i h a s]
 simp
theorem Due.fx {P : Nat -> Prop} {w w' : World} {db eb dc : Nat} {x : Int} (h : Due w db eb dc x) (hb : Fx P w w') (h1 : ¬ P db) (h2 : ¬ P eb) : Due w' db eb dc x :=
 ⟨by rw [World.cell?_of_block (w := w) (hb.block db h.lt.2 h1)]; exact h.d0, (hb.block eb h.lt.1 h2).trans h.e0, h.cap, h.ne⟩
theorem WK.fx {P : Nat -> Prop} {w w' : World} {wb kb db eb dc : Nat} {o : Obj} {K : List (Int × Int)} {x : Int} (h : WK w wb kb db eb dc o K x) (hb : Fx P w w') (h1 : ¬ P wb) (h2 : ¬ P kb) (h3 : ¬ P db) (h4 : ¬ P eb) : WK w' wb kb db eb dc o K x :=
 ⟨(hb.block wb (Array.getElem?_eq_some_iff.1 h.wk).1 h1).trans h.wk, (hb.block kb (Array.getElem?_eq_some_iff.1 h.kn).1 h2).trans h.kn, h.du.fx hb h3 h4, h.n1, h.n2, h.n3, h.n4, h.n5⟩
theorem WK.lts {w : World} {wb kb db eb dc : Nat} {o : Obj} {K : List (Int × Int)} {x : Int} (h : WK w wb kb db eb dc o K x) : wb < w.heap.size /\ kb < w.heap.size /\ db < w.heap.size /\ eb < w.heap.size :=
 ⟨(Array.getElem?_eq_some_iff.1 h.wk).1, (Array.getElem?_eq_some_iff.1 h.kn).1, h.du.lt.2, h.du.lt.1⟩
abbrev NoP : Nat -> Prop := fun _ => False
theorem Fx.no {w w' : World} (h : Below w.heap.size w w') : Fx NoP w w' := Fx.of h
theorem sH (w : World) (wb kb db eb dc : Nat) (a b c : Int) (r : Bool) (cd : Value) (n : Nat) (lv : Int) (pv mv : Value) (K : List (Int × Int)) (hW : WK w wb kb db eb dc (wkO a b c r cd kb n db dc lv pv mv) K 0) (hn : K.length = n) (i : Nat) (hi : i < n) (hi3 : i < 3) (hn3 : n <= 3) (hz : ∀ h : i < K.length, K[i].1 = 0) (ab s : Int) :
  Calls Tryd.prog 41 #[.pointer (some ⟨wb, 0, none⟩), .int .i64 i, .agg #[.int .i64 ab, .int .u64 s]] w fun e w' => e = .returned (.bool true) /\ Bx (WK w' wb kb db eb dc (wkO a b c r cd kb n db dc lv pv mv) (K.set i (ab, s)) ((2 ^ i : Nat) : Int) /\ Fx (fun k => k = kb ∨ k = eb) w w') := by
 obtain ⟨H, hH⟩ : ∃ H, w.heap.size = H := ⟨_, rfl⟩
 obtain ⟨l1, l2, l3, l4⟩ := hW.lts
 rw [hH] at l1 l2 l3 l4
 have hiK : i < K.length := by omega
 have hk := hW.kn
 have hw := hW.wk
 unfold wkO at hw
 obtain ⟨w0, hw0⟩ : ∃ w0, w.alloc (.cells #[.int .i64 ab, .int .u64 s] 66) = w0 := ⟨_, rfl⟩
 have b0 : Below H w w0 := by rw [← hw0, ← hH]; exact ak w _
 have s0 : w0.heap.size = H + 1 := by rw [← hw0]; simp [hH]
 have q0 : w0.heap[H]? = some (.cells #[.int .i64 ab, .int .u64 s] 66 (0, 0)) := by rw [← hw0, ← hH]; exact heap_alloc_new w _
 have hw1 := (b0.block wb l1).trans hw
 have hk1 := (b0.block kb l2).trans hk
 obtain ⟨g1, g2⟩ := nR K i hiK
 have c5 : w0.cell? ⟨wb, 5, none⟩ = some (.slice (some ⟨kb, 0, none⟩) n n) := (cell_of_row w0 _ 5 _ _ _ hw1).trans rfl
 have c6 : w0.cell? ⟨wb, 6, none⟩ = some (.slice (some ⟨db, 0, none⟩) 1 dc) := (cell_of_row w0 _ 6 _ _ _ hw1).trans rfl
 have ca : w0.cell? ⟨kb, i * 2, none⟩ = some (.int .i64 0) := by rw [cell_of_row w0 _ _ _ _ _ hk1, g1, hz hiK]
 have ca1 : w0.cell? ⟨kb, i * 2 + 1, none⟩ = some (.int .u64 K[i].2) := (cell_of_row w0 _ _ _ _ _ hk1).trans g2
 have fz : ∀ j, w0.frozen? ⟨kb, j, none⟩ = false := fun j => by simp [World.frozen?, hk1]
 have p0 : w0.cell? ⟨H, 0, none⟩ = some (.int .i64 ab) := (cell_of_row w0 _ 0 _ _ _ q0).trans rfl
 have p1 : w0.cell? ⟨H, 1, none⟩ = some (.int .u64 s) := (cell_of_row w0 _ 1 _ _ _ q0).trans rfl
 have HA : Bx (∀ k, ((((w0.drewN k).setCell ⟨kb, i * 2, none⟩ (.int .i64 ab)).setCell ⟨kb, i * 2 + 1, none⟩ (.int .u64 s)).cell? ⟨wb, 6, none⟩ = some (.slice (some ⟨db, 0, none⟩) 1 dc)) /\ Calls Tryd.prog 60 #[.slice (some ⟨db, 0, none⟩) 1 dc, .int .i64 i] (((w0.drewN k).setCell ⟨kb, i * 2, none⟩ (.int .i64 ab)).setCell ⟨kb, i * 2 + 1, none⟩ (.int .u64 s)) fun e w' => e = .returned (.tuple #[]) /\ w'.cell? ⟨wb, 5, none⟩ = some (.slice (some ⟨kb, 0, none⟩) n n) /\ w'.cell? ⟨kb, i * 2, none⟩ = some (.int .i64 ab) /\ w'.cell? ⟨kb, i * 2 + 1, none⟩ = some (.int .u64 s) /\ w'.cell? ⟨H, 0, none⟩ = some (.int .i64 ab) /\ w'.cell? ⟨H, 1, none⟩ = some (.int .u64 s) /\ Bx (WK w' wb kb db eb dc (wkO a b c r cd kb n db dc lv pv mv) (K.set i (ab, s)) ((2 ^ i : Nat) : Int) /\ Fx (fun k => k = kb ∨ k = eb) w w')) := ⟨fun k => by
  have e1 := heap_setCell_same (w0.drewN k) kb (i * 2) (kC K) 66 (.int .i64 ab) hk1
  have e2 := heap_setCell_same _ kb (i * 2 + 1) _ 66 (.int .u64 s) e1
  rw [Bw K i hiK] at e2
  have x2 : Fx (fun k => k = kb ∨ k = eb) w (((w0.drewN k).setCell ⟨kb, i * 2, none⟩ (.int .i64 ab)).setCell ⟨kb, i * 2 + 1, none⟩ (.int .u64 s)) := Fx.set (P := fun k => k = kb ∨ k = eb) (p := ⟨kb, i * 2 + 1, none⟩) (Fx.set (P := fun k => k = kb ∨ k = eb) (p := ⟨kb, i * 2, none⟩) ((Fx.of (hH ▸ b0)).drewN k) (.inl (.inl rfl)) _) (.inl (.inl rfl)) _
  have x1 : Fx (· = kb) w (((w0.drewN k).setCell ⟨kb, i * 2, none⟩ (.int .i64 ab)).setCell ⟨kb, i * 2 + 1, none⟩ (.int .u64 s)) := Fx.set (P := (· = kb)) (p := ⟨kb, i * 2 + 1, none⟩) (Fx.set (P := (· = kb)) (p := ⟨kb, i * 2, none⟩) ((Fx.of (hH ▸ b0)).drewN k) (.inl rfl) _) (.inl rfl) _
  have x3 : ∀ j, j ≠ kb -> (((w0.drewN k).setCell ⟨kb, i * 2, none⟩ (.int .i64 ab)).setCell ⟨kb, i * 2 + 1, none⟩ (.int .u64 s)).heap[j]? = w0.heap[j]? := fun j hj => (Below.heap_setCell _ ⟨kb, i * 2 + 1, none⟩ _ j hj).trans (Below.heap_setCell (w0.drewN k) ⟨kb, i * 2, none⟩ _ j hj)
  have d2 := hW.du.fx x1 (fun e => hW.n4 e.symm) (fun e => hW.n5 e.symm)
  generalize ((w0.drewN k).setCell ⟨kb, i * 2, none⟩ (.int .i64 ab)).setCell ⟨kb, i * 2 + 1, none⟩ (.int .u64 s) = X at *
  have hwX := (x3 wb hW.n1).trans hw1
  refine ⟨(cell_of_row X _ 6 _ _ _ hwX).trans rfl, (zx i hi3 X db eb dc d2).mono ?_⟩
  rintro e w' ⟨rfl, hb⟩
  obtain ⟨hd, hx⟩ := hb.out
  have sX : H + 1 <= X.heap.size := by have := x2.size; have h9 := Array.getElem?_eq_some_iff.1 ((x3 H (by omega)).trans q0); obtain ⟨h9, _⟩ := h9; omega
  have hw' := (hx.block wb (by omega) hW.n3).trans hwX
  have hk' := (hx.block kb (by omega) hW.n5).trans e2
  have hp' := (hx.block H (by omega) (by omega)).trans ((x3 H (by omega)).trans q0)
  obtain ⟨y1, y2⟩ := nR (K.set i (ab, s)) i (by simpa using hiK)
  simp only [List.getElem_set_self] at y1 y2
  refine ⟨rfl, (cell_of_row w' _ 5 _ _ _ hw').trans rfl, (cell_of_row w' _ _ _ _ _ hk').trans y1, (cell_of_row w' _ _ _ _ _ hk').trans y2, (cell_of_row w' _ 0 _ _ _ hp').trans rfl, (cell_of_row w' _ 1 _ _ _ hp').trans rfl, ⟨⟨hw', hk', hd, hW.n1, hW.n2, hW.n3, hW.n4, hW.n5⟩, x2.trans (hx.mono fun k _ hk => .inr hk)⟩⟩⟩
 have hkl0 : kb < w0.heap.size := by omega
 have hHl0 : H < w0.heap.size := by omega
 have hkH : kb ≠ H := by omega
 have hwk : wb ≠ kb := hW.n1
 clear hW hk hw hw1 hk1 q0 g1 g2
 generalize K[i].2 = z at *
 go_enter Tryd.func41, Tryd.ntmps41
 go_wp2
 go_region
 go_wp2_with (first
  | (go_at_call 60; refine Calls.mono (HA.out 1).2 ?_; rintro e w2 ⟨rfl, y5, y0, y1, z0, z1, HX⟩; clear HA c5 c6 ca ca1 fz p0 p1))
 go_quiet (fail)
 go_wp2
 go_ret
 exact ⟨by first | rfl | simp, ⟨HX.out.1.fx (P := NoP) ((Fx.refl _ _).drewN _) id id id id, HX.out.2.drewN _⟩⟩
end Go.Proofs.YtadmpgegolmkgaaDoor
