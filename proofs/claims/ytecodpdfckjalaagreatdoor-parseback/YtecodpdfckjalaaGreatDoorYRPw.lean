import Derived.Test.YtecodpdfckjalaaGreatDoorYTChkW
set_option linter.unusedVariables false
set_option linter.unusedSimpArgs false
set_option maxHeartbeats 4000000
set_option maxRecDepth 100000
namespace Go.Proofs.YtecodpdfckjalaaGreatDoor
open Go.RowKit
theorem Af (xs : List UInt8) (k : Nat) (t : Tok) (h : bR xs k = (t, 0)) : t.num < 9223372036854775808 := by
 unfold bR at h
 split at h
 ·unfold iZ at h
  split at h
  ·have e := (Prod.mk.inj h).1
   subst e
   exact (by decide : (0 : Nat) < 9223372036854775808)
  ·split at h
   ·simp at h
   ·have e := (Prod.mk.inj h).1
    subst e
    exact (by decide : (0 : Nat) < 9223372036854775808)
 ·split at h
  ·unfold kJ at h
   split at h
   ·simp at h
   ·split at h
    ·simp at h
    ·split at h
     ·rename_i h3
      have e := (Prod.mk.inj h).1
      subst e
      exact h3
     ·simp at h
  ·unfold iq at h
   split at h
   ·simp at h
   ·have e := (Prod.mk.inj h).1
    subst e
    exact (by decide : (0 : Nat) < 9223372036854775808)
theorem qY (xs : List UInt8) : ∀ (l : List Tok) (k : Nat), iT xs k l -> ∀ t ∈ l, t.num < 9223372036854775808 /\ t.place <= xs.length
 | [], _, _, t, h => by simp at h
 | t :: r, k, hc, t', h => by
  obtain ⟨q1, q2, q3, q4⟩ := hc
  rcases List.mem_cons.1 h with rfl | h
  ·exact ⟨Af xs _ _ q3, by omega⟩
  ·exact qY xs r _ q4 t' h
theorem jL (xs : List UInt8) (h : (aB xs).2.2 = 0) : jE (pts xs (aW (aB xs).1 xs.length) 0) /\ (pts xs (aW (aB xs).1 xs.length) 0).length = (aB xs).1.length + 1 /\ (aB xs).1.length <= 65536 := by
 obtain ⟨hc, hl⟩ := kM xs h
 generalize (aB xs).1 = l at hc ⊢
 have hn := mD xs l 0 (Nat.zero_le _) hc
 have ha := qY xs l 0 hc
 refine ⟨?_, by simp [pts, aW], by omega⟩
 intro t ht
 simp only [pts, aW, List.drop_zero, List.mem_map, List.mem_append, List.mem_singleton] at ht
 have hcut : ∀ k e, (cut xs k e).length <= 65536 := fun k e => by
  unfold cut
  simp
  omega
 obtain ⟨u, hu | rfl, rfl⟩ := ht
 ·have := ha u hu
  refine ⟨?_, ?_, ?_⟩
  ·show u.place <= 65536
   omega
  ·show u.num < _
   omega
  ·exact hcut _ _
 ·refine ⟨?_, ?_, ?_⟩
  ·show xs.length <= 65536
   omega
  ·show 0 < 9223372036854775808
   decide
  ·exact hcut _ _
def iL (n : Nat) : Nat := 20 * (n + 1) + 8
def fP (xs : List UInt8) (nest : Int) : List Nd × Int × Int :=
 if (aB xs).2.2 ≠ 0 then ([], (aB xs).2.1, (aB xs).2.2)
 else match pF (iL (aB xs).1.length + 1) .program (pts xs (aW (aB xs).1 xs.length) 0) with
  | .ok ts _ => if (kg (ag ts 0) nest (dK (ag ts 0)) 0).2 ≠ 0 then ([], kg (ag ts 0) nest (dK (ag ts 0)) 0) else (ag ts 0, 0, 0)
  | .err s => ([], (hd s).place, 30)
  | .out => ([], 0, 0)
theorem nJ (xs : List UInt8) (h : (aB xs).2.2 = 0) : pF (iL (aB xs).1.length + 1) .program (pts xs (aW (aB xs).1 xs.length) 0) ≠ .out := by
 obtain ⟨_, h2, _⟩ := jL xs h
 exact Jl _ .program _ trivial (by rw [h2]; simp only [rank, iL]; omega)
mutual
theorem CX : ∀ (t : Tr) (o N : Nat), t.size <= N -> ∀ n ∈ flat t o, n.kids.length <= N
 | .mk k p n nm ks, o, N, hz, m, hm => by
  simp only [Tr.size] at hz
  simp only [flat, List.mem_append, List.mem_singleton] at hm
  rcases hm with hm | rfl
  ·exact mJ ks o N (by omega) m hm
  ·have := lD ks
   simp only [cz]
   omega
theorem mJ : ∀ (ts : List Tr) (o N : Nat), sizes ts <= N -> ∀ n ∈ ag ts o, n.kids.length <= N
 | [], o, N, _, m, hm => by simp [ag] at hm
 | t :: r, o, N, hz, m, hm => by
  simp only [sizes] at hz
  simp only [ag, List.mem_append] at hm
  rcases hm with hm | hm
  ·exact CX t o N (by omega) m hm
  ·exact mJ r _ N (by omega) m hm
end
theorem vO (xs : List UInt8) (h : (aB xs).2.2 = 0) (f : Nat) (ts : List Tr) (s' : List ai) (hp : pF f .program (pts xs (aW (aB xs).1 xs.length) 0) = .ok ts s') : (∀ n ∈ ag ts 0, tu n) /\ (ag ts 0).length <= 200000 /\ ∀ n ∈ ag ts 0, n.kids.length <= 200000 := by
 obtain ⟨h1, h2, h3⟩ := jL xs h
 have hw := Eo f .program _ trivial h1 (by omega)
 rw [hp] at hw
 obtain ⟨q1, q2, q3⟩ := hw
 simp only [exR, slR] at q3
 rw [h2] at q3
 exact ⟨qW ts 0 q1 (by omega), by rw [dU]; omega, mJ ts 0 200000 (by omega)⟩
def CY (w : World) (R : List Nd × Int × Int) (e : Ending) (w' : World) : Prop :=
 ∃ nv, e = .returned (.tuple #[nv, .agg #[.int .i64 R.2.1, .int .i64 R.2.2]]) /\ Below w.heap.size w w' /\ (R.2.2 ≠ 0 -> nv = .slice none 0 0) /\ (R.2.2 = 0 -> ∃ rb, w.heap.size <= rb /\ eO (fun _ => False) w' rb nv R.1)
theorem qZ {W : World} {p q : Nat} {u v : Value} (h : p < q) (c0 : W.cell? ⟨q, 0, none⟩ = some u) (c1 : W.cell? ⟨q, 1, none⟩ = some v) (x y : Value) : ((W.setCell ⟨p, 0, none⟩ x).setCell ⟨p, 1, none⟩ y).cell? ⟨q, 0, none⟩ = some u /\ ((W.setCell ⟨p, 0, none⟩ x).setCell ⟨p, 1, none⟩ y).cell? ⟨q, 1, none⟩ = some v := by
 have e : ((W.setCell ⟨p, 0, none⟩ x).setCell ⟨p, 1, none⟩ y).heap[q]? = W.heap[q]? := by
  rw [Below.heap_setCell _ _ _ _ (by show q ≠ p; omega), Below.heap_setCell _ _ _ _ (by show q ≠ p; omega)]
 simp only [World.cell?] at c0 c1 ⊢
 rw [e]
 exact ⟨c0, c1⟩
theorem Ag (w : World) (hL : Laid w) (a : Option Addr) (cap : Nat) (xs : List UInt8) (hs : jH w a cap xs) (nest : Int) (A C : Nat) (hA : (aB xs).2 = (A, C)) (hC : C ≠ 0) :
  Calls Tryz.prog 10 #[.slice a xs.length cap, .int .i64 nest] w (CY w ([], A, C)) := by
 obtain ⟨W1, hW1⟩ : ∃ W1, w.alloc (.cells #[.int .i64 0, .int .i64 0] 30) = W1 := ⟨_, rfl⟩
 have b1 : Below w.heap.size w W1 := by rw [← hW1]; exact ah _ _
 have hz1 : W1.heap.size = w.heap.size + 1 := by rw [← hW1]; simp
 have c1 : W1.heap[w.heap.size]? = some (.cells #[.int .i64 0, .int .i64 0] 30 (0, 0)) := by rw [← hW1]; exact heap_alloc_new _ _
 have HC := kQ a cap xs W1 (hs.below b1) (hL.below b1)
 rw [hA] at HC
 have HS : Bx _ := ⟨HC⟩
 have HW : Bx (w.alloc (.cells #[.int .i64 0, .int .i64 0] 30) = W1) := ⟨hW1⟩
 have H1 : Bx (Below w.heap.size w W1 /\ W1.heap.size = w.heap.size + 1 /\ W1.heap[w.heap.size]? = some (.cells #[.int .i64 0, .int .i64 0] 30 (0, 0))) := ⟨b1, hz1, c1⟩
 have hC' : (C : Int) ≠ 0 := by omega
 clear hW1 b1 hz1 c1 HC hs hL hA
 go_enter Tryz.func10, Tryz.ntmps10
 go_wp2_with (first | (go_at_call 19; rw [HW.out]; refine Calls.mono HS.out ?_; rintro e W2 ⟨v, rfl, hv, hb⟩; rw [H1.out.2.1] at hb; have HB2 : Bx (Below w.heap.size w W2 /\ Below (w.heap.size + 1) W1 W2) := ⟨H1.out.1.trans (hb.mono (by omega)), hb⟩; clear hb hv))
 obtain ⟨W3, hW3⟩ : ∃ W3, W2.alloc (.cells #[.int .i64 (A : Int), .int .i64 (C : Int)] 30) = W3 := ⟨_, rfl⟩
 have hlt : w.heap.size < W2.heap.size := by have := HB2.out.2.size; have := H1.out.2.1; omega
 have f0 : W3.heap[W2.heap.size]? = some (.cells #[.int .i64 (A : Int), .int .i64 (C : Int)] 30 (0, 0)) := by rw [← hW3]; exact heap_alloc_new _ _
 have g0 : W3.heap[w.heap.size]? = some (.cells #[.int .i64 0, .int .i64 0] 30 (0, 0)) := by
  rw [← hW3, (ah W2 _).block _ hlt, HB2.out.2.block _ (by omega)]
  exact H1.out.2.2
 have b3 : Below w.heap.size w W3 := HB2.out.1.trans (by rw [← hW3]; exact (ah W2 _).mono (by omega))
 have HB3 : Bx (Below w.heap.size w W3) := ⟨b3⟩
 have c0 : W3.cell? ⟨W2.heap.size, 0, none⟩ = some (.int .i64 A) := by simp [World.cell?, f0]
 have c1 : W3.cell? ⟨W2.heap.size, 1, none⟩ = some (.int .i64 C) := by simp [World.cell?, f0]
 have d0 : W3.cell? ⟨w.heap.size, 0, none⟩ = some (.int .i64 0) := by simp [World.cell?, g0]
 have d1 : W3.cell? ⟨w.heap.size, 1, none⟩ = some (.int .i64 0) := by simp [World.cell?, g0]
 have e0 : W3.frozen? ⟨w.heap.size, 0, none⟩ = false := by simp [World.frozen?, g0]
 have e1 : W3.frozen? ⟨w.heap.size, 1, none⟩ = false := by simp [World.frozen?, g0]
 have HKp : Bx (∀ x y, ((W3.setCell ⟨w.heap.size, 0, none⟩ x).setCell ⟨w.heap.size, 1, none⟩ y).cell? ⟨W2.heap.size, 0, none⟩ = some (.int .i64 (A : Int)) /\ ((W3.setCell ⟨w.heap.size, 0, none⟩ x).setCell ⟨w.heap.size, 1, none⟩ y).cell? ⟨W2.heap.size, 1, none⟩ = some (.int .i64 (C : Int))) := ⟨fun x y => qZ hlt c0 c1 x y⟩
 clear f0 g0 b3
 rw [hW3]
 clear hW3
 go_region_held3 (fun w' => w'.cell? ⟨W2.heap.size, 0, none⟩ = some (.int .i64 (A : Int)) /\ w'.cell? ⟨W2.heap.size, 1, none⟩ = some (.int .i64 (C : Int))) (first | exact ⟨c0, c1⟩ | exact HKp.out _ _) (fail)
 go_wp2
 refine bodyPost_ret (v := .tuple #[.slice none 0 0, .agg #[.int .i64 (A : Int), .int .i64 (C : Int)]]) (by simp [results, Tryz.results10, go_sem, d0, d1]) rfl ⟨_, rfl, ((HB3.out.setCell (p := ⟨w.heap.size, 0, none⟩) (Nat.le_refl _) _).setCell (p := ⟨w.heap.size, 1, none⟩) (Nat.le_refl _) _).drew, fun _ => rfl, fun h => absurd h hC'⟩
structure TS (w W : World) (q : Nat) (A C : Int) : Prop where
 bel : Below w.heap.size w W
 hlt : w.heap.size < q
 t7 : W.heap[q]? = some (.cells #[.int .i64 A, .int .i64 C] 30 (0, 0))
 t5 : W.heap[w.heap.size]? = some (.cells #[.int .i64 0, .int .i64 0] 30 (0, 0))
theorem TS.cells {w W : World} {q : Nat} {A C : Int} (h : TS w W q A C) : W.cell? ⟨q, 0, none⟩ = some (.int .i64 A) /\ W.cell? ⟨q, 1, none⟩ = some (.int .i64 C) /\ W.cell? ⟨w.heap.size, 0, none⟩ = some (.int .i64 0) /\ W.cell? ⟨w.heap.size, 1, none⟩ = some (.int .i64 0) /\ W.frozen? ⟨w.heap.size, 0, none⟩ = false /\ W.frozen? ⟨w.heap.size, 1, none⟩ = false /\ W.frozen? ⟨q, 0, none⟩ = false /\ W.frozen? ⟨q, 1, none⟩ = false /\ q < W.heap.size /\ w.heap.size < W.heap.size := by
 refine ⟨?_, ?_, ?_, ?_, ?_, ?_, ?_, ?_, aY h.t7, aY h.t5⟩ <;> simp [World.cell?, World.frozen?, h.t7, h.t5]
theorem TS.set {w W : World} {q : Nat} {A C : Int} (h : TS w W q A C) (A' C' : Int) : TS w ((W.setCell ⟨q, 0, none⟩ (.int .i64 A')).setCell ⟨q, 1, none⟩ (.int .i64 C')) q A' C' := by
 have hl := h.hlt
 refine ⟨(h.bel.setCell (p := ⟨q, 0, none⟩) (by show w.heap.size <= q; omega) _).setCell (p := ⟨q, 1, none⟩) (by show w.heap.size <= q; omega) _, hl, ?_, ?_⟩
 ·have h1 := heap_setCell_same W q 0 _ 30 (.int .i64 A') h.t7
  have h2 := heap_setCell_same _ q 1 _ 30 (.int .i64 C') h1
  rw [h2]
  rfl
 ·rw [heap_setCell_other _ ⟨q, 1, none⟩ _ _ (by show w.heap.size ≠ q; omega), heap_setCell_other _ ⟨q, 0, none⟩ _ _ (by show w.heap.size ≠ q; omega)]
  exact h.t5
theorem TS.below {w W W' : World} {q : Nat} {A C : Int} (h : TS w W q A C) (hb : Below W.heap.size W W') : TS w W' q A C := by
 have h1 := aY h.t7
 have h2 := aY h.t5
 exact ⟨h.bel.trans (hb.mono (by omega)), h.hlt, (hb.block _ h1).trans h.t7, (hb.block _ h2).trans h.t5⟩
theorem vP (w W1 : World) (hL : Laid w) (h7 : 7 <= w.heap.size) (hb1 : Below w.heap.size w W1) (hz1 : W1.heap.size = w.heap.size + 1) (c1 : W1.heap[w.heap.size]? = some (.cells #[.int .i64 0, .int .i64 0] 30 (0, 0))) (a : Option Addr) (cap : Nat) (xs : List UInt8) (hs : jH w a cap xs) (h0 : (aB xs).2.2 = 0) (A C : Int) (v : Value) (W2 W3 : World) (hv : W2.ownsRow (w.heap.size + 1) 62 4 v (aB xs).1.length (eZ (aB xs).1)) (hb : Below (w.heap.size + 1) W1 W2) (hW3 : W2.alloc (.cells #[.int .i64 A, .int .i64 C] 30) = W3) :
  Calls Tryz.prog 20 #[.slice a xs.length cap, v] W3 (xg W3 (w.heap.size + 1) v (pF (iL (aB xs).1.length + 1) .program (pts xs (aW (aB xs).1 xs.length) 0))) /\ TS w W3 W2.heap.size A C /\ ∀ W4, Below (w.heap.size + 1) W3 W4 -> Kx v W3 W4 -> TS w W4 W2.heap.size A C := by
 obtain ⟨k1, k2, k3, k4⟩ := y5 xs h0
 have hz2 := hb.size
 have b23 : Below W2.heap.size W2 W3 := by rw [← hW3]; exact ah _ _
 have hz3 : W3.heap.size = W2.heap.size + 1 := by rw [← hW3]; simp
 have b13 : Below (w.heap.size + 1) W1 W3 := hb.trans (b23.mono (by omega))
 have b3 : Below w.heap.size w W3 := hb1.trans (b13.mono (by omega))
 have hv3 : W3.ownsRow (w.heap.size + 1) 62 4 v (aB xs).1.length (eZ (aB xs).1) := bO hv b23
 have t3 : TS w W3 W2.heap.size A C := ⟨b3, by omega, by rw [← hW3]; exact heap_alloc_new _ _, (b13.block _ (by omega)).trans c1⟩
 refine ⟨Em W3 (hL.below b3) (w.heap.size + 1) a cap xs (fun w' hw' => ?_) (fun hp b o e => ?_) k3 v (aB xs).1 hv3 (by omega) (by omega) k2 k1 k4 (nJ xs h0), t3, fun W4 q1 q2 => ?_⟩
 ·have b4 : Below w.heap.size w w' := b3.trans (hw'.mono (by omega))
  exact ⟨hs.below b4, hL.below b4⟩
 ·obtain ⟨b', o', e', hlt, _⟩ := hs.at_ hp
  rw [e] at e'
  simp only [Option.some.injEq, Addr.mk.injEq] at e'
  omega
 ·refine ⟨b3.trans (q1.mono (by omega)), t3.hlt, (q2 _ (by omega) (fun e => ?_)).trans t3.t7, (q1.block _ (by omega)).trans t3.t5⟩
  have := (hv.lt _ e).2
  omega
theorem CZ (w : World) (hL : Laid w) (h7 : 7 <= w.heap.size) (a : Option Addr) (cap : Nat) (xs : List UInt8) (hs : jH w a cap xs) (nest : Int) (h0 : (aB xs).2.2 = 0) (s' : List ai) (hR : pF (iL (aB xs).1.length + 1) .program (pts xs (aW (aB xs).1 xs.length) 0) = .err s') :
  Calls Tryz.prog 10 #[.slice a xs.length cap, .int .i64 nest] w (CY w ([], (hd s').place, 30)) := by
 obtain ⟨W1, hW1⟩ : ∃ W1, w.alloc (.cells #[.int .i64 0, .int .i64 0] 30) = W1 := ⟨_, rfl⟩
 have b1 : Below w.heap.size w W1 := by rw [← hW1]; exact ah _ _
 have hz1 : W1.heap.size = w.heap.size + 1 := by rw [← hW1]; simp
 have c1 : W1.heap[w.heap.size]? = some (.cells #[.int .i64 0, .int .i64 0] 30 (0, 0)) := by rw [← hW1]; exact heap_alloc_new _ _
 have HC := kQ a cap xs W1 (hs.below b1) (hL.below b1)
 obtain ⟨A, hA⟩ : ∃ A : Nat, (aB xs).2.1 = A := ⟨_, rfl⟩
 rw [h0, hA, hz1] at HC
 have HP := vP w W1 hL h7 b1 hz1 c1 a cap xs hs h0 A 0
 rw [hR] at HP
 obtain ⟨P, hP⟩ : ∃ P : Nat, (hd s').place = P := ⟨_, rfl⟩
 have eR : ∀ W v, xg W (w.heap.size + 1) v (.err s') = fun e w' => e = .returned (.tuple #[.slice none 0 0, .agg #[.int .i64 (hd s').place, .int .i64 30]]) /\ Below (w.heap.size + 1) W w' /\ Kx v W w' := fun _ _ => rfl
 simp only [eR, hP] at HP
 rw [hP]
 have HS : Bx _ := ⟨HC⟩
 have HR : Bx _ := ⟨HP⟩
 have HW : Bx (w.alloc (.cells #[.int .i64 0, .int .i64 0] 30) = W1) := ⟨hW1⟩
 clear hW1 b1 hz1 c1 HC HP hs hL hA hR hP h0
 generalize (aB xs).1 = toks at *
 go_enter Tryz.func10, Tryz.ntmps10
 go_wp2_with (first
  | (go_at_call 19; rw [HW.out]; refine Calls.mono HS.out ?_; rintro e W2 ⟨v, rfl, hv, hb⟩; obtain ⟨W3, hW3⟩ : ∃ W3, W2.alloc (.cells #[.int .i64 (A : Int), .int .i64 0] 30) = W3 := ⟨_, rfl⟩; have hp := HR.out v W2 W3 hv hb hW3; have HQ : Bx _ := ⟨hp⟩; have HW3 : Bx _ := ⟨hW3⟩; clear hv hb hp hW3)
  | (go_at_call 20; rw [HW3.out]; refine Calls.mono HQ.out.1 ?_; rintro e W4 ⟨rfl, q1, q2⟩; have t4 := HQ.out.2.2 W4 q1 q2; have T4 : Bx _ := ⟨t4⟩; obtain ⟨c0, c1, d0, d1, e0, e1, f0, f1, l1, l2⟩ := t4.cells; clear q1 q2 t4))
 have t5 : TS w _ W2.heap.size P 30 := T4.out.set P 30
 generalize hW5 : (W4.setCell ⟨W2.heap.size, 0, none⟩ (.int .i64 (P : Int))).setCell ⟨W2.heap.size, 1, none⟩ (.int .i64 30) = W5 at *
 clear c0 c1 d0 d1 e0 e1 f0 f1 l1 l2 hW5
 obtain ⟨c0, c1, d0, d1, e0, e1, f0, f1, l1, l2⟩ := t5.cells
 have HKp : Bx (∀ x y, ((W5.setCell ⟨w.heap.size, 0, none⟩ x).setCell ⟨w.heap.size, 1, none⟩ y).cell? ⟨W2.heap.size, 0, none⟩ = some (.int .i64 (P : Int)) /\ ((W5.setCell ⟨w.heap.size, 0, none⟩ x).setCell ⟨w.heap.size, 1, none⟩ y).cell? ⟨W2.heap.size, 1, none⟩ = some (.int .i64 30)) := ⟨fun x y => qZ t5.hlt c0 c1 x y⟩
 have T5 : Bx _ := ⟨t5⟩
 clear t5
 go_region_held3 (fun w' => w'.cell? ⟨W2.heap.size, 0, none⟩ = some (.int .i64 (P : Int)) /\ w'.cell? ⟨W2.heap.size, 1, none⟩ = some (.int .i64 30)) (first | exact ⟨c0, c1⟩ | exact HKp.out _ _) (fail)
 go_wp2
 refine bodyPost_ret (v := .tuple #[.slice none 0 0, .agg #[.int .i64 (P : Int), .int .i64 30]]) (by simp [results, Tryz.results10, go_sem, d0, d1]) rfl ⟨_, rfl, ((T5.out.bel.setCell (p := ⟨w.heap.size, 0, none⟩) (Nat.le_refl _) _).setCell (p := ⟨w.heap.size, 1, none⟩) (Nat.le_refl _) _).drew, fun _ => rfl, fun h => absurd h (by simp)⟩
theorem eO.set2 {W : World} {rb : Nat} {nv : Value} {ns : List Nd} (h : eO (fun _ => False) W rb nv ns) {q : Nat} (hq : q <= rb) (x y : Value) : eO (fun _ => False) ((W.setCell ⟨q, 0, none⟩ x).setCell ⟨q, 1, none⟩ y) rb nv ns :=
 h.kept (fun z o hz ho => by
  rw [heap_setCell_other _ ⟨q, 1, none⟩ _ _ (by show z ≠ q; omega), heap_setCell_other _ ⟨q, 0, none⟩ _ _ (by show z ≠ q; omega)]
  exact ho)
theorem eO.bel {W W' : World} {rb : Nat} {nv : Value} {ns : List Nd} (h : eO (fun _ => False) W rb nv ns) (hb : Below W.heap.size W W') : eO (fun _ => False) W' rb nv ns :=
 h.kept (fun z o hz ho => (hb.block _ (aY ho)).trans ho)
theorem AZ {w W4 : World} {q rb : Nat} {A C : Int} {nv : Value} {l : List Nd} (t4 : TS w W4 q A C) (hno : eO (fun _ => False) W4 rb nv l) (hq : q < rb) (hwf : ∀ n ∈ l, tu n) (hz : l.length <= 200000) (hk : ∀ n ∈ l, n.kids.length <= 200000) (nest x y : Int) (hxy : kg l nest (dK l) 0 = (x, y)) :
  ∃ na nc W5, nv = .slice na l.length nc /\ (W4.setCell ⟨q, 0, none⟩ (.int .i64 0)).setCell ⟨q, 1, none⟩ (.int .i64 0) = W5 /\ TS w W5 q 0 0 /\ Calls Tryz.prog 21 #[.slice na l.length nc, .int .i64 nest] W5 (fun e w' => e = .returned (.agg #[.int .i64 x, .int .i64 y]) /\ Below W5.heap.size W5 w') /\ eO (fun _ => False) W5 rb (.slice na l.length nc) l := by
 have h5 := hno.set2 (q := q) (by omega) (.int .i64 0) (.int .i64 0)
 obtain ⟨na, nc, rfl, hin⟩ := qX h5 hwf hz hk
 exact ⟨na, nc, _, rfl, rfl, t4.set 0 0, xB _ na nc l hin hz nest x y hxy, h5⟩
theorem Ah (w : World) (hL : Laid w) (h7 : 7 <= w.heap.size) (a : Option Addr) (cap : Nat) (xs : List UInt8) (hs : jH w a cap xs) (nest : Int) (h0 : (aB xs).2.2 = 0) (ts : List Tr) (s' : List ai) (hR : pF (iL (aB xs).1.length + 1) .program (pts xs (aW (aB xs).1 xs.length) 0) = .ok ts s') (x y : Int) (hxy : kg (ag ts 0) nest (dK (ag ts 0)) 0 = (x, y)) (hy : y ≠ 0) :
  Calls Tryz.prog 10 #[.slice a xs.length cap, .int .i64 nest] w (CY w ([], x, y)) := by
 obtain ⟨W1, hW1⟩ : ∃ W1, w.alloc (.cells #[.int .i64 0, .int .i64 0] 30) = W1 := ⟨_, rfl⟩
 have b1 : Below w.heap.size w W1 := by rw [← hW1]; exact ah _ _
 have hz1 : W1.heap.size = w.heap.size + 1 := by rw [← hW1]; simp
 have c1 : W1.heap[w.heap.size]? = some (.cells #[.int .i64 0, .int .i64 0] 30 (0, 0)) := by rw [← hW1]; exact heap_alloc_new _ _
 have HC := kQ a cap xs W1 (hs.below b1) (hL.below b1)
 obtain ⟨A, hA⟩ : ∃ A : Nat, (aB xs).2.1 = A := ⟨_, rfl⟩
 rw [h0, hA, hz1] at HC
 have HP := vP w W1 hL h7 b1 hz1 c1 a cap xs hs h0 A 0
 rw [hR] at HP
 have eR : ∀ W v, xg W (w.heap.size + 1) v (.ok ts s') = fun e w' => ∃ nv rb, e = .returned (.tuple #[nv, .agg #[.int .i64 0, .int .i64 0]]) /\ eO (fun _ => False) w' rb nv (ag ts 0) /\ W.heap.size <= rb /\ Below (w.heap.size + 1) W w' /\ Kx v W w' := fun _ _ => rfl
 simp only [eR] at HP
 have hin := vO xs h0 _ ts s' hR
 have HN : Bx (∀ (W2 W3 W4 : World) (rb : Nat) (nv : Value), TS w W3 W2.heap.size A 0 -> TS w W4 W2.heap.size A 0 -> eO (fun _ => False) W4 rb nv (ag ts 0) -> W3.heap.size <= rb -> _) := ⟨fun W2 W3 W4 rb nv t3 t4 hno hrb => AZ t4 hno (Nat.lt_of_lt_of_le (aY t3.t7) hrb) hin.1 hin.2.1 hin.2.2 nest x y hxy⟩
 have HS : Bx _ := ⟨HC⟩
 have HR : Bx _ := ⟨HP⟩
 have HW : Bx (w.alloc (.cells #[.int .i64 0, .int .i64 0] 30) = W1) := ⟨hW1⟩
 clear hW1 b1 hz1 c1 HC HP hs hL hA hR h0 eR hin hxy
 generalize (aB xs).1 = toks at *
 generalize ag ts 0 = l at *
 go_enter Tryz.func10, Tryz.ntmps10
 go_wp2_with (first
  | (go_at_call 19; rw [HW.out]; refine Calls.mono HS.out ?_; rintro e W2 ⟨v, rfl, hv, hb⟩; obtain ⟨W3, hW3⟩ : ∃ W3, W2.alloc (.cells #[.int .i64 (A : Int), .int .i64 0] 30) = W3 := ⟨_, rfl⟩; have hp := HR.out v W2 W3 hv hb hW3; have HQ : Bx _ := ⟨hp⟩; have HW3 : Bx _ := ⟨hW3⟩; clear hv hb hp hW3)
  | (go_at_call 20; rw [HW3.out]; refine Calls.mono HQ.out.1 ?_; rintro e W4 ⟨nv, rb, rfl, hno, hrb, q1, q2⟩; have t4 := HQ.out.2.2 W4 q1 q2; obtain ⟨na, nc, W5, rfl, hW5, t5, hcall, hno5⟩ := HN.out W2 W3 W4 rb nv HQ.out.2.1 t4 hno hrb; have HT : Bx _ := ⟨hcall⟩; have HW5 : Bx _ := ⟨hW5⟩; have T5 : Bx _ := ⟨t5⟩; obtain ⟨c0, c1, d0, d1, e0, e1, f0, f1, l1, l2⟩ := t4.cells; clear q1 q2 t4 t5 hcall hW5 hno hno5 hrb)
  | (go_at_call 21; rw [HW5.out]; refine Calls.mono HT.out ?_; rintro e W6 ⟨rfl, hb6⟩; have t6 := T5.out.below hb6; have T6 : Bx _ := ⟨t6⟩; clear c0 c1 d0 d1 e0 e1 f0 f1 l1 l2 hb6; obtain ⟨c0, c1, d0, d1, e0, e1, f0, f1, l1, l2⟩ := t6.cells; clear t6))
 have t7 : TS w _ W2.heap.size x y := T6.out.set x y
 generalize hW7 : (W6.setCell ⟨W2.heap.size, 0, none⟩ (.int .i64 x)).setCell ⟨W2.heap.size, 1, none⟩ (.int .i64 y) = W7 at *
 clear c0 c1 d0 d1 e0 e1 f0 f1 l1 l2 hW7
 obtain ⟨c0, c1, d0, d1, e0, e1, f0, f1, l1, l2⟩ := t7.cells
 have HKp : Bx (∀ u v, ((W7.setCell ⟨w.heap.size, 0, none⟩ u).setCell ⟨w.heap.size, 1, none⟩ v).cell? ⟨W2.heap.size, 0, none⟩ = some (.int .i64 x) /\ ((W7.setCell ⟨w.heap.size, 0, none⟩ u).setCell ⟨w.heap.size, 1, none⟩ v).cell? ⟨W2.heap.size, 1, none⟩ = some (.int .i64 y)) := ⟨fun u v => qZ t7.hlt c0 c1 u v⟩
 have T7 : Bx _ := ⟨t7⟩
 clear t7
 go_region_held3 (fun w' => w'.cell? ⟨W2.heap.size, 0, none⟩ = some (.int .i64 x) /\ w'.cell? ⟨W2.heap.size, 1, none⟩ = some (.int .i64 y)) (first | exact ⟨c0, c1⟩ | exact HKp.out _ _) (fail)
 go_wp2
 refine bodyPost_ret (v := .tuple #[.slice none 0 0, .agg #[.int .i64 x, .int .i64 y]]) (by simp [results, Tryz.results10, go_sem, d0, d1]) rfl ⟨_, rfl, ((T7.out.bel.setCell (p := ⟨w.heap.size, 0, none⟩) (Nat.le_refl _) _).setCell (p := ⟨w.heap.size, 1, none⟩) (Nat.le_refl _) _).drew, fun _ => rfl, fun h => absurd h hy⟩
theorem vQ (l : List Nd) (nest : Int) : ∀ (hs : List Nat) (i : Nat), (kg l nest hs i).2 = 0 -> kg l nest hs i = (0, 0)
 | [], i, _ => rfl
 | h :: r, i, e => by
  rw [kg] at e ⊢
  split at e
  ·simp at e
  ·rename_i hn
   rw [if_neg hn]
   exact vQ l nest r (i + 1) e
theorem Ai (w : World) (hL : Laid w) (h7 : 7 <= w.heap.size) (a : Option Addr) (cap : Nat) (xs : List UInt8) (hs : jH w a cap xs) (nest : Int) (h0 : (aB xs).2.2 = 0) (ts : List Tr) (s' : List ai) (hR : pF (iL (aB xs).1.length + 1) .program (pts xs (aW (aB xs).1 xs.length) 0) = .ok ts s') (hxy : kg (ag ts 0) nest (dK (ag ts 0)) 0 = (0, 0)) :
  Calls Tryz.prog 10 #[.slice a xs.length cap, .int .i64 nest] w (CY w (ag ts 0, 0, 0)) := by
 obtain ⟨W1, hW1⟩ : ∃ W1, w.alloc (.cells #[.int .i64 0, .int .i64 0] 30) = W1 := ⟨_, rfl⟩
 have b1 : Below w.heap.size w W1 := by rw [← hW1]; exact ah _ _
 have hz1 : W1.heap.size = w.heap.size + 1 := by rw [← hW1]; simp
 have c1 : W1.heap[w.heap.size]? = some (.cells #[.int .i64 0, .int .i64 0] 30 (0, 0)) := by rw [← hW1]; exact heap_alloc_new _ _
 have HC := kQ a cap xs W1 (hs.below b1) (hL.below b1)
 obtain ⟨A, hA⟩ : ∃ A : Nat, (aB xs).2.1 = A := ⟨_, rfl⟩
 rw [h0, hA, hz1] at HC
 have HP := vP w W1 hL h7 b1 hz1 c1 a cap xs hs h0 A 0
 rw [hR] at HP
 have eR : ∀ W v, xg W (w.heap.size + 1) v (.ok ts s') = fun e w' => ∃ nv rb, e = .returned (.tuple #[nv, .agg #[.int .i64 0, .int .i64 0]]) /\ eO (fun _ => False) w' rb nv (ag ts 0) /\ W.heap.size <= rb /\ Below (w.heap.size + 1) W w' /\ Kx v W w' := fun _ _ => rfl
 simp only [eR] at HP
 have hin := vO xs h0 _ ts s' hR
 have HN : Bx (∀ (W2 W3 W4 : World) (rb : Nat) (nv : Value), TS w W3 W2.heap.size A 0 -> TS w W4 W2.heap.size A 0 -> eO (fun _ => False) W4 rb nv (ag ts 0) -> W3.heap.size <= rb -> _) := ⟨fun W2 W3 W4 rb nv t3 t4 hno hrb => AZ t4 hno (Nat.lt_of_lt_of_le (aY t3.t7) hrb) hin.1 hin.2.1 hin.2.2 nest 0 0 hxy⟩
 have HS : Bx _ := ⟨HC⟩
 have HR : Bx _ := ⟨HP⟩
 have HW : Bx (w.alloc (.cells #[.int .i64 0, .int .i64 0] 30) = W1) := ⟨hW1⟩
 clear hW1 b1 hz1 c1 HC HP hs hL hA hR h0 eR hin hxy
 generalize (aB xs).1 = toks at *
 generalize ag ts 0 = l at *
 go_enter Tryz.func10, Tryz.ntmps10
 go_wp2_with (first
  | (go_at_call 19; rw [HW.out]; refine Calls.mono HS.out ?_; rintro e W2 ⟨v, rfl, hv, hb⟩; obtain ⟨W3, hW3⟩ : ∃ W3, W2.alloc (.cells #[.int .i64 (A : Int), .int .i64 0] 30) = W3 := ⟨_, rfl⟩; have hp := HR.out v W2 W3 hv hb hW3; have HQ : Bx _ := ⟨hp⟩; have HW3 : Bx _ := ⟨hW3⟩; clear hv hb hp hW3)
  | (go_at_call 20; rw [HW3.out]; refine Calls.mono HQ.out.1 ?_; rintro e W4 ⟨nv, rb, rfl, hno, hrb, q1, q2⟩; have t4 := HQ.out.2.2 W4 q1 q2; obtain ⟨na, nc, W5, rfl, hW5, t5, hcall, hno5⟩ := HN.out W2 W3 W4 rb nv HQ.out.2.1 t4 hno hrb; have HT : Bx _ := ⟨hcall⟩; have HNO : Bx _ := ⟨hno5⟩; have HRB : Bx (W3.heap.size <= rb) := ⟨hrb⟩; have HW5 : Bx _ := ⟨hW5⟩; have T5 : Bx _ := ⟨t5⟩; obtain ⟨c0, c1, d0, d1, e0, e1, f0, f1, l1, l2⟩ := t4.cells; clear q1 q2 t4 t5 hcall hW5 hno hno5 hrb)
  | (go_at_call 21; rw [HW5.out]; refine Calls.mono HT.out ?_; rintro e W6 ⟨rfl, hb6⟩; have t6 := T5.out.below hb6; have T6 : Bx _ := ⟨t6⟩; have HN6 : Bx _ := ⟨HNO.out.bel hb6⟩; have hl3 := HQ.out.2.1.hlt; have hne1 : w.heap.size ≠ W2.heap.size := Nat.ne_of_lt hl3; have hne2 : W2.heap.size ≠ w.heap.size := hne1.symm; clear c0 c1 d0 d1 e0 e1 f0 f1 l1 l2 hb6; obtain ⟨c0, c1, d0, d1, e0, e1, f0, f1, l1, l2⟩ := t6.cells; clear t6))
 have h3 := aY HQ.out.2.1.t7
 have hrb := HRB.out
 refine bodyPost_ret (v := .tuple #[.slice na l.length nc, .agg #[.int .i64 0, .int .i64 0]]) (by simp [results, Tryz.results10, go_sem, d0, d1, hne1, hne2]) rfl ⟨_, rfl, (((T6.out.set 0 0).bel.setCell (p := ⟨w.heap.size, 0, none⟩) (Nat.le_refl _) _).setCell (p := ⟨w.heap.size, 1, none⟩) (Nat.le_refl _) _), fun h => absurd rfl h, fun _ => ⟨rb, by omega, (HN6.out.set2 (by omega) _ _).set2 (by omega) _ _⟩⟩
theorem uy (w : World) (hL : Laid w) (h7 : 7 <= w.heap.size) (a : Option Addr) (cap : Nat) (xs : List UInt8) (hs : jH w a cap xs) (nest : Int) :
  Calls Tryz.prog 10 #[.slice a xs.length cap, .int .i64 nest] w (CY w (fP xs nest)) := by
 unfold fP
 by_cases h0 : (aB xs).2.2 = 0
 ·rw [if_neg (fun h => h h0)]
  have hne := nJ xs h0
  match hR : pF (iL (aB xs).1.length + 1) .program (pts xs (aW (aB xs).1 xs.length) 0) with
  | .out => exact absurd hR hne
  | .err s' => exact CZ w hL h7 a cap xs hs nest h0 s' hR
  | .ok ts s' =>
   simp only
   by_cases hy : (kg (ag ts 0) nest (dK (ag ts 0)) 0).2 = 0
   ·rw [if_neg (fun h => h hy)]
    refine Ai w hL h7 a cap xs hs nest h0 ts s' hR ?_
    exact vQ _ _ _ _ hy
   ·rw [if_pos hy]
    exact Ah w hL h7 a cap xs hs nest h0 ts s' hR _ _ rfl hy
 ·rw [if_pos h0]
  exact Ag w hL a cap xs hs nest _ _ rfl h0
def shX : List UInt8 := [118, 97, 108, 32, 120, 32, 61, 32, 49, 32, 45, 32, 50, 32, 45, 32, 51, 59]
def shN : List Nd := [⟨11, 8, [], ⟨#[]⟩, 1⟩, ⟨11, 12, [], ⟨#[]⟩, 2⟩, ⟨22, 10, [0, 1], ⟨#[]⟩, 32⟩, ⟨11, 16, [], ⟨#[]⟩, 3⟩, ⟨22, 14, [2, 3], ⟨#[]⟩, 32⟩, ⟨31, 0, [4], ⟨#[120]⟩, 0⟩, ⟨46, 0, [5], ⟨#[]⟩, 0⟩]
theorem shR : fP shX 9 = (shN, 0, 0) := by kernel_rfl
end Go.Proofs.YtecodpdfckjalaaGreatDoor
