import Derived.Test.YtadmpgegolmkgaaDoorBWzL
import Derived.Test.YtadmpgegolmkgaaDoorBWmE
set_option linter.unusedVariables false
set_option linter.unusedSimpArgs false
set_option maxHeartbeats 4000000
set_option maxRecDepth 100000
namespace Go.Proofs.YtadmpgegolmkgaaDoor
open Go.RowKit
abbrev ty3 (t : CTy) (ka : Option Addr) (kc : Nat) : Array Value := #[.int .i64 t.kind, .slice ka t.kids.length kc, .bool t.res]
theorem LtU.ty {W : World} {B : Nat} {pa ta : Option Addr} {pc tc : Nat} {u : CUn} {G : List (Nat × Nat)} {C : List PG} (h : LtU W B pa ta pc tc u G C) {i : Nat} (hi : i < u.types.length) : ∃ g gk ck, ta = some ⟨g, 0, none⟩ /\ g < W.heap.size /\ u.types.length <= tc /\ tc <= maxLen /\ W.cell? ⟨g, i * 3, none⟩ = some (.int .i64 u.types[i].kind) /\ W.cell? ⟨g, i * 3 + 1, none⟩ = some (.slice (some ⟨gk, 0, none⟩) u.types[i].kids.length ck) /\ W.cell? ⟨g, i * 3 + 2, none⟩ = some (.bool u.types[i].res) /\ dz W B gk ck u.types[i].kids := by
 have hi2 : i < G.length := by have := h.tlen; omega
 rcases h.tall.2 with ⟨_, e⟩ | ⟨g, cap, cur, e, q1, q2, q3, q4, _⟩
 ·omega
 ·simp only [Value.slice.injEq] at e
  obtain ⟨e1, _, e2⟩ := e
  subst e1
  subst e2
  have k : ∀ j, j < 3 -> W.cell? ⟨g, i * 3 + j, none⟩ = (nK u.types[i] G[i])[j]? := fun j hj => by
   rw [h.tall.cellAt (i * 3 + j) (by omega)]
   exact nL _ _ i hi hi2 j hj
  exact ⟨g, _, _, rfl, ah q2, q3, q4, k 0 (by omega), k 1 (by omega), k 2 (by omega), h.tkid i hi hi2⟩
theorem LtU.pg {W : World} {B : Nat} {pa ta : Option Addr} {pc tc : Nat} {u : CUn} {G : List (Nat × Nat)} {C : List PG} (h : LtU W B pa ta pc tc u G C) {i : Nat} (hi : i < u.ae.length) : ∃ g gc cc GK, pa = some ⟨g, 0, none⟩ /\ g < W.heap.size /\ u.ae.length <= pc /\ pc <= maxLen /\ W.cell? ⟨g, i * 5, none⟩ = some (.int .i64 u.ae[i].params) /\ W.cell? ⟨g, i * 5 + 1, none⟩ = some (.int .i64 u.ae[i].slots) /\ W.cell? ⟨g, i * 5 + 2, none⟩ = some (.int .i64 u.ae[i].caps) /\ W.cell? ⟨g, i * 5 + 3, none⟩ = some (.bool u.ae[i].res) /\ W.cell? ⟨g, i * 5 + 4, none⟩ = some (.slice (some ⟨gc, 0, none⟩) u.ae[i].code.length cc) /\ cK W B gc cc u.ae[i].code GK := by
 have hi2 : i < C.length := by have := h.len; omega
 rcases h.all.2 with ⟨_, e⟩ | ⟨g, cap, cur, e, q1, q2, q3, q4, _⟩
 ·omega
 ·simp only [Value.slice.injEq] at e
  obtain ⟨e1, _, e2⟩ := e
  subst e1
  subst e2
  have k : ∀ j, j < 5 -> W.cell? ⟨g, i * 5 + j, none⟩ = (nM u.ae[i] C[i])[j]? := fun j hj => by
   rw [h.all.cellAt (i * 5 + j) (by omega)]
   exact lq _ _ i hi hi2 j hj
  exact ⟨g, _, _, _, rfl, ah q2, q3, q4, k 0 (by omega), k 1 (by omega), k 2 (by omega), k 3 (by omega), k 4 (by omega), h.cod i hi hi2⟩
theorem uZ (w : World) (u : CUn) (pa ta pa' ta' : Option Addr) (pc tc pc' tc' B : Nat) (G : List (Nat × Nat)) (C : List PG) (hL : LtU w B pa ta pc tc u G C) (hu : dL w w.heap.size pa' pc' ta' tc' u) (hcap : u.types.length <= 2147483647 /\ u.ae.length <= 2147483647) (hkl : ∀ t ∈ u.types, t.kids.length <= 17592186044416) (hcm : ∀ p ∈ u.ae, p.code.length <= 2147483647) :
  Calls Tryd.prog 14 #[unV u pa pc ta tc, unV u pa' pc' ta' tc'] w fun e w' => e = .returned (.bool true) /\ Bx (Below w.heap.size w w') := by
 obtain ⟨H, hH⟩ : ∃ H, w.heap.size = H := ⟨_, rfl⟩
 obtain ⟨w1, hw1⟩ : ∃ w1, w.alloc (.cells #[.slice pa u.ae.length pc, .slice ta u.types.length tc] 25) = w1 := ⟨_, rfl⟩
 obtain ⟨w2, hw2⟩ : ∃ w2, w1.alloc (.cells #[.slice pa' u.ae.length pc', .slice ta' u.types.length tc'] 25) = w2 := ⟨_, rfl⟩
 have b1 : Below w.heap.size w w1 := by rw [← hw1]; exact ak w _
 have b2 : Below w1.heap.size w1 w2 := by rw [← hw2]; exact ak w1 _
 have e1 : w1.heap.size = H + 1 := by rw [← hw1]; simp [hH]
 have e2 : w2.heap.size = H + 1 + 1 := by rw [← hw2]; simp [e1]
 have q1 : w2.heap[H]? = some (.cells #[.slice pa u.ae.length pc, .slice ta u.types.length tc] 25 (0, 0)) := (b2.block H (by omega)).trans (by rw [← hw1]; exact aj _ _ _ hH)
 have q2 : w2.heap[H + 1]? = some (.cells #[.slice pa' u.ae.length pc', .slice ta' u.types.length tc'] 25 (0, 0)) := by rw [← hw2]; exact aj _ _ _ e1
 have b12 : Below w.heap.size w w2 := b1.trans (b2.mono b1.size)
 have HU : Bx (∀ X, Below w2.heap.size w2 X -> (X.cell? ⟨H, 0, none⟩ = some (.slice pa u.ae.length pc) /\ X.cell? ⟨H, 1, none⟩ = some (.slice ta u.types.length tc) /\ H < X.heap.size) /\ (X.cell? ⟨H + 1, 0, none⟩ = some (.slice pa' u.ae.length pc') /\ X.cell? ⟨H + 1, 1, none⟩ = some (.slice ta' u.types.length tc') /\ H + 1 < X.heap.size)) := ⟨fun X hX => by
  have z1 := (hX.block H (ah q1)).trans q1
  have z2 := (hX.block (H + 1) (ah q2)).trans q2
  exact ⟨⟨aa z1 rfl, aa z1 rfl, ah z1⟩, ⟨aa z2 rfl, aa z2 rfl, ah z2⟩⟩⟩
 have HXW : Bx (∀ X, Below w2.heap.size w2 X -> Below w.heap.size w X) := ⟨fun X hX => b12.trans (hX.mono b12.size)⟩
 have HLT : Bx (∀ X, Below w2.heap.size w2 X -> LtU X B pa ta pc tc u G C) := ⟨fun X hX => hL.later fun y _ hy => (b12.trans (hX.mono b12.size)).block y hy⟩
 have HTY : Bx (∀ k (hk : k < u.types.length), _) := ⟨fun k hk => fq hu.types hk⟩
 have HKL : Bx _ := ⟨hkl⟩
 have HCM : Bx _ := ⟨hcm⟩
 have HPG : Bx (∀ k (hk : k < u.ae.length), _) := ⟨fun k hk => bR hu.ae hk⟩
 obtain ⟨⟨u0, u1, u2⟩, ⟨v0, v1, v2⟩⟩ := HU.out w2 (Below.refl _ _)
 have htc := hu.types.cap
 have hpc := hu.ae.cap
 obtain ⟨htl, hpl⟩ := hcap
 have HHH : Bx (w.heap.size = H /\ w2.heap.size = H + 1 + 1) := ⟨hH, e2⟩
 unfold unV
 clear hL hu hkl hcm b1 b2 q1 q2 b12 e2
 go_enter Tryd.func14, Tryd.ntmps14
 go_wp2
 go_loopg [36] (u.types.length + 1) (fun f v36 wr => ∃ k : Nat, f = u.types.length + 1 - k /\ k <= u.types.length /\ v36 = .int .i64 k /\ Bx (Below w2.heap.size w2 wr))
 case atStart => exact ⟨0, by simp, Nat.zero_le _, rfl, ⟨Below.refl _ _⟩⟩
 case round =>
  clear u0 u1 u2 v0 v1 v2
  obtain ⟨k, hf, hk, rfl, HB⟩ := hrel
  obtain ⟨⟨u0, u1, u2⟩, ⟨v0, v1, v2⟩⟩ := HU.out wr HB.out
  by_cases hlt : k < u.types.length
  ·obtain ⟨tb, to, ka, kc, rfl, htb, hks, HC⟩ := HTY.out k hlt
   obtain ⟨c0, c1, c2⟩ := HC.out wr (HXW.out wr HB.out)
   obtain ⟨g, gk, ck, rfl, hgl, hgc, hgm, d0, d1, d2, hKid⟩ := (HLT.out wr HB.out).ty hlt
   have hsw := (HXW.out wr HB.out).size
   have htbl : tb < wr.heap.size := by omega
   have hkI : (k : Int) < (u.types.length : Int) := by omega
   unfold maxLen at hgm
   have hkml := HKL.out _ (List.getElem_mem hlt)
   obtain ⟨E, hE⟩ : ∃ E, wr.heap.size = E := ⟨_, rfl⟩
   obtain ⟨w3, hw3⟩ : ∃ w3, wr.alloc (.cells (ty3 u.types[k] ka kc) 49) = w3 := ⟨_, rfl⟩
   have bb3 : Below wr.heap.size wr w3 := by rw [← hw3]; exact ak _ _
   have qq3 : w3.heap[E]? = some (.cells (ty3 u.types[k] ka kc) 49 (0, 0)) := by rw [← hw3]; exact aj _ _ _ hE
   have HPR : Bx (∀ X, Below w3.heap.size w3 X -> (X.cell? ⟨H, 1, none⟩ = some (.slice (some ⟨g, 0, none⟩) u.types.length tc) /\ H < X.heap.size) /\ (X.cell? ⟨g, k * 3, none⟩ = some (.int .i64 u.types[k].kind) /\ X.cell? ⟨g, k * 3 + 1, none⟩ = some (.slice (some ⟨gk, 0, none⟩) u.types[k].kids.length ck) /\ X.cell? ⟨g, k * 3 + 2, none⟩ = some (.bool u.types[k].res) /\ g < X.heap.size) /\ (X.cell? ⟨E, 1, none⟩ = some (.slice ka u.types[k].kids.length kc) /\ E < X.heap.size)) := ⟨fun X hX => by
    have hXr : Below wr.heap.size wr X := bb3.trans (hX.mono bb3.size)
    have z := (hX.block E (ah qq3)).trans qq3
    exact ⟨⟨(hXr.cell (p := ⟨H, 1, none⟩) u2).trans u1, Nat.lt_of_lt_of_le u2 hXr.size⟩, ⟨(hXr.cell (p := ⟨g, _, none⟩) hgl).trans d0, (hXr.cell (p := ⟨g, _, none⟩) hgl).trans d1, (hXr.cell (p := ⟨g, _, none⟩) hgl).trans d2, Nat.lt_of_lt_of_le hgl hXr.size⟩, ⟨aa z rfl, ah z⟩⟩⟩
   have HZ : Bx (∀ Y Q0, Below w3.heap.size w3 Y -> w3.heap.size <= Q0 -> Y.heap[Q0]? = some (.cells #[.int .i64 u.types[k].kind, .slice (some ⟨gk, 0, none⟩) u.types[k].kids.length ck, .bool u.types[k].res] 49 (0, 0)) -> ∀ X, Below Y.heap.size Y X -> Below w2.heap.size w2 X /\ (X.cell? ⟨E, 0, none⟩ = some (.int .i64 u.types[k].kind) /\ X.cell? ⟨E, 1, none⟩ = some (.slice ka u.types[k].kids.length kc) /\ X.cell? ⟨E, 2, none⟩ = some (.bool u.types[k].res) /\ E < X.heap.size) /\ (X.cell? ⟨Q0, 0, none⟩ = some (.int .i64 u.types[k].kind) /\ X.cell? ⟨Q0, 1, none⟩ = some (.slice (some ⟨gk, 0, none⟩) u.types[k].kids.length ck) /\ X.cell? ⟨Q0, 2, none⟩ = some (.bool u.types[k].res) /\ Q0 < X.heap.size) /\ X.cell? ⟨gk, u.types[k].kids.length, none⟩ = some (.int .i64 (-7)) /\ gk < X.heap.size) := ⟨fun Y Q0 hY hQ hq X hX => by
    have hX3 : Below w3.heap.size w3 X := hY.trans (hX.mono hY.size)
    have hXr : Below wr.heap.size wr X := bb3.trans (hX3.mono bb3.size)
    have z1 := (hX3.block E (ah qq3)).trans qq3
    have z2 := (hX.block Q0 (ah hq)).trans hq
    have hgk : gk < wr.heap.size := hKid.lt
    exact ⟨HB.out.trans (hXr.mono HB.out.size), ⟨aa z1 rfl, aa z1 rfl, aa z1 rfl, ah z1⟩, ⟨aa z2 rfl, aa z2 rfl, aa z2 rfl, ah z2⟩, (hXr.cell (p := ⟨gk, _, none⟩) hgk).trans hKid.mark, Nat.lt_of_lt_of_le hgk hXr.size⟩⟩
   have HNU : Bx (∀ X, Below wr.heap.size wr X -> Calls Tryd.prog 13 #[.slice (some ⟨gk, 0, none⟩) u.types[k].kids.length ck, .slice ka u.types[k].kids.length kc] X fun e w' => e = .returned (.bool true) /\ ∃ n, w' = X.drewN n) := ⟨fun X hXr => by
    have i1 := (hKid.later (hXr.block gk hKid.lt) (Nat.le_refl _)).ints
    have hXw := HXW.out X (HB.out.trans (hXr.mono HB.out.size))
    have i2 := hks.below hXw
    have := lF X X.heap.size (some ⟨gk, 0, none⟩) ka ck kc _ _ i1 (i2.up hXw.size)
    rw [decide_eq_true rfl] at this
    exact this⟩
   have HB3 : Bx (Below wr.heap.size wr w3) := ⟨bb3⟩
   have hE3 : E < w3.heap.size := ah qq3
   have f1 := aa (i := 1) qq3 rfl
   have hck := hKid.cap
   have hcm := hKid.max
   have hkcc := hks.cap
   unfold maxLen at hcm
   clear HC hKid hks bb3 qq3 HTY HLT HKL d0 d1 d2
   unfold ty3 at hw3
   generalize u.types[k].kids = KS at *
   generalize u.types[k].kind = KD at *
   generalize u.types[k].res = RS at *
   go_wp2_with fail
   refine eT (MkG w3 (fun zz => ([some (.pointer (some ⟨H, 1, none⟩)), some (.slice (some ⟨g, 0, none⟩) u.types.length tc), some (.int .i64 (k : Int)), some (.pointer (some ⟨g, k * 3, none⟩)), some (.agg #[.int .i64 KD, .slice (some ⟨gk, 0, none⟩) KS.length ck, .bool RS]), some (.pointer (some ⟨E, 1, none⟩)), some (.slice ka KS.length kc), some (.int .i64 (KS.length : Int)), none, none, some (.int .i64 (KS.length : Int))] : List (Option Value)).getD zz none) 8 9 49 #[.int .i64 KD, .slice (some ⟨gk, 0, none⟩) KS.length ck, .bool RS]) (by kernel_rfl) (by decide +kernel) ⟨⟨rfl, rfl, rfl, Nat.le_refl _, fun _ _ => rfl⟩, (fun _ _ h => by cases h), (fun _ h => by cases h), fun _ h => by cases h⟩ ?stp ?fin
   case stp =>
    intro u9 wz jj op bb hS hnu ho hdep hA
    obtain ⟨⟨a1, a2⟩, ⟨a3, a4, a5, a6⟩, ⟨a7, a8⟩⟩ := HPR.out wz hS.bel
    rcases jj with _ | _ | _ | _ | _ | _ | _ | _ | _ | _ | _ | jj
    ·simp only [List.getElem?_cons_succ, List.getElem?_cons_zero, Option.some.injEq] at ho
     subst ho
     have f2 := hA.was (t := 2) (by decide +kernel)
     simp only [Act.eval] at f2
     refine ⟨rfl, .inl ⟨.pointer (some ⟨H, 1, none⟩), wz, ?_, hS.pure (by decide) (by decide) rfl⟩⟩
     simp only [execOp, f2]
     go_simp
     try rfl
    ·simp only [List.getElem?_cons_succ, List.getElem?_cons_zero, Option.some.injEq] at ho
     subst ho
     have e0 := hA.at_ (j := 0) (t := 41) rfl rfl (hS.get (hdep ⟨0, Ground.data⟩ (by simp) rfl) (c := .pointer (some ⟨H, 1, none⟩)) rfl) (Nat.le_of_ble_eq_true rfl)
     have b0 : bb.tmps[41]?.getD undef = .pointer (some ⟨H, 1, none⟩) := by simpa [Act.eval, Array.getD_eq_getD_getElem?] using e0
     refine ⟨rfl, .inl ⟨.slice (some ⟨g, 0, none⟩) u.types.length tc, wz, ?_, hS.pure (by decide) (by decide) rfl⟩⟩
     simp only [execOp, e0]
     go_simp
     try rfl
    ·simp only [List.getElem?_cons_succ, List.getElem?_cons_zero, Option.some.injEq] at ho
     subst ho
     have f5 := hA.was (t := 5) (by decide +kernel)
     simp only [Act.eval] at f5
     refine ⟨rfl, .inl ⟨.int .i64 (k : Int), wz, ?_, hS.pure (by decide) (by decide) rfl⟩⟩
     simp only [execOp, f5]
     go_simp
     try rfl
    ·simp only [List.getElem?_cons_succ, List.getElem?_cons_zero, Option.some.injEq] at ho
     subst ho
     have e1 := hA.at_ (j := 1) (t := 42) rfl rfl (hS.get (hdep ⟨1, Ground.data⟩ (by simp) rfl) (c := .slice (some ⟨g, 0, none⟩) u.types.length tc) rfl) (Nat.le_of_ble_eq_true rfl)
     have b1 : bb.tmps[42]?.getD undef = .slice (some ⟨g, 0, none⟩) u.types.length tc := by simpa [Act.eval, Array.getD_eq_getD_getElem?] using e1
     have e2 := hA.at_ (j := 2) (t := 43) rfl rfl (hS.get (hdep ⟨2, Ground.data⟩ (by simp) rfl) (c := .int .i64 (k : Int)) rfl) (Nat.le_of_ble_eq_true rfl)
     have b2 : bb.tmps[43]?.getD undef = .int .i64 (k : Int) := by simpa [Act.eval, Array.getD_eq_getD_getElem?] using e2
     refine ⟨rfl, .inl ⟨.pointer (some ⟨g, k * 3, none⟩), wz, ?_, hS.pure (by decide) (by decide) rfl⟩⟩
     simp only [execOp, e1, e2]
     go_simp
     try rfl
    ·simp only [List.getElem?_cons_succ, List.getElem?_cons_zero, Option.some.injEq] at ho
     subst ho
     have e3 := hA.at_ (j := 3) (t := 44) rfl rfl (hS.get (hdep ⟨3, Ground.data⟩ (by simp) rfl) (c := .pointer (some ⟨g, k * 3, none⟩)) rfl) (Nat.le_of_ble_eq_true rfl)
     have b3 : bb.tmps[44]?.getD undef = .pointer (some ⟨g, k * 3, none⟩) := by simpa [Act.eval, Array.getD_eq_getD_getElem?] using e3
     refine ⟨rfl, .inl ⟨.agg #[.int .i64 KD, .slice (some ⟨gk, 0, none⟩) KS.length ck, .bool RS], wz, ?_, hS.pure (by decide) (by decide) rfl⟩⟩
     simp only [execOp, e3]
     go_simp
     try rfl
    ·simp only [List.getElem?_cons_succ, List.getElem?_cons_zero, Option.some.injEq] at ho
     subst ho
     have f6 := hA.was (t := 6) (by decide +kernel)
     simp only [Act.eval] at f6
     refine ⟨rfl, .inl ⟨.pointer (some ⟨E, 1, none⟩), wz, ?_, hS.pure (by decide) (by decide) rfl⟩⟩
     simp only [execOp, f6]
     go_simp
     try rfl
    ·simp only [List.getElem?_cons_succ, List.getElem?_cons_zero, Option.some.injEq] at ho
     subst ho
     have e5 := hA.at_ (j := 5) (t := 46) rfl rfl (hS.get (hdep ⟨5, Ground.data⟩ (by simp) rfl) (c := .pointer (some ⟨E, 1, none⟩)) rfl) (Nat.le_of_ble_eq_true rfl)
     have b5 : bb.tmps[46]?.getD undef = .pointer (some ⟨E, 1, none⟩) := by simpa [Act.eval, Array.getD_eq_getD_getElem?] using e5
     refine ⟨rfl, .inl ⟨.slice ka KS.length kc, wz, ?_, hS.pure (by decide) (by decide) rfl⟩⟩
     simp only [execOp, e5]
     go_simp
     try rfl
    ·simp only [List.getElem?_cons_succ, List.getElem?_cons_zero, Option.some.injEq] at ho
     subst ho
     have e6 := hA.at_ (j := 6) (t := 47) rfl rfl (hS.get (hdep ⟨6, Ground.data⟩ (by simp) rfl) (c := .slice ka KS.length kc) rfl) (Nat.le_of_ble_eq_true rfl)
     have b6 : bb.tmps[47]?.getD undef = .slice ka KS.length kc := by simpa [Act.eval, Array.getD_eq_getD_getElem?] using e6
     refine ⟨rfl, .inl ⟨.int .i64 (KS.length : Int), wz, ?_, hS.pure (by decide) (by decide) rfl⟩⟩
     simp only [execOp, e6]
     go_simp
     try rfl
    ·simp only [List.getElem?_cons_succ, List.getElem?_cons_zero, Option.some.injEq] at ho
     subst ho
     refine ⟨rfl, .inl ⟨.pointer (some ⟨wz.heap.size, 0, none⟩), wz.alloc (.cells #[.int .i64 0, .slice none 0 0, .bool false] 49), ?_, hS.alloc hnu (by decide) rfl rfl⟩⟩
     simp only [execOp]
     go_simp
     try rfl
    ·simp only [List.getElem?_cons_succ, List.getElem?_cons_zero, Option.some.injEq] at ho
     subst ho
     obtain ⟨v10, h10⟩ := hdep ⟨8, Ground.data⟩ (by simp) rfl
     obtain ⟨q, cs, e1, e2, e3, e4, _⟩ := hS.al v10 h10
     subst e1
     have h9 := hS.get (hdep ⟨4, Ground.data⟩ (by simp) rfl) (c := .agg #[.int .i64 KD, .slice (some ⟨gk, 0, none⟩) KS.length ck, .bool RS]) rfl
     have e10 := hA.at_ (j := 8) (t := 7) rfl rfl h10 (Nat.le_of_ble_eq_true rfl)
     have e9 := hA.at_ (j := 4) (t := 45) rfl rfl h9 (Nat.le_of_ble_eq_true rfl)
     have ht : wz.there q 0 3 := fun j hj => ⟨by rw [aa (i := 0 + j) e3 (Array.getElem?_eq_getElem (by rw [e4]; simp; omega))]; rfl, aL e3⟩
     refine ⟨rfl, .inr (.inl ⟨_, ?_, hS.store (by decide) rfl h10 undef⟩)⟩
     have hr := run_storeAt_mid (P := Tryd.prog) wz q 0 49 #[.int .i64 KD, .slice (some ⟨gk, 0, none⟩) KS.length ck, .bool RS] ht (by kernel_rfl) (by simp [Value.oneCell'])
     simp only [execOp, e10, e9, Sem.run_bind, hr, Result.andThen_ok, Sem.run_pure]
     try rfl
    ·simp only [List.getElem?_cons_succ, List.getElem?_cons_zero, Option.some.injEq] at ho
     subst ho
     have e7 := hA.at_ (j := 7) (t := 48) rfl rfl (hS.get (hdep ⟨7, Ground.data⟩ (by simp) rfl) (c := .int .i64 (KS.length : Int)) rfl) (Nat.le_of_ble_eq_true rfl)
     refine ⟨rfl, .inl ⟨.int .i64 (KS.length : Int), wz, ?_, hS.pure (by decide) (by decide) rfl⟩⟩
     simp only [execOp, e7]
     go_simp
     try rfl
    ·simp at ho
   case fin =>
    intro u9 vs wY hvl hvs hS
    match vs, hvl with
    | [y0, y1, y2, y3, y4, y5, y6, y7, y8, y9, y10], _ =>
     have f0 : y0 = .pointer (some ⟨H, 1, none⟩) := hS.pur 0 y0 (hvs 0 (Nat.le_of_ble_eq_true rfl)) _ rfl
     have f1 : y1 = .slice (some ⟨g, 0, none⟩) u.types.length tc := hS.pur 1 y1 (hvs 1 (Nat.le_of_ble_eq_true rfl)) _ rfl
     have f2 : y2 = .int .i64 (k : Int) := hS.pur 2 y2 (hvs 2 (Nat.le_of_ble_eq_true rfl)) _ rfl
     have f3 : y3 = .pointer (some ⟨g, k * 3, none⟩) := hS.pur 3 y3 (hvs 3 (Nat.le_of_ble_eq_true rfl)) _ rfl
     have f4 : y4 = .agg #[.int .i64 KD, .slice (some ⟨gk, 0, none⟩) KS.length ck, .bool RS] := hS.pur 4 y4 (hvs 4 (Nat.le_of_ble_eq_true rfl)) _ rfl
     have f5 : y5 = .pointer (some ⟨E, 1, none⟩) := hS.pur 5 y5 (hvs 5 (Nat.le_of_ble_eq_true rfl)) _ rfl
     have f6 : y6 = .slice ka KS.length kc := hS.pur 6 y6 (hvs 6 (Nat.le_of_ble_eq_true rfl)) _ rfl
     have f7 : y7 = .int .i64 (KS.length : Int) := hS.pur 7 y7 (hvs 7 (Nat.le_of_ble_eq_true rfl)) _ rfl
     have f10 : y10 = .int .i64 (KS.length : Int) := hS.pur 10 y10 (hvs 10 (Nat.le_of_ble_eq_true rfl)) _ rfl
     subst f0
     subst f1
     subst f2
     subst f3
     subst f4
     subst f5
     subst f6
     subst f7
     subst f10
     obtain ⟨Q0, cs, e10, hq, hqb, _, hqc⟩ := hS.al y8 (hvs 8 (Nat.le_of_ble_eq_true rfl))
     have hcs := hqc y9 (hvs 9 (Nat.le_of_ble_eq_true rfl))
     subst e10
     subst hcs
     have hbel := hS.bel
     refine ⟨_, dG 41 8 (by decide +kernel) (by rfl) (by exact Nat.le_of_ble_eq_true rfl) (by exact Nat.le_of_ble_eq_true rfl) (by simp only [List.drop_succ_cons, List.drop_zero, List.drop_nil, List.take_succ_cons, List.take_zero, List.cons_append, List.nil_append, aH, Act.put, List.setIfInBounds_toArray, List.set_cons_zero, List.set_cons_succ]; rfl), ?_⟩
     clear hS hvs
     have HY : Bx (∀ X, Below wY.heap.size wY X -> _) := ⟨fun X hX => HZ.out wY Q0 hbel hq hqb X hX⟩
     have HYR : Bx (Below wr.heap.size wr wY) := ⟨HB3.out.trans (hbel.mono HB3.out.size)⟩
     have HNY : Bx _ := ⟨HNU.out wY HYR.out⟩
     obtain ⟨_, ⟨s0, s1, s2, s3⟩, ⟨r0, r1, r2, r3⟩, r9, r10⟩ := HY.out wY (Below.refl _ _)
     have hb1 : (KD != KD) = false := by simp
     have hb2 : (RS != RS) = false := by simp
     clear HZ HPR HNU hbel hq hqb u0 u1 u2 v0 v1 v2 c0 c1 c2 hw3 f1 hE3 hE
     go_wp2_with (first
      | (go_at_call 13; refine HNY.out.mono ?_; rintro e X2 ⟨rfl, nn, rfl⟩; clear HNY)
      | fail)
     go_roundg (u.types.length + 1 - (k + 1))
     case measure => omega
     case rel => exact ⟨k + 1, rfl, by omega, by go_num, ⟨(HY.out (wY.drewN nn) ⟨rfl, rfl, rfl, Nat.le_refl _, fun _ _ => rfl⟩).1⟩⟩
  ·obtain rfl : k = u.types.length := by omega
   have HBT : Bx (Below w2.heap.size w2 wr) := HB
   clear HB HTY HKL
   go_wp2
   go_loopg [84] (u.ae.length + 1) (fun f v84 wr => ∃ k : Nat, f = u.ae.length + 1 - k /\ k <= u.ae.length /\ v84 = .int .i64 k /\ Bx (Below w2.heap.size w2 wr))
   case atStart => exact ⟨0, by simp, Nat.zero_le _, rfl, HBT⟩
   case round =>
    clear HBT u0 u1 u2 v0 v1 v2
    obtain ⟨k, hf, hk, rfl, HB⟩ := hrel
    obtain ⟨⟨u0, u1, u2⟩, ⟨v0, v1, v2⟩⟩ := HU.out wr HB.out
    by_cases hlt : k < u.ae.length
    ·obtain ⟨tb, to, ca, cc, rfl, htb, hcode, HC⟩ := HPG.out k hlt
     obtain ⟨c0, c1, c2, c3, c4⟩ := HC.out wr (HXW.out wr HB.out)
     obtain ⟨g, gc, gcc, GK, rfl, hgl, hgc, hgm, d0, d1, d2, d3, d4, hCd⟩ := (HLT.out wr HB.out).pg hlt
     have hsw := (HXW.out wr HB.out).size
     have htbl : tb < wr.heap.size := by omega
     have hkI : (k : Int) < (u.ae.length : Int) := by omega
     unfold maxLen at hgm
     have hclm := HCM.out _ (List.getElem_mem hlt)
     obtain ⟨E, hE⟩ : ∃ E, wr.heap.size = E := ⟨_, rfl⟩
     obtain ⟨w3, hw3⟩ : ∃ w3, wr.alloc (.cells (pgC u.ae[k] ca cc) 40) = w3 := ⟨_, rfl⟩
     have bb3 : Below wr.heap.size wr w3 := by rw [← hw3]; exact ak _ _
     have qq3 : w3.heap[E]? = some (.cells (pgC u.ae[k] ca cc) 40 (0, 0)) := by rw [← hw3]; exact aj _ _ _ hE
     have HPR : Bx (∀ X, Below w3.heap.size w3 X -> (X.cell? ⟨H, 0, none⟩ = some (.slice (some ⟨g, 0, none⟩) u.ae.length pc) /\ H < X.heap.size) /\ (X.cell? ⟨g, k * 5, none⟩ = some (.int .i64 u.ae[k].params) /\ X.cell? ⟨g, k * 5 + 1, none⟩ = some (.int .i64 u.ae[k].slots) /\ X.cell? ⟨g, k * 5 + 2, none⟩ = some (.int .i64 u.ae[k].caps) /\ X.cell? ⟨g, k * 5 + 3, none⟩ = some (.bool u.ae[k].res) /\ X.cell? ⟨g, k * 5 + 4, none⟩ = some (.slice (some ⟨gc, 0, none⟩) u.ae[k].code.length gcc) /\ g < X.heap.size) /\ (X.cell? ⟨E, 4, none⟩ = some (.slice ca u.ae[k].code.length cc) /\ E < X.heap.size)) := ⟨fun X hX => by
      have hXr : Below wr.heap.size wr X := bb3.trans (hX.mono bb3.size)
      have z := (hX.block E (ah qq3)).trans qq3
      exact ⟨⟨(hXr.cell (p := ⟨H, 0, none⟩) u2).trans u0, Nat.lt_of_lt_of_le u2 hXr.size⟩, ⟨(hXr.cell (p := ⟨g, _, none⟩) hgl).trans d0, (hXr.cell (p := ⟨g, _, none⟩) hgl).trans d1, (hXr.cell (p := ⟨g, _, none⟩) hgl).trans d2, (hXr.cell (p := ⟨g, _, none⟩) hgl).trans d3, (hXr.cell (p := ⟨g, _, none⟩) hgl).trans d4, Nat.lt_of_lt_of_le hgl hXr.size⟩, ⟨aa z rfl, ah z⟩⟩⟩
     have HZ : Bx (∀ Y Q0, Below w3.heap.size w3 Y -> w3.heap.size <= Q0 -> Y.heap[Q0]? = some (.cells (pgC u.ae[k] (some ⟨gc, 0, none⟩) gcc) 40 (0, 0)) -> ∀ X, Below Y.heap.size Y X -> (Below w2.heap.size w2 X /\ cK X B gc gcc u.ae[k].code GK /\ Row (cu X w.heap.size) w.heap.size 4 ca cc u.ae[k].code) /\ (X.cell? ⟨E, 0, none⟩ = some (.int .i64 u.ae[k].params) /\ X.cell? ⟨E, 1, none⟩ = some (.int .i64 u.ae[k].slots) /\ X.cell? ⟨E, 2, none⟩ = some (.int .i64 u.ae[k].caps) /\ X.cell? ⟨E, 3, none⟩ = some (.bool u.ae[k].res) /\ X.cell? ⟨E, 4, none⟩ = some (.slice ca u.ae[k].code.length cc) /\ E < X.heap.size) /\ (X.cell? ⟨Q0, 0, none⟩ = some (.int .i64 u.ae[k].params) /\ X.cell? ⟨Q0, 1, none⟩ = some (.int .i64 u.ae[k].slots) /\ X.cell? ⟨Q0, 2, none⟩ = some (.int .i64 u.ae[k].caps) /\ X.cell? ⟨Q0, 3, none⟩ = some (.bool u.ae[k].res) /\ X.cell? ⟨Q0, 4, none⟩ = some (.slice (some ⟨gc, 0, none⟩) u.ae[k].code.length gcc) /\ Q0 < X.heap.size) /\ X.cell? ⟨gc, u.ae[k].code.length * 4, none⟩ = some (.int .i64 (-7)) /\ gc < X.heap.size) := ⟨fun Y Q0 hY hQ hq X hX => by
      have hX3 : Below w3.heap.size w3 X := hY.trans (hX.mono hY.size)
      have hXr : Below wr.heap.size wr X := bb3.trans (hX3.mono bb3.size)
      have z1 := (hX3.block E (ah qq3)).trans qq3
      have z2 := (hX.block Q0 (ah hq)).trans hq
      have hcd : cK X B gc gcc u.ae[k].code GK := hCd.later (fun y cs t _ _ hy => hXr.block y (ah hy)) (Nat.le_refl _)
      have hX2 : Below w2.heap.size w2 X := HB.out.trans (hXr.mono HB.out.size)
      exact ⟨⟨hX2, hcd, hcode.mono fun b o x hb he => he.below (HXW.out X hX2) (Nat.le_refl _) hb⟩, ⟨aa z1 rfl, aa z1 rfl, aa z1 rfl, aa z1 rfl, aa z1 rfl, ah z1⟩, ⟨aa z2 rfl, aa z2 rfl, aa z2 rfl, aa z2 rfl, aa z2 rfl, ah z2⟩, hcd.mark, hcd.lt⟩⟩
     have hE3 : E < w3.heap.size := ah qq3
     have f4 : w3.cell? ⟨E, 4, none⟩ = some (.slice ca u.ae[k].code.length cc) := aa qq3 rfl
     have hck := hCd.cap
     have hcm := hCd.max
     have hccc := hcode.cap
     unfold maxLen at hcm
     clear HC hCd hcode bb3 qq3 HLT d0 d1 d2 d3 d4
     unfold pgC at hw3 HZ
     have HCL : Bx (u.ae[k].code.length = u.ae[k].code.length) := ⟨rfl⟩
     obtain ⟨CD, hCD⟩ : ∃ CD, u.ae[k].code = CD := ⟨_, rfl⟩
     rw [hCD] at HZ HPR hw3 hck hccc hclm f4 c4
     obtain ⟨CL, hCL⟩ : ∃ CL, CD.length = CL := ⟨_, rfl⟩
     have HCLE : Bx (CD.length = CL) := ⟨hCL⟩
     rw [hCL] at HZ HPR hw3 hck hccc hclm f4 c4
     clear hCD hCL HCL
     generalize u.ae[k].params = P1 at *
     generalize u.ae[k].slots = P2 at *
     generalize u.ae[k].caps = P3 at *
     generalize u.ae[k].res = P4 at *
     go_wp2_with fail
     refine eT (MkG w3 (fun zz => ([some (.pointer (some ⟨H, 0, none⟩)), some (.slice (some ⟨g, 0, none⟩) u.ae.length pc), some (.int .i64 (k : Int)), some (.pointer (some ⟨g, k * 5, none⟩)), some (.agg #[.int .i64 P1, .int .i64 P2, .int .i64 P3, .bool P4, .slice (some ⟨gc, 0, none⟩) CL gcc]), some (.pointer (some ⟨E, 4, none⟩)), some (.slice ca CL cc), some (.int .i64 (CL : Int)), none, none, some (.int .i64 (CL : Int))] : List (Option Value)).getD zz none) 8 9 40 #[.int .i64 P1, .int .i64 P2, .int .i64 P3, .bool P4, .slice (some ⟨gc, 0, none⟩) CL gcc]) (by kernel_rfl) (by decide +kernel) ⟨⟨rfl, rfl, rfl, Nat.le_refl _, fun _ _ => rfl⟩, (fun _ _ h => by cases h), (fun _ h => by cases h), fun _ h => by cases h⟩ ?stp ?fin
     case stp =>
      intro u9 wz jj op bb hS hnu ho hdep hA
      obtain ⟨⟨a1, a2⟩, ⟨a3, a4, a5, a6, a7, a8⟩, ⟨a9, a10⟩⟩ := HPR.out wz hS.bel
      rcases jj with _ | _ | _ | _ | _ | _ | _ | _ | _ | _ | _ | jj
      ·simp only [List.getElem?_cons_succ, List.getElem?_cons_zero, Option.some.injEq] at ho
       subst ho
       have f2 := hA.was (t := 2) (by decide +kernel)
       simp only [Act.eval] at f2
       refine ⟨rfl, .inl ⟨.pointer (some ⟨H, 0, none⟩), wz, ?_, hS.pure (by decide) (by decide) rfl⟩⟩
       simp only [execOp, f2]
       go_simp
       try rfl
      ·simp only [List.getElem?_cons_succ, List.getElem?_cons_zero, Option.some.injEq] at ho
       subst ho
       have e0 := hA.at_ (j := 0) (t := 89) rfl rfl (hS.get (hdep ⟨0, Ground.data⟩ (by simp) rfl) (c := .pointer (some ⟨H, 0, none⟩)) rfl) (Nat.le_of_ble_eq_true rfl)
       have b0 : bb.tmps[89]?.getD undef = .pointer (some ⟨H, 0, none⟩) := by simpa [Act.eval, Array.getD_eq_getD_getElem?] using e0
       refine ⟨rfl, .inl ⟨.slice (some ⟨g, 0, none⟩) u.ae.length pc, wz, ?_, hS.pure (by decide) (by decide) rfl⟩⟩
       simp only [execOp, e0]
       go_simp
       try rfl
      ·simp only [List.getElem?_cons_succ, List.getElem?_cons_zero, Option.some.injEq] at ho
       subst ho
       have f9 := hA.was (t := 9) (by decide +kernel)
       simp only [Act.eval] at f9
       refine ⟨rfl, .inl ⟨.int .i64 (k : Int), wz, ?_, hS.pure (by decide) (by decide) rfl⟩⟩
       simp only [execOp, f9]
       go_simp
       try rfl
      ·simp only [List.getElem?_cons_succ, List.getElem?_cons_zero, Option.some.injEq] at ho
       subst ho
       have e1 := hA.at_ (j := 1) (t := 90) rfl rfl (hS.get (hdep ⟨1, Ground.data⟩ (by simp) rfl) (c := .slice (some ⟨g, 0, none⟩) u.ae.length pc) rfl) (Nat.le_of_ble_eq_true rfl)
       have b1 : bb.tmps[90]?.getD undef = .slice (some ⟨g, 0, none⟩) u.ae.length pc := by simpa [Act.eval, Array.getD_eq_getD_getElem?] using e1
       have e2 := hA.at_ (j := 2) (t := 91) rfl rfl (hS.get (hdep ⟨2, Ground.data⟩ (by simp) rfl) (c := .int .i64 (k : Int)) rfl) (Nat.le_of_ble_eq_true rfl)
       have b2 : bb.tmps[91]?.getD undef = .int .i64 (k : Int) := by simpa [Act.eval, Array.getD_eq_getD_getElem?] using e2
       refine ⟨rfl, .inl ⟨.pointer (some ⟨g, k * 5, none⟩), wz, ?_, hS.pure (by decide) (by decide) rfl⟩⟩
       simp only [execOp, e1, e2]
       go_simp
       try rfl
      ·simp only [List.getElem?_cons_succ, List.getElem?_cons_zero, Option.some.injEq] at ho
       subst ho
       have e3 := hA.at_ (j := 3) (t := 92) rfl rfl (hS.get (hdep ⟨3, Ground.data⟩ (by simp) rfl) (c := .pointer (some ⟨g, k * 5, none⟩)) rfl) (Nat.le_of_ble_eq_true rfl)
       have b3 : bb.tmps[92]?.getD undef = .pointer (some ⟨g, k * 5, none⟩) := by simpa [Act.eval, Array.getD_eq_getD_getElem?] using e3
       refine ⟨rfl, .inl ⟨.agg #[.int .i64 P1, .int .i64 P2, .int .i64 P3, .bool P4, .slice (some ⟨gc, 0, none⟩) CL gcc], wz, ?_, hS.pure (by decide) (by decide) rfl⟩⟩
       simp only [execOp, e3]
       go_simp
       try rfl
      ·simp only [List.getElem?_cons_succ, List.getElem?_cons_zero, Option.some.injEq] at ho
       subst ho
       have f10 := hA.was (t := 10) (by decide +kernel)
       simp only [Act.eval] at f10
       refine ⟨rfl, .inl ⟨.pointer (some ⟨E, 4, none⟩), wz, ?_, hS.pure (by decide) (by decide) rfl⟩⟩
       simp only [execOp, f10]
       go_simp
       try rfl
      ·simp only [List.getElem?_cons_succ, List.getElem?_cons_zero, Option.some.injEq] at ho
       subst ho
       have e5 := hA.at_ (j := 5) (t := 94) rfl rfl (hS.get (hdep ⟨5, Ground.data⟩ (by simp) rfl) (c := .pointer (some ⟨E, 4, none⟩)) rfl) (Nat.le_of_ble_eq_true rfl)
       have b5 : bb.tmps[94]?.getD undef = .pointer (some ⟨E, 4, none⟩) := by simpa [Act.eval, Array.getD_eq_getD_getElem?] using e5
       refine ⟨rfl, .inl ⟨.slice ca CL cc, wz, ?_, hS.pure (by decide) (by decide) rfl⟩⟩
       simp only [execOp, e5]
       go_simp
       try rfl
      ·simp only [List.getElem?_cons_succ, List.getElem?_cons_zero, Option.some.injEq] at ho
       subst ho
       have e6 := hA.at_ (j := 6) (t := 95) rfl rfl (hS.get (hdep ⟨6, Ground.data⟩ (by simp) rfl) (c := .slice ca CL cc) rfl) (Nat.le_of_ble_eq_true rfl)
       have b6 : bb.tmps[95]?.getD undef = .slice ca CL cc := by simpa [Act.eval, Array.getD_eq_getD_getElem?] using e6
       refine ⟨rfl, .inl ⟨.int .i64 (CL : Int), wz, ?_, hS.pure (by decide) (by decide) rfl⟩⟩
       simp only [execOp, e6]
       go_simp
       try rfl
      ·simp only [List.getElem?_cons_succ, List.getElem?_cons_zero, Option.some.injEq] at ho
       subst ho
       refine ⟨rfl, .inl ⟨.pointer (some ⟨wz.heap.size, 0, none⟩), wz.alloc (.cells #[.int .i64 0, .int .i64 0, .int .i64 0, .bool false, .slice none 0 0] 40), ?_, hS.alloc hnu (by decide) rfl rfl⟩⟩
       simp only [execOp]
       go_simp
       try rfl
      ·simp only [List.getElem?_cons_succ, List.getElem?_cons_zero, Option.some.injEq] at ho
       subst ho
       obtain ⟨v10, h10⟩ := hdep ⟨8, Ground.data⟩ (by simp) rfl
       obtain ⟨q, cs, e1, e2, e3, e4, _⟩ := hS.al v10 h10
       subst e1
       have h9 := hS.get (hdep ⟨4, Ground.data⟩ (by simp) rfl) (c := .agg #[.int .i64 P1, .int .i64 P2, .int .i64 P3, .bool P4, .slice (some ⟨gc, 0, none⟩) CL gcc]) rfl
       have e10 := hA.at_ (j := 8) (t := 11) rfl rfl h10 (Nat.le_of_ble_eq_true rfl)
       have e9 := hA.at_ (j := 4) (t := 93) rfl rfl h9 (Nat.le_of_ble_eq_true rfl)
       have ht : wz.there q 0 5 := fun j hj => ⟨by rw [aa (i := 0 + j) e3 (Array.getElem?_eq_getElem (by rw [e4]; simp; omega))]; rfl, aL e3⟩
       refine ⟨rfl, .inr (.inl ⟨_, ?_, hS.store (by decide) rfl h10 undef⟩)⟩
       have hr := run_storeAt_mid (P := Tryd.prog) wz q 0 40 #[.int .i64 P1, .int .i64 P2, .int .i64 P3, .bool P4, .slice (some ⟨gc, 0, none⟩) CL gcc] ht (by kernel_rfl) (by simp [Value.oneCell'])
       simp only [execOp, e10, e9, Sem.run_bind, hr, Result.andThen_ok, Sem.run_pure]
       try rfl
      ·simp only [List.getElem?_cons_succ, List.getElem?_cons_zero, Option.some.injEq] at ho
       subst ho
       have e7 := hA.at_ (j := 7) (t := 96) rfl rfl (hS.get (hdep ⟨7, Ground.data⟩ (by simp) rfl) (c := .int .i64 (CL : Int)) rfl) (Nat.le_of_ble_eq_true rfl)
       refine ⟨rfl, .inl ⟨.int .i64 (CL : Int), wz, ?_, hS.pure (by decide) (by decide) rfl⟩⟩
       simp only [execOp, e7]
       go_simp
       try rfl
      ·simp at ho
     case fin =>
      intro u9 vs wY hvl hvs hS
      match vs, hvl with
      | [y0, y1, y2, y3, y4, y5, y6, y7, y8, y9, y10], _ =>
       have f0 : y0 = .pointer (some ⟨H, 0, none⟩) := hS.pur 0 y0 (hvs 0 (Nat.le_of_ble_eq_true rfl)) _ rfl
       have f1 : y1 = .slice (some ⟨g, 0, none⟩) u.ae.length pc := hS.pur 1 y1 (hvs 1 (Nat.le_of_ble_eq_true rfl)) _ rfl
       have f2 : y2 = .int .i64 (k : Int) := hS.pur 2 y2 (hvs 2 (Nat.le_of_ble_eq_true rfl)) _ rfl
       have f3 : y3 = .pointer (some ⟨g, k * 5, none⟩) := hS.pur 3 y3 (hvs 3 (Nat.le_of_ble_eq_true rfl)) _ rfl
       have f4 : y4 = .agg #[.int .i64 P1, .int .i64 P2, .int .i64 P3, .bool P4, .slice (some ⟨gc, 0, none⟩) CL gcc] := hS.pur 4 y4 (hvs 4 (Nat.le_of_ble_eq_true rfl)) _ rfl
       have f5 : y5 = .pointer (some ⟨E, 4, none⟩) := hS.pur 5 y5 (hvs 5 (Nat.le_of_ble_eq_true rfl)) _ rfl
       have f6 : y6 = .slice ca CL cc := hS.pur 6 y6 (hvs 6 (Nat.le_of_ble_eq_true rfl)) _ rfl
       have f7 : y7 = .int .i64 (CL : Int) := hS.pur 7 y7 (hvs 7 (Nat.le_of_ble_eq_true rfl)) _ rfl
       have f10 : y10 = .int .i64 (CL : Int) := hS.pur 10 y10 (hvs 10 (Nat.le_of_ble_eq_true rfl)) _ rfl
       subst f0
       subst f1
       subst f2
       subst f3
       subst f4
       subst f5
       subst f6
       subst f7
       subst f10
       obtain ⟨Q0, cs, e10, hq, hqb, _, hqc⟩ := hS.al y8 (hvs 8 (Nat.le_of_ble_eq_true rfl))
       have hcs := hqc y9 (hvs 9 (Nat.le_of_ble_eq_true rfl))
       subst e10
       subst hcs
       have hbel := hS.bel
       refine ⟨_, dG 89 8 (by decide +kernel) (by rfl) (by exact Nat.le_of_ble_eq_true rfl) (by exact Nat.le_of_ble_eq_true rfl) (by simp only [List.drop_succ_cons, List.drop_zero, List.drop_nil, List.take_succ_cons, List.take_zero, List.cons_append, List.nil_append, aH, Act.put, List.setIfInBounds_toArray, List.set_cons_zero, List.set_cons_succ]; rfl), ?_⟩
       clear hS hvs
       have HY : Bx (∀ X, Below wY.heap.size wY X -> _) := ⟨fun X hX => HZ.out wY Q0 hbel hq hqb X hX⟩
       obtain ⟨_, ⟨s0, s1, s2, s3, s4, s5⟩, ⟨r0, r1, r2, r3, r4, r5⟩, r9, r10⟩ := HY.out wY (Below.refl _ _)
       have hb1 : (P1 != P1) = false := by simp
       have hb2 : (P2 != P2) = false := by simp
       have hb3 : (P3 != P3) = false := by simp
       have hb4 : (P4 != P4) = false := by simp
       clear HZ HPR hbel hq hqb u0 u1 u2 v0 v1 v2 c0 c1 c2 c3 c4 hw3 f4 hE3 hE
       go_wp2
       go_loopg [145] (CL + 1) (fun f v145 wr => ∃ i : Nat, f = CL + 1 - i /\ i <= CL /\ v145 = .int .i64 i /\ Bx (Below wY.heap.size wY wr))
       case atStart => exact ⟨0, by simp, Nat.zero_le _, rfl, ⟨Below.refl _ _⟩⟩
       case round =>
        clear s0 s1 s2 s3 s4 s5 r0 r1 r2 r3 r4 r5 r9 r10
        obtain ⟨i, hf2, hi, rfl, HBI⟩ := hrel
        obtain ⟨⟨hx2, hcd, hrow⟩, ⟨s0, s1, s2, s3, s4, s5⟩, ⟨r0, r1, r2, r3, r4, r5⟩, r9, r10⟩ := HY.out wr HBI.out
        by_cases hil : i < CL
        ·have hil2 : i < CD.length := by rw [HCLE.out]; exact hil
         have hil3 : i < GK.length := by have := hcd.len; omega
         obtain ⟨cb, co, ka, kc, rfl, hcb, hks, HC⟩ := bF hrow hil2
         obtain ⟨n0, n1, n2, n3⟩ := HC.out wr (Below.refl _ _)
         have hcbl : cb < wr.heap.size := by have := (HXW.out wr hx2).size; omega
         have hiI : (i : Int) < (CL : Int) := by omega
         have hat := hcd.at_ i hil2 hil3
         have m0 := hat 0 (by omega)
         have m1 := hat 1 (by omega)
         have m2 := hat 2 (by omega)
         have m3 := hat 3 (by omega)
         have hKid := hcd.kid i hil2 hil3
         obtain ⟨gl, hgl2⟩ : ∃ gl, GK[i].1 = gl := ⟨_, rfl⟩
         obtain ⟨cl, hcl2⟩ : ∃ cl, GK[i].2 = cl := ⟨_, rfl⟩
         unfold pJ at m0 m1 m2 m3
         simp only [List.getElem?_cons_zero, List.getElem?_cons_succ] at m0 m1 m2 m3
         rw [hgl2, hcl2] at m3 hKid
         obtain ⟨E2, hE2⟩ : ∃ E2, wr.heap.size = E2 := ⟨_, rfl⟩
         obtain ⟨w5, hw5⟩ : ∃ w5, wr.alloc (.cells #[.int .i64 CD[i].op, .int .i64 CD[i].a, .int .i64 CD[i].b, .slice ka CD[i].list.length kc] 43) = w5 := ⟨_, rfl⟩
         have bb5 : Below wr.heap.size wr w5 := by rw [← hw5]; exact ak _ _
         have qq5 : w5.heap[E2]? = some (.cells #[.int .i64 CD[i].op, .int .i64 CD[i].a, .int .i64 CD[i].b, .slice ka CD[i].list.length kc] 43 (0, 0)) := by rw [← hw5]; exact aj _ _ _ hE2
         have HPS : Bx (∀ X, Below w5.heap.size w5 X -> (X.cell? ⟨Q0, 4, none⟩ = some (.slice (some ⟨gc, 0, none⟩) CL gcc) /\ Q0 < X.heap.size) /\ (X.cell? ⟨gc, i * 4, none⟩ = some (.int .i64 CD[i].op) /\ X.cell? ⟨gc, i * 4 + 1, none⟩ = some (.int .i64 CD[i].a) /\ X.cell? ⟨gc, i * 4 + 2, none⟩ = some (.int .i64 CD[i].b) /\ X.cell? ⟨gc, i * 4 + 3, none⟩ = some (.slice (some ⟨gl, 0, none⟩) CD[i].list.length cl) /\ gc < X.heap.size) /\ (X.cell? ⟨E2, 3, none⟩ = some (.slice ka CD[i].list.length kc) /\ E2 < X.heap.size)) := ⟨fun X hX => by
          have hXr : Below wr.heap.size wr X := bb5.trans (hX.mono bb5.size)
          have z := (hX.block E2 (ah qq5)).trans qq5
          exact ⟨⟨(hXr.cell (p := ⟨Q0, 4, none⟩) r5).trans r4, Nat.lt_of_lt_of_le r5 hXr.size⟩, ⟨(hXr.cell (p := ⟨gc, _, none⟩) r10).trans m0, (hXr.cell (p := ⟨gc, _, none⟩) r10).trans m1, (hXr.cell (p := ⟨gc, _, none⟩) r10).trans m2, (hXr.cell (p := ⟨gc, _, none⟩) r10).trans m3, Nat.lt_of_lt_of_le r10 hXr.size⟩, ⟨aa z rfl, ah z⟩⟩⟩
         have HZ2 : Bx (∀ Y Q1, Below w5.heap.size w5 Y -> w5.heap.size <= Q1 -> Y.heap[Q1]? = some (.cells #[.int .i64 CD[i].op, .int .i64 CD[i].a, .int .i64 CD[i].b, .slice (some ⟨gl, 0, none⟩) CD[i].list.length cl] 43 (0, 0)) -> ∀ X, Below Y.heap.size Y X -> Below wY.heap.size wY X /\ (X.cell? ⟨E2, 0, none⟩ = some (.int .i64 CD[i].op) /\ X.cell? ⟨E2, 1, none⟩ = some (.int .i64 CD[i].a) /\ X.cell? ⟨E2, 2, none⟩ = some (.int .i64 CD[i].b) /\ X.cell? ⟨E2, 3, none⟩ = some (.slice ka CD[i].list.length kc) /\ E2 < X.heap.size) /\ (X.cell? ⟨Q1, 0, none⟩ = some (.int .i64 CD[i].op) /\ X.cell? ⟨Q1, 1, none⟩ = some (.int .i64 CD[i].a) /\ X.cell? ⟨Q1, 2, none⟩ = some (.int .i64 CD[i].b) /\ X.cell? ⟨Q1, 3, none⟩ = some (.slice (some ⟨gl, 0, none⟩) CD[i].list.length cl) /\ Q1 < X.heap.size) /\ X.cell? ⟨gl, CD[i].list.length, none⟩ = some (.int .i64 (-7)) /\ gl < X.heap.size) := ⟨fun Y Q1 hY hQ hq X hX => by
          have hX3 : Below w5.heap.size w5 X := hY.trans (hX.mono hY.size)
          have hXr : Below wr.heap.size wr X := bb5.trans (hX3.mono bb5.size)
          have z1 := (hX3.block E2 (ah qq5)).trans qq5
          have z2 := (hX.block Q1 (ah hq)).trans hq
          have hgk : gl < wr.heap.size := hKid.lt
          exact ⟨HBI.out.trans (hXr.mono HBI.out.size), ⟨aa z1 rfl, aa z1 rfl, aa z1 rfl, aa z1 rfl, ah z1⟩, ⟨aa z2 rfl, aa z2 rfl, aa z2 rfl, aa z2 rfl, ah z2⟩, (hXr.cell (p := ⟨gl, _, none⟩) hgk).trans hKid.mark, Nat.lt_of_lt_of_le hgk hXr.size⟩⟩
         have HNU : Bx (∀ X, Below wr.heap.size wr X -> Calls Tryd.prog 13 #[.slice (some ⟨gl, 0, none⟩) CD[i].list.length cl, .slice ka CD[i].list.length kc] X fun e w' => e = .returned (.bool true) /\ ∃ n, w' = X.drewN n) := ⟨fun X hXr => by
          have i1 := (hKid.later (hXr.block gl hKid.lt) (Nat.le_refl _)).ints
          have hwz := (HXW.out wr hx2).size
          have i2 := (hks.up hwz).below hXr
          have := lF X X.heap.size (some ⟨gl, 0, none⟩) ka cl kc _ _ i1 (i2.up hXr.size)
          rw [decide_eq_true rfl] at this
          exact this⟩
         have HB5 : Bx (Below wr.heap.size wr w5) := ⟨bb5⟩
         have hE5 : E2 < w5.heap.size := ah qq5
         have f3 : w5.cell? ⟨E2, 3, none⟩ = some (.slice ka CD[i].list.length kc) := aa qq5 rfl
         have hkcap := hKid.cap
         have hkmax := hKid.max
         have hkcc := hks.cap
         unfold maxLen at hkmax
         clear HC hKid hks bb5 qq5 hat hcd hrow hx2 m0 m1 m2 m3 hgl2 hcl2
         generalize CD[i].list = KS at *
         generalize CD[i].op = XO at *
         generalize CD[i].a = XA at *
         generalize CD[i].b = XB at *
         go_wp2_with fail
         refine eT (MkG w5 (fun zz => ([some (.pointer (some ⟨Q0, 4, none⟩)), some (.slice (some ⟨gc, 0, none⟩) CL gcc), some (.int .i64 (i : Int)), some (.pointer (some ⟨gc, i * 4, none⟩)), some (.agg #[.int .i64 XO, .int .i64 XA, .int .i64 XB, .slice (some ⟨gl, 0, none⟩) KS.length cl]), some (.pointer (some ⟨E2, 3, none⟩)), some (.slice ka KS.length kc), some (.int .i64 (KS.length : Int)), none, none, some (.int .i64 (KS.length : Int))] : List (Option Value)).getD zz none) 8 9 43 #[.int .i64 XO, .int .i64 XA, .int .i64 XB, .slice (some ⟨gl, 0, none⟩) KS.length cl]) (by kernel_rfl) (by decide +kernel) ⟨⟨rfl, rfl, rfl, Nat.le_refl _, fun _ _ => rfl⟩, (fun _ _ h => by cases h), (fun _ h => by cases h), fun _ h => by cases h⟩ ?stp ?fin
         case stp =>
          intro u9 wz jj op bb hS hnu ho hdep hA
          obtain ⟨⟨a1, a2⟩, ⟨a3, a4, a5, a6, a7⟩, ⟨a9, a10⟩⟩ := HPS.out wz hS.bel
          rcases jj with _ | _ | _ | _ | _ | _ | _ | _ | _ | _ | _ | jj
          ·simp only [List.getElem?_cons_succ, List.getElem?_cons_zero, Option.some.injEq] at ho
           subst ho
           have f11 := hA.was (t := 11) (by decide +kernel)
           simp only [Act.eval] at f11
           refine ⟨rfl, .inl ⟨.pointer (some ⟨Q0, 4, none⟩), wz, ?_, hS.pure (by decide) (by decide) rfl⟩⟩
           simp only [execOp, f11]
           go_simp
           try rfl
          ·simp only [List.getElem?_cons_succ, List.getElem?_cons_zero, Option.some.injEq] at ho
           subst ho
           have e0 := hA.at_ (j := 0) (t := 150) rfl rfl (hS.get (hdep ⟨0, Ground.data⟩ (by simp) rfl) (c := .pointer (some ⟨Q0, 4, none⟩)) rfl) (Nat.le_of_ble_eq_true rfl)
           have b0 : bb.tmps[150]?.getD undef = .pointer (some ⟨Q0, 4, none⟩) := by simpa [Act.eval, Array.getD_eq_getD_getElem?] using e0
           refine ⟨rfl, .inl ⟨.slice (some ⟨gc, 0, none⟩) CL gcc, wz, ?_, hS.pure (by decide) (by decide) rfl⟩⟩
           simp only [execOp, e0]
           go_simp
           try rfl
          ·simp only [List.getElem?_cons_succ, List.getElem?_cons_zero, Option.some.injEq] at ho
           subst ho
           have f13 := hA.was (t := 13) (by decide +kernel)
           simp only [Act.eval] at f13
           refine ⟨rfl, .inl ⟨.int .i64 (i : Int), wz, ?_, hS.pure (by decide) (by decide) rfl⟩⟩
           simp only [execOp, f13]
           go_simp
           try rfl
          ·simp only [List.getElem?_cons_succ, List.getElem?_cons_zero, Option.some.injEq] at ho
           subst ho
           have e1 := hA.at_ (j := 1) (t := 151) rfl rfl (hS.get (hdep ⟨1, Ground.data⟩ (by simp) rfl) (c := .slice (some ⟨gc, 0, none⟩) CL gcc) rfl) (Nat.le_of_ble_eq_true rfl)
           have b1 : bb.tmps[151]?.getD undef = .slice (some ⟨gc, 0, none⟩) CL gcc := by simpa [Act.eval, Array.getD_eq_getD_getElem?] using e1
           have e2 := hA.at_ (j := 2) (t := 152) rfl rfl (hS.get (hdep ⟨2, Ground.data⟩ (by simp) rfl) (c := .int .i64 (i : Int)) rfl) (Nat.le_of_ble_eq_true rfl)
           have b2 : bb.tmps[152]?.getD undef = .int .i64 (i : Int) := by simpa [Act.eval, Array.getD_eq_getD_getElem?] using e2
           refine ⟨rfl, .inl ⟨.pointer (some ⟨gc, i * 4, none⟩), wz, ?_, hS.pure (by decide) (by decide) rfl⟩⟩
           simp only [execOp, e1, e2]
           go_simp
           try rfl
          ·simp only [List.getElem?_cons_succ, List.getElem?_cons_zero, Option.some.injEq] at ho
           subst ho
           have e3 := hA.at_ (j := 3) (t := 153) rfl rfl (hS.get (hdep ⟨3, Ground.data⟩ (by simp) rfl) (c := .pointer (some ⟨gc, i * 4, none⟩)) rfl) (Nat.le_of_ble_eq_true rfl)
           have b3 : bb.tmps[153]?.getD undef = .pointer (some ⟨gc, i * 4, none⟩) := by simpa [Act.eval, Array.getD_eq_getD_getElem?] using e3
           refine ⟨rfl, .inl ⟨.agg #[.int .i64 XO, .int .i64 XA, .int .i64 XB, .slice (some ⟨gl, 0, none⟩) KS.length cl], wz, ?_, hS.pure (by decide) (by decide) rfl⟩⟩
           simp only [execOp, e3]
           go_simp
           try rfl
          ·simp only [List.getElem?_cons_succ, List.getElem?_cons_zero, Option.some.injEq] at ho
           subst ho
           have f14 := hA.was (t := 14) (by decide +kernel)
           simp only [Act.eval] at f14
           refine ⟨rfl, .inl ⟨.pointer (some ⟨E2, 3, none⟩), wz, ?_, hS.pure (by decide) (by decide) rfl⟩⟩
           simp only [execOp, f14]
           go_simp
           try rfl
          ·simp only [List.getElem?_cons_succ, List.getElem?_cons_zero, Option.some.injEq] at ho
           subst ho
           have e5 := hA.at_ (j := 5) (t := 155) rfl rfl (hS.get (hdep ⟨5, Ground.data⟩ (by simp) rfl) (c := .pointer (some ⟨E2, 3, none⟩)) rfl) (Nat.le_of_ble_eq_true rfl)
           have b5 : bb.tmps[155]?.getD undef = .pointer (some ⟨E2, 3, none⟩) := by simpa [Act.eval, Array.getD_eq_getD_getElem?] using e5
           refine ⟨rfl, .inl ⟨.slice ka KS.length kc, wz, ?_, hS.pure (by decide) (by decide) rfl⟩⟩
           simp only [execOp, e5]
           go_simp
           try rfl
          ·simp only [List.getElem?_cons_succ, List.getElem?_cons_zero, Option.some.injEq] at ho
           subst ho
           have e6 := hA.at_ (j := 6) (t := 156) rfl rfl (hS.get (hdep ⟨6, Ground.data⟩ (by simp) rfl) (c := .slice ka KS.length kc) rfl) (Nat.le_of_ble_eq_true rfl)
           have b6 : bb.tmps[156]?.getD undef = .slice ka KS.length kc := by simpa [Act.eval, Array.getD_eq_getD_getElem?] using e6
           refine ⟨rfl, .inl ⟨.int .i64 (KS.length : Int), wz, ?_, hS.pure (by decide) (by decide) rfl⟩⟩
           simp only [execOp, e6]
           go_simp
           try rfl
          ·simp only [List.getElem?_cons_succ, List.getElem?_cons_zero, Option.some.injEq] at ho
           subst ho
           refine ⟨rfl, .inl ⟨.pointer (some ⟨wz.heap.size, 0, none⟩), wz.alloc (.cells #[.int .i64 0, .int .i64 0, .int .i64 0, .slice none 0 0] 43), ?_, hS.alloc hnu (by decide) rfl rfl⟩⟩
           simp only [execOp]
           go_simp
           try rfl
          ·simp only [List.getElem?_cons_succ, List.getElem?_cons_zero, Option.some.injEq] at ho
           subst ho
           obtain ⟨v10, h10⟩ := hdep ⟨8, Ground.data⟩ (by simp) rfl
           obtain ⟨q, cs, e1, e2, e3, e4, _⟩ := hS.al v10 h10
           subst e1
           have h9 := hS.get (hdep ⟨4, Ground.data⟩ (by simp) rfl) (c := .agg #[.int .i64 XO, .int .i64 XA, .int .i64 XB, .slice (some ⟨gl, 0, none⟩) KS.length cl]) rfl
           have e10 := hA.at_ (j := 8) (t := 15) rfl rfl h10 (Nat.le_of_ble_eq_true rfl)
           have e9 := hA.at_ (j := 4) (t := 154) rfl rfl h9 (Nat.le_of_ble_eq_true rfl)
           have ht : wz.there q 0 4 := fun j hj => ⟨by rw [aa (i := 0 + j) e3 (Array.getElem?_eq_getElem (by rw [e4]; simp; omega))]; rfl, aL e3⟩
           refine ⟨rfl, .inr (.inl ⟨_, ?_, hS.store (by decide) rfl h10 undef⟩)⟩
           have hr := run_storeAt_mid (P := Tryd.prog) wz q 0 43 #[.int .i64 XO, .int .i64 XA, .int .i64 XB, .slice (some ⟨gl, 0, none⟩) KS.length cl] ht (by kernel_rfl) (by simp [Value.oneCell'])
           simp only [execOp, e10, e9, Sem.run_bind, hr, Result.andThen_ok, Sem.run_pure]
           try rfl
          ·simp only [List.getElem?_cons_succ, List.getElem?_cons_zero, Option.some.injEq] at ho
           subst ho
           have e7 := hA.at_ (j := 7) (t := 157) rfl rfl (hS.get (hdep ⟨7, Ground.data⟩ (by simp) rfl) (c := .int .i64 (KS.length : Int)) rfl) (Nat.le_of_ble_eq_true rfl)
           refine ⟨rfl, .inl ⟨.int .i64 (KS.length : Int), wz, ?_, hS.pure (by decide) (by decide) rfl⟩⟩
           simp only [execOp, e7]
           go_simp
           try rfl
          ·simp at ho
         case fin =>
          intro u9 vs wV hvl hvs hS
          match vs, hvl with
          | [y0, y1, y2, y3, y4, y5, y6, y7, y8, y9, y10], _ =>
           have f0 : y0 = .pointer (some ⟨Q0, 4, none⟩) := hS.pur 0 y0 (hvs 0 (Nat.le_of_ble_eq_true rfl)) _ rfl
           have f1 : y1 = .slice (some ⟨gc, 0, none⟩) CL gcc := hS.pur 1 y1 (hvs 1 (Nat.le_of_ble_eq_true rfl)) _ rfl
           have f2 : y2 = .int .i64 (i : Int) := hS.pur 2 y2 (hvs 2 (Nat.le_of_ble_eq_true rfl)) _ rfl
           have f3 : y3 = .pointer (some ⟨gc, i * 4, none⟩) := hS.pur 3 y3 (hvs 3 (Nat.le_of_ble_eq_true rfl)) _ rfl
           have f4 : y4 = .agg #[.int .i64 XO, .int .i64 XA, .int .i64 XB, .slice (some ⟨gl, 0, none⟩) KS.length cl] := hS.pur 4 y4 (hvs 4 (Nat.le_of_ble_eq_true rfl)) _ rfl
           have f5 : y5 = .pointer (some ⟨E2, 3, none⟩) := hS.pur 5 y5 (hvs 5 (Nat.le_of_ble_eq_true rfl)) _ rfl
           have f6 : y6 = .slice ka KS.length kc := hS.pur 6 y6 (hvs 6 (Nat.le_of_ble_eq_true rfl)) _ rfl
           have f7 : y7 = .int .i64 (KS.length : Int) := hS.pur 7 y7 (hvs 7 (Nat.le_of_ble_eq_true rfl)) _ rfl
           have f10 : y10 = .int .i64 (KS.length : Int) := hS.pur 10 y10 (hvs 10 (Nat.le_of_ble_eq_true rfl)) _ rfl
           subst f0
           subst f1
           subst f2
           subst f3
           subst f4
           subst f5
           subst f6
           subst f7
           subst f10
           obtain ⟨Q1, cs, e10, hq, hqb, _, hqc⟩ := hS.al y8 (hvs 8 (Nat.le_of_ble_eq_true rfl))
           have hcs := hqc y9 (hvs 9 (Nat.le_of_ble_eq_true rfl))
           subst e10
           subst hcs
           have hbel := hS.bel
           refine ⟨_, dG 150 8 (by decide +kernel) (by rfl) (by exact Nat.le_of_ble_eq_true rfl) (by exact Nat.le_of_ble_eq_true rfl) (by simp only [List.drop_succ_cons, List.drop_zero, List.drop_nil, List.take_succ_cons, List.take_zero, List.cons_append, List.nil_append, aH, Act.put, List.setIfInBounds_toArray, List.set_cons_zero, List.set_cons_succ]; rfl), ?_⟩
           clear hS hvs
           have HV : Bx (∀ X, Below wV.heap.size wV X -> _) := ⟨fun X hX => HZ2.out wV Q1 hbel hq hqb X hX⟩
           have HVR : Bx (Below wr.heap.size wr wV) := ⟨HB5.out.trans (hbel.mono HB5.out.size)⟩
           have HNY : Bx _ := ⟨HNU.out wV HVR.out⟩
           obtain ⟨_, ⟨k0, k1, k2, k3, k4⟩, ⟨l0, l1, l2, l3, l4⟩, l9, l10⟩ := HV.out wV (Below.refl _ _)
           have hx1 : (XO != XO) = false := by simp
           have hx2 : (XA != XA) = false := by simp
           have hx3 : (XB != XB) = false := by simp
           clear HZ2 HPS HNU hbel hq hqb s0 s1 s2 s3 s4 s5 r0 r1 r2 r3 r4 r5 r9 r10 n0 n1 n2 n3 hw5 f3 hE5 hE2
           go_wp2_with (first
            | (go_at_call 13; refine HNY.out.mono ?_; rintro e X2 ⟨rfl, nn, rfl⟩; clear HNY)
            | fail)
           go_roundg (CL + 1 - (i + 1))
           case measure => omega
           case rel => exact ⟨i + 1, rfl, by omega, by go_num, ⟨(HV.out (wV.drewN nn) ⟨rfl, rfl, rfl, Nat.le_refl _, fun _ _ => rfl⟩).1⟩⟩
        ·obtain rfl : i = CL := by omega
         have HNX : Bx (Below w2.heap.size w2 wr) := ⟨hx2⟩
         clear hx2 hcd hrow
         go_wp2
         go_roundg (u.ae.length + 1 - (k + 1))
         case measure => omega
         case rel => exact ⟨k + 1, rfl, by omega, by go_num, HNX⟩
    ·have HBF : Bx (Below w.heap.size w wr) := ⟨HXW.out wr HB.out⟩
     clear HB
     go_wp2
     go_ret
     exact ⟨rfl, by first | exact HBF | (rw [← hH]; exact HBF)⟩
end Go.Proofs.YtadmpgegolmkgaaDoor
