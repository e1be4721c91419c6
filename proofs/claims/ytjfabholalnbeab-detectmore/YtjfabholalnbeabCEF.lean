import Derived.Test.YtjfabholalnbeabCEE
import Derived.Test.YtjfabholalnbeabCGN
namespace Go.Proofs.Ytjfabholalnbeab
open Go.RowKit Go.MapKept Go.ChangeMaps Go.WideShapes
set_option linter.unusedVariables false
set_option linter.unusedSimpArgs false

/-! ### open -/
abbrev Wy := Int × Lk
def wy0 (o : Option Wy) : Wy := o.getD (0, ⟨0, 0, 0⟩)
def wyV (y : Wy) : Value := .agg #[.int .i64 y.1, .int .i64 y.2.waker, .int .i64 y.2.woken, .int .i64 y.2.chan]
def WyM (W : World) (mb n : Nat) (Y : Int → Option Wy) : Prop := MpI W mb n (wyV (0, ⟨0, 0, 0⟩)) (fun c => wyV (wy0 (Y c))) (fun c => (Y c).isSome)
theorem WyM.look2 {W : World} {mb n : Nat} {Y : Int → Option Wy} (h : WyM W mb n Y) {c : Int} (hc : I64 c) : (Instr.lookup 54 (.map (some mb)) (.int .i64 c) true).run Try.prog W = .ok (.tuple #[.agg #[.int .i64 (wy0 (Y c)).1, .int .i64 (wy0 (Y c)).2.waker, .int .i64 (wy0 (Y c)).2.woken, .int .i64 (wy0 (Y c)).2.chan], .bool (Y c).isSome]) W := MpI.look2 h Try.underlying54 Try.zeroValue57 hc
/-- the link by which one is opened -/
def opL (f : Int → Ag) (H : Int → Option Int) (id : Int) : Lk := lk0 (lkD (f id) (fun h => H h.chan))
/-- what is done -/
def dnI (H : Int → Option Int) (left : Int → Bool) (c : Int) : Bool := (H c).isSome && !left c
def offV (H : Int → Option Int) (left : Int → Bool) (V : Int → Value) (c : Int) : Value := if dnI H left c then nV else V c
def offA (H : Int → Option Int) (left : Int → Bool) (A : Int → List Int) (c : Int) : List Int := if dnI H left c then [] else A c
structure OpW (w wr : World) (am hm om r nh na wm ym : Nat) (f : Int → Ag) (H : Int → Option Int) (V : Int → Value) (A : Int → List Int) (hy : Int → Bool) (K : List Int) (left la : Int → Bool) (cnt n : Nat) (O : Int → Option Lk) : Prop where
  kmp : KMp am w wr
  k0 : wr.heap[w.heap.size]? = some (.cells #[.map (some wm), .map (some am), .map (some ym)] 80 (0, 0))
  k1 : wr.heap[w.heap.size + 1]? = some (.cells #[.map (some hm)] 84 (0, 0))
  rg : RgI wr hm r nh (.int .i64 0) (fun c => oV (H c)) (fun c => (H c).isSome) left cnt
  out : LkM wr om n O
  cnt : n ≤ cntO O K
  at_ : MpI wr am na nV (offV H la V) (fun c => !(offA H la A c).isEmpty)
theorem OpW.below {w wr X : World} {am hm om r nh na wm ym cnt n : Nat} {f : Int → Ag} {H : Int → Option Int} {V : Int → Value} {A : Int → List Int} {hy left la : Int → Bool} {K : List Int} {O : Int → Option Lk} (h : OpW w wr am hm om r nh na wm ym f H V A hy K left la cnt n O) (hb : Below wr.heap.size wr X) : OpW w X am hm om r nh na wm ym f H V A hy K left la cnt n O :=
  ⟨h.kmp.trans (KMp.below hb), (hb.block _ (Array.getElem?_eq_some_iff.1 h.k0).1).trans h.k0, (hb.block _ (Array.getElem?_eq_some_iff.1 h.k1).1).trans h.k1, h.rg.same (hb.block _ h.rg.lt.1) (hb.block _ h.rg.lt.2), MpI.below h.out hb, h.cnt, h.at_.below hb⟩
theorem OpW.next {w wr X : World} {am hm om r nh na wm ym cnt cnt' n : Nat} {f : Int → Ag} {H : Int → Option Int} {V : Int → Value} {A : Int → List Int} {hy left left' la : Int → Bool} {K : List Int} {O : Int → Option Lk} (h : OpW w wr am hm om r nh na wm ym f H V A hy K left la cnt n O) (hr : RgI X hm r nh (.int .i64 0) (fun c => oV (H c)) (fun c => (H c).isSome) left' cnt') (hg : wr.grownBy X (some r)) (o1 : w.heap.size + 2 ≤ r) (o2 : om ≠ r) (o3 : am ≠ r) : OpW w X am hm om r nh na wm ym f H V A hy K left' la cnt' n O := by
  have hb : ∀ b, b < wr.heap.size → b ≠ r → X.heap[b]? = wr.heap[b]? := fun b hb hn => hg.block b hb (fun e => hn (by cases e; rfl))
  exact ⟨h.kmp.over hg (by omega), (hb _ (Array.getElem?_eq_some_iff.1 h.k0).1 (by omega)).trans h.k0, (hb _ (Array.getElem?_eq_some_iff.1 h.k1).1 (by omega)).trans h.k1, hr, MpI.same h.out (hb _ (MpI.lt h.out) o2), h.cnt, h.at_.same (hb _ h.at_.lt o3)⟩
/-- a link is put -/
theorem OpW.put {w wr X : World} {am hm om r nh na wm ym cnt n : Nat} {f : Int → Ag} {H : Int → Option Int} {V : Int → Value} {A : Int → List Int} {hy left la : Int → Bool} {K : List Int} {O : Int → Option Lk} (h : OpW w wr am hm om r nh na wm ym f H V A hy K left la cnt n O) {k : Int} {l : Lk} (hO : O k = none) (hk : k ∈ K) (hm1 : LkM X om (n + 1) (upd O k (some l))) (hg : wr.grownBy X (some om)) (o1 : w.heap.size + 2 ≤ om) (o2 : om ≠ r) (o3 : om ≠ hm) (o4 : om ≠ am) : OpW w X am hm om r nh na wm ym f H V A hy K left la cnt (n + 1) (upd O k (some l)) := by
  have hb : ∀ b, b < wr.heap.size → b ≠ om → X.heap[b]? = wr.heap[b]? := fun b hb hn => hg.block b hb (fun e => hn (by cases e; rfl))
  exact ⟨h.kmp.over hg (by omega), (hb _ (Array.getElem?_eq_some_iff.1 h.k0).1 (by omega)).trans h.k0, (hb _ (Array.getElem?_eq_some_iff.1 h.k1).1 (by omega)).trans h.k1, h.rg.same (hb _ h.rg.lt.1 (fun e => o3 e.symm)) (hb _ h.rg.lt.2 (fun e => o2 e.symm)), hm1, Nat.le_trans (Nat.succ_le_succ h.cnt) (cnt_put l hO hk), h.at_.same (hb _ h.at_.lt (fun e => o4 e.symm))⟩
/-- a channel is closed -/
theorem OpW.del {w wr X : World} {am hm om r nh na wm ym cnt n : Nat} {f : Int → Ag} {H : Int → Option Int} {V : Int → Value} {A : Int → List Int} {hy left left' : Int → Bool} {K : List Int} {O : Int → Option Lk} {c : Int} (h : OpW w wr am hm om r nh na wm ym f H V A hy K left left' cnt n O) (hH : (H c).isSome = true) (hl : ∀ d, left d = (left' d && !(d == c))) (hm1 : MpI X am na nV (upd (offV H left' V) c nV) (upd (fun c => !(offA H left' A c).isEmpty) c false)) (hg : wr.grownBy X (some am)) (o1 : am < w.heap.size) (o2 : am ≠ r) (o3 : am ≠ hm) (o4 : am ≠ om) : OpW w X am hm om r nh na wm ym f H V A hy K left left cnt n O := by
  have hb : ∀ b, b < wr.heap.size → b ≠ am → X.heap[b]? = wr.heap[b]? := fun b hb hn => hg.block b hb (fun e => hn (by cases e; rfl))
  have hd : ∀ d, dnI H left d = (dnI H left' d || d == c) := fun d => by
    unfold dnI
    rw [hl]
    by_cases e : d = c
    · subst e; simp [hH]
    · have : (d == c) = false := by simpa using e
      simp [this]
  refine ⟨h.kmp.trans (KMp.grown hg), (hb _ (Array.getElem?_eq_some_iff.1 h.k0).1 (by omega)).trans h.k0, (hb _ (Array.getElem?_eq_some_iff.1 h.k1).1 (by omega)).trans h.k1, h.rg.same (hb _ h.rg.lt.1 (fun e => o3 e.symm)) (hb _ h.rg.lt.2 (fun e => o2 e.symm)), MpI.same h.out (hb _ (MpI.lt h.out) (fun e => o4 e.symm)), h.cnt, hm1.ext (fun d => ?_) (fun d => ?_)⟩
  · unfold offV
    by_cases e : d = c
    · subst e; rw [upd_same, hd]; simp
    · rw [upd_other _ _ e, hd]
      have : (d == c) = false := by simpa using e
      rw [this, Bool.or_false]
  · by_cases e : d = c
    · subst e; rw [upd_same]; unfold offA; rw [hd]; simp
    · rw [upd_other _ _ e]
      unfold offA
      rw [hd]
      have : (d == c) = false := by simpa using e
      rw [this, Bool.or_false]
/-- the head of open's loops -/
theorem OpW.head {w W : World} {am hm nh na wm ym : Nat} {f : Int → Ag} {H : Int → Option Int} {V : Int → Value} {A : Int → List Int} {hy : Int → Bool} {K : List Int}
    (hH : HoM w hm nh H) (hA : MpI w am na nV V (fun c => !(A c).isEmpty)) (hW : ((w.alloc (.cells #[.map (some wm), .map (some am), .map (some ym)] 80)).alloc (.cells #[.map (some hm)] 84)).alloc (.map #[] 0) = W) {w1 : World} {cnt : Nat} (hrg : RgI w1 hm W.heap.size nh (.int .i64 0) (fun c => oV (H c)) (fun c => (H c).isSome) (fun c => (H c).isSome) cnt) (hb1 : Below W.heap.size W w1) :
    OpW w w1 am hm (w.heap.size + 2) W.heap.size nh na wm ym f H V A hy K (fun c => (H c).isSome) (fun c => (H c).isSome) cnt 0 (fun _ => none) ∧ OpO A hy (opL f H) (dnI H (fun c => (H c).isSome)) (fun _ => none) ∧ W.heap.size = w.heap.size + 3 := by
  have z0 : Below w.heap.size w (w.alloc (.cells #[.map (some wm), .map (some am), .map (some ym)] 80)) := below1 _ _
  have z1 : Below w.heap.size w ((w.alloc (.cells #[.map (some wm), .map (some am), .map (some ym)] 80)).alloc (.cells #[.map (some hm)] 84)) := two_new _ _ _
  have z2 : Below w.heap.size w W := by rw [← hW]; exact z1.trans ((below1 _ _).mono z1.size)
  have hd : ∀ c, dnI H (fun c => (H c).isSome) c = false := fun c => by show ((H c).isSome && !(H c).isSome) = false; cases (H c).isSome <;> rfl
  have zz := z2.trans (hb1.mono z2.size)
  have hz : W.heap.size = w.heap.size + 3 := by rw [← hW]; simp
  have hk0 : W.heap[w.heap.size]? = some (.cells #[.map (some wm), .map (some am), .map (some ym)] 80 (0, 0)) := by
    rw [← hW]; exact up (up (alloc_at rfl))
  have hk1 : W.heap[w.heap.size + 1]? = some (.cells #[.map (some hm)] 84 (0, 0)) := by
    rw [← hW]; exact up (alloc_at (by simp))
  have hk2 : LkM W (w.heap.size + 2) 0 (fun _ => none) := by
    have := lm_new ((w.alloc (.cells #[.map (some wm), .map (some am), .map (some ym)] 80)).alloc (.cells #[.map (some hm)] 84))
    rw [World.size_alloc, World.size_alloc, hW] at this
    exact this
  refine ⟨⟨KMp.below zz, (hb1.block _ (Array.getElem?_eq_some_iff.1 hk0).1).trans hk0, (hb1.block _ (Array.getElem?_eq_some_iff.1 hk1).1).trans hk1, hrg, MpI.below hk2 hb1, Nat.zero_le _, (hA.below zz).ext (fun c => ?_) (fun c => ?_)⟩, ⟨fun c id hc => ?_, fun id h => absurd rfl h⟩, hz⟩
  · unfold offV; rw [hd]; rfl
  · unfold offA; rw [hd]; rfl
  · rw [hd] at hc; cases hc
end Go.Proofs.Ytjfabholalnbeab
