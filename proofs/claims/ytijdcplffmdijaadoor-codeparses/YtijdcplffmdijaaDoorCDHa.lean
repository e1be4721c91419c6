import Derived.Test.YtijdcplffmdijaaDoorCDFe
import Derived.Test.YtijdcplffmdijaaDoorCDGc
namespace Go.Proofs.YtijdcplffmdijaaDoor
open Go.RowKit
set_option linter.unusedVariables false
set_option linter.unusedSimpArgs false

/-- one element behind a row of one's own -/
theorem app1 {e t : TypeId} {i0 : TypeInfo} {z : Value} {s bt : Nat} (ht : Tryd.prog.underlying t = some (.slice e)) (hi : Tryd.prog.info? e = some i0) (hz : i0.zero = some z) (hs : i0.size = s) (hb : i0.bytes = bt) (hzs : z.cells.size = s) (hs0 : 0 < s)
    (W : World) (B : Nat) (v : Value) (n : Nat) (xs : List Value) (ho : W.ownsRow B e s v n xs) (cs : Array Value) (hcs : cs.toList.length = s) (h1 : ∀ u ∈ cs.toList, u.oneCell' = true) (hn : n + 1 ≤ maxLen) (hby : (n + 1) * bt ≤ 140737488355328) (hB : B ≤ W.heap.size) :
    ∃ g c W3, (∀ ty, (Builtin.append_ #[t, t] ty #[v, .slice (some ⟨W.heap.size, 0, none⟩) 1 1]).run Tryd.prog (W.alloc (.cells cs e)) = .ok (.slice (some ⟨g, 0, none⟩) (n + 1) c) W3) ∧ W3.ownsRow B e s (.slice (some ⟨g, 0, none⟩) (n + 1) c) (n + 1) (xs ++ cs.toList) ∧ W.grownBy W3 v.ownBlock := by
  have ho' : (W.alloc (.cells cs e)).ownsRow B e s v n xs := ho.alloc _
  obtain ⟨g, c, W3, r1, r2, r3, r4, r5⟩ := run_append_lies (P := Tryd.prog) (W.alloc (.cells cs e)) t e B e i0 z s bt ht hi hz hs hb hzs hs0 v n xs ho' ⟨W.heap.size, 0, none⟩ 1 1 cs.toList (by omega) (World.news_of_block (heap_alloc_new W _)) h1 (by omega) hn hby (by simp; omega) _ rfl
  refine ⟨g, c, W3, fun ty => r1, r2, ⟨r3.os, r3.tape, r3.output, Nat.le_trans (by simp) r3.size, fun k hk hne => ?_⟩⟩
  rw [r3.block k (by simp; omega) hne, Below.heap_alloc W _ k hk]
theorem gr_set (W : World) (b i : Nat) (v : Value) : W.grownBy (W.setCell ⟨b, i, none⟩ v) (some b) := ⟨rfl, rfl, rfl, by simp [World.setCell], fun k _ hne => Below.heap_setCell W ⟨b, i, none⟩ v k fun e => hne (by rw [e])⟩
/-- what a row that grows, or a store, leaves alone -/
theorem Kp.gr {w w' : World} {row : Option Nat} {e : TypeId} (hg : w.grownBy w' row) (hr : ∀ b, row = some b → ∃ c fz, w.heap[b]? = some (.cells c e fz)) : Kp (fun x t => t ≠ e ∨ row ≠ some x) w w' :=
  ⟨hg.size, fun b c t fz hx hp => hg.block b (Array.getElem?_eq_some_iff.1 hx).1 fun he => by
    rcases hp with hp | hp
    · obtain ⟨c', fz', hc⟩ := hr b he.symm
      rw [hx] at hc
      injection hc with hc
      injection hc with _ hc _
      exact hp hc
    · exact hp he.symm⟩
theorem infoSi : (Tryd.prog.info? 26).map (fun i => (i.zero, i.size, i.bytes)) = some (some (.slice none 0 0), 1, 24) := by kernel_rfl
theorem infoSn : (Tryd.prog.info? 55).map (fun i => (i.zero, i.size, i.bytes)) = some (some (.slice none 0 0), 1, 24) := by kernel_rfl
/-- a block of numbers that may be written -/
def IlK (w : World) (g : Nat) : Prop := ∃ C : Array Value, w.heap[g]? = some (.cells C 3 (0, 0))
theorem IlK.onp {P : Nat → TypeId → Prop} {w w' : World} {g : Nat} (h : IlK w g) (hk : Kp P w w') (hp : P g 3) : IlK w' g := by
  obtain ⟨C, hC⟩ := h
  exact ⟨C, (hk.blk g C _ _ hC hp).trans hC⟩
/-- an entry of the list of lists; of the list of codes -/
def SlI (B : Nat) (w : World) (ks : List Int) (c : List Value) : Prop := ∃ g cap, c = [.slice (some ⟨g, 0, none⟩) (ks.length + 2) cap] ∧ IK w (some ⟨g, 0, none⟩) cap (ks ++ [-77, -78]) ∧ B ≤ g ∧ IlK w g
def noIn : CIn := ⟨-9, 0, 0, []⟩
def noTy : CTy := ⟨-9, [], false⟩
def noPg : CPg := ⟨-9, 0, 0, false, []⟩
def SlC (B cut : Nat) (w : World) (l : List CIn) (c : List Value) : Prop := ∃ v, c = [v] ∧ OwnL InC w B 28 4 v (l ++ [noIn]) ∧ ∀ g, v.ownBlock = some g → g < cut
theorem SlI.on {P : Nat → TypeId → Prop} {w w' : World} {B : Nat} (hk : Kp P w w') (hp : ∀ b, P b 3) (t : List Int) (c : List Value) (h : SlI B w t c) : SlI B w' t c := by
  obtain ⟨ka, kc, h1, h2, h3⟩ := h
  exact ⟨ka, kc, h1, h2.onp hk hp, h3.1, h3.2.onp hk (hp _)⟩
theorem SlC.on {P : Nat → TypeId → Prop} {w w' : World} {B cut : Nat} (hk : Kp P w w') (hp : ∀ b, P b 3) (hi : ∀ b, b < cut → P b 28) (l : List CIn) (c : List Value) (h : SlC B cut w l c) : SlC B cut w' l c := by
  obtain ⟨v, h1, h2, h3⟩ := h
  exact ⟨v, h1, h2.on (InC.on hk hp) hk fun g hg => hi g (h3 g hg), h3⟩
/-- what is lent, under way -/
structure LU (W : World) (B cut xb : Nat) (pv tv cv iv : Value) (ps : List CPg) (ts : List CTy) (cl : List (List CIn)) (il : List (List Int)) : Prop where
  blk : W.heap[xb]? = some (.cells #[.slice none 0 0, .slice none 0 0, pv, tv, cv, iv] 41 (0, 0))
  tys : OwnL TyC W B 54 3 tv ts
  its : OwnL (SlI B) W B 26 1 iv il
  pgs : OwnL (PgC B cut) W B 57 5 pv ps
  cds : OwnL (SlC B cut) W B 55 1 cv cl
  cut_ : cut ≤ W.heap.size
theorem LU.on {P : Nat → TypeId → Prop} {W W' : World} {B cut xb : Nat} {pv tv cv iv : Value} {ps : List CPg} {ts : List CTy} {cl : List (List CIn)} {il : List (List Int)} (h : LU W B cut xb pv tv cv iv ps ts cl il) (hk : Kp P W W')
    (hx : P xb 41) (hi : ∀ b, P b 3) (hn : ∀ b, b < cut → P b 28) (h1 : ∀ g, tv.ownBlock = some g → P g 54) (h2 : ∀ g, iv.ownBlock = some g → P g 26) (h3 : ∀ g, pv.ownBlock = some g → P g 57) (h4 : ∀ g, cv.ownBlock = some g → P g 55) : LU W' B cut xb pv tv cv iv ps ts cl il :=
  ⟨(hk.blk xb _ _ _ h.blk hx).trans h.blk, h.tys.on (TyC.on hk hi) hk h1, h.its.on (SlI.on hk hi) hk h2, h.pgs.on (PgC.on hk hi hn) hk h3, h.cds.on (SlC.on hk hi hn) hk h4, Nat.le_trans h.cut_ hk.size⟩
theorem LU.below {W W' : World} {B cut xb : Nat} {pv tv cv iv : Value} {ps : List CPg} {ts : List CTy} {cl : List (List CIn)} {il : List (List Int)} (h : LU W B cut xb pv tv cv iv ps ts cl il) (hb : Below W.heap.size W W') : LU W' B cut xb pv tv cv iv ps ts cl il :=
  h.on (P := fun _ _ => True) (Kp.of hb) trivial (fun _ => trivial) (fun _ _ => trivial) (fun _ _ => trivial) (fun _ _ => trivial) (fun _ _ => trivial) fun _ _ => trivial
end Go.Proofs.YtijdcplffmdijaaDoor
