import Derived.Test.YtijdcplffmdijaaDoorCDFf
namespace Go.Proofs.YtijdcplffmdijaaDoor
open Go.RowKit
set_option linter.unusedVariables false
set_option linter.unusedSimpArgs false

/-- numbers in a row of one's own, from N on -/
def IN (N : Nat) (w : World) (a : Option Addr) (cap : Nat) (ks : List Int) : Prop := w.ownsRow N 3 1 (.slice a ks.length cap) ks.length (ks.map (Value.int .i64))
theorem IN.ik {N : Nat} {w : World} {a : Option Addr} {cap : Nat} {ks : List Int} (h : IN N w a cap ks) : IK w a cap ks := by
  obtain ⟨a', cap', e, hk⟩ := IK.of_own h
  injection e with e1 e2 e3
  subst e1 e3
  exact hk
theorem IN.on {N : Nat} {w w' : World} {a : Option Addr} {cap : Nat} {ks : List Int} (h : IN N w a cap ks) (hk : KI w w') : IN N w' a cap ks :=
  owns_on (P := fun _ t => t = 3) h ⟨hk.size, fun b c t fz hb ht => by subst ht; exact hk.blk b c fz hb⟩ fun _ _ => rfl
theorem IN.mono {M N : Nat} {w : World} {a : Option Addr} {cap : Nat} {ks : List Int} (h : IN N w a cap ks) (hN : M ≤ N) : IN M w a cap ks := owns_low h hN
theorem IN.nil (N : Nat) (w : World) : IN N w none 0 [] := World.ownsRow_nil _ _ _ _
theorem IN.drewN {N : Nat} {w : World} {a : Option Addr} {cap : Nat} {ks : List Int} (h : IN N w a cap ks) (n : Nat) : IN N (w.drewN n) a cap ks :=
  h.on ⟨by rw [drewN_heap]; exact Nat.le_refl _, fun b c fz _ => by rw [drewN_heap]⟩
/-- such a row, and a mark of its block: its length -/
def IOw (L : Nat → Nat) (B : Nat) (w : World) (a : Option Addr) (cap : Nat) (ks : List Int) : Prop := IN B w a cap ks ∧ ∀ g, (Value.slice a ks.length cap).ownBlock = some g → L g = ks.length
/-- numbers in a block from B on -/
def IL (B : Nat) (w : World) (a : Option Addr) (cap : Nat) (ks : List Int) : Prop := IK w a cap ks ∧ (0 < ks.length → ∃ b o, a = some ⟨b, o, none⟩ ∧ B ≤ b)
/-- what a list's predicate must have -/
structure IOk (I : World → Option Addr → Nat → List Int → Prop) : Prop where
  ik : ∀ {w : World} {a : Option Addr} {c : Nat} {ks : List Int}, I w a c ks → IK w a c ks
  on : ∀ {w w' : World} {a : Option Addr} {c : Nat} {ks : List Int}, I w a c ks → KI w w' → I w' a c ks
theorem ok_IO (L : Nat → Nat) (B : Nat) : IOk (IOw L B) := ⟨fun h => h.1.ik, fun h k => ⟨h.1.on k, h.2⟩⟩
theorem ok_IL (B : Nat) : IOk (IL B) := ⟨fun h => h.1, fun h k => ⟨h.1.on k, h.2⟩⟩
theorem Kp.ki {P : Nat → TypeId → Prop} {w w' : World} (hk : Kp P w w') (hp : ∀ b, P b 3) : KI w w' := ⟨hk.size, fun b c fz hb => hk.blk b c _ fz hb (hp b)⟩
theorem OwnL.to {α : Type} {R R' : World → α → List Value → Prop} {P : Nat → TypeId → Prop} {w w' : World} {B s : Nat} {e : TypeId} {v : Value} {l : List α} (h : OwnL R w B e s v l) (hR : ∀ a c, R w a c → R' w' a c) (hk : Kp P w w') (hp : ∀ g, v.ownBlock = some g → P g e) : OwnL R' w' B e s v l := by
  obtain ⟨cs, h1, h2⟩ := h.ex
  exact ⟨cs, h1.mono hR, owns_on h2 hk hp⟩

/-! a unit under way, with any predicate of its lists -/
def TyG (I : World → Option Addr → Nat → List Int → Prop) (w : World) (t : CTy) (c : List Value) : Prop := ∃ ka kc, c = tyCells t (.slice ka t.kids.length kc) ∧ I w ka kc t.kids
def InG (I : World → Option Addr → Nat → List Int → Prop) (w : World) (i : CIn) (c : List Value) : Prop := ∃ ka kc, c = inCells i (.slice ka i.list.length kc) ∧ I w ka kc i.list
def PgG (I : World → Option Addr → Nat → List Int → Prop) (J : Nat → Nat → Prop) (B cut : Nat) (w : World) (p : CPg) (c : List Value) : Prop := ∃ v, c = pgCells p v ∧ OwnL (InG I) w B 28 4 v p.code ∧ ∀ g, v.ownBlock = some g → g < cut ∧ J g p.code.length
theorem TyG.to {I I' : World → Option Addr → Nat → List Int → Prop} {w w' : World} (hI : ∀ a c ks, I w a c ks → I' w' a c ks) (t : CTy) (c : List Value) (h : TyG I w t c) : TyG I' w' t c := by
  obtain ⟨ka, kc, h1, h2⟩ := h
  exact ⟨ka, kc, h1, hI _ _ _ h2⟩
theorem InG.to {I I' : World → Option Addr → Nat → List Int → Prop} {w w' : World} (hI : ∀ a c ks, I w a c ks → I' w' a c ks) (i : CIn) (c : List Value) (h : InG I w i c) : InG I' w' i c := by
  obtain ⟨ka, kc, h1, h2⟩ := h
  exact ⟨ka, kc, h1, hI _ _ _ h2⟩
theorem PgG.to {I I' : World → Option Addr → Nat → List Int → Prop} {J J' : Nat → Nat → Prop} {P : Nat → TypeId → Prop} {w w' : World} {B cut : Nat} (hI : ∀ a c ks, I w a c ks → I' w' a c ks) (hJ : ∀ g n, g < cut → J g n → J' g n) (hk : Kp P w w') (hi : ∀ b, b < cut → P b 28) (p : CPg) (c : List Value) (h : PgG I J B cut w p c) : PgG I' J' B cut w' p c := by
  obtain ⟨v, h1, h2, h3⟩ := h
  exact ⟨v, h1, h2.to (InG.to hI) hk fun g hg => hi g (h3 g hg).1, fun g hg => ⟨(h3 g hg).1, hJ g _ (h3 g hg).1 (h3 g hg).2⟩⟩
/-- the progs: the last one's code lies from cut on, all others' below -/
def LastG (I : World → Option Addr → Nat → List Int → Prop) (J : Nat → Nat → Prop) (w : World) (B cut : Nat) (ps : List CPg) (pcs : List (List Value)) : Prop :=
  (ps = [] ∧ pcs = []) ∨ ∃ qs p cs v, ps = qs ++ [p] ∧ pcs = cs ++ [pgCells p v] ∧ All2 (PgG I J B cut w) qs cs ∧ OwnL (InG I) w cut 28 4 v p.code
theorem LastG.to {I I' : World → Option Addr → Nat → List Int → Prop} {J : Nat → Nat → Prop} {P : Nat → TypeId → Prop} {w w' : World} {B cut : Nat} {ps : List CPg} {pcs : List (List Value)} (h : LastG I J w B cut ps pcs) (hI : ∀ a c ks, I w a c ks → I' w' a c ks) (hk : Kp P w w') (hi : ∀ b, P b 28) : LastG I' J w' B cut ps pcs := by
  rcases h with h | ⟨qs, p, cs, v, h1, h2, h3, h4⟩
  · exact .inl h
  · exact .inr ⟨qs, p, cs, v, h1, h2, h3.mono (PgG.to hI (fun _ _ _ h => h) hk fun b _ => hi b), h4.to (InG.to hI) hk fun g _ => hi g⟩
theorem LastG.allJ {I : World → Option Addr → Nat → List Int → Prop} {J J' : Nat → Nat → Prop} {w : World} {B cut : Nat} {ps : List CPg} {pcs : List (List Value)} (h : LastG I J w B cut ps pcs) (hc : B ≤ cut) (hs : cut ≤ w.heap.size) (hJ : ∀ g n, g < cut → J g n → J' g n) (hl : ∀ qs p, ps = qs ++ [p] → ∀ g, cut ≤ g → J' g p.code.length) : All2 (PgG I J' B w.heap.size w) ps pcs := by
  rcases h with ⟨rfl, rfl⟩ | ⟨qs, p, cs, v, rfl, rfl, h3, h4⟩
  · exact trivial
  · refine All2.add ⟨v, rfl, h4.low hc, fun g hg => ⟨h4.blk g hg, ?_⟩⟩ (h3.mono ?_)
    · rintro a c ⟨v, h1, h2, h3⟩
      exact ⟨v, h1, h2, fun g hg => ⟨Nat.lt_of_lt_of_le (h3 g hg).1 hs, hJ g _ (h3 g hg).1 (h3 g hg).2⟩⟩
    · obtain ⟨cs, _, ho⟩ := h4.ex
      exact hl qs p rfl g (owns_block ho hg).1
structure UG (I : World → Option Addr → Nat → List Int → Prop) (J : Nat → Nat → Prop) (w : World) (B ub : Nat) (u : CUn) : Prop where
  ex : ∃ pv tv pcs cut, w.heap[ub]? = some (.cells #[pv, tv] 36 (0, 0)) ∧ OwnL (TyG I) w B 54 3 tv u.types ∧ w.ownsRow B 57 5 pv u.progs.length pcs.flatten ∧ B ≤ cut ∧ cut ≤ w.heap.size ∧ LastG I J w B cut u.progs pcs
theorem UG.below {I : World → Option Addr → Nat → List Int → Prop} {J : Nat → Nat → Prop} (hI : IOk I) {w w' : World} {B ub : Nat} {u : CUn} (h : UG I J w B ub u) (hb : Below w.heap.size w w') : UG I J w' B ub u := by
  obtain ⟨pv, tv, pcs, cut, h1, h2, h3, h4, h5, h6⟩ := h.ex
  have hk : Kp (fun _ _ => True) w w' := Kp.of hb
  have hi : ∀ a c ks, I w a c ks → I w' a c ks := fun _ _ _ h => hI.on h (KI.of hb)
  exact ⟨pv, tv, pcs, cut, below_heap hb h1, h2.to (TyG.to hi) hk fun _ _ => trivial, owns_on h3 hk fun _ _ => trivial, h4, Nat.le_trans h5 hb.size, h6.to hi hk fun _ => trivial⟩
theorem UG.new (I : World → Option Addr → Nat → List Int → Prop) (J : Nat → Nat → Prop) {w : World} {B ub : Nat} (h : w.heap[ub]? = some (.cells #[.slice none 0 0, .slice none 0 0] 36 (0, 0))) (hB : B ≤ w.heap.size) : UG I J w B ub ⟨[], []⟩ :=
  ⟨_, _, [], B, h, OwnL.nil _ _ _ _ _, World.ownsRow_nil _ _ _ _, Nat.le_refl _, hB, .inl ⟨rfl, rfl⟩⟩
theorem tyG_at {I : World → Option Addr → Nat → List Int → Prop} (hI : IOk I) {w : World} (b o : Nat) (t : CTy) (c : List Value) (h : TyG I w t c) (hc : ∀ i, i < 3 → w.cell? ⟨b, o + i, none⟩ = c[i]?) : TyAt w w.heap.size b o t := by
  obtain ⟨ka, kc, rfl, hi⟩ := h
  exact ⟨ka, kc, hc 0 (by omega), hc 1 (by omega), hc 2 (by omega), (hI.ik hi).ints⟩
theorem inG_at {I : World → Option Addr → Nat → List Int → Prop} (hI : IOk I) {w : World} (b o : Nat) (i : CIn) (c : List Value) (h : InG I w i c) (hc : ∀ k, k < 4 → w.cell? ⟨b, o + k, none⟩ = c[k]?) : InAt w w.heap.size b o i := by
  obtain ⟨ka, kc, rfl, hi⟩ := h
  exact ⟨ka, kc, hc 0 (by omega), hc 1 (by omega), hc 2 (by omega), hc 3 (by omega), (hI.ik hi).ints⟩
theorem tyG_len {I : World → Option Addr → Nat → List Int → Prop} {w : World} (t : CTy) (c : List Value) (h : TyG I w t c) : c.length = 3 := by
  obtain ⟨ka, kc, rfl, _⟩ := h
  rfl
theorem inG_len {I : World → Option Addr → Nat → List Int → Prop} {w : World} (i : CIn) (c : List Value) (h : InG I w i c) : c.length = 4 := by
  obtain ⟨ka, kc, rfl, _⟩ := h
  rfl
theorem pgG_len {I : World → Option Addr → Nat → List Int → Prop} {J : Nat → Nat → Prop} {w : World} {B cut : Nat} (p : CPg) (c : List Value) (h : PgG I J B cut w p c) : c.length = 5 := by
  obtain ⟨v, rfl, _⟩ := h
  rfl
theorem pgG_at {I : World → Option Addr → Nat → List Int → Prop} (hI : IOk I) {J : Nat → Nat → Prop} {w : World} {B cut : Nat} (b o : Nat) (p : CPg) (c : List Value) (h : PgG I J B cut w p c) (hc : ∀ k, k < 5 → w.cell? ⟨b, o + k, none⟩ = c[k]?) : PgAt w w.heap.size b o p := by
  obtain ⟨v, rfl, h1, _⟩ := h
  obtain ⟨a, cap, rfl, hr⟩ := h1.row inG_len (inG_at hI (w := w))
  exact ⟨a, cap, hc 0 (by omega), hc 1 (by omega), hc 2 (by omega), hc 3 (by omega), hc 4 (by omega), hr⟩
/-- a prog more -/
theorem UG.addP {I : World → Option Addr → Nat → List Int → Prop} (hI : IOk I) {J : Nat → Nat → Prop} {w wA w8 : World} {B ub cg gg : Nat} {u : CUn} {pv tv : Value} {pcs : List (List Value)} (h1 : w.heap[ub]? = some (.cells #[pv, tv] 36 (0, 0))) (h2 : OwnL (TyG I) w B 54 3 tv u.types) (h3 : w.ownsRow B 57 5 pv u.progs.length pcs.flatten) (h4 : B ≤ w.heap.size) (h6 : All2 (PgG I J B w.heap.size w) u.progs pcs)
    (hb : Below w.heap.size w wA) {p : CPg} (hp : p.code = []) (hown : w8.ownsRow B 57 5 (.slice (some ⟨gg, 0, none⟩) (u.progs.length + 1) cg) (u.progs.length + 1) (pcs.flatten ++ pgCells p (.slice none 0 0))) (hg : wA.grownBy w8 pv.ownBlock) :
    UG I J (w8.setCell ⟨ub, 0, none⟩ (.slice (some ⟨gg, 0, none⟩) (u.progs.length + 1) cg)) B ub { u with progs := u.progs ++ [p] } := by
  have k1 : Kp (fun _ _ => True) w wA := Kp.of hb
  have o1 : wA.ownsRow B 57 5 pv u.progs.length pcs.flatten := owns_on h3 k1 fun _ _ => trivial
  have k2 := k1.and (Kp.grown o1 hg)
  have e8 : w8.heap[ub]? = some (.cells #[pv, tv] 36 (0, 0)) := (k2.blk ub _ _ _ h1 ⟨trivial, .inl (by decide)⟩).trans h1
  have k3 := Kp.set (i := 0) (v := .slice (some ⟨gg, 0, none⟩) (u.progs.length + 1) cg) e8
  have K := k2.and k3
  have hsz : w.heap.size ≤ (w8.setCell ⟨ub, 0, none⟩ (.slice (some ⟨gg, 0, none⟩) (u.progs.length + 1) cg)).heap.size := K.size
  have hi : ∀ a c ks, I w a c ks → I (w8.setCell ⟨ub, 0, none⟩ (.slice (some ⟨gg, 0, none⟩) (u.progs.length + 1) cg)) a c ks := fun _ _ _ h => hI.on h (K.ki fun _ => ⟨⟨trivial, .inl (by decide)⟩, by decide⟩)
  refine ⟨.slice (some ⟨gg, 0, none⟩) (u.progs.length + 1) cg, tv, pcs ++ [pgCells p (.slice none 0 0)], (w8.setCell ⟨ub, 0, none⟩ (.slice (some ⟨gg, 0, none⟩) (u.progs.length + 1) cg)).heap.size, ?_, ?_, ?_, by omega, Nat.le_refl _, .inr ⟨u.progs, p, pcs, .slice none 0 0, rfl, rfl, ?_, ?_⟩⟩
  · rw [heap_setCell_same w8 ub 0 _ _ _ e8]; rfl
  · exact h2.to (TyG.to hi) K fun _ _ => ⟨⟨trivial, .inl (by decide)⟩, by decide⟩
  · have e1 : (u.progs ++ [p]).length = u.progs.length + 1 := by simp
    have e2 : (pcs ++ [pgCells p (.slice none 0 0)]).flatten = pcs.flatten ++ pgCells p (.slice none 0 0) := by simp
    rw [e2]
    show World.ownsRow _ B 57 5 _ (u.progs ++ [p]).length _
    rw [e1]
    exact owns_on hown k3 fun _ _ => by decide
  · have ha := h6.mono (PgG.to (B := B) (cut := w.heap.size) hi (J' := J) (fun _ _ _ h => h) K fun _ _ => ⟨⟨trivial, .inl (by decide)⟩, by decide⟩)
    refine ha.mono ?_
    rintro a c ⟨v, q1, q2, q3⟩
    exact ⟨v, q1, q2, fun g hg => ⟨Nat.lt_of_lt_of_le (q3 g hg).1 hsz, (q3 g hg).2⟩⟩
  · rw [hp]
    exact OwnL.nil _ _ _ _ _
/-- a type more -/
theorem UG.addT {I I' : World → Option Addr → Nat → List Int → Prop} (hI : IOk I') {J : Nat → Nat → Prop} {w wA w8 : World} {B ub cut cg gg : Nat} {u : CUn} {pv tv : Value} {pcs tcs : List (List Value)} (hup : ∀ a c ks, I w a c ks → I' w a c ks) (h1 : w.heap[ub]? = some (.cells #[pv, tv] 36 (0, 0))) (h2 : All2 (TyG I w) u.types tcs) (h2' : w.ownsRow B 54 3 tv u.types.length tcs.flatten) (h3 : w.ownsRow B 57 5 pv u.progs.length pcs.flatten) (h4 : B ≤ cut) (h5 : cut ≤ w.heap.size) (h6 : LastG I J w B cut u.progs pcs)
    (hb : Below w.heap.size w wA) {t : CTy} {ka : Option Addr} {kc : Nat} (hk : I' wA ka kc t.kids) (hown : w8.ownsRow B 54 3 (.slice (some ⟨gg, 0, none⟩) (u.types.length + 1) cg) (u.types.length + 1) (tcs.flatten ++ tyCells t (.slice ka t.kids.length kc))) (hg : wA.grownBy w8 tv.ownBlock) :
    UG I' J (w8.setCell ⟨ub, 1, none⟩ (.slice (some ⟨gg, 0, none⟩) (u.types.length + 1) cg)) B ub { u with types := u.types ++ [t] } := by
  have k1 : Kp (fun _ _ => True) w wA := Kp.of hb
  have o1 : wA.ownsRow B 54 3 tv u.types.length tcs.flatten := owns_on h2' k1 fun _ _ => trivial
  have kg := Kp.grown o1 hg
  have k2 := k1.and kg
  have e8 : w8.heap[ub]? = some (.cells #[pv, tv] 36 (0, 0)) := (k2.blk ub _ _ _ h1 ⟨trivial, .inl (by decide)⟩).trans h1
  have k3 := Kp.set (i := 1) (v := .slice (some ⟨gg, 0, none⟩) (u.types.length + 1) cg) e8
  have K := k2.and k3
  have hsz : w.heap.size ≤ (w8.setCell ⟨ub, 1, none⟩ (.slice (some ⟨gg, 0, none⟩) (u.types.length + 1) cg)).heap.size := K.size
  have hi : ∀ a c ks, I w a c ks → I' (w8.setCell ⟨ub, 1, none⟩ (.slice (some ⟨gg, 0, none⟩) (u.types.length + 1) cg)) a c ks := fun _ _ _ h => hI.on (hup _ _ _ h) (K.ki fun _ => ⟨⟨trivial, .inl (by decide)⟩, by decide⟩)
  refine ⟨pv, .slice (some ⟨gg, 0, none⟩) (u.types.length + 1) cg, pcs, cut, ?_, ⟨tcs ++ [tyCells t (.slice ka t.kids.length kc)], ?_, ?_⟩, ?_, h4, by omega, ?_⟩
  · rw [heap_setCell_same w8 ub 1 _ _ _ e8]; rfl
  · exact All2.add ⟨ka, kc, rfl, hI.on hk ((kg.and k3).ki fun _ => ⟨.inl (by decide), by decide⟩)⟩ (h2.mono (TyG.to hi))
  · have e1 : (u.types ++ [t]).length = u.types.length + 1 := by simp
    have e2 : (tcs ++ [tyCells t (.slice ka t.kids.length kc)]).flatten = tcs.flatten ++ tyCells t (.slice ka t.kids.length kc) := by simp
    rw [e2]
    show World.ownsRow _ B 54 3 _ (u.types ++ [t]).length _
    rw [e1]
    exact owns_on hown k3 fun _ _ => by decide
  · exact owns_on h3 K fun _ _ => ⟨⟨trivial, .inl (by decide)⟩, by decide⟩
  · exact h6.to hi K fun _ => ⟨⟨trivial, .inl (by decide)⟩, by decide⟩
/-- an instruction more -/
theorem UG.addI {I I' : World → Option Addr → Nat → List Int → Prop} (hI : IOk I') {J : Nat → Nat → Prop} {w wA w8 : World} {B ub cut cg gg : Nat} {qs : List CPg} {p : CPg} {ts : List CTy} {pv tv v : Value} {cs ics : List (List Value)} (hup : ∀ a c ks, I w a c ks → I' w a c ks) (h1 : w.heap[ub]? = some (.cells #[pv, tv] 36 (0, 0))) (h2 : OwnL (TyG I) w B 54 3 tv ts) (h3 : w.ownsRow B 57 5 pv (qs ++ [p]).length (cs ++ [pgCells p v]).flatten) (h4 : B ≤ cut) (h5 : cut ≤ w.heap.size) (h6 : All2 (PgG I J B cut w) qs cs) (h7 : All2 (InG I w) p.code ics) (h8 : w.ownsRow cut 28 4 v p.code.length ics.flatten)
    (hb : Below w.heap.size w wA) {i : CIn} {ka : Option Addr} {kc : Nat} (hk : I' wA ka kc i.list) (hown : w8.ownsRow cut 28 4 (.slice (some ⟨gg, 0, none⟩) (p.code.length + 1) cg) (p.code.length + 1) (ics.flatten ++ inCells i (.slice ka i.list.length kc))) (hg : wA.grownBy w8 v.ownBlock) {g cap : Nat} (hpv : pv = .slice (some ⟨g, 0, none⟩) (qs.length + 1) cap) :
    UG I' J (w8.setCell ⟨g, qs.length * 5 + 4, none⟩ (.slice (some ⟨gg, 0, none⟩) (p.code.length + 1) cg)) B ub ⟨qs ++ [{ p with code := p.code ++ [i] }], ts⟩ := by
  have hl : cs.flatten.length = qs.length * 5 := by rw [flat_len (h6.all pgG_len), h6.len]
  have k1 : Kp (fun _ _ => True) w wA := Kp.of hb
  have o1 : wA.ownsRow cut 28 4 v p.code.length ics.flatten := owns_on h8 k1 fun _ _ => trivial
  have kg := Kp.grown o1 hg
  have k2 := k1.and kg
  have e8 : w8.heap[ub]? = some (.cells #[pv, tv] 36 (0, 0)) := (k2.blk ub _ _ _ h1 ⟨trivial, .inl (by decide)⟩).trans h1
  have o8 := owns_on h3 k2 fun _ _ => ⟨trivial, .inl (by decide)⟩
  have e1 : (qs ++ [p]).length = qs.length + 1 := by simp
  rw [e1] at o8
  rcases o8.2 with ⟨_, hn⟩ | ⟨g', cap', cur, hpv', hB, hgg, q1, q2, q3, q4⟩
  · exact absurd hn (by omega)
  rw [hpv] at hpv'
  injection hpv' with hpa _ hpc
  injection hpa with hpa
  injection hpa with hpa
  subst hpa hpc
  have k3 := Kp.set (i := qs.length * 5 + 4) (v := .slice (some ⟨gg, 0, none⟩) (p.code.length + 1) cg) hgg
  have K := k2.and k3
  have hsz := K.size
  have hi : ∀ a c ks, I w a c ks → I' (w8.setCell ⟨g, qs.length * 5 + 4, none⟩ (.slice (some ⟨gg, 0, none⟩) (p.code.length + 1) cg)) a c ks := fun _ _ _ h => hI.on (hup _ _ _ h) (K.ki fun _ => ⟨⟨trivial, .inl (by decide)⟩, by decide⟩)
  refine ⟨pv, tv, cs ++ [pgCells p (.slice (some ⟨gg, 0, none⟩) (p.code.length + 1) cg)], cut, ?_, ?_, ?_, h4, by omega, .inr ⟨qs, _, cs, .slice (some ⟨gg, 0, none⟩) (p.code.length + 1) cg, rfl, rfl, ?_, ?_⟩⟩
  · exact (k3.blk ub _ _ _ e8 (by decide)).trans e8
  · exact h2.to (TyG.to hi) K fun _ _ => ⟨⟨trivial, .inl (by decide)⟩, by decide⟩
  · have e2 : (qs ++ [{ p with code := p.code ++ [i] }]).length = qs.length + 1 := by simp
    show World.ownsRow _ B 57 5 _ (qs ++ [{ p with code := p.code ++ [i] }]).length _
    rw [e2, hpv]
    have hlen : (cs ++ [pgCells p (.slice (some ⟨gg, 0, none⟩) (p.code.length + 1) cg)]).flatten.length = (qs.length + 1) * 5 := by
      rw [List.flatten_append, List.length_append, hl]
      simp [pgCells]
      omega
    refine ⟨hlen, .inr ⟨g, cap, cur.setIfInBounds (qs.length * 5 + 4) (.slice (some ⟨gg, 0, none⟩) (p.code.length + 1) cg), rfl, hB, ?_, q1, q2, by simpa using q3, ?_⟩⟩
    · rw [heap_setCell_same w8 g (qs.length * 5 + 4) _ _ _ hgg]
    · rw [Array.toList_setIfInBounds, List.take_set, q4, List.flatten_append, List.flatten_append, List.set_append_right _ _ (by omega), hl, show qs.length * 5 + 4 - qs.length * 5 = 4 by omega]
      simp [pgCells]
  · exact h6.mono (PgG.to hi (fun _ _ _ h => h) K fun b hb => ⟨⟨trivial, .inr hb⟩, by decide⟩)
  · refine ⟨ics ++ [inCells i (.slice ka i.list.length kc)], All2.add ⟨ka, kc, rfl, hI.on hk ((kg.and k3).ki fun _ => ⟨.inl (by decide), by decide⟩)⟩ (h7.mono (InG.to hi)), ?_⟩
    have e2 : (p.code ++ [i]).length = p.code.length + 1 := by simp
    have e3 : (ics ++ [inCells i (.slice ka i.list.length kc)]).flatten = ics.flatten ++ inCells i (.slice ka i.list.length kc) := by simp
    rw [e3]
    show World.ownsRow _ cut 28 4 _ (p.code ++ [i]).length _
    rw [e2]
    exact owns_on hown k3 fun _ _ => by decide
end Go.Proofs.YtijdcplffmdijaaDoor
namespace Go.Proofs.YtijdcplffmdijaaDoor
open Go.RowKit
set_option linter.unusedVariables false
set_option linter.unusedSimpArgs false

/-- a unit under way, each list in a row of its own -/
def UV (w : World) (B ub : Nat) (u : CUn) : Prop := ∃ L K : Nat → Nat, UG (IOw L B) (fun g n => K g = n) w B ub u
theorem UV.below {w w' : World} {B ub : Nat} {u : CUn} (h : UV w B ub u) (hb : Below w.heap.size w w') : UV w' B ub u := by
  obtain ⟨L, K, h⟩ := h
  exact ⟨L, K, h.below (ok_IO _ _) hb⟩
theorem UV.new {w : World} {B ub : Nat} (h : w.heap[ub]? = some (.cells #[.slice none 0 0, .slice none 0 0] 36 (0, 0))) (hB : B ≤ w.heap.size) : UV w B ub ⟨[], []⟩ := ⟨fun _ => 0, fun _ => 0, UG.new _ _ h hB⟩
theorem UV.ex {w : World} {B ub : Nat} {u : CUn} (h : UV w B ub u) : ∃ (L K : Nat → Nat) (pv tv : Value) (pcs : List (List Value)) (cut : Nat), w.heap[ub]? = some (.cells #[pv, tv] 36 (0, 0)) ∧ OwnL (TyG (IOw L B)) w B 54 3 tv u.types ∧ w.ownsRow B 57 5 pv u.progs.length pcs.flatten ∧ B ≤ cut ∧ cut ≤ w.heap.size ∧ LastG (IOw L B) (fun g n => K g = n) w B cut u.progs pcs := by
  obtain ⟨L, K, h⟩ := h
  exact ⟨L, K, h.ex⟩
theorem UG.uw {I : World → Option Addr → Nat → List Int → Prop} (hI : IOk I) {J : Nat → Nat → Prop} {w : World} {B ub : Nat} {u : CUn} (h : UG I J w B ub u) : UW w B ub u := by
  obtain ⟨pv, tv, pcs, cut, h1, h2, h3, h4, h5, h6⟩ := h.ex
  have hk : Kp (fun _ _ => True) w w := Kp.of (Below.refl _ _)
  have ht : ∀ t c, TyG I w t c → TyC w t c := fun t c h => by
    obtain ⟨ka, kc, e, hi⟩ := h
    exact ⟨ka, kc, e, hI.ik hi⟩
  have hn : ∀ t c, InG I w t c → InC w t c := fun t c h => by
    obtain ⟨ka, kc, e, hi⟩ := h
    exact ⟨ka, kc, e, hI.ik hi⟩
  refine ⟨pv, tv, pcs, cut, h1, h2.to ht hk (fun _ _ => trivial), h3, h4, h5, ?_⟩
  rcases h6 with h | ⟨qs, p, cs, v, g1, g2, g3, g4⟩
  · exact .inl h
  · refine .inr ⟨qs, p, cs, v, g1, g2, g3.mono ?_, g4.to hn hk (fun _ _ => trivial)⟩
    rintro a c ⟨v, q1, q2, q3⟩
    exact ⟨v, q1, q2.to hn hk (fun _ _ => trivial), fun g hg => (q3 g hg).1⟩
theorem UV.uw {w : World} {B ub : Nat} {u : CUn} (h : UV w B ub u) : UW w B ub u := by
  obtain ⟨L, K, h⟩ := h
  exact h.uw (ok_IO _ _)
theorem io_up {L : Nat → Nat} {B : Nat} {w : World} (n : Nat) (a : Option Addr) (c : Nat) (ks : List Int) (h : IOw L B w a c ks) : IOw (fun g => if g < w.heap.size then L g else n) B w a c ks :=
  ⟨h.1, fun g hg => by
    show (if g < w.heap.size then L g else n) = _
    rw [if_pos (owns_block h.1 hg).2]
    exact h.2 g hg⟩
theorem io_new {L : Nat → Nat} {B : Nat} {w wA : World} {a : Option Addr} {c : Nat} {ks : List Int} (h : IN w.heap.size wA a c ks) (hB : B ≤ w.heap.size) : IOw (fun g => if g < w.heap.size then L g else ks.length) B wA a c ks :=
  ⟨h.mono hB, fun g hg => by
    have := (owns_block h hg).1
    show (if g < w.heap.size then L g else ks.length) = _
    rw [if_neg (by omega)]⟩
theorem UV.addP {L K : Nat → Nat} {w wA w8 : World} {B ub cut cg gg : Nat} {u : CUn} {pv tv : Value} {pcs : List (List Value)} (h1 : w.heap[ub]? = some (.cells #[pv, tv] 36 (0, 0))) (h2 : OwnL (TyG (IOw L B)) w B 54 3 tv u.types) (h3 : w.ownsRow B 57 5 pv u.progs.length pcs.flatten) (h4 : B ≤ cut) (h5 : cut ≤ w.heap.size) (h6 : LastG (IOw L B) (fun g n => K g = n) w B cut u.progs pcs)
    (hb : Below w.heap.size w wA) {p : CPg} (hp : p.code = []) (hown : w8.ownsRow B 57 5 (.slice (some ⟨gg, 0, none⟩) (u.progs.length + 1) cg) (u.progs.length + 1) (pcs.flatten ++ pgCells p (.slice none 0 0))) (hg : wA.grownBy w8 pv.ownBlock) :
    UV (w8.setCell ⟨ub, 0, none⟩ (.slice (some ⟨gg, 0, none⟩) (u.progs.length + 1) cg)) B ub { u with progs := u.progs ++ [p] } := by
  refine ⟨L, fun g => if g < cut then K g else ((u.progs.getLast?.map fun p => p.code.length).getD 0), UG.addP (ok_IO _ _) h1 h2 h3 (by omega) (h6.allJ h4 h5 (fun g n hg h => ?_) fun qs p hq g hg => ?_) hb hp hown hg⟩
  · show (if g < cut then K g else _) = n
    rw [if_pos hg]
    exact h
  · show (if g < cut then K g else _) = p.code.length
    rw [if_neg (by omega), hq]
    simp
theorem UV.addT {L K : Nat → Nat} {w wA w8 : World} {B ub cut cg gg : Nat} {u : CUn} {pv tv : Value} {pcs tcs : List (List Value)} (h1 : w.heap[ub]? = some (.cells #[pv, tv] 36 (0, 0))) (h2 : All2 (TyG (IOw L B) w) u.types tcs) (h2' : w.ownsRow B 54 3 tv u.types.length tcs.flatten) (h3 : w.ownsRow B 57 5 pv u.progs.length pcs.flatten) (h4 : B ≤ cut) (h5 : cut ≤ w.heap.size) (h6 : LastG (IOw L B) (fun g n => K g = n) w B cut u.progs pcs)
    (hb : Below w.heap.size w wA) {t : CTy} {ka : Option Addr} {kc : Nat} (hk : IN w.heap.size wA ka kc t.kids) (hown : w8.ownsRow B 54 3 (.slice (some ⟨gg, 0, none⟩) (u.types.length + 1) cg) (u.types.length + 1) (tcs.flatten ++ tyCells t (.slice ka t.kids.length kc))) (hg : wA.grownBy w8 tv.ownBlock) :
    UV (w8.setCell ⟨ub, 1, none⟩ (.slice (some ⟨gg, 0, none⟩) (u.types.length + 1) cg)) B ub { u with types := u.types ++ [t] } :=
  ⟨_, K, UG.addT (ok_IO _ _) (io_up t.kids.length) h1 h2 h2' h3 h4 h5 h6 hb (io_new hk (by omega)) hown hg⟩
theorem UV.addI {L K : Nat → Nat} {w wA w8 : World} {B ub cut cg gg : Nat} {qs : List CPg} {p : CPg} {ts : List CTy} {pv tv v : Value} {cs ics : List (List Value)} (h1 : w.heap[ub]? = some (.cells #[pv, tv] 36 (0, 0))) (h2 : OwnL (TyG (IOw L B)) w B 54 3 tv ts) (h3 : w.ownsRow B 57 5 pv (qs ++ [p]).length (cs ++ [pgCells p v]).flatten) (h4 : B ≤ cut) (h5 : cut ≤ w.heap.size) (h6 : All2 (PgG (IOw L B) (fun g n => K g = n) B cut w) qs cs) (h7 : All2 (InG (IOw L B) w) p.code ics) (h8 : w.ownsRow cut 28 4 v p.code.length ics.flatten)
    (hb : Below w.heap.size w wA) {i : CIn} {ka : Option Addr} {kc : Nat} (hk : IN w.heap.size wA ka kc i.list) (hown : w8.ownsRow cut 28 4 (.slice (some ⟨gg, 0, none⟩) (p.code.length + 1) cg) (p.code.length + 1) (ics.flatten ++ inCells i (.slice ka i.list.length kc))) (hg : wA.grownBy w8 v.ownBlock) {g cap : Nat} (hpv : pv = .slice (some ⟨g, 0, none⟩) (qs.length + 1) cap) :
    UV (w8.setCell ⟨g, qs.length * 5 + 4, none⟩ (.slice (some ⟨gg, 0, none⟩) (p.code.length + 1) cg)) B ub ⟨qs ++ [{ p with code := p.code ++ [i] }], ts⟩ :=
  ⟨_, K, UG.addI (ok_IO _ _) (io_up i.list.length) h1 h2 h3 h4 h5 h6 h7 h8 hb (io_new hk (by omega)) hown hg hpv⟩
/-- a unit, each list in a row of its own -/
def UO (w : World) (B : Nat) (pv tv : Value) (u : CUn) : Prop := ∃ L K : Nat → Nat, OwnL (TyG (IOw L B)) w B 54 3 tv u.types ∧ OwnL (PgG (IOw L B) (fun g n => K g = n) B w.heap.size) w B 57 5 pv u.progs
theorem UO.nil (w : World) (B : Nat) : UO w B (.slice none 0 0) (.slice none 0 0) ⟨[], []⟩ := ⟨fun _ => 0, fun _ => 0, OwnL.nil _ _ _ _ _, OwnL.nil _ _ _ _ _⟩
theorem UO.below {w w' : World} {B : Nat} {pv tv : Value} {u : CUn} (h : UO w B pv tv u) (hb : Below w.heap.size w w') : UO w' B pv tv u := by
  obtain ⟨L, K, h1, h2⟩ := h
  have hk : Kp (fun _ _ => True) w w' := Kp.of hb
  have hi : ∀ a c ks, IOw L B w a c ks → IOw L B w' a c ks := fun _ _ _ h => (ok_IO L B).on h (KI.of hb)
  refine ⟨L, K, h1.to (TyG.to hi) hk fun _ _ => trivial, h2.to ?_ hk fun _ _ => trivial⟩
  intro p c hp
  obtain ⟨v, e, q1, q2⟩ := PgG.to (J' := fun g n => K g = n) hi (fun _ _ _ h => h) hk (fun _ _ => trivial) p c hp
  exact ⟨v, e, q1, fun g hg => ⟨Nat.lt_of_lt_of_le (q2 g hg).1 hb.size, (q2 g hg).2⟩⟩
theorem UO.slices {w : World} {B : Nat} {pv tv : Value} {u : CUn} (h : UO w B pv tv u) : ∃ pa pc ta tc, pv = .slice pa u.progs.length pc ∧ tv = .slice ta u.types.length tc ∧ UnIn w w.heap.size pa pc ta tc u := by
  obtain ⟨L, K, h1, h2⟩ := h
  obtain ⟨ta, tc, rfl, ht⟩ := h1.row tyG_len (tyG_at (ok_IO L B) (w := w))
  obtain ⟨pa, pc, rfl, hp⟩ := h2.row pgG_len (pgG_at (ok_IO L B) (w := w))
  exact ⟨pa, pc, ta, tc, rfl, rfl, hp, ht⟩
theorem UO.unit {w : World} {B pc tc : Nat} {pa ta : Option Addr} {u : CUn} (h : UO w B (.slice pa u.progs.length pc) (.slice ta u.types.length tc) u) : UnIn w w.heap.size pa pc ta tc u := by
  obtain ⟨pa', pc', ta', tc', e1, e2, h⟩ := h.slices
  injection e1 with e1 _ e3
  injection e2 with e2 _ e4
  subst e1 e2 e3 e4
  exact h
theorem UV.own {w : World} {B ub : Nat} {u : CUn} (h : UV w B ub u) : ∃ pa pc ta tc, w.heap[ub]? = some (.cells #[.slice pa u.progs.length pc, .slice ta u.types.length tc] 36 (0, 0)) ∧ UO w B (.slice pa u.progs.length pc) (.slice ta u.types.length tc) u := by
  obtain ⟨L, K, pv, tv, pcs, cut, h1, h2, h3, h4, h5, h6⟩ := h.ex
  have h : UO w B pv tv u := ⟨L, fun g => if g < cut then K g else ((u.progs.getLast?.map fun p => p.code.length).getD 0), h2, pcs, h6.allJ h4 h5 (fun g n hg h => by show (if g < cut then K g else _) = n; rw [if_pos hg]; exact h) (fun qs p hq g hg => by show (if g < cut then K g else _) = p.code.length; rw [if_neg (by omega), hq]; simp), h3⟩
  obtain ⟨pa, pc, ta, tc, rfl, rfl, _⟩ := h.slices
  exact ⟨pa, pc, ta, tc, h1, h⟩
theorem UV.setR {w : World} {B ub rb i : Nat} {u : CUn} {C : Array Value} {v : Value} (h : UV w B ub u) (hr : w.heap[rb]? = some (.cells C 36 (0, 0))) (hne : ub ≠ rb) : UV (w.setCell ⟨rb, i, none⟩ v) B ub u := by
  obtain ⟨L, K, pv, tv, pcs, cut, h1, h2, h3, h4, h5, h6⟩ := h.ex
  have hk := Kp.set (i := i) (v := v) hr
  have hi : ∀ a c ks, IOw L B w a c ks → IOw L B (w.setCell ⟨rb, i, none⟩ v) a c ks := fun _ _ _ h => (ok_IO L B).on h (hk.ki fun _ => by decide)
  exact ⟨L, K, pv, tv, pcs, cut, (Below.heap_setCell w ⟨rb, i, none⟩ v ub hne).trans h1, h2.to (TyG.to hi) hk fun _ _ => by decide, owns_on h3 hk fun _ _ => by decide, h4, Nat.le_trans h5 hk.size, h6.to hi hk fun _ => by decide⟩
set_option maxRecDepth 100000 in
set_option maxHeartbeats 1000000 in
/-- what stands behind so many numbers -/
theorem behind_own (w : World) (a : Option Addr) (cap : Nat) (ks : List Int) (hi : IntsV w w.heap.size a cap ks) (m : Nat) (hm : m ≤ ks.length) (hl : ks.length ≤ 17592186044416) :
    Calls Tryd.prog 75 #[.slice a ks.length cap, .int .i64 m] w fun e w' => ∃ a' cap', e = .returned (.slice a' ((ks.drop m).length) cap') ∧ Bx (IN w.heap.size w' a' cap' (ks.drop m) ∧ Below w.heap.size w w') := by
  obtain ⟨n, hn⟩ : ∃ n, ks.length = n := ⟨_, rfl⟩
  by_cases he : m = n
  · have hd : ks.drop m = [] := List.drop_eq_nil_of_le (by omega)
    rw [hd, hn]
    have hb : ((n : Int) == (m : Int)) = true := by simp; omega
    subst he
    clear hi
    go_enter Tryd.func75, Tryd.ntmps75
    go_wp2
    go_ret
    exact ⟨none, 0, rfl, ⟨IN.nil _ _, Below.refl _ _⟩⟩
  · obtain ⟨b, o, rfl, hbl, hc⟩ := hi.at_ (by omega)
    have hcap := hi.cap
    rw [hn] at hm hcap
    have hlen : (ks.drop m).length = n - m := by rw [List.length_drop, hn]
    have HCL : Calls Tryd.prog 86 #[.slice (some ⟨b, o + m, none⟩) (n - m) (cap - m)] w fun e w' => ∃ a' cap', e = .returned (.slice a' (n - m) cap') ∧ Bx (IN w.heap.size w' a' cap' (ks.drop m) ∧ Below w.heap.size w w') := by
      have := Tryd.slices_Clone_int b (o + m) (n - m) (cap - m) (ks.drop m) w (by omega) (by omega) (fun j hj => by
        have hj' : m + j < ks.length := by rw [hlen] at hj; omega
        rw [show o + m + j = o + (m + j) by omega, hc (m + j) hj', List.getD_eq_getElem?_getD, List.getElem?_eq_getElem hj]
        simp)
      refine Calls.mono this ?_
      rintro e w' ⟨v', rfl, ho, _, hb⟩
      rw [List.take_of_length_le (by omega), ← hlen] at ho
      obtain ⟨a', cap', rfl, hk⟩ := IK.of_own ho
      exact ⟨a', cap', by rw [hlen], ⟨ho, hb⟩⟩
    rw [hlen, hn]
    have hb : ((n : Int) == (m : Int)) = false := by simp; omega
    have f1 : (0 : Int) ≤ ↑m := by omega
    have f2 : (↑m : Int) ≤ ↑n := by omega
    have f3 : m ≤ n := hm
    have f4 : n ≤ cap := hcap
    clear hi hc hl
    go_enter Tryd.func75, Tryd.ntmps75
    go_wp2_with (first
      | (go_at_call 86; refine HCL.mono ?_; rintro e w1 ⟨a', cap', rfl, HX⟩))
    go_ret
    exact ⟨a', cap', rfl, HX⟩
end Go.Proofs.YtijdcplffmdijaaDoor
