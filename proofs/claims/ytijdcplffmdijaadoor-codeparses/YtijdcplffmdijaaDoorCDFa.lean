import Derived.Test.YtijdcplffmdijaaDoorCDEa
import Derived.Test.YtijdcplffmdijaaDoorCDW
namespace Go.Proofs.YtijdcplffmdijaaDoor
open Go.RowKit
set_option linter.unusedVariables false
set_option linter.unusedSimpArgs false

/-- blocks that P picks stay -/
structure Kp (P : Nat → TypeId → Prop) (w w' : World) : Prop where
  size : w.heap.size ≤ w'.heap.size
  blk : ∀ (b : Nat) (c : Array Value) (t : TypeId) (fz : Nat × Nat), w.heap[b]? = some (Obj.cells c t fz) → P b t → w'.heap[b]? = w.heap[b]?
theorem Kp.trans {P : Nat → TypeId → Prop} {a b c : World} (h : Kp P a b) (g : Kp P b c) : Kp P a c :=
  ⟨Nat.le_trans h.size g.size, fun x cs t fz hx hp => (g.blk x cs t fz ((h.blk x cs t fz hx hp).trans hx) hp).trans (h.blk x cs t fz hx hp)⟩
theorem Kp.mono {P Q : Nat → TypeId → Prop} {w w' : World} (h : Kp P w w') (hq : ∀ b t, Q b t → P b t) : Kp Q w w' :=
  ⟨h.size, fun b c t fz hx hp => h.blk b c t fz hx (hq b t hp)⟩
theorem Kp.of {P : Nat → TypeId → Prop} {w w' : World} (h : Below w.heap.size w w') : Kp P w w' :=
  ⟨h.size, fun b c t fz hb _ => h.block b (Array.getElem?_eq_some_iff.1 hb).1⟩
theorem Kp.set {w : World} {b i : Nat} {v : Value} {C : Array Value} {t : TypeId} (h : w.heap[b]? = some (.cells C t (0, 0))) : Kp (fun _ u => u ≠ t) w (w.setCell ⟨b, i, none⟩ v) :=
  ⟨by simp, fun x c u fz hx hu => Below.heap_setCell w ⟨b, i, none⟩ v x (fun e => by
    have e' : x = b := e
    subst e'
    rw [h] at hx
    injection hx with hx
    injection hx with _ hx _
    exact hu hx.symm)⟩
theorem Kp.grown {w w' : World} {B s n : Nat} {e : TypeId} {v : Value} {xs : List Value} (h : w.ownsRow B e s v n xs) (hg : w.grownBy w' v.ownBlock) : Kp (fun x u => u ≠ e ∨ x < B) w w' := by
  refine ⟨hg.size, fun x c u fz hx hu => hg.block x (Array.getElem?_eq_some_iff.1 hx).1 fun he => ?_⟩
  rcases h.2 with ⟨rfl, _⟩ | ⟨g, cap, cur, rfl, hB, hgg, rest⟩
  · cases he
  · simp only [Value.ownBlock, Option.some.injEq] at he
    subst he
    rw [hgg] at hx
    injection hx with hx
    injection hx with _ hx _
    rcases hu with hu | hu
    · exact hu hx.symm
    · omega
theorem IK.onp {P : Nat → TypeId → Prop} {w w' : World} {a : Option Addr} {cap : Nat} {ks : List Int} (h : IK w a cap ks) (hk : Kp P w w') (hp : ∀ b, P b 3) : IK w' a cap ks :=
  h.on ⟨hk.size, fun b c fz hb => hk.blk b c _ fz hb (hp b)⟩
theorem owns_on {P : Nat → TypeId → Prop} {w w' : World} {B s n : Nat} {e : TypeId} {v : Value} {xs : List Value} (h : w.ownsRow B e s v n xs) (hk : Kp P w w') (hp : ∀ g, v.ownBlock = some g → P g e) : w'.ownsRow B e s v n xs := by
  refine ⟨h.1, ?_⟩
  rcases h.2 with hn | ⟨g, cap, cur, rfl, hB, hgg, rest⟩
  · exact .inl hn
  · exact .inr ⟨g, cap, cur, rfl, hB, (hk.blk g cur e _ hgg (hp g rfl)).trans hgg, rest⟩
theorem owns_low {w : World} {B B' s n : Nat} {e : TypeId} {v : Value} {xs : List Value} (h : w.ownsRow B e s v n xs) (hb : B' ≤ B) : w.ownsRow B' e s v n xs := by
  refine ⟨h.1, ?_⟩
  rcases h.2 with hn | ⟨g, cap, cur, rfl, hB, rest⟩
  · exact .inl hn
  · exact .inr ⟨g, cap, cur, rfl, by omega, rest⟩

/-! lists of cells -/
def All2 {α : Type} (R : α → List Value → Prop) : List α → List (List Value) → Prop
  | [], [] => True
  | a :: l, c :: cs => R a c ∧ All2 R l cs
  | [], _ :: _ => False
  | _ :: _, [] => False
theorem All2.mono {α : Type} {R S : α → List Value → Prop} (h : ∀ a c, R a c → S a c) : ∀ {l : List α} {cs : List (List Value)}, All2 R l cs → All2 S l cs
  | [], [], _ => trivial
  | _ :: _, _ :: _, hr => ⟨h _ _ hr.1, All2.mono h hr.2⟩
theorem All2.add {α : Type} {R : α → List Value → Prop} {a : α} {c : List Value} (ha : R a c) : ∀ {l : List α} {cs : List (List Value)}, All2 R l cs → All2 R (l ++ [a]) (cs ++ [c])
  | [], [], _ => ⟨ha, trivial⟩
  | _ :: _, _ :: _, hr => ⟨hr.1, All2.add ha hr.2⟩
theorem All2.len {α : Type} {R : α → List Value → Prop} : ∀ {l : List α} {cs : List (List Value)}, All2 R l cs → cs.length = l.length
  | [], [], _ => rfl
  | _ :: _, _ :: _, hr => by simp [All2.len hr.2]
theorem All2.get {α : Type} {R : α → List Value → Prop} : ∀ {l : List α} {cs : List (List Value)}, All2 R l cs → ∀ j (h : j < l.length), ∃ c, cs[j]? = some c ∧ R l[j] c
  | _ :: _, _ :: _, hr, 0, _ => ⟨_, rfl, hr.1⟩
  | _ :: l, _ :: cs, hr, j + 1, h => by
    obtain ⟨c, h1, h2⟩ := All2.get hr.2 j (by simpa using h)
    exact ⟨c, by simpa using h1, by simpa using h2⟩
theorem All2.all {α : Type} {R : α → List Value → Prop} {s : Nat} (h : ∀ a c, R a c → c.length = s) : ∀ {l : List α} {cs : List (List Value)}, All2 R l cs → ∀ c ∈ cs, c.length = s
  | [], [], _, c, hc => by cases hc
  | _ :: _, _ :: _, hr, c, hc => by
    rcases List.mem_cons.1 hc with rfl | hc
    · exact h _ _ hr.1
    · exact All2.all h hr.2 c hc
theorem flat_get {s : Nat} : ∀ {cs : List (List Value)} (h : ∀ c ∈ cs, c.length = s) (j : Nat) (c : List Value), cs[j]? = some c → ∀ i, i < s → cs.flatten[j * s + i]? = c[i]?
  | [], _, j, c, hc, _, _ => by simp at hc
  | d :: ds, h, 0, c, hc, i, hi => by
    have hd := h d List.mem_cons_self
    simp only [List.getElem?_cons_zero, Option.some.injEq] at hc
    subst hc
    rw [List.flatten_cons, Nat.zero_mul, Nat.zero_add, List.getElem?_append_left (by omega)]
  | d :: ds, h, j + 1, c, hc, i, hi => by
    have hd := h d List.mem_cons_self
    rw [List.getElem?_cons_succ] at hc
    rw [List.flatten_cons, List.getElem?_append_right (by rw [Nat.succ_mul]; omega), show (j + 1) * s + i - d.length = j * s + i by rw [Nat.succ_mul]; omega]
    exact flat_get (fun c hc => h c (List.mem_cons_of_mem _ hc)) j c hc i hi
theorem flat_len {s : Nat} : ∀ {cs : List (List Value)} (h : ∀ c ∈ cs, c.length = s), cs.flatten.length = cs.length * s
  | [], _ => by simp
  | d :: ds, h => by
    rw [List.flatten_cons, List.length_append, flat_len fun c hc => h c (List.mem_cons_of_mem _ hc), h d List.mem_cons_self, List.length_cons, Nat.succ_mul]
    omega

/-- a list in a row of one's own -/
structure OwnL {α : Type} (R : World → α → List Value → Prop) (w : World) (B : Nat) (e : TypeId) (s : Nat) (v : Value) (l : List α) : Prop where
  ex : ∃ cs, All2 (R w) l cs ∧ w.ownsRow B e s v l.length cs.flatten
theorem OwnL.on {α : Type} {R : World → α → List Value → Prop} {P : Nat → TypeId → Prop} {w w' : World} {B s : Nat} {e : TypeId} {v : Value} {l : List α} (h : OwnL R w B e s v l) (hR : ∀ a c, R w a c → R w' a c) (hk : Kp P w w') (hp : ∀ g, v.ownBlock = some g → P g e) : OwnL R w' B e s v l := by
  obtain ⟨cs, h1, h2⟩ := h.ex
  exact ⟨cs, h1.mono hR, owns_on h2 hk hp⟩
theorem OwnL.low {α : Type} {R : World → α → List Value → Prop} {w : World} {B B' s : Nat} {e : TypeId} {v : Value} {l : List α} (h : OwnL R w B e s v l) (hb : B' ≤ B) : OwnL R w B' e s v l := by
  obtain ⟨cs, h1, h2⟩ := h.ex
  exact ⟨cs, h1, owns_low h2 hb⟩
theorem OwnL.nil {α : Type} (R : World → α → List Value → Prop) (w : World) (B s : Nat) (e : TypeId) : OwnL R w B e s (.slice none 0 0) [] := ⟨[], trivial, World.ownsRow_nil _ _ _ _⟩
theorem OwnL.blk {α : Type} {R : World → α → List Value → Prop} {w : World} {B s : Nat} {e : TypeId} {v : Value} {l : List α} (h : OwnL R w B e s v l) : ∀ g, v.ownBlock = some g → g < w.heap.size := by
  obtain ⟨cs, h1, h2⟩ := h.ex
  exact fun g hg => (owns_block h2 hg).2
theorem OwnL.row {α : Type} {R : World → α → List Value → Prop} {w : World} {B s : Nat} {e : TypeId} {v : Value} {l : List α} (h : OwnL R w B e s v l) (hs : ∀ a c, R w a c → c.length = s) {E : Nat → Nat → α → Prop} (hE : ∀ b o a c, R w a c → (∀ i, i < s → w.cell? ⟨b, o + i, none⟩ = c[i]?) → E b o a) : ∃ a cap, v = .slice a l.length cap ∧ Row E w.heap.size s a cap l := by
  obtain ⟨cs, h1, h2⟩ := h.ex
  rcases h2.2 with ⟨rfl, hn⟩ | ⟨g, cap, cur, rfl, hB, hg, q1, q2, q3, q4⟩
  · have : l = [] := List.eq_nil_of_length_eq_zero hn
    subst this
    exact ⟨none, 0, rfl, Row.nil _ _ _ _ _⟩
  · refine ⟨_, _, rfl, ⟨q1, by omega, fun _ => ⟨g, 0, rfl, (Array.getElem?_eq_some_iff.1 hg).1, fun j hj => ?_⟩⟩⟩
    obtain ⟨c, hc, hr⟩ := h1.get j hj
    refine hE _ _ _ c hr fun i hi => ?_
    have hf := flat_get (h1.all hs) j c hc i hi
    rw [Nat.zero_add, World.cell?]
    simp only [hg]
    have e := congrArg (fun z : List Value => z[j * s + i]?) q4
    have hlt : j * s + i < l.length * s := by
      have : (j + 1) * s ≤ l.length * s := Nat.mul_le_mul_right _ hj
      rw [Nat.succ_mul] at this
      omega
    rw [List.getElem?_take_of_lt hlt, Array.getElem?_toList, hf] at e
    exact e

/-! a unit under way -/
def tyCells (t : CTy) (v : Value) : List Value := [.int .i64 t.kind, v, .bool t.res]
def inCells (i : CIn) (v : Value) : List Value := [.int .i64 i.op, .int .i64 i.a, .int .i64 i.b, v]
def pgCells (p : CPg) (v : Value) : List Value := [.int .i64 p.params, .int .i64 p.slots, .int .i64 p.caps, .bool p.res, v]
def TyC (w : World) (t : CTy) (c : List Value) : Prop := ∃ ka kc, c = tyCells t (.slice ka t.kids.length kc) ∧ IK w ka kc t.kids
def InC (w : World) (i : CIn) (c : List Value) : Prop := ∃ ka kc, c = inCells i (.slice ka i.list.length kc) ∧ IK w ka kc i.list
def PgC (B cut : Nat) (w : World) (p : CPg) (c : List Value) : Prop := ∃ v, c = pgCells p v ∧ OwnL InC w B 28 4 v p.code ∧ ∀ g, v.ownBlock = some g → g < cut
theorem TyC.on {P : Nat → TypeId → Prop} {w w' : World} (hk : Kp P w w') (hp : ∀ b, P b 3) (t : CTy) (c : List Value) (h : TyC w t c) : TyC w' t c := by
  obtain ⟨ka, kc, h1, h2⟩ := h
  exact ⟨ka, kc, h1, h2.onp hk hp⟩
theorem InC.on {P : Nat → TypeId → Prop} {w w' : World} (hk : Kp P w w') (hp : ∀ b, P b 3) (i : CIn) (c : List Value) (h : InC w i c) : InC w' i c := by
  obtain ⟨ka, kc, h1, h2⟩ := h
  exact ⟨ka, kc, h1, h2.onp hk hp⟩
theorem PgC.on {P : Nat → TypeId → Prop} {w w' : World} {B cut : Nat} (hk : Kp P w w') (hp : ∀ b, P b 3) (hi : ∀ b, b < cut → P b 28) (p : CPg) (c : List Value) (h : PgC B cut w p c) : PgC B cut w' p c := by
  obtain ⟨v, h1, h2, h3⟩ := h
  exact ⟨v, h1, h2.on (InC.on hk hp) hk fun g hg => hi g (h3 g hg), h3⟩
/-- the progs: the last one's code lies from cut on, all others' below -/
def LastOk (w : World) (B cut : Nat) (ps : List CPg) (pcs : List (List Value)) : Prop :=
  (ps = [] ∧ pcs = []) ∨ ∃ qs p cs v, ps = qs ++ [p] ∧ pcs = cs ++ [pgCells p v] ∧ All2 (PgC B cut w) qs cs ∧ OwnL InC w cut 28 4 v p.code
theorem LastOk.on {P : Nat → TypeId → Prop} {w w' : World} {B cut : Nat} {ps : List CPg} {pcs : List (List Value)} (h : LastOk w B cut ps pcs) (hk : Kp P w w') (hp : ∀ b, P b 3) (hi : ∀ b, P b 28) : LastOk w' B cut ps pcs := by
  rcases h with h | ⟨qs, p, cs, v, h1, h2, h3, h4⟩
  · exact .inl h
  · exact .inr ⟨qs, p, cs, v, h1, h2, h3.mono (PgC.on hk hp fun b _ => hi b), h4.on (InC.on hk hp) hk fun g _ => hi g⟩
theorem LastOk.all {w : World} {B cut : Nat} {ps : List CPg} {pcs : List (List Value)} (h : LastOk w B cut ps pcs) (hc : B ≤ cut) (hs : cut ≤ w.heap.size) : All2 (PgC B w.heap.size w) ps pcs := by
  rcases h with ⟨rfl, rfl⟩ | ⟨qs, p, cs, v, rfl, rfl, h3, h4⟩
  · exact trivial
  · refine All2.add ⟨v, rfl, h4.low hc, h4.blk⟩ (h3.mono ?_)
    rintro a c ⟨v, h1, h2, h3⟩
    exact ⟨v, h1, h2, fun g hg => Nat.lt_of_lt_of_le (h3 g hg) hs⟩
/-- a unit under way, in block ub: all of it from B on -/
structure UW (w : World) (B ub : Nat) (u : CUn) : Prop where
  ex : ∃ pv tv pcs cut, w.heap[ub]? = some (.cells #[pv, tv] 36 (0, 0)) ∧ OwnL TyC w B 54 3 tv u.types ∧ w.ownsRow B 57 5 pv u.progs.length pcs.flatten ∧ B ≤ cut ∧ cut ≤ w.heap.size ∧ LastOk w B cut u.progs pcs
theorem UW.below {w w' : World} {B ub : Nat} {u : CUn} (h : UW w B ub u) (hb : Below w.heap.size w w') : UW w' B ub u := by
  obtain ⟨pv, tv, pcs, cut, h1, h2, h3, h4, h5, h6⟩ := h.ex
  have hk : Kp (fun _ _ => True) w w' := Kp.of hb
  exact ⟨pv, tv, pcs, cut, below_heap hb h1, h2.on (TyC.on hk fun _ => trivial) hk fun _ _ => trivial, owns_on h3 hk fun _ _ => trivial, h4, Nat.le_trans h5 hb.size, h6.on hk (fun _ => trivial) fun _ => trivial⟩
theorem UW.new {w : World} {B ub : Nat} (h : w.heap[ub]? = some (.cells #[.slice none 0 0, .slice none 0 0] 36 (0, 0))) (hB : B ≤ w.heap.size) : UW w B ub ⟨[], []⟩ :=
  ⟨_, _, [], B, h, OwnL.nil _ _ _ _ _, World.ownsRow_nil _ _ _ _, Nat.le_refl _, hB, .inl ⟨rfl, rfl⟩⟩
theorem tyAt_of {w : World} (b o : Nat) (t : CTy) (c : List Value) (h : TyC w t c) (hc : ∀ i, i < 3 → w.cell? ⟨b, o + i, none⟩ = c[i]?) : TyAt w w.heap.size b o t := by
  obtain ⟨ka, kc, rfl, hi⟩ := h
  exact ⟨ka, kc, hc 0 (by omega), hc 1 (by omega), hc 2 (by omega), hi.ints⟩
theorem inAt_of {w : World} (b o : Nat) (i : CIn) (c : List Value) (h : InC w i c) (hc : ∀ k, k < 4 → w.cell? ⟨b, o + k, none⟩ = c[k]?) : InAt w w.heap.size b o i := by
  obtain ⟨ka, kc, rfl, hi⟩ := h
  exact ⟨ka, kc, hc 0 (by omega), hc 1 (by omega), hc 2 (by omega), hc 3 (by omega), hi.ints⟩
theorem tyC_len {w : World} (t : CTy) (c : List Value) (h : TyC w t c) : c.length = 3 := by
  obtain ⟨ka, kc, rfl, _⟩ := h
  rfl
theorem inC_len {w : World} (i : CIn) (c : List Value) (h : InC w i c) : c.length = 4 := by
  obtain ⟨ka, kc, rfl, _⟩ := h
  rfl
theorem pgC_len {w : World} {B cut : Nat} (p : CPg) (c : List Value) (h : PgC B cut w p c) : c.length = 5 := by
  obtain ⟨v, rfl, _⟩ := h
  rfl
theorem pgAt_of {w : World} {B cut : Nat} (b o : Nat) (p : CPg) (c : List Value) (h : PgC B cut w p c) (hc : ∀ k, k < 5 → w.cell? ⟨b, o + k, none⟩ = c[k]?) : PgAt w w.heap.size b o p := by
  obtain ⟨v, rfl, h1, _⟩ := h
  obtain ⟨a, cap, rfl, hr⟩ := h1.row inC_len (inAt_of (w := w))
  exact ⟨a, cap, hc 0 (by omega), hc 1 (by omega), hc 2 (by omega), hc 3 (by omega), hc 4 (by omega), hr⟩
/-- at its end it is a unit -/
theorem UW.unit {w : World} {B ub : Nat} {u : CUn} (h : UW w B ub u) : ∃ pa pc ta tc, w.heap[ub]? = some (.cells #[.slice pa u.progs.length pc, .slice ta u.types.length tc] 36 (0, 0)) ∧ UnIn w w.heap.size pa pc ta tc u := by
  obtain ⟨pv, tv, pcs, cut, h1, h2, h3, h4, h5, h6⟩ := h.ex
  obtain ⟨ta, tc, rfl, ht⟩ := h2.row tyC_len (tyAt_of (w := w))
  have hp : OwnL (PgC B w.heap.size) w B 57 5 pv u.progs := ⟨pcs, h6.all h4 h5, h3⟩
  obtain ⟨pa, pc, rfl, hq⟩ := hp.row pgC_len (pgAt_of (w := w))
  exact ⟨pa, pc, ta, tc, h1, hq, ht⟩
end Go.Proofs.YtijdcplffmdijaaDoor
namespace Go.Proofs.YtijdcplffmdijaaDoor
open Go.RowKit
set_option linter.unusedVariables false
set_option linter.unusedSimpArgs false

theorem Kp.and {P Q : Nat → TypeId → Prop} {a b c : World} (h : Kp P a b) (g : Kp Q b c) : Kp (fun x t => P x t ∧ Q x t) a c :=
  (h.mono fun _ _ h => h.1).trans (g.mono fun _ _ h => h.2)
/-- a prog more -/
theorem UW.addP {w wA w8 : World} {B ub cut cg gg : Nat} {u : CUn} {pv tv : Value} {pcs : List (List Value)} (h1 : w.heap[ub]? = some (.cells #[pv, tv] 36 (0, 0))) (h2 : OwnL TyC w B 54 3 tv u.types) (h3 : w.ownsRow B 57 5 pv u.progs.length pcs.flatten) (h4 : B ≤ cut) (h5 : cut ≤ w.heap.size) (h6 : LastOk w B cut u.progs pcs)
    (hb : Below w.heap.size w wA) {p : CPg} (hp : p.code = []) (hown : w8.ownsRow B 57 5 (.slice (some ⟨gg, 0, none⟩) (u.progs.length + 1) cg) (u.progs.length + 1) (pcs.flatten ++ pgCells p (.slice none 0 0))) (hg : wA.grownBy w8 pv.ownBlock) :
    UW (w8.setCell ⟨ub, 0, none⟩ (.slice (some ⟨gg, 0, none⟩) (u.progs.length + 1) cg)) B ub { u with progs := u.progs ++ [p] } := by
  have k1 : Kp (fun _ _ => True) w wA := Kp.of hb
  have o1 : wA.ownsRow B 57 5 pv u.progs.length pcs.flatten := owns_on h3 k1 fun _ _ => trivial
  have k2 := k1.and (Kp.grown o1 hg)
  have e8 : w8.heap[ub]? = some (.cells #[pv, tv] 36 (0, 0)) := (k2.blk ub _ _ _ h1 ⟨trivial, .inl (by decide)⟩).trans h1
  have k3 := Kp.set (i := 0) (v := .slice (some ⟨gg, 0, none⟩) (u.progs.length + 1) cg) e8
  have K := k2.and k3
  have hsz : w.heap.size ≤ (w8.setCell ⟨ub, 0, none⟩ (.slice (some ⟨gg, 0, none⟩) (u.progs.length + 1) cg)).heap.size := K.size
  refine ⟨.slice (some ⟨gg, 0, none⟩) (u.progs.length + 1) cg, tv, pcs ++ [pgCells p (.slice none 0 0)], (w8.setCell ⟨ub, 0, none⟩ (.slice (some ⟨gg, 0, none⟩) (u.progs.length + 1) cg)).heap.size, ?_, ?_, ?_, by omega, Nat.le_refl _, .inr ⟨u.progs, p, pcs, .slice none 0 0, rfl, rfl, ?_, ?_⟩⟩
  · rw [heap_setCell_same w8 ub 0 _ _ _ e8]; rfl
  · exact h2.on (TyC.on K fun _ => ⟨⟨trivial, .inl (by decide)⟩, by decide⟩) K fun _ _ => ⟨⟨trivial, .inl (by decide)⟩, by decide⟩
  · have e1 : (u.progs ++ [p]).length = u.progs.length + 1 := by simp
    have e2 : (pcs ++ [pgCells p (.slice none 0 0)]).flatten = pcs.flatten ++ pgCells p (.slice none 0 0) := by simp
    rw [e2]
    show World.ownsRow _ B 57 5 _ (u.progs ++ [p]).length _
    rw [e1]
    exact owns_on hown k3 fun _ _ => by decide
  · have ha := (h6.all h4 h5).mono (PgC.on (B := B) (cut := w.heap.size) K (fun _ => ⟨⟨trivial, .inl (by decide)⟩, by decide⟩) fun _ _ => ⟨⟨trivial, .inl (by decide)⟩, by decide⟩)
    refine ha.mono ?_
    rintro a c ⟨v, q1, q2, q3⟩
    exact ⟨v, q1, q2, fun g hg => Nat.lt_of_lt_of_le (q3 g hg) hsz⟩
  · rw [hp]
    exact OwnL.nil _ _ _ _ _
/-- a type more -/
theorem UW.addT {w wA w8 : World} {B ub cut cg gg : Nat} {u : CUn} {pv tv : Value} {pcs tcs : List (List Value)} (h1 : w.heap[ub]? = some (.cells #[pv, tv] 36 (0, 0))) (h2 : All2 (TyC w) u.types tcs) (h2' : w.ownsRow B 54 3 tv u.types.length tcs.flatten) (h3 : w.ownsRow B 57 5 pv u.progs.length pcs.flatten) (h4 : B ≤ cut) (h5 : cut ≤ w.heap.size) (h6 : LastOk w B cut u.progs pcs)
    (hb : Below w.heap.size w wA) {t : CTy} {ka : Option Addr} {kc : Nat} (hk : IK wA ka kc t.kids) (hown : w8.ownsRow B 54 3 (.slice (some ⟨gg, 0, none⟩) (u.types.length + 1) cg) (u.types.length + 1) (tcs.flatten ++ tyCells t (.slice ka t.kids.length kc))) (hg : wA.grownBy w8 tv.ownBlock) :
    UW (w8.setCell ⟨ub, 1, none⟩ (.slice (some ⟨gg, 0, none⟩) (u.types.length + 1) cg)) B ub { u with types := u.types ++ [t] } := by
  have k1 : Kp (fun _ _ => True) w wA := Kp.of hb
  have o1 : wA.ownsRow B 54 3 tv u.types.length tcs.flatten := owns_on h2' k1 fun _ _ => trivial
  have kg := Kp.grown o1 hg
  have k2 := k1.and kg
  have e8 : w8.heap[ub]? = some (.cells #[pv, tv] 36 (0, 0)) := (k2.blk ub _ _ _ h1 ⟨trivial, .inl (by decide)⟩).trans h1
  have k3 := Kp.set (i := 1) (v := .slice (some ⟨gg, 0, none⟩) (u.types.length + 1) cg) e8
  have K := k2.and k3
  have hsz : w.heap.size ≤ (w8.setCell ⟨ub, 1, none⟩ (.slice (some ⟨gg, 0, none⟩) (u.types.length + 1) cg)).heap.size := K.size
  refine ⟨pv, .slice (some ⟨gg, 0, none⟩) (u.types.length + 1) cg, pcs, cut, ?_, ⟨tcs ++ [tyCells t (.slice ka t.kids.length kc)], ?_, ?_⟩, ?_, h4, by omega, ?_⟩
  · rw [heap_setCell_same w8 ub 1 _ _ _ e8]; rfl
  · refine All2.add ⟨ka, kc, rfl, hk.onp (kg.and k3) fun _ => ⟨.inl (by decide), by decide⟩⟩ (h2.mono ?_)
    exact TyC.on K fun _ => ⟨⟨trivial, .inl (by decide)⟩, by decide⟩
  · have e1 : (u.types ++ [t]).length = u.types.length + 1 := by simp
    have e2 : (tcs ++ [tyCells t (.slice ka t.kids.length kc)]).flatten = tcs.flatten ++ tyCells t (.slice ka t.kids.length kc) := by simp
    rw [e2]
    show World.ownsRow _ B 54 3 _ (u.types ++ [t]).length _
    rw [e1]
    exact owns_on hown k3 fun _ _ => by decide
  · exact owns_on h3 K fun _ _ => ⟨⟨trivial, .inl (by decide)⟩, by decide⟩
  · exact h6.on K (fun _ => ⟨⟨trivial, .inl (by decide)⟩, by decide⟩) fun _ => ⟨⟨trivial, .inl (by decide)⟩, by decide⟩
/-- the last prog's code, in memory -/
theorem last_code {w : World} {B : Nat} {pv v : Value} {qs : List CPg} {p : CPg} {cs : List (List Value)} (hl : cs.flatten.length = qs.length * 5) (h3 : w.ownsRow B 57 5 pv (qs ++ [p]).length (cs ++ [pgCells p v]).flatten) :
    ∃ g cap cur, pv = .slice (some ⟨g, 0, none⟩) (qs.length + 1) cap ∧ B ≤ g ∧ w.heap[g]? = some (.cells cur 57 (0, 0)) ∧ qs.length + 1 ≤ cap ∧ cur[qs.length * 5 + 4]? = some v := by
  have e1 : (qs ++ [p]).length = qs.length + 1 := by simp
  rw [e1] at h3
  rcases h3.2 with ⟨_, hn⟩ | ⟨g, cap, cur, rfl, hB, hgg, q1, q2, q3, q4⟩
  · exact absurd hn (by omega)
  · refine ⟨g, cap, cur, rfl, hB, hgg, q1, ?_⟩
    have e := congrArg (fun z : List Value => z[qs.length * 5 + 4]?) q4
    rw [List.getElem?_take_of_lt (by omega), Array.getElem?_toList] at e
    rw [e, List.flatten_append, List.getElem?_append_right (by omega), hl, show qs.length * 5 + 4 - qs.length * 5 = 4 by omega]
    simp [pgCells]
/-- an instruction more -/
theorem UW.addI {w wA w8 : World} {B ub cut cg gg : Nat} {qs : List CPg} {p : CPg} {ts : List CTy} {pv tv v : Value} {cs ics : List (List Value)} (h1 : w.heap[ub]? = some (.cells #[pv, tv] 36 (0, 0))) (h2 : OwnL TyC w B 54 3 tv ts) (h3 : w.ownsRow B 57 5 pv (qs ++ [p]).length (cs ++ [pgCells p v]).flatten) (h4 : B ≤ cut) (h5 : cut ≤ w.heap.size) (h6 : All2 (PgC B cut w) qs cs) (h7 : All2 (InC w) p.code ics) (h8 : w.ownsRow cut 28 4 v p.code.length ics.flatten)
    (hb : Below w.heap.size w wA) {i : CIn} {ka : Option Addr} {kc : Nat} (hk : IK wA ka kc i.list) (hown : w8.ownsRow cut 28 4 (.slice (some ⟨gg, 0, none⟩) (p.code.length + 1) cg) (p.code.length + 1) (ics.flatten ++ inCells i (.slice ka i.list.length kc))) (hg : wA.grownBy w8 v.ownBlock) {g cap : Nat} (hpv : pv = .slice (some ⟨g, 0, none⟩) (qs.length + 1) cap) :
    UW (w8.setCell ⟨g, qs.length * 5 + 4, none⟩ (.slice (some ⟨gg, 0, none⟩) (p.code.length + 1) cg)) B ub ⟨qs ++ [{ p with code := p.code ++ [i] }], ts⟩ := by
  have hl : cs.flatten.length = qs.length * 5 := by rw [flat_len (h6.all pgC_len), h6.len]
  have k1 : Kp (fun _ _ => True) w wA := Kp.of hb
  have o1 : wA.ownsRow cut 28 4 v p.code.length ics.flatten := owns_on h8 k1 fun _ _ => trivial
  have kg := Kp.grown o1 hg
  have k2 := k1.and kg
  have e8 : w8.heap[ub]? = some (.cells #[pv, tv] 36 (0, 0)) := (k2.blk ub _ _ _ h1 ⟨trivial, .inl (by decide)⟩).trans h1
  have o8 := owns_on h3 k2 fun _ _ => ⟨trivial, .inl (by decide)⟩
  have e1 : (qs ++ [p]).length = qs.length + 1 := by simp
  rw [e1] at o8
  rcases o8.2 with ⟨_, hn⟩ | ⟨g', cap', cur, hpv', hB, hgg, q1, q2, q3, q4⟩
  · exact absurd hn (by omega)
  rw [hpv] at hpv'
  injection hpv' with hpa _ hpc
  injection hpa with hpa
  injection hpa with hpa
  subst hpa hpc
  have k3 := Kp.set (i := qs.length * 5 + 4) (v := .slice (some ⟨gg, 0, none⟩) (p.code.length + 1) cg) hgg
  have K := k2.and k3
  have hsz := K.size
  refine ⟨pv, tv, cs ++ [pgCells p (.slice (some ⟨gg, 0, none⟩) (p.code.length + 1) cg)], cut, ?_, ?_, ?_, h4, by omega, .inr ⟨qs, _, cs, .slice (some ⟨gg, 0, none⟩) (p.code.length + 1) cg, rfl, rfl, ?_, ?_⟩⟩
  · exact (k3.blk ub _ _ _ e8 (by decide)).trans e8
  · exact h2.on (TyC.on K fun _ => ⟨⟨trivial, .inl (by decide)⟩, by decide⟩) K fun _ _ => ⟨⟨trivial, .inl (by decide)⟩, by decide⟩
  · have e2 : (qs ++ [{ p with code := p.code ++ [i] }]).length = qs.length + 1 := by simp
    show World.ownsRow _ B 57 5 _ (qs ++ [{ p with code := p.code ++ [i] }]).length _
    rw [e2, hpv]
    have hlen : (cs ++ [pgCells p (.slice (some ⟨gg, 0, none⟩) (p.code.length + 1) cg)]).flatten.length = (qs.length + 1) * 5 := by
      rw [List.flatten_append, List.length_append, hl]
      simp [pgCells]
      omega
    refine ⟨hlen, .inr ⟨g, cap, cur.setIfInBounds (qs.length * 5 + 4) (.slice (some ⟨gg, 0, none⟩) (p.code.length + 1) cg), rfl, hB, ?_, q1, q2, by simpa using q3, ?_⟩⟩
    · rw [heap_setCell_same w8 g (qs.length * 5 + 4) _ _ _ hgg]
    · rw [Array.toList_setIfInBounds, List.take_set, q4, List.flatten_append, List.flatten_append, List.set_append_right _ _ (by omega), hl, show qs.length * 5 + 4 - qs.length * 5 = 4 by omega]
      simp [pgCells]
  · exact h6.mono (PgC.on K (fun _ => ⟨⟨trivial, .inl (by decide)⟩, by decide⟩) fun b hb => ⟨⟨trivial, .inr hb⟩, by decide⟩)
  · refine ⟨ics ++ [inCells i (.slice ka i.list.length kc)], All2.add ⟨ka, kc, rfl, hk.onp (kg.and k3) fun _ => ⟨.inl (by decide), by decide⟩⟩ (h7.mono (InC.on K fun _ => ⟨⟨trivial, .inl (by decide)⟩, by decide⟩)), ?_⟩
    have e2 : (p.code ++ [i]).length = p.code.length + 1 := by simp
    have e3 : (ics ++ [inCells i (.slice ka i.list.length kc)]).flatten = ics.flatten ++ inCells i (.slice ka i.list.length kc) := by simp
    rw [e3]
    show World.ownsRow _ cut 28 4 _ (p.code ++ [i]).length _
    rw [e2]
    exact owns_on hown k3 fun _ _ => by decide
end Go.Proofs.YtijdcplffmdijaaDoor
