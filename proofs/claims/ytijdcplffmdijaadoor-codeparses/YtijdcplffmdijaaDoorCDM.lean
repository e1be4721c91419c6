import Derived.Test.YtijdcplffmdijaaDoorCDJ
namespace Go.Proofs.YtijdcplffmdijaaDoor
open Go.RowKit
set_option linter.unusedVariables false
set_option linter.unusedSimpArgs false

/-- a row of things in memory, each of s cells, below a block's number -/
structure Row {α : Type} (E : Nat → Nat → α → Prop) (B s : Nat) (a : Option Addr) (cap : Nat) (l : List α) : Prop where
  cap : l.length ≤ cap
  max : l.length ≤ maxLen
  at_ : 0 < l.length → ∃ b o, a = some ⟨b, o, none⟩ ∧ b < B ∧ ∀ j (h : j < l.length), E b (o + j * s) l[j]
theorem Row.mono {α : Type} {E E' : Nat → Nat → α → Prop} {B s cap : Nat} {a : Option Addr} {l : List α} (h : Row E B s a cap l) (he : ∀ b o x, b < B → E b o x → E' b o x) : Row E' B s a cap l := by
  refine ⟨h.cap, h.max, fun h0 => ?_⟩
  obtain ⟨b, o, e, hb, hj⟩ := h.at_ h0
  exact ⟨b, o, e, hb, fun j h => he b _ _ hb (hj j h)⟩
theorem Row.nil {α : Type} (E : Nat → Nat → α → Prop) (B s : Nat) (a : Option Addr) (cap : Nat) : Row E B s a cap [] := ⟨Nat.zero_le _, Nat.zero_le _, fun h => absurd h (by simp)⟩
structure TyAt (w : World) (B b o : Nat) (t : CTy) : Prop where
  ex : ∃ ka kc, w.cell? ⟨b, o, none⟩ = some (.int .i64 t.kind) ∧ w.cell? ⟨b, o + 1, none⟩ = some (.slice ka t.kids.length kc) ∧ w.cell? ⟨b, o + 2, none⟩ = some (.bool t.res) ∧ IntsV w B ka kc t.kids
structure InAt (w : World) (B b o : Nat) (i : CIn) : Prop where
  ex : ∃ ka kc, w.cell? ⟨b, o, none⟩ = some (.int .i64 i.op) ∧ w.cell? ⟨b, o + 1, none⟩ = some (.int .i64 i.a) ∧ w.cell? ⟨b, o + 2, none⟩ = some (.int .i64 i.b) ∧ w.cell? ⟨b, o + 3, none⟩ = some (.slice ka i.list.length kc) ∧ IntsV w B ka kc i.list
structure PgAt (w : World) (B b o : Nat) (p : CPg) : Prop where
  ex : ∃ ca cc, w.cell? ⟨b, o, none⟩ = some (.int .i64 p.params) ∧ w.cell? ⟨b, o + 1, none⟩ = some (.int .i64 p.slots) ∧ w.cell? ⟨b, o + 2, none⟩ = some (.int .i64 p.caps) ∧ w.cell? ⟨b, o + 3, none⟩ = some (.bool p.res) ∧ w.cell? ⟨b, o + 4, none⟩ = some (.slice ca p.code.length cc) ∧ Row (InAt w B) B 4 ca cc p.code
theorem IntsV.up2 {w : World} {B B' cap : Nat} {a : Option Addr} {ks : List Int} (h : IntsV w B a cap ks) (hb : B ≤ B') : IntsV w B' a cap ks := h.up hb
theorem TyAt.below {w w' : World} {B B' b o : Nat} {t : CTy} (h : TyAt w B b o t) (hb : Below B w w') (hB : B ≤ B') (hlt : b < B) : TyAt w' B' b o t := by
  obtain ⟨ka, kc, h0, h1, h2, h3⟩ := h.ex
  have hc : ∀ i, w'.cell? ⟨b, i, none⟩ = w.cell? ⟨b, i, none⟩ := fun i => hb.cell (p := ⟨b, i, none⟩) hlt
  exact ⟨ka, kc, by rw [hc]; exact h0, by rw [hc]; exact h1, by rw [hc]; exact h2, (h3.below hb).up hB⟩
theorem InAt.below {w w' : World} {B B' b o : Nat} {i : CIn} (h : InAt w B b o i) (hb : Below B w w') (hB : B ≤ B') (hlt : b < B) : InAt w' B' b o i := by
  obtain ⟨ka, kc, h0, h1, h2, h3, h4⟩ := h.ex
  have hc : ∀ i, w'.cell? ⟨b, i, none⟩ = w.cell? ⟨b, i, none⟩ := fun i => hb.cell (p := ⟨b, i, none⟩) hlt
  exact ⟨ka, kc, by rw [hc]; exact h0, by rw [hc]; exact h1, by rw [hc]; exact h2, by rw [hc]; exact h3, (h4.below hb).up hB⟩
theorem Row.up {α : Type} {E : Nat → Nat → α → Prop} {B B' s cap : Nat} {a : Option Addr} {l : List α} (h : Row E B s a cap l) (hB : B ≤ B') : Row E B' s a cap l := by
  refine ⟨h.cap, h.max, fun h0 => ?_⟩
  obtain ⟨b, o, e, hb, hj⟩ := h.at_ h0
  exact ⟨b, o, e, by omega, hj⟩
theorem PgAt.below {w w' : World} {B B' b o : Nat} {p : CPg} (h : PgAt w B b o p) (hb : Below B w w') (hB : B ≤ B') (hlt : b < B) : PgAt w' B' b o p := by
  obtain ⟨ka, kc, h0, h1, h2, h3, h4, h5⟩ := h.ex
  have hc : ∀ i, w'.cell? ⟨b, i, none⟩ = w.cell? ⟨b, i, none⟩ := fun i => hb.cell (p := ⟨b, i, none⟩) hlt
  exact ⟨ka, kc, by rw [hc]; exact h0, by rw [hc]; exact h1, by rw [hc]; exact h2, by rw [hc]; exact h3, by rw [hc]; exact h4, (h5.mono fun b o x hx he => he.below hb hB hx).up hB⟩
/-- a unit in memory -/
structure UnIn (w : World) (B : Nat) (pa : Option Addr) (pc : Nat) (ta : Option Addr) (tc : Nat) (u : CUn) : Prop where
  progs : Row (PgAt w B) B 5 pa pc u.progs
  types : Row (TyAt w B) B 3 ta tc u.types
theorem UnIn.below {w w' : World} {B B' pc tc : Nat} {pa ta : Option Addr} {u : CUn} (h : UnIn w B pa pc ta tc u) (hb : Below B w w') (hB : B ≤ B') : UnIn w' B' pa pc ta tc u :=
  ⟨(h.progs.mono fun b o x hx he => he.below hb hB hx).up hB, (h.types.mono fun b o x hx he => he.below hb hB hx).up hB⟩
abbrev unV (u : CUn) (pa : Option Addr) (pc : Nat) (ta : Option Addr) (tc : Nat) : Value := .agg #[.slice pa u.progs.length pc, .slice ta u.types.length tc]

/-! what it costs -/
def sumF {α : Type} (f : α → Nat) : List α → Nat
  | [] => 0
  | x :: r => f x + sumF f r
theorem sumF_take {α : Type} (f : α → Nat) : ∀ (l : List α) (k : Nat) (h : k < l.length), sumF f (l.take k) + f l[k] ≤ sumF f l
  | x :: r, 0, h => by simp [sumF]
  | x :: r, k + 1, h => by
    have := sumF_take f r k (by simpa using h)
    simp only [List.take_succ_cons, sumF, List.getElem_cons_succ]
    omega
theorem flat_le {α : Type} (f : α → Nat) (g : α → List UInt8) : ∀ (l : List α), (∀ x ∈ l, (g x).length ≤ f x) → (l.flatMap g).length ≤ sumF f l
  | [], _ => by simp [sumF]
  | x :: r, h => by
    have h1 := flat_le f g r fun y hy => h y (List.mem_cons_of_mem _ hy)
    have h2 := h x List.mem_cons_self
    rw [List.flatMap_cons, List.length_append, sumF]
    omega
theorem flat_take {α : Type} (g : α → List UInt8) (l : List α) (k : Nat) (h : k < l.length) : (l.take (k + 1)).flatMap g = (l.take k).flatMap g ++ g l[k] := by
  rw [List.take_succ_eq_append_getElem h, List.flatMap_append]
  simp
def tyC (t : CTy) : Nat := 50 + 21 * t.kids.length
def inC (i : CIn) : Nat := 60 + 21 * i.list.length
def pgC (p : CPg) : Nat := 100 + sumF inC p.code
def unC (u : CUn) : Nat := sumF tyC u.types + sumF pgC u.progs
theorem name_len (op : Int) : (nameI op).length ≤ 5 := by
  have key : ∀ k, k < 28 → (shapesT.getD k noShape).1.length ≤ 5 := by decide
  unfold nameI shapeI
  split
  · decide
  · exact key _ (by omega)
theorem type_len {t : CTy} (h : t.Wf) : (typeT t).length ≤ tyC t := by
  have := nums_le (ks := t.kind :: bitI t.res :: t.kids) fun k hk => by
    rcases List.mem_cons.1 hk with rfl | hk
    · exact h.kind
    · rcases List.mem_cons.1 hk with rfl | hk
      · cases t.res <;> (unfold I64 bitI; decide)
      · exact h.kids k hk
  unfold typeT tyC
  simp only [List.length_append, List.length_cons, List.length_nil] at this ⊢
  have e : typeW.length = 4 := rfl
  omega
theorem numsI_wf {i : CIn} (h : i.Wf) : ∀ k ∈ numsI i, I64 k := by
  intro k hk
  unfold numsI at hk
  rw [List.mem_append, List.mem_append] at hk
  rcases hk with (hk | hk) | hk
  · split at hk
    · rw [List.mem_singleton] at hk; subst hk; exact h.a
    · cases hk
  · split at hk
    · rw [List.mem_singleton] at hk; subst hk; exact h.b
    · cases hk
  · exact h.list k hk
theorem ins_len {i : CIn} (h : i.Wf) : (insT i).length ≤ inC i := by
  have := nums_le (numsI_wf h)
  have e : (numsI i).length ≤ 2 + i.list.length := by
    unfold numsI
    rw [List.length_append, List.length_append]
    split <;> split <;> simp <;> omega
  have := name_len i.op
  unfold insT inC
  simp only [List.length_append, List.length_cons, List.length_nil]
  omega
theorem head_len {p : CPg} (h : p.Wf) : (headT p).length ≤ 100 := by
  have := nums_le (ks := [p.params, p.slots, p.caps, bitI p.res]) fun k hk => by
    simp only [List.mem_cons, List.not_mem_nil, or_false] at hk
    rcases hk with rfl | rfl | rfl | rfl
    · exact h.params
    · exact h.slots
    · exact h.caps
    · cases p.res <;> (unfold I64 bitI; decide)
  unfold headT
  simp only [List.length_append, List.length_cons, List.length_nil] at this ⊢
  have e : progW.length = 4 := rfl
  omega
theorem prog_len {p : CPg} (h : p.Wf) : (progT p).length ≤ pgC p := by
  have h1 := head_len h
  have h2 := flat_le inC insT p.code fun i hi => ins_len (h.code i hi)
  unfold progT pgC
  rw [List.length_append]
  omega
theorem KU.drew {B : Nat} {a b : World} (h : KU B a b) : KU B a b.drew := ⟨h.bel.drew, h.oth.drew⟩
theorem BO.drew {w : World} {B : Nat} {v : Value} {bs : List UInt8} (h : BO w B v bs) : BO w.drew B v bs := h
theorem bit64 (b : Bool) : I64 (bitI b) := by cases b <;> (unfold I64 bitI; decide)
end Go.Proofs.YtijdcplffmdijaaDoor
