import Derived.Below
import Derived.RangeFuncRecord
namespace Go.Proofs.Ytikijkpklneihaa
open Go.RowKit
set_option linter.unusedVariables false
set_option linter.unusedSimpArgs false

def I64 (x : Int) : Prop := -9223372036854775808 ≤ x ∧ x ≤ 9223372036854775807

/-- a value, as a tree -/
inductive V where
  | mk (k n : Int) (l : List V)
def V.k : V → Int | .mk k _ _ => k
def V.n : V → Int | .mk _ n _ => n
def V.l : V → List V | .mk _ _ l => l
theorem V.eta (v : V) : V.mk v.k v.n v.l = v := by cases v; rfl
theorem V.ext {a b : V} (h1 : a.k = b.k) (h2 : a.n = b.n) (h3 : a.l = b.l) : a = b := by
  rw [← a.eta, ← b.eta, h1, h2, h3]
def v0 : V := .mk 0 0 []

mutual
def V.sz : V → Nat
  | .mk _ _ l => 1 + szs l
def szs : List V → Nat
  | [] => 0
  | v :: vs => V.sz v + szs vs
end
theorem V.sz_eq (v : V) : v.sz = 1 + szs v.l := by cases v; simp [V.sz, V.l]
theorem V.sz_pos (v : V) : 1 ≤ v.sz := by rw [V.sz_eq]; omega
theorem szs_len (l : List V) : l.length ≤ szs l := by
  induction l with
  | nil => simp [szs]
  | cons v vs ih => have := v.sz_pos; simp [szs]; omega
theorem szs_mem {l : List V} {v : V} (h : v ∈ l) : v.sz ≤ szs l := by
  induction l with
  | nil => cases h
  | cons x xs ih =>
    rcases List.mem_cons.1 h with rfl | h
    · simp [szs]
    · have := ih h; simp [szs]; omega
theorem szs_append (a b : List V) : szs (a ++ b) = szs a + szs b := by
  induction a with
  | nil => simp [szs]
  | cons x xs ih => simp [szs, ih]; omega

/-- something that holds of a value and of all in it -/
theorem V.ind {P : V → Prop} (h : ∀ k n l, (∀ x ∈ l, P x) → P (.mk k n l)) (v : V) : P v := by
  have key : ∀ m : Nat, ∀ v : V, v.sz ≤ m → P v := by
    intro m
    induction m with
    | zero => intro v hv; have := v.sz_pos; omega
    | succ m ih =>
      intro v hv
      cases v with
      | mk k n l =>
        refine h k n l (fun x hx => ih x ?_)
        have := szs_mem hx
        simp [V.sz] at hv
        omega
  exact key v.sz v (Nat.le_refl _)

mutual
/-- a value in memory, in three cells -/
def AtV (w : World) (B b off : Nat) : V → Prop
  | .mk k n l => w.cell? ⟨b, off, none⟩ = some (.int .i64 k) ∧ w.cell? ⟨b, off + 1, none⟩ = some (.int .i64 n) ∧ I64 k ∧ I64 n ∧
      ∃ p cap, w.cell? ⟨b, off + 2, none⟩ = some (.slice p l.length cap) ∧ l.length ≤ cap ∧ cap ≤ maxLen ∧ (l = [] ∨ ∃ b' o', p = some ⟨b', o', none⟩ ∧ b' < B ∧ AtVs w B b' o' l)
def AtVs (w : World) (B b off : Nat) : List V → Prop
  | [] => True
  | v :: vs => AtV w B b off v ∧ AtVs w B b (off + 3) vs
end

/-- a slice of values -/
def SlV (w : World) (B : Nat) (p : Option Addr) (cap : Nat) (l : List V) : Prop :=
  l.length ≤ cap ∧ cap ≤ maxLen ∧ (l = [] ∨ ∃ b' o', p = some ⟨b', o', none⟩ ∧ b' < B ∧ AtVs w B b' o' l)
/-- a value on the stack -/
structure IsV (w : World) (B : Nat) (v : Value) (x : V) : Prop where
  ex : ∃ p cap, v = .agg #[.int .i64 x.k, .int .i64 x.n, .slice p x.l.length cap] ∧ SlV w B p cap x.l
  k64 : I64 x.k
  n64 : I64 x.n
structure InV (w : World) (B b off : Nat) (x : V) : Prop where
  c0 : w.cell? ⟨b, off, none⟩ = some (.int .i64 x.k)
  c1 : w.cell? ⟨b, off + 1, none⟩ = some (.int .i64 x.n)
  k64 : I64 x.k
  n64 : I64 x.n
  c2 : ∃ p cap, w.cell? ⟨b, off + 2, none⟩ = some (.slice p x.l.length cap) ∧ SlV w B p cap x.l
theorem atV_iff {w : World} {B b off : Nat} {x : V} : AtV w B b off x ↔ InV w B b off x := by
  cases x with
  | mk k n l =>
    simp only [AtV]
    constructor
    · rintro ⟨h0, h1, h2, h3, p, cap, h4, h5⟩
      exact ⟨h0, h1, h2, h3, p, cap, h4, h5⟩
    · rintro ⟨h0, h1, h2, h3, p, cap, h4, h5⟩
      exact ⟨h0, h1, h2, h3, p, cap, h4, h5⟩
theorem AtVs.get {w : World} {B b : Nat} {l : List V} : ∀ {off : Nat}, AtVs w B b off l → ∀ i (h : i < l.length), InV w B b (off + 3 * i) l[i] := by
  induction l with
  | nil => intro off _ i h; simp at h
  | cons v vs ih =>
    intro off h i hi
    simp only [AtVs] at h
    cases i with
    | zero => simpa using atV_iff.1 h.1
    | succ i =>
      have := ih h.2 i (by simpa using hi)
      have e : off + 3 + 3 * i = off + 3 * (i + 1) := by omega
      rw [e] at this
      simpa using this
theorem AtVs.of_get {w : World} {B b : Nat} {l : List V} : ∀ {off : Nat}, (∀ i (h : i < l.length), InV w B b (off + 3 * i) l[i]) → AtVs w B b off l := by
  induction l with
  | nil => intro off _; simp [AtVs]
  | cons v vs ih =>
    intro off h
    simp only [AtVs]
    refine ⟨atV_iff.2 (by have h0 := h 0 (by simp); rw [List.getElem_cons_zero] at h0; simpa using h0), ih (fun i hi => ?_)⟩
    have := h (i + 1) (by simpa using hi)
    have e : off + 3 + 3 * i = off + 3 * (i + 1) := by omega
    rw [e]
    simpa using this

/-- what lies below a block's number -/
structure Lo (B : Nat) (w w' : World) : Prop where
  cell : ∀ b o, b < B → w'.cell? ⟨b, o, none⟩ = w.cell? ⟨b, o, none⟩
theorem Lo.of {B : Nat} {w w' : World} (h : Below B w w') : Lo B w w' := ⟨fun b o hb => h.cell (p := ⟨b, o, none⟩) hb⟩
theorem Lo.blocks {B : Nat} {w w' : World} (h : ∀ b, b < B → w'.heap[b]? = w.heap[b]?) : Lo B w w' := ⟨fun b o hb => by simp [World.cell?, h b hb]⟩
theorem InV.lo {w w' : World} {B : Nat} (hB : Lo B w w') : ∀ x : V, ∀ {b off : Nat}, InV w B b off x → b < B → InV w' B b off x := by
  intro x
  induction x using V.ind with
  | h k n l ih =>
    intro b off h hb
    obtain ⟨h0, h1, h2, h3, p, cap, h4, h5, h6, h7⟩ := h
    refine ⟨by rw [hB.cell _ _ hb]; exact h0, by rw [hB.cell _ _ hb]; exact h1, h2, h3, p, cap, by rw [hB.cell _ _ hb]; exact h4, h5, h6, ?_⟩
    rcases h7 with h7 | ⟨b', o', h8, h9, h10⟩
    · exact .inl h7
    · exact .inr ⟨b', o', h8, h9, AtVs.of_get (fun i hi => ih _ (List.getElem_mem hi) (h10.get i hi) h9)⟩
theorem AtVs.lo {w w' : World} {B b off : Nat} {l : List V} (hB : Lo B w w') (h : AtVs w B b off l) (hb : b < B) : AtVs w' B b off l :=
  AtVs.of_get (fun i hi => (h.get i hi).lo hB _ hb)
theorem SlV.lo {w w' : World} {B : Nat} {p : Option Addr} {cap : Nat} {l : List V} (hB : Lo B w w') (h : SlV w B p cap l) : SlV w' B p cap l := by
  obtain ⟨h5, h6, h7⟩ := h
  refine ⟨h5, h6, ?_⟩
  rcases h7 with h7 | ⟨b', o', h8, h9, h10⟩
  · exact .inl h7
  · exact .inr ⟨b', o', h8, h9, h10.lo hB h9⟩
theorem IsV.lo {w w' : World} {B : Nat} {v : Value} {x : V} (hB : Lo B w w') (h : IsV w B v x) : IsV w' B v x := by
  obtain ⟨⟨p, cap, h1, h2⟩, h3, h4⟩ := h
  exact ⟨⟨p, cap, h1, h2.lo hB⟩, h3, h4⟩
/-- .. and with a higher number -/
theorem InV.up {w : World} {B B' : Nat} (hB : B ≤ B') : ∀ x : V, ∀ {b off : Nat}, InV w B b off x → InV w B' b off x := by
  intro x
  induction x using V.ind with
  | h k n l ih =>
    intro b off h
    obtain ⟨h0, h1, h2, h3, p, cap, h4, h5, h6, h7⟩ := h
    refine ⟨h0, h1, h2, h3, p, cap, h4, h5, h6, ?_⟩
    rcases h7 with h7 | ⟨b', o', h8, h9, h10⟩
    · exact .inl h7
    · exact .inr ⟨b', o', h8, by omega, AtVs.of_get (fun i hi => ih _ (List.getElem_mem hi) (h10.get i hi))⟩
theorem AtVs.up {w : World} {B B' b off : Nat} {l : List V} (hB : B ≤ B') (h : AtVs w B b off l) : AtVs w B' b off l :=
  AtVs.of_get (fun i hi => (h.get i hi).up hB)
theorem SlV.up {w : World} {B B' : Nat} {p : Option Addr} {cap : Nat} {l : List V} (hB : B ≤ B') (h : SlV w B p cap l) : SlV w B' p cap l := by
  obtain ⟨h5, h6, h7⟩ := h
  refine ⟨h5, h6, ?_⟩
  rcases h7 with h7 | ⟨b', o', h8, h9, h10⟩
  · exact .inl h7
  · exact .inr ⟨b', o', h8, by omega, h10.up hB⟩
theorem IsV.up {w : World} {B B' : Nat} {v : Value} {x : V} (hB : B ≤ B') (h : IsV w B v x) : IsV w B' v x := by
  obtain ⟨⟨p, cap, h1, h2⟩, h3, h4⟩ := h
  exact ⟨⟨p, cap, h1, h2.up hB⟩, h3, h4⟩
/-- the i-th of a slice -/
theorem SlV.get {w : World} {B : Nat} {p : Option Addr} {cap : Nat} {l : List V} (h : SlV w B p cap l) (i : Nat) (hi : i < l.length) : ∃ b o, p = some ⟨b, o, none⟩ ∧ b < B ∧ InV w B b (o + 3 * i) l[i] := by
  rcases h.2.2 with h7 | ⟨b', o', h8, h9, h10⟩
  · subst h7; simp at hi
  · exact ⟨b', o', h8, h9, h10.get i hi⟩
/-- .. its copy on the stack -/
theorem InV.isV {w : World} {B b off : Nat} {x : V} (h : InV w B b off x) : ∃ p cap, w.cell? ⟨b, off + 2, none⟩ = some (.slice p x.l.length cap) ∧ IsV w B (.agg #[.int .i64 x.k, .int .i64 x.n, .slice p x.l.length cap]) x ∧ SlV w B p cap x.l := by
  obtain ⟨p, cap, h1, h2⟩ := h.c2
  exact ⟨p, cap, h1, ⟨⟨p, cap, rfl, h2⟩, h.k64, h.n64⟩, h2⟩

/-- the order in which values are handed out: what is left, by a list of lists, the last one first -/
def outs : Nat → List (List V) → List V
  | 0, _ => []
  | f + 1, st => match st.getLast? with
    | none => []
    | some l => l ++ outs f (st.dropLast ++ (l.filter (fun v => 0 < v.l.length)).map V.l)

def stz : List (List V) → Nat
  | [] => 0
  | l :: ls => szs l + stz ls
theorem stz_append (a b : List (List V)) : stz (a ++ b) = stz a + stz b := by
  induction a with
  | nil => simp [stz]
  | cons x xs ih => simp [stz, ih]; omega
theorem szs_kids (l : List V) : szs l = l.length + stz ((l.filter (fun v => 0 < v.l.length)).map V.l) := by
  induction l with
  | nil => simp [szs, stz]
  | cons v vs ih =>
    rw [szs, V.sz_eq, ih]
    by_cases h : 0 < v.l.length
    · simp [h, stz]; omega
    · have e : v.l = [] := by cases hv : v.l with | nil => rfl | cons a b => simp [hv] at h
      simp [e, szs]; omega
end Go.Proofs.Ytikijkpklneihaa
