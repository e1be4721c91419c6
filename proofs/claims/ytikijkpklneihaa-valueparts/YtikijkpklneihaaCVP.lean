import Derived.Below
import Derived.RangeFuncRecord
import Derived.Test.YtikijkpklneihaaChecked
import Derived.WalkKit
import Derived.WalkSpells
import Derived.WalkLawsBesides
import Derived.Deep.QuietTactic
import Derived.Deep.LoopGhost
import Derived.Laws.AppendOwn
import Derived.WalkMore
import Derived.Deep.AppendLies
import Derived.RangeFuncNested
import Derived.RangeFuncLeaves
import Derived.OwnWalkIn
import Derived.RangeFuncBound
import Derived.RangeFuncCalls
import Derived.Shelf.Abstract
import Derived.Shelf.RegionOpen
import Derived.TacticsInMore
import Derived.LoopNIn
import Derived.LoopIn
import Derived.Sort.LoopGhostIn
import Derived.Lib.SlicesCompact
import Derived.Lib.RowBridge
import Derived.Shelf.Small.Bits
import Derived.Shelf.Strconv.Itoa0
import Derived.Shelf.Sort.Plain
import Derived.Ground.Names2Prog
import Derived.Shelf.Slices.CompactI
import Derived.Shelf.Slices.SearchI
import Derived.Shelf.Slices.In.SortNone
import Derived.Test.YtikijkpklneihaaProg
import Derived.Lib.OwnBridge
import Derived.Sort.OwnSortedInts
import Derived.Sort.Grow
namespace Go.Proofs.Ytikijkpklneihaa
open Go.RowKit
set_option linter.unusedVariables false
set_option linter.unusedSimpArgs false

def I64 (x : Int) : Prop := -9223372036854775808 ≤ x ∧ x ≤ 9223372036854775807

/-- a value, as a tree -/
inductive V where
  | mk (k n : Int) (l : List V)
def V.k : V → Int | .mk k _ _ => k
def V.n : V → Int | .mk _ n _ => n
def V.l : V → List V | .mk _ _ l => l
theorem V.eta (v : V) : V.mk v.k v.n v.l = v := by cases v; rfl
theorem V.ext {a b : V} (h1 : a.k = b.k) (h2 : a.n = b.n) (h3 : a.l = b.l) : a = b := by
  rw [← a.eta, ← b.eta, h1, h2, h3]
def v0 : V := .mk 0 0 []

mutual
def V.sz : V → Nat
  | .mk _ _ l => 1 + szs l
def szs : List V → Nat
  | [] => 0
  | v :: vs => V.sz v + szs vs
end
theorem V.sz_eq (v : V) : v.sz = 1 + szs v.l := by cases v; simp [V.sz, V.l]
theorem V.sz_pos (v : V) : 1 ≤ v.sz := by rw [V.sz_eq]; omega
theorem szs_len (l : List V) : l.length ≤ szs l := by
  induction l with
  | nil => simp [szs]
  | cons v vs ih => have := v.sz_pos; simp [szs]; omega
theorem szs_mem {l : List V} {v : V} (h : v ∈ l) : v.sz ≤ szs l := by
  induction l with
  | nil => cases h
  | cons x xs ih =>
    rcases List.mem_cons.1 h with rfl | h
    · simp [szs]
    · have := ih h; simp [szs]; omega
theorem szs_append (a b : List V) : szs (a ++ b) = szs a + szs b := by
  induction a with
  | nil => simp [szs]
  | cons x xs ih => simp [szs, ih]; omega

/-- something that holds of a value and of all in it -/
theorem V.ind {P : V → Prop} (h : ∀ k n l, (∀ x ∈ l, P x) → P (.mk k n l)) (v : V) : P v := by
  have key : ∀ m : Nat, ∀ v : V, v.sz ≤ m → P v := by
    intro m
    induction m with
    | zero => intro v hv; have := v.sz_pos; omega
    | succ m ih =>
      intro v hv
      cases v with
      | mk k n l =>
        refine h k n l (fun x hx => ih x ?_)
        have := szs_mem hx
        simp [V.sz] at hv
        omega
  exact key v.sz v (Nat.le_refl _)

mutual
/-- a value in memory, in three cells -/
def AtV (w : World) (B b off : Nat) : V → Prop
  | .mk k n l => w.cell? ⟨b, off, none⟩ = some (.int .i64 k) ∧ w.cell? ⟨b, off + 1, none⟩ = some (.int .i64 n) ∧ I64 k ∧ I64 n ∧
      ∃ p cap, w.cell? ⟨b, off + 2, none⟩ = some (.slice p l.length cap) ∧ l.length ≤ cap ∧ cap ≤ maxLen ∧ (l = [] ∨ ∃ b' o', p = some ⟨b', o', none⟩ ∧ b' < B ∧ AtVs w B b' o' l)
def AtVs (w : World) (B b off : Nat) : List V → Prop
  | [] => True
  | v :: vs => AtV w B b off v ∧ AtVs w B b (off + 3) vs
end

/-- a slice of values -/
def SlV (w : World) (B : Nat) (p : Option Addr) (cap : Nat) (l : List V) : Prop :=
  l.length ≤ cap ∧ cap ≤ maxLen ∧ (l = [] ∨ ∃ b' o', p = some ⟨b', o', none⟩ ∧ b' < B ∧ AtVs w B b' o' l)
/-- a value on the stack -/
structure IsV (w : World) (B : Nat) (v : Value) (x : V) : Prop where
  ex : ∃ p cap, v = .agg #[.int .i64 x.k, .int .i64 x.n, .slice p x.l.length cap] ∧ SlV w B p cap x.l
  k64 : I64 x.k
  n64 : I64 x.n
structure InV (w : World) (B b off : Nat) (x : V) : Prop where
  c0 : w.cell? ⟨b, off, none⟩ = some (.int .i64 x.k)
  c1 : w.cell? ⟨b, off + 1, none⟩ = some (.int .i64 x.n)
  k64 : I64 x.k
  n64 : I64 x.n
  c2 : ∃ p cap, w.cell? ⟨b, off + 2, none⟩ = some (.slice p x.l.length cap) ∧ SlV w B p cap x.l
theorem atV_iff {w : World} {B b off : Nat} {x : V} : AtV w B b off x ↔ InV w B b off x := by
  cases x with
  | mk k n l =>
    simp only [AtV]
    constructor
    · rintro ⟨h0, h1, h2, h3, p, cap, h4, h5⟩
      exact ⟨h0, h1, h2, h3, p, cap, h4, h5⟩
    · rintro ⟨h0, h1, h2, h3, p, cap, h4, h5⟩
      exact ⟨h0, h1, h2, h3, p, cap, h4, h5⟩
theorem AtVs.get {w : World} {B b : Nat} {l : List V} : ∀ {off : Nat}, AtVs w B b off l → ∀ i (h : i < l.length), InV w B b (off + 3 * i) l[i] := by
  induction l with
  | nil => intro off _ i h; simp at h
  | cons v vs ih =>
    intro off h i hi
    simp only [AtVs] at h
    cases i with
    | zero => simpa using atV_iff.1 h.1
    | succ i =>
      have := ih h.2 i (by simpa using hi)
      have e : off + 3 + 3 * i = off + 3 * (i + 1) := by omega
      rw [e] at this
      simpa using this
theorem AtVs.of_get {w : World} {B b : Nat} {l : List V} : ∀ {off : Nat}, (∀ i (h : i < l.length), InV w B b (off + 3 * i) l[i]) → AtVs w B b off l := by
  induction l with
  | nil => intro off _; simp [AtVs]
  | cons v vs ih =>
    intro off h
    simp only [AtVs]
    refine ⟨atV_iff.2 (by have h0 := h 0 (by simp); rw [List.getElem_cons_zero] at h0; simpa using h0), ih (fun i hi => ?_)⟩
    have := h (i + 1) (by simpa using hi)
    have e : off + 3 + 3 * i = off + 3 * (i + 1) := by omega
    rw [e]
    simpa using this

/-- what lies below a block's number -/
structure Lo (B : Nat) (w w' : World) : Prop where
  cell : ∀ b o, b < B → w'.cell? ⟨b, o, none⟩ = w.cell? ⟨b, o, none⟩
theorem Lo.of {B : Nat} {w w' : World} (h : Below B w w') : Lo B w w' := ⟨fun b o hb => h.cell (p := ⟨b, o, none⟩) hb⟩
theorem Lo.blocks {B : Nat} {w w' : World} (h : ∀ b, b < B → w'.heap[b]? = w.heap[b]?) : Lo B w w' := ⟨fun b o hb => by simp [World.cell?, h b hb]⟩
theorem InV.lo {w w' : World} {B : Nat} (hB : Lo B w w') : ∀ x : V, ∀ {b off : Nat}, InV w B b off x → b < B → InV w' B b off x := by
  intro x
  induction x using V.ind with
  | h k n l ih =>
    intro b off h hb
    obtain ⟨h0, h1, h2, h3, p, cap, h4, h5, h6, h7⟩ := h
    refine ⟨by rw [hB.cell _ _ hb]; exact h0, by rw [hB.cell _ _ hb]; exact h1, h2, h3, p, cap, by rw [hB.cell _ _ hb]; exact h4, h5, h6, ?_⟩
    rcases h7 with h7 | ⟨b', o', h8, h9, h10⟩
    · exact .inl h7
    · exact .inr ⟨b', o', h8, h9, AtVs.of_get (fun i hi => ih _ (List.getElem_mem hi) (h10.get i hi) h9)⟩
theorem AtVs.lo {w w' : World} {B b off : Nat} {l : List V} (hB : Lo B w w') (h : AtVs w B b off l) (hb : b < B) : AtVs w' B b off l :=
  AtVs.of_get (fun i hi => (h.get i hi).lo hB _ hb)
theorem SlV.lo {w w' : World} {B : Nat} {p : Option Addr} {cap : Nat} {l : List V} (hB : Lo B w w') (h : SlV w B p cap l) : SlV w' B p cap l := by
  obtain ⟨h5, h6, h7⟩ := h
  refine ⟨h5, h6, ?_⟩
  rcases h7 with h7 | ⟨b', o', h8, h9, h10⟩
  · exact .inl h7
  · exact .inr ⟨b', o', h8, h9, h10.lo hB h9⟩
theorem IsV.lo {w w' : World} {B : Nat} {v : Value} {x : V} (hB : Lo B w w') (h : IsV w B v x) : IsV w' B v x := by
  obtain ⟨⟨p, cap, h1, h2⟩, h3, h4⟩ := h
  exact ⟨⟨p, cap, h1, h2.lo hB⟩, h3, h4⟩
/-- .. and with a higher number -/
theorem InV.up {w : World} {B B' : Nat} (hB : B ≤ B') : ∀ x : V, ∀ {b off : Nat}, InV w B b off x → InV w B' b off x := by
  intro x
  induction x using V.ind with
  | h k n l ih =>
    intro b off h
    obtain ⟨h0, h1, h2, h3, p, cap, h4, h5, h6, h7⟩ := h
    refine ⟨h0, h1, h2, h3, p, cap, h4, h5, h6, ?_⟩
    rcases h7 with h7 | ⟨b', o', h8, h9, h10⟩
    · exact .inl h7
    · exact .inr ⟨b', o', h8, by omega, AtVs.of_get (fun i hi => ih _ (List.getElem_mem hi) (h10.get i hi))⟩
theorem AtVs.up {w : World} {B B' b off : Nat} {l : List V} (hB : B ≤ B') (h : AtVs w B b off l) : AtVs w B' b off l :=
  AtVs.of_get (fun i hi => (h.get i hi).up hB)
theorem SlV.up {w : World} {B B' : Nat} {p : Option Addr} {cap : Nat} {l : List V} (hB : B ≤ B') (h : SlV w B p cap l) : SlV w B' p cap l := by
  obtain ⟨h5, h6, h7⟩ := h
  refine ⟨h5, h6, ?_⟩
  rcases h7 with h7 | ⟨b', o', h8, h9, h10⟩
  · exact .inl h7
  · exact .inr ⟨b', o', h8, by omega, h10.up hB⟩
theorem IsV.up {w : World} {B B' : Nat} {v : Value} {x : V} (hB : B ≤ B') (h : IsV w B v x) : IsV w B' v x := by
  obtain ⟨⟨p, cap, h1, h2⟩, h3, h4⟩ := h
  exact ⟨⟨p, cap, h1, h2.up hB⟩, h3, h4⟩
/-- the i-th of a slice -/
theorem SlV.get {w : World} {B : Nat} {p : Option Addr} {cap : Nat} {l : List V} (h : SlV w B p cap l) (i : Nat) (hi : i < l.length) : ∃ b o, p = some ⟨b, o, none⟩ ∧ b < B ∧ InV w B b (o + 3 * i) l[i] := by
  rcases h.2.2 with h7 | ⟨b', o', h8, h9, h10⟩
  · subst h7; simp at hi
  · exact ⟨b', o', h8, h9, h10.get i hi⟩
/-- .. its copy on the stack -/
theorem InV.isV {w : World} {B b off : Nat} {x : V} (h : InV w B b off x) : ∃ p cap, w.cell? ⟨b, off + 2, none⟩ = some (.slice p x.l.length cap) ∧ IsV w B (.agg #[.int .i64 x.k, .int .i64 x.n, .slice p x.l.length cap]) x ∧ SlV w B p cap x.l := by
  obtain ⟨p, cap, h1, h2⟩ := h.c2
  exact ⟨p, cap, h1, ⟨⟨p, cap, rfl, h2⟩, h.k64, h.n64⟩, h2⟩

/-- the order in which values are handed out: what is left, by a list of lists, the last one first -/
def outs : Nat → List (List V) → List V
  | 0, _ => []
  | f + 1, st => match st.getLast? with
    | none => []
    | some l => l ++ outs f (st.dropLast ++ (l.filter (fun v => 0 < v.l.length)).map V.l)

def stz : List (List V) → Nat
  | [] => 0
  | l :: ls => szs l + stz ls
theorem stz_append (a b : List (List V)) : stz (a ++ b) = stz a + stz b := by
  induction a with
  | nil => simp [stz]
  | cons x xs ih => simp [stz, ih]; omega
theorem szs_kids (l : List V) : szs l = l.length + stz ((l.filter (fun v => 0 < v.l.length)).map V.l) := by
  induction l with
  | nil => simp [szs, stz]
  | cons v vs ih =>
    rw [szs, V.sz_eq, ih]
    by_cases h : 0 < v.l.length
    · simp [h, stz]; omega
    · have e : v.l = [] := by cases hv : v.l with | nil => rfl | cons a b => simp [hv] at h
      simp [e, szs]; omega
end Go.Proofs.Ytikijkpklneihaa
namespace Go.Proofs.Ytikijkpklneihaa
open Go.RowKit
set_option linter.unusedVariables false
set_option linter.unusedSimpArgs false

structure Bx (p : Prop) : Prop where
  out : p
theorem below1 (w : World) (o : Obj) : Below w.heap.size w (w.alloc o) := (Below.refl _ _).alloc (Nat.le_refl _) _
/-- a value without a list -/
abbrev pv (k n : Int) : Value := .agg #[.int .i64 k, .int .i64 n, .slice none 0 0]
/-- a value and a trap -/
abbrev two (k n t : Int) : Value := .tuple #[pv k n, .int .i64 t]

def tn (b : Bool) : Int := if b then 1 else 0
/-- what the operators of all make -/
def alikeI (op a b : Int) : Int × Int × Int :=
  if op = 21 then (2, tn (a == b), 0) else if op = 22 then (2, tn (a != b), 0) else (0, 0, 5)
/-- what the operators of numbers make -/
def numI (op a b : Int) : Int × Int × Int :=
  if op = 31 then (1, wrap64 (a + b), 0) else if op = 32 then (1, wrap64 (a - b), 0) else if op = 41 then (1, wrap64 (a * b), 0)
  else if op = 42 then (if b = 0 then (0, 0, 1) else (1, wrap64 (a.tdiv b), 0)) else if op = 43 then (if b = 0 then (0, 0, 1) else (1, a.tmod b, 0))
  else if op = 23 then (2, tn (decide (a < b)), 0) else if op = 24 then (2, tn (decide (a ≤ b)), 0) else if op = 25 then (2, tn (decide (b < a)), 0) else if op = 26 then (2, tn (decide (b ≤ a)), 0)
  else alikeI op a b
def binI (op ka a kb b : Int) : Int × Int × Int :=
  if ka ≠ kb then (0, 0, 5) else if ka = 1 then numI op a b else if ka = 2 ∨ ka = 5 then alikeI op a b else (0, 0, 5)
def unI (op k a : Int) : Int × Int × Int :=
  if op = 1 ∧ k = 1 then (1, wrap64 (-a), 0) else if op = 2 ∧ k = 2 then (2, tn (a == 0), 0) else (0, 0, 5)
/-- the answer of an operator -/
abbrev ans (r : Int × Int × Int) : Value := two r.1 r.2.1 r.2.2

set_option maxRecDepth 100000 in
set_option maxHeartbeats 2000000 in
theorem number_any (n : Int) (w : World) : Calls Try.prog 40 #[.int .i64 n] w fun e w' => e = .returned (ans (1, n, 0)) ∧ Below w.heap.size w w' := by
  go_enter Try.func40, Try.ntmps40
  go_wp2
  refine bodyPost_ret (v := two 1 n 0) (by simp [results, Try.results40, go_sem]) rfl ⟨rfl, ?_⟩
  exact below1 _ _

set_option maxRecDepth 100000 in
set_option maxHeartbeats 2000000 in
theorem truth_any (b : Bool) (w : World) : Calls Try.prog 42 #[.bool b] w fun e w' => e = .returned (ans (2, tn b, 0)) ∧ Below w.heap.size w w' := by
  cases b
  all_goals
    go_enter Try.func42, Try.ntmps42
    go_wp2
  · refine bodyPost_ret (v := two 2 0 0) (by simp [results, Try.results42, go_sem]) rfl ⟨rfl, ?_⟩
    exact below1 _ _
  · refine bodyPost_ret (v := two 2 1 0) (by simp [results, Try.results42, go_sem]) rfl ⟨rfl, ?_⟩
    exact below1 _ _

set_option maxRecDepth 100000 in
set_option maxHeartbeats 2000000 in
theorem trap_any (c : Int) (w : World) : Calls Try.prog 31 #[.int .i64 c] w fun e w' => e = .returned (ans (0, 0, c)) ∧ Below w.heap.size w w' := by
  go_enter Try.func31, Try.ntmps31
  go_wp2
  refine bodyPost_ret (v := two 0 0 c) (by simp [results, Try.results31, go_sem]) rfl ⟨rfl, ?_⟩
  exact below1 _ _

abbrev z3 : Obj := .cells #[.int .i64 0, .int .i64 0, .slice none 0 0] 24
theorem z3_keep {W0 w1 : World} {rb : Nat} (hb : Below (W0.alloc z3).heap.size (W0.alloc z3) w1) (hrb : W0.heap.size = rb) :
    w1.cell? ⟨rb, 0, none⟩ = some (.int .i64 0) ∧ w1.cell? ⟨rb, 1, none⟩ = some (.int .i64 0) ∧ w1.cell? ⟨rb, 2, none⟩ = some (.slice none 0 0) ∧ w1.frozen? ⟨rb, 0, none⟩ = false ∧ w1.frozen? ⟨rb, 1, none⟩ = false ∧ w1.frozen? ⟨rb, 2, none⟩ = false ∧ rb < w1.heap.size := by
  subst hrb
  have h1 : w1.heap[W0.heap.size]? = some z3 := (hb.block _ (by simp)).trans (World.alloc_heap_new W0 _)
  refine ⟨?_, ?_, ?_, ?_, ?_, ?_, (Array.getElem?_eq_some_iff.1 h1).1⟩ <;> simp [World.cell?, World.frozen?, h1]
theorem bel3 {w W0 w1 : World} {o : Obj} {rb : Nat} (h0 : Below w.heap.size w W0) (hb : Below (W0.alloc o).heap.size (W0.alloc o) w1) (hrb : W0.heap.size = rb) (x y z : Value) : Below w.heap.size w (((w1.setCell ⟨rb, 0, none⟩ x).setCell ⟨rb, 1, none⟩ y).setCell ⟨rb, 2, none⟩ z) := by
  have h1 := h0.size
  have h2 : Below w.heap.size w w1 := (h0.alloc h1 _).trans (hb.mono (by simp; omega))
  exact ((h2.setCell (p := ⟨rb, 0, none⟩) (by show _ ≤ rb; omega) _).setCell (p := ⟨rb, 1, none⟩) (by show _ ≤ rb; omega) _).setCell (p := ⟨rb, 2, none⟩) (by show _ ≤ rb; omega) _

set_option maxRecDepth 100000 in
set_option maxHeartbeats 2000000 in
theorem divided_any (op a b : Int) (hop : op = 42 ∨ op = 43) (w : World) : Calls Try.prog 41 #[.int .i64 op, .int .i64 a, .int .i64 b] w fun e w' => e = .returned (ans (numI op a b)) ∧ Below w.heap.size w w' := by
  rcases hop with rfl | rfl
  · by_cases hb : b = 0
    · subst hb
      go_enter Try.func41, Try.ntmps41
      go_wp2_with (first | (go_at_call 40; refine Calls.mono (number_any _ _) ?_; rintro e w1 ⟨rfl, hb1⟩; obtain ⟨c0, c1, c2, f0, f1, f2, hsz⟩ := z3_keep (rb := w.heap.size) hb1 (by simp)) | (go_at_call 42; refine Calls.mono (truth_any _ _) ?_; rintro e w1 ⟨rfl, hb1⟩; obtain ⟨c0, c1, c2, f0, f1, f2, hsz⟩ := z3_keep (rb := w.heap.size) hb1 (by simp)) | (go_at_call 31; refine Calls.mono (trap_any _ _) ?_; rintro e w1 ⟨rfl, hb1⟩; obtain ⟨c0, c1, c2, f0, f1, f2, hsz⟩ := z3_keep (rb := w.heap.size) hb1 (by simp)))
      refine bodyPost_ret (v := two 0 0 1) (by simp [results, Try.results41, go_sem, c0, c1, c2, hsz]) rfl ⟨by first | rfl | simp_all | (simp_all <;> omega), ?_⟩
      exact bel3 (rb := w.heap.size) (Below.refl _ _) hb1 (by simp) _ _ _
    · have e : numI 42 a b = (1, wrap64 (a.tdiv b), 0) := by simp [numI, hb]
      rw [e]
      go_enter Try.func41, Try.ntmps41
      go_wp2_with (first | (go_at_call 40; refine Calls.mono (number_any _ _) ?_; rintro e w1 ⟨rfl, hb1⟩; obtain ⟨c0, c1, c2, f0, f1, f2, hsz⟩ := z3_keep (rb := w.heap.size) hb1 (by simp)) | (go_at_call 42; refine Calls.mono (truth_any _ _) ?_; rintro e w1 ⟨rfl, hb1⟩; obtain ⟨c0, c1, c2, f0, f1, f2, hsz⟩ := z3_keep (rb := w.heap.size) hb1 (by simp)) | (go_at_call 31; refine Calls.mono (trap_any _ _) ?_; rintro e w1 ⟨rfl, hb1⟩; obtain ⟨c0, c1, c2, f0, f1, f2, hsz⟩ := z3_keep (rb := w.heap.size) hb1 (by simp)))
      refine bodyPost_ret (v := two 1 (wrap64 (a.tdiv b)) 0) (by simp [results, Try.results41, go_sem, c0, c1, c2, hsz]) rfl ⟨by first | rfl | simp_all | (simp_all <;> omega), ?_⟩
      exact bel3 (rb := w.heap.size) (Below.refl _ _) hb1 (by simp) _ _ _
  · by_cases hb : b = 0
    · subst hb
      go_enter Try.func41, Try.ntmps41
      go_wp2_with (first | (go_at_call 40; refine Calls.mono (number_any _ _) ?_; rintro e w1 ⟨rfl, hb1⟩; obtain ⟨c0, c1, c2, f0, f1, f2, hsz⟩ := z3_keep (rb := w.heap.size) hb1 (by simp)) | (go_at_call 42; refine Calls.mono (truth_any _ _) ?_; rintro e w1 ⟨rfl, hb1⟩; obtain ⟨c0, c1, c2, f0, f1, f2, hsz⟩ := z3_keep (rb := w.heap.size) hb1 (by simp)) | (go_at_call 31; refine Calls.mono (trap_any _ _) ?_; rintro e w1 ⟨rfl, hb1⟩; obtain ⟨c0, c1, c2, f0, f1, f2, hsz⟩ := z3_keep (rb := w.heap.size) hb1 (by simp)))
      refine bodyPost_ret (v := two 0 0 1) (by simp [results, Try.results41, go_sem, c0, c1, c2, hsz]) rfl ⟨by first | rfl | simp_all | (simp_all <;> omega), ?_⟩
      exact bel3 (rb := w.heap.size) (Below.refl _ _) hb1 (by simp) _ _ _
    · have e : numI 43 a b = (1, a.tmod b, 0) := by simp [numI, hb]
      rw [e]
      go_enter Try.func41, Try.ntmps41
      go_wp2_with (first | (go_at_call 40; refine Calls.mono (number_any _ _) ?_; rintro e w1 ⟨rfl, hb1⟩; obtain ⟨c0, c1, c2, f0, f1, f2, hsz⟩ := z3_keep (rb := w.heap.size) hb1 (by simp)) | (go_at_call 42; refine Calls.mono (truth_any _ _) ?_; rintro e w1 ⟨rfl, hb1⟩; obtain ⟨c0, c1, c2, f0, f1, f2, hsz⟩ := z3_keep (rb := w.heap.size) hb1 (by simp)) | (go_at_call 31; refine Calls.mono (trap_any _ _) ?_; rintro e w1 ⟨rfl, hb1⟩; obtain ⟨c0, c1, c2, f0, f1, f2, hsz⟩ := z3_keep (rb := w.heap.size) hb1 (by simp)))
      refine bodyPost_ret (v := two 1 (a.tmod b) 0) (by simp [results, Try.results41, go_sem, c0, c1, c2, hsz]) rfl ⟨by first | rfl | simp_all | (simp_all <;> omega), ?_⟩
      exact bel3 (rb := w.heap.size) (Below.refl _ _) hb1 (by simp) _ _ _

set_option maxRecDepth 100000 in
set_option maxHeartbeats 2000000 in
theorem ofAlike_any (op a b : Int) (w : World) : Calls Try.prog 33 #[.int .i64 op, .int .i64 a, .int .i64 b] w fun e w' => e = .returned (ans (alikeI op a b)) ∧ Below w.heap.size w w' := by
  unfold alikeI
  by_cases h1 : op = 21
  · subst h1
    go_enter Try.func33, Try.ntmps33
    go_wp2_with (first | (go_at_call 40; refine Calls.mono (number_any _ _) ?_; rintro e w1 ⟨rfl, hb1⟩; obtain ⟨c0, c1, c2, f0, f1, f2, hsz⟩ := z3_keep (rb := w.heap.size) hb1 (by simp)) | (go_at_call 42; refine Calls.mono (truth_any _ _) ?_; rintro e w1 ⟨rfl, hb1⟩; obtain ⟨c0, c1, c2, f0, f1, f2, hsz⟩ := z3_keep (rb := w.heap.size) hb1 (by simp)) | (go_at_call 31; refine Calls.mono (trap_any _ _) ?_; rintro e w1 ⟨rfl, hb1⟩; obtain ⟨c0, c1, c2, f0, f1, f2, hsz⟩ := z3_keep (rb := w.heap.size) hb1 (by simp)))
    refine bodyPost_ret (v := two 2 (tn (a == b)) 0) (by simp [results, Try.results33, go_sem, c0, c1, c2, hsz]) rfl ⟨by first | rfl | simp_all | (simp_all <;> omega), ?_⟩
    exact bel3 (rb := w.heap.size) (Below.refl _ _) hb1 (by simp) _ _ _
  by_cases h2 : op = 22
  · subst h2
    go_enter Try.func33, Try.ntmps33
    go_wp2_with (first | (go_at_call 40; refine Calls.mono (number_any _ _) ?_; rintro e w1 ⟨rfl, hb1⟩; obtain ⟨c0, c1, c2, f0, f1, f2, hsz⟩ := z3_keep (rb := w.heap.size) hb1 (by simp)) | (go_at_call 42; refine Calls.mono (truth_any _ _) ?_; rintro e w1 ⟨rfl, hb1⟩; obtain ⟨c0, c1, c2, f0, f1, f2, hsz⟩ := z3_keep (rb := w.heap.size) hb1 (by simp)) | (go_at_call 31; refine Calls.mono (trap_any _ _) ?_; rintro e w1 ⟨rfl, hb1⟩; obtain ⟨c0, c1, c2, f0, f1, f2, hsz⟩ := z3_keep (rb := w.heap.size) hb1 (by simp)))
    refine bodyPost_ret (v := two 2 (tn (a != b)) 0) (by simp [results, Try.results33, go_sem, c0, c1, c2, hsz]) rfl ⟨by first | rfl | simp_all | (simp_all <;> omega), ?_⟩
    exact bel3 (rb := w.heap.size) (Below.refl _ _) hb1 (by simp) _ _ _
  rw [if_neg h1, if_neg h2]
  go_enter Try.func33, Try.ntmps33
  go_wp2_with (first | (go_at_call 40; refine Calls.mono (number_any _ _) ?_; rintro e w1 ⟨rfl, hb1⟩; obtain ⟨c0, c1, c2, f0, f1, f2, hsz⟩ := z3_keep (rb := w.heap.size) hb1 (by simp)) | (go_at_call 42; refine Calls.mono (truth_any _ _) ?_; rintro e w1 ⟨rfl, hb1⟩; obtain ⟨c0, c1, c2, f0, f1, f2, hsz⟩ := z3_keep (rb := w.heap.size) hb1 (by simp)) | (go_at_call 31; refine Calls.mono (trap_any _ _) ?_; rintro e w1 ⟨rfl, hb1⟩; obtain ⟨c0, c1, c2, f0, f1, f2, hsz⟩ := z3_keep (rb := w.heap.size) hb1 (by simp)))
  refine bodyPost_ret (v := two 0 0 5) (by simp [results, Try.results33, go_sem, c0, c1, c2, hsz]) rfl ⟨by first | rfl | simp_all | (simp_all <;> omega), ?_⟩
  exact bel3 (rb := w.heap.size) (Below.refl _ _) hb1 (by simp) _ _ _

set_option maxRecDepth 100000 in
set_option maxHeartbeats 2000000 in
theorem ofNumbers_any (op a b : Int) (w : World) : Calls Try.prog 32 #[.int .i64 op, .int .i64 a, .int .i64 b] w fun e w' => e = .returned (ans (numI op a b)) ∧ Below w.heap.size w w' := by
  by_cases h31 : op = 31
  · subst h31
    have e : numI 31 a b = (1, (wrap64 (a + b)), 0) := by simp [numI]
    rw [e]
    go_enter Try.func32, Try.ntmps32
    go_wp2_with (first | (go_at_call 40; refine Calls.mono (number_any _ _) ?_; rintro e w1 ⟨rfl, hb1⟩; obtain ⟨c0, c1, c2, f0, f1, f2, hsz⟩ := z3_keep (rb := w.heap.size) hb1 (by simp)) | (go_at_call 42; refine Calls.mono (truth_any _ _) ?_; rintro e w1 ⟨rfl, hb1⟩; obtain ⟨c0, c1, c2, f0, f1, f2, hsz⟩ := z3_keep (rb := w.heap.size) hb1 (by simp)) | (go_at_call 31; refine Calls.mono (trap_any _ _) ?_; rintro e w1 ⟨rfl, hb1⟩; obtain ⟨c0, c1, c2, f0, f1, f2, hsz⟩ := z3_keep (rb := w.heap.size) hb1 (by simp)) | (go_at_call 33; refine Calls.mono (ofAlike_any _ _ _ _) ?_; rintro e w1 ⟨rfl, hb1⟩; obtain ⟨c0, c1, c2, f0, f1, f2, hsz⟩ := z3_keep (rb := w.heap.size) hb1 (by simp)) | (go_at_call 41; refine Calls.mono (divided_any _ _ _ (by omega) _) ?_; rintro e w1 ⟨rfl, hb1⟩; obtain ⟨c0, c1, c2, f0, f1, f2, hsz⟩ := z3_keep (rb := w.heap.size) hb1 (by simp)))
    refine bodyPost_ret (v := two 1 (wrap64 (a + b)) 0) (by simp [results, Try.results32, go_sem, c0, c1, c2, hsz]) rfl ⟨by first | rfl | simp_all | (simp_all <;> omega), ?_⟩
    exact bel3 (rb := w.heap.size) (Below.refl _ _) hb1 (by simp) _ _ _
  by_cases h32 : op = 32
  · subst h32
    have e : numI 32 a b = (1, (wrap64 (a - b)), 0) := by simp [numI]
    rw [e]
    go_enter Try.func32, Try.ntmps32
    go_wp2_with (first | (go_at_call 40; refine Calls.mono (number_any _ _) ?_; rintro e w1 ⟨rfl, hb1⟩; obtain ⟨c0, c1, c2, f0, f1, f2, hsz⟩ := z3_keep (rb := w.heap.size) hb1 (by simp)) | (go_at_call 42; refine Calls.mono (truth_any _ _) ?_; rintro e w1 ⟨rfl, hb1⟩; obtain ⟨c0, c1, c2, f0, f1, f2, hsz⟩ := z3_keep (rb := w.heap.size) hb1 (by simp)) | (go_at_call 31; refine Calls.mono (trap_any _ _) ?_; rintro e w1 ⟨rfl, hb1⟩; obtain ⟨c0, c1, c2, f0, f1, f2, hsz⟩ := z3_keep (rb := w.heap.size) hb1 (by simp)) | (go_at_call 33; refine Calls.mono (ofAlike_any _ _ _ _) ?_; rintro e w1 ⟨rfl, hb1⟩; obtain ⟨c0, c1, c2, f0, f1, f2, hsz⟩ := z3_keep (rb := w.heap.size) hb1 (by simp)) | (go_at_call 41; refine Calls.mono (divided_any _ _ _ (by omega) _) ?_; rintro e w1 ⟨rfl, hb1⟩; obtain ⟨c0, c1, c2, f0, f1, f2, hsz⟩ := z3_keep (rb := w.heap.size) hb1 (by simp)))
    refine bodyPost_ret (v := two 1 (wrap64 (a - b)) 0) (by simp [results, Try.results32, go_sem, c0, c1, c2, hsz]) rfl ⟨by first | rfl | simp_all | (simp_all <;> omega), ?_⟩
    exact bel3 (rb := w.heap.size) (Below.refl _ _) hb1 (by simp) _ _ _
  by_cases h41 : op = 41
  · subst h41
    have e : numI 41 a b = (1, (wrap64 (a * b)), 0) := by simp [numI]
    rw [e]
    go_enter Try.func32, Try.ntmps32
    go_wp2_with (first | (go_at_call 40; refine Calls.mono (number_any _ _) ?_; rintro e w1 ⟨rfl, hb1⟩; obtain ⟨c0, c1, c2, f0, f1, f2, hsz⟩ := z3_keep (rb := w.heap.size) hb1 (by simp)) | (go_at_call 42; refine Calls.mono (truth_any _ _) ?_; rintro e w1 ⟨rfl, hb1⟩; obtain ⟨c0, c1, c2, f0, f1, f2, hsz⟩ := z3_keep (rb := w.heap.size) hb1 (by simp)) | (go_at_call 31; refine Calls.mono (trap_any _ _) ?_; rintro e w1 ⟨rfl, hb1⟩; obtain ⟨c0, c1, c2, f0, f1, f2, hsz⟩ := z3_keep (rb := w.heap.size) hb1 (by simp)) | (go_at_call 33; refine Calls.mono (ofAlike_any _ _ _ _) ?_; rintro e w1 ⟨rfl, hb1⟩; obtain ⟨c0, c1, c2, f0, f1, f2, hsz⟩ := z3_keep (rb := w.heap.size) hb1 (by simp)) | (go_at_call 41; refine Calls.mono (divided_any _ _ _ (by omega) _) ?_; rintro e w1 ⟨rfl, hb1⟩; obtain ⟨c0, c1, c2, f0, f1, f2, hsz⟩ := z3_keep (rb := w.heap.size) hb1 (by simp)))
    refine bodyPost_ret (v := two 1 (wrap64 (a * b)) 0) (by simp [results, Try.results32, go_sem, c0, c1, c2, hsz]) rfl ⟨by first | rfl | simp_all | (simp_all <;> omega), ?_⟩
    exact bel3 (rb := w.heap.size) (Below.refl _ _) hb1 (by simp) _ _ _
  by_cases h42 : op = 42
  · subst h42
    go_enter Try.func32, Try.ntmps32
    go_wp2_with (first | (go_at_call 40; refine Calls.mono (number_any _ _) ?_; rintro e w1 ⟨rfl, hb1⟩; obtain ⟨c0, c1, c2, f0, f1, f2, hsz⟩ := z3_keep (rb := w.heap.size) hb1 (by simp)) | (go_at_call 42; refine Calls.mono (truth_any _ _) ?_; rintro e w1 ⟨rfl, hb1⟩; obtain ⟨c0, c1, c2, f0, f1, f2, hsz⟩ := z3_keep (rb := w.heap.size) hb1 (by simp)) | (go_at_call 31; refine Calls.mono (trap_any _ _) ?_; rintro e w1 ⟨rfl, hb1⟩; obtain ⟨c0, c1, c2, f0, f1, f2, hsz⟩ := z3_keep (rb := w.heap.size) hb1 (by simp)) | (go_at_call 33; refine Calls.mono (ofAlike_any _ _ _ _) ?_; rintro e w1 ⟨rfl, hb1⟩; obtain ⟨c0, c1, c2, f0, f1, f2, hsz⟩ := z3_keep (rb := w.heap.size) hb1 (by simp)) | (go_at_call 41; refine Calls.mono (divided_any _ _ _ (by omega) _) ?_; rintro e w1 ⟨rfl, hb1⟩; obtain ⟨c0, c1, c2, f0, f1, f2, hsz⟩ := z3_keep (rb := w.heap.size) hb1 (by simp)))
    refine bodyPost_ret (v := ans (numI 42 a b)) (by simp [results, Try.results32, go_sem, c0, c1, c2, hsz]) rfl ⟨by first | rfl | simp_all | (simp_all <;> omega), ?_⟩
    exact bel3 (rb := w.heap.size) (Below.refl _ _) hb1 (by simp) _ _ _
  by_cases h43 : op = 43
  · subst h43
    go_enter Try.func32, Try.ntmps32
    go_wp2_with (first | (go_at_call 40; refine Calls.mono (number_any _ _) ?_; rintro e w1 ⟨rfl, hb1⟩; obtain ⟨c0, c1, c2, f0, f1, f2, hsz⟩ := z3_keep (rb := w.heap.size) hb1 (by simp)) | (go_at_call 42; refine Calls.mono (truth_any _ _) ?_; rintro e w1 ⟨rfl, hb1⟩; obtain ⟨c0, c1, c2, f0, f1, f2, hsz⟩ := z3_keep (rb := w.heap.size) hb1 (by simp)) | (go_at_call 31; refine Calls.mono (trap_any _ _) ?_; rintro e w1 ⟨rfl, hb1⟩; obtain ⟨c0, c1, c2, f0, f1, f2, hsz⟩ := z3_keep (rb := w.heap.size) hb1 (by simp)) | (go_at_call 33; refine Calls.mono (ofAlike_any _ _ _ _) ?_; rintro e w1 ⟨rfl, hb1⟩; obtain ⟨c0, c1, c2, f0, f1, f2, hsz⟩ := z3_keep (rb := w.heap.size) hb1 (by simp)) | (go_at_call 41; refine Calls.mono (divided_any _ _ _ (by omega) _) ?_; rintro e w1 ⟨rfl, hb1⟩; obtain ⟨c0, c1, c2, f0, f1, f2, hsz⟩ := z3_keep (rb := w.heap.size) hb1 (by simp)))
    refine bodyPost_ret (v := ans (numI 43 a b)) (by simp [results, Try.results32, go_sem, c0, c1, c2, hsz]) rfl ⟨by first | rfl | simp_all | (simp_all <;> omega), ?_⟩
    exact bel3 (rb := w.heap.size) (Below.refl _ _) hb1 (by simp) _ _ _
  by_cases h23 : op = 23
  · subst h23
    have e : numI 23 a b = (2, (tn (decide (a < b))), 0) := by simp [numI]
    rw [e]
    go_enter Try.func32, Try.ntmps32
    go_wp2_with (first | (go_at_call 40; refine Calls.mono (number_any _ _) ?_; rintro e w1 ⟨rfl, hb1⟩; obtain ⟨c0, c1, c2, f0, f1, f2, hsz⟩ := z3_keep (rb := w.heap.size) hb1 (by simp)) | (go_at_call 42; refine Calls.mono (truth_any _ _) ?_; rintro e w1 ⟨rfl, hb1⟩; obtain ⟨c0, c1, c2, f0, f1, f2, hsz⟩ := z3_keep (rb := w.heap.size) hb1 (by simp)) | (go_at_call 31; refine Calls.mono (trap_any _ _) ?_; rintro e w1 ⟨rfl, hb1⟩; obtain ⟨c0, c1, c2, f0, f1, f2, hsz⟩ := z3_keep (rb := w.heap.size) hb1 (by simp)) | (go_at_call 33; refine Calls.mono (ofAlike_any _ _ _ _) ?_; rintro e w1 ⟨rfl, hb1⟩; obtain ⟨c0, c1, c2, f0, f1, f2, hsz⟩ := z3_keep (rb := w.heap.size) hb1 (by simp)) | (go_at_call 41; refine Calls.mono (divided_any _ _ _ (by omega) _) ?_; rintro e w1 ⟨rfl, hb1⟩; obtain ⟨c0, c1, c2, f0, f1, f2, hsz⟩ := z3_keep (rb := w.heap.size) hb1 (by simp)))
    refine bodyPost_ret (v := two 2 (tn (decide (a < b))) 0) (by simp [results, Try.results32, go_sem, c0, c1, c2, hsz]) rfl ⟨by first | rfl | simp_all | (simp_all <;> omega), ?_⟩
    exact bel3 (rb := w.heap.size) (Below.refl _ _) hb1 (by simp) _ _ _
  by_cases h24 : op = 24
  · subst h24
    have e : numI 24 a b = (2, (tn (decide (a ≤ b))), 0) := by simp [numI]
    rw [e]
    go_enter Try.func32, Try.ntmps32
    go_wp2_with (first | (go_at_call 40; refine Calls.mono (number_any _ _) ?_; rintro e w1 ⟨rfl, hb1⟩; obtain ⟨c0, c1, c2, f0, f1, f2, hsz⟩ := z3_keep (rb := w.heap.size) hb1 (by simp)) | (go_at_call 42; refine Calls.mono (truth_any _ _) ?_; rintro e w1 ⟨rfl, hb1⟩; obtain ⟨c0, c1, c2, f0, f1, f2, hsz⟩ := z3_keep (rb := w.heap.size) hb1 (by simp)) | (go_at_call 31; refine Calls.mono (trap_any _ _) ?_; rintro e w1 ⟨rfl, hb1⟩; obtain ⟨c0, c1, c2, f0, f1, f2, hsz⟩ := z3_keep (rb := w.heap.size) hb1 (by simp)) | (go_at_call 33; refine Calls.mono (ofAlike_any _ _ _ _) ?_; rintro e w1 ⟨rfl, hb1⟩; obtain ⟨c0, c1, c2, f0, f1, f2, hsz⟩ := z3_keep (rb := w.heap.size) hb1 (by simp)) | (go_at_call 41; refine Calls.mono (divided_any _ _ _ (by omega) _) ?_; rintro e w1 ⟨rfl, hb1⟩; obtain ⟨c0, c1, c2, f0, f1, f2, hsz⟩ := z3_keep (rb := w.heap.size) hb1 (by simp)))
    refine bodyPost_ret (v := two 2 (tn (decide (a ≤ b))) 0) (by simp [results, Try.results32, go_sem, c0, c1, c2, hsz]) rfl ⟨by first | rfl | simp_all | (simp_all <;> omega), ?_⟩
    exact bel3 (rb := w.heap.size) (Below.refl _ _) hb1 (by simp) _ _ _
  by_cases h25 : op = 25
  · subst h25
    have e : numI 25 a b = (2, (tn (decide (b < a))), 0) := by simp [numI]
    rw [e]
    go_enter Try.func32, Try.ntmps32
    go_wp2_with (first | (go_at_call 40; refine Calls.mono (number_any _ _) ?_; rintro e w1 ⟨rfl, hb1⟩; obtain ⟨c0, c1, c2, f0, f1, f2, hsz⟩ := z3_keep (rb := w.heap.size) hb1 (by simp)) | (go_at_call 42; refine Calls.mono (truth_any _ _) ?_; rintro e w1 ⟨rfl, hb1⟩; obtain ⟨c0, c1, c2, f0, f1, f2, hsz⟩ := z3_keep (rb := w.heap.size) hb1 (by simp)) | (go_at_call 31; refine Calls.mono (trap_any _ _) ?_; rintro e w1 ⟨rfl, hb1⟩; obtain ⟨c0, c1, c2, f0, f1, f2, hsz⟩ := z3_keep (rb := w.heap.size) hb1 (by simp)) | (go_at_call 33; refine Calls.mono (ofAlike_any _ _ _ _) ?_; rintro e w1 ⟨rfl, hb1⟩; obtain ⟨c0, c1, c2, f0, f1, f2, hsz⟩ := z3_keep (rb := w.heap.size) hb1 (by simp)) | (go_at_call 41; refine Calls.mono (divided_any _ _ _ (by omega) _) ?_; rintro e w1 ⟨rfl, hb1⟩; obtain ⟨c0, c1, c2, f0, f1, f2, hsz⟩ := z3_keep (rb := w.heap.size) hb1 (by simp)))
    refine bodyPost_ret (v := two 2 (tn (decide (b < a))) 0) (by simp [results, Try.results32, go_sem, c0, c1, c2, hsz]) rfl ⟨by first | rfl | simp_all | (simp_all <;> omega), ?_⟩
    exact bel3 (rb := w.heap.size) (Below.refl _ _) hb1 (by simp) _ _ _
  by_cases h26 : op = 26
  · subst h26
    have e : numI 26 a b = (2, (tn (decide (b ≤ a))), 0) := by simp [numI]
    rw [e]
    go_enter Try.func32, Try.ntmps32
    go_wp2_with (first | (go_at_call 40; refine Calls.mono (number_any _ _) ?_; rintro e w1 ⟨rfl, hb1⟩; obtain ⟨c0, c1, c2, f0, f1, f2, hsz⟩ := z3_keep (rb := w.heap.size) hb1 (by simp)) | (go_at_call 42; refine Calls.mono (truth_any _ _) ?_; rintro e w1 ⟨rfl, hb1⟩; obtain ⟨c0, c1, c2, f0, f1, f2, hsz⟩ := z3_keep (rb := w.heap.size) hb1 (by simp)) | (go_at_call 31; refine Calls.mono (trap_any _ _) ?_; rintro e w1 ⟨rfl, hb1⟩; obtain ⟨c0, c1, c2, f0, f1, f2, hsz⟩ := z3_keep (rb := w.heap.size) hb1 (by simp)) | (go_at_call 33; refine Calls.mono (ofAlike_any _ _ _ _) ?_; rintro e w1 ⟨rfl, hb1⟩; obtain ⟨c0, c1, c2, f0, f1, f2, hsz⟩ := z3_keep (rb := w.heap.size) hb1 (by simp)) | (go_at_call 41; refine Calls.mono (divided_any _ _ _ (by omega) _) ?_; rintro e w1 ⟨rfl, hb1⟩; obtain ⟨c0, c1, c2, f0, f1, f2, hsz⟩ := z3_keep (rb := w.heap.size) hb1 (by simp)))
    refine bodyPost_ret (v := two 2 (tn (decide (b ≤ a))) 0) (by simp [results, Try.results32, go_sem, c0, c1, c2, hsz]) rfl ⟨by first | rfl | simp_all | (simp_all <;> omega), ?_⟩
    exact bel3 (rb := w.heap.size) (Below.refl _ _) hb1 (by simp) _ _ _
  have e : numI op a b = alikeI op a b := by simp [numI, *]
  rw [e]
  go_enter Try.func32, Try.ntmps32
  go_wp2_with (first | (go_at_call 40; refine Calls.mono (number_any _ _) ?_; rintro e w1 ⟨rfl, hb1⟩; obtain ⟨c0, c1, c2, f0, f1, f2, hsz⟩ := z3_keep (rb := w.heap.size) hb1 (by simp)) | (go_at_call 42; refine Calls.mono (truth_any _ _) ?_; rintro e w1 ⟨rfl, hb1⟩; obtain ⟨c0, c1, c2, f0, f1, f2, hsz⟩ := z3_keep (rb := w.heap.size) hb1 (by simp)) | (go_at_call 31; refine Calls.mono (trap_any _ _) ?_; rintro e w1 ⟨rfl, hb1⟩; obtain ⟨c0, c1, c2, f0, f1, f2, hsz⟩ := z3_keep (rb := w.heap.size) hb1 (by simp)) | (go_at_call 33; refine Calls.mono (ofAlike_any _ _ _ _) ?_; rintro e w1 ⟨rfl, hb1⟩; obtain ⟨c0, c1, c2, f0, f1, f2, hsz⟩ := z3_keep (rb := w.heap.size) hb1 (by simp)) | (go_at_call 41; refine Calls.mono (divided_any _ _ _ (by omega) _) ?_; rintro e w1 ⟨rfl, hb1⟩; obtain ⟨c0, c1, c2, f0, f1, f2, hsz⟩ := z3_keep (rb := w.heap.size) hb1 (by simp)))
  refine bodyPost_ret (v := ans (alikeI op a b)) (by simp [results, Try.results32, go_sem, c0, c1, c2, hsz]) rfl ⟨by first | rfl | simp_all | (simp_all <;> omega), ?_⟩
  exact bel3 (rb := w.heap.size) (Below.refl _ _) hb1 (by simp) _ _ _

set_option maxRecDepth 100000 in
set_option maxHeartbeats 2000000 in
theorem Bin_any (op ka a kb b : Int) (pa : Option Addr) (la ca : Nat) (pb : Option Addr) (lb cb : Nat)  (w : World) : Calls Try.prog 17 #[.int .i64 op, .agg #[.int .i64 ka, .int .i64 a, .slice pa la ca], .agg #[.int .i64 kb, .int .i64 b, .slice pb lb cb]] w fun e w' => e = .returned (ans (binI op ka a kb b)) ∧ Below w.heap.size w w' := by
  by_cases h0 : ka = kb
  · subst h0
    by_cases h1 : ka = 1
    · subst h1
      have e : binI op 1 a 1 b = numI op a b := by simp [binI]
      rw [e]
      go_enter Try.func17, Try.ntmps17
      go_wp2_with (first | (go_at_call 32; refine Calls.mono (ofNumbers_any _ _ _ _) ?_; rintro e w1 ⟨rfl, hb1⟩; obtain ⟨c0, c1, c2, f0, f1, f2, hsz⟩ := z3_keep (rb := (w.heap.size + 2)) hb1 (by simp)) | (go_at_call 33; refine Calls.mono (ofAlike_any _ _ _ _) ?_; rintro e w1 ⟨rfl, hb1⟩; obtain ⟨c0, c1, c2, f0, f1, f2, hsz⟩ := z3_keep (rb := (w.heap.size + 2)) hb1 (by simp)) | (go_at_call 31; refine Calls.mono (trap_any _ _) ?_; rintro e w1 ⟨rfl, hb1⟩; obtain ⟨c0, c1, c2, f0, f1, f2, hsz⟩ := z3_keep (rb := (w.heap.size + 2)) hb1 (by simp)))
      refine bodyPost_ret (v := ans (numI op a b)) (by simp [results, Try.results17, go_sem, c0, c1, c2, hsz]) rfl ⟨by first | rfl | simp_all | (simp_all <;> omega), ?_⟩
      exact bel3 (rb := (w.heap.size + 2)) (((Below.refl _ _).alloc (by simp) _).alloc (by simp) _) hb1 (by simp) _ _ _
    by_cases h2 : ka = 2
    · subst h2
      have e : binI op 2 a 2 b = alikeI op a b := by simp [binI]
      rw [e]
      go_enter Try.func17, Try.ntmps17
      go_wp2_with (first | (go_at_call 32; refine Calls.mono (ofNumbers_any _ _ _ _) ?_; rintro e w1 ⟨rfl, hb1⟩; obtain ⟨c0, c1, c2, f0, f1, f2, hsz⟩ := z3_keep (rb := (w.heap.size + 2)) hb1 (by simp)) | (go_at_call 33; refine Calls.mono (ofAlike_any _ _ _ _) ?_; rintro e w1 ⟨rfl, hb1⟩; obtain ⟨c0, c1, c2, f0, f1, f2, hsz⟩ := z3_keep (rb := (w.heap.size + 2)) hb1 (by simp)) | (go_at_call 31; refine Calls.mono (trap_any _ _) ?_; rintro e w1 ⟨rfl, hb1⟩; obtain ⟨c0, c1, c2, f0, f1, f2, hsz⟩ := z3_keep (rb := (w.heap.size + 2)) hb1 (by simp)))
      refine bodyPost_ret (v := ans (alikeI op a b)) (by simp [results, Try.results17, go_sem, c0, c1, c2, hsz]) rfl ⟨by first | rfl | simp_all | (simp_all <;> omega), ?_⟩
      exact bel3 (rb := (w.heap.size + 2)) (((Below.refl _ _).alloc (by simp) _).alloc (by simp) _) hb1 (by simp) _ _ _
    by_cases h5 : ka = 5
    · subst h5
      have e : binI op 5 a 5 b = alikeI op a b := by simp [binI]
      rw [e]
      go_enter Try.func17, Try.ntmps17
      go_wp2_with (first | (go_at_call 32; refine Calls.mono (ofNumbers_any _ _ _ _) ?_; rintro e w1 ⟨rfl, hb1⟩; obtain ⟨c0, c1, c2, f0, f1, f2, hsz⟩ := z3_keep (rb := (w.heap.size + 2)) hb1 (by simp)) | (go_at_call 33; refine Calls.mono (ofAlike_any _ _ _ _) ?_; rintro e w1 ⟨rfl, hb1⟩; obtain ⟨c0, c1, c2, f0, f1, f2, hsz⟩ := z3_keep (rb := (w.heap.size + 2)) hb1 (by simp)) | (go_at_call 31; refine Calls.mono (trap_any _ _) ?_; rintro e w1 ⟨rfl, hb1⟩; obtain ⟨c0, c1, c2, f0, f1, f2, hsz⟩ := z3_keep (rb := (w.heap.size + 2)) hb1 (by simp)))
      refine bodyPost_ret (v := ans (alikeI op a b)) (by simp [results, Try.results17, go_sem, c0, c1, c2, hsz]) rfl ⟨by first | rfl | simp_all | (simp_all <;> omega), ?_⟩
      exact bel3 (rb := (w.heap.size + 2)) (((Below.refl _ _).alloc (by simp) _).alloc (by simp) _) hb1 (by simp) _ _ _
    have e : binI op ka a ka b = (0, 0, 5) := by simp [binI, h1, h2, h5]
    rw [e]
    go_enter Try.func17, Try.ntmps17
    go_wp2_with (first | (go_at_call 32; refine Calls.mono (ofNumbers_any _ _ _ _) ?_; rintro e w1 ⟨rfl, hb1⟩; obtain ⟨c0, c1, c2, f0, f1, f2, hsz⟩ := z3_keep (rb := (w.heap.size + 2)) hb1 (by simp)) | (go_at_call 33; refine Calls.mono (ofAlike_any _ _ _ _) ?_; rintro e w1 ⟨rfl, hb1⟩; obtain ⟨c0, c1, c2, f0, f1, f2, hsz⟩ := z3_keep (rb := (w.heap.size + 2)) hb1 (by simp)) | (go_at_call 31; refine Calls.mono (trap_any _ _) ?_; rintro e w1 ⟨rfl, hb1⟩; obtain ⟨c0, c1, c2, f0, f1, f2, hsz⟩ := z3_keep (rb := (w.heap.size + 2)) hb1 (by simp)))
    refine bodyPost_ret (v := two 0 0 5) (by simp [results, Try.results17, go_sem, c0, c1, c2, hsz]) rfl ⟨by first | rfl | simp_all | (simp_all <;> omega), ?_⟩
    exact bel3 (rb := (w.heap.size + 2)) (((Below.refl _ _).alloc (by simp) _).alloc (by simp) _) hb1 (by simp) _ _ _
  · have e : binI op ka a kb b = (0, 0, 5) := by simp [binI, h0]
    rw [e]
    go_enter Try.func17, Try.ntmps17
    go_wp2_with (first | (go_at_call 32; refine Calls.mono (ofNumbers_any _ _ _ _) ?_; rintro e w1 ⟨rfl, hb1⟩; obtain ⟨c0, c1, c2, f0, f1, f2, hsz⟩ := z3_keep (rb := (w.heap.size + 2)) hb1 (by simp)) | (go_at_call 33; refine Calls.mono (ofAlike_any _ _ _ _) ?_; rintro e w1 ⟨rfl, hb1⟩; obtain ⟨c0, c1, c2, f0, f1, f2, hsz⟩ := z3_keep (rb := (w.heap.size + 2)) hb1 (by simp)) | (go_at_call 31; refine Calls.mono (trap_any _ _) ?_; rintro e w1 ⟨rfl, hb1⟩; obtain ⟨c0, c1, c2, f0, f1, f2, hsz⟩ := z3_keep (rb := (w.heap.size + 2)) hb1 (by simp)))
    refine bodyPost_ret (v := two 0 0 5) (by simp [results, Try.results17, go_sem, c0, c1, c2, hsz]) rfl ⟨by first | rfl | simp_all | (simp_all <;> omega), ?_⟩
    exact bel3 (rb := (w.heap.size + 2)) (((Below.refl _ _).alloc (by simp) _).alloc (by simp) _) hb1 (by simp) _ _ _
end Go.Proofs.Ytikijkpklneihaa
namespace Go.Proofs.Ytikijkpklneihaa
open Go.RowKit
set_option linter.unusedVariables false
set_option linter.unusedSimpArgs false

/-- slices of values, one behind the other -/
def SlVs (W : World) (B : Nat) : List Value → List (List V) → Prop
  | [], [] => True
  | x :: xs, l :: ls => (∃ p cap, x = .slice p l.length cap ∧ SlV W B p cap l) ∧ SlVs W B xs ls
  | _, _ => False
theorem SlVs.len {W : World} {B : Nat} : ∀ {xs : List Value} {ls : List (List V)}, SlVs W B xs ls → xs.length = ls.length
  | [], [], _ => rfl
  | x :: xs, l :: ls, h => by simp [SlVs.len h.2]
  | [], _ :: _, h => h.elim
  | _ :: _, [], h => h.elim
theorem SlVs.lo {W W' : World} {B : Nat} (hB : Lo B W W') : ∀ {xs : List Value} {ls : List (List V)}, SlVs W B xs ls → SlVs W' B xs ls
  | [], [], _ => trivial
  | x :: xs, l :: ls, ⟨⟨p, cap, e, h⟩, hs⟩ => ⟨⟨p, cap, e, h.lo hB⟩, SlVs.lo hB hs⟩
  | [], _ :: _, h => h.elim
  | _ :: _, [], h => h.elim
theorem SlVs.append {W : World} {B : Nat} : ∀ {xs ys : List Value} {ls ms : List (List V)}, SlVs W B xs ls → SlVs W B ys ms → SlVs W B (xs ++ ys) (ls ++ ms)
  | [], _, [], _, _, k => k
  | x :: xs, _, l :: ls, _, ⟨h, hs⟩, k => ⟨h, SlVs.append hs k⟩
  | [], _, _ :: _, _, h, _ => h.elim
  | _ :: _, _, [], _, h, _ => h.elim
theorem SlVs.last {W : World} {B : Nat} {xs : List Value} : ∀ {ls : List (List V)} {l : List V}, SlVs W B xs (ls ++ [l]) → ∃ ys p cap, xs = ys ++ [.slice p l.length cap] ∧ SlVs W B ys ls ∧ SlV W B p cap l := by
  induction xs with
  | nil => intro ls l h; have := h.len; simp at this
  | cons x xs ih =>
    intro ls l h
    cases ls with
    | nil =>
      obtain ⟨⟨p, cap, rfl, h1⟩, h2⟩ := h
      have := SlVs.len h2
      have e : xs = [] := by cases xs with | nil => rfl | cons a b => simp at this
      subst e
      exact ⟨[], p, cap, rfl, trivial, h1⟩
    | cons m ms =>
      obtain ⟨h1, h2⟩ := h
      obtain ⟨ys, p, cap, rfl, h3, h4⟩ := ih h2
      exact ⟨x :: ys, p, cap, rfl, ⟨h1, h3⟩, h4⟩

/-- a row that is one's own: it stays where its block stays -/
theorem own_same {W W' : World} {base : Nat} {e : TypeId} {s : Nat} {v : Value} {n : Nat} {cs : List Value} (h : W.ownsRow base e s v n cs) (hb : ∀ g o, v.ownBlock = some g → W.heap[g]? = some o → W'.heap[g]? = some o) : W'.ownsRow base e s v n cs := by
  refine ⟨h.1, ?_⟩
  rcases h.2 with h1 | ⟨g, cap, cur, rfl, h2, h3, h4⟩
  · exact .inl h1
  · exact .inr ⟨g, cap, cur, rfl, h2, hb g _ rfl h3, h4⟩

/-- what is left, as a row of slices -/
structure Stk (W : World) (base B : Nat) (v : Value) (st : List (List V)) : Prop where
  own : ∃ xs, W.ownsRow base 22 1 v st.length xs ∧ SlVs W B xs st
theorem Stk.val {W : World} {base B : Nat} {v : Value} {st : List (List V)} (h : Stk W base B v st) : (v = .slice none 0 0 ∧ st = []) ∨ ∃ g cap, v = .slice (some ⟨g, 0, none⟩) st.length cap ∧ base ≤ g ∧ g < W.heap.size ∧ st.length ≤ cap ∧ cap ≤ maxLen := by
  obtain ⟨xs, h1, h2⟩ := h.own
  rcases h1.2 with ⟨rfl, h3⟩ | ⟨g, cap, cur, rfl, h4, h5, h6, h7, _⟩
  · exact .inl ⟨rfl, List.eq_nil_of_length_eq_zero h3⟩
  · exact .inr ⟨g, cap, rfl, h4, (Array.getElem?_eq_some_iff.1 h5).1, h6, h7⟩
theorem Stk.pop {W : World} {base B : Nat} {v : Value} {st : List (List V)} {l : List V} (h : Stk W base B v (st ++ [l])) :
    ∃ g cap p c, v = .slice (some ⟨g, 0, none⟩) (st.length + 1) cap ∧ base ≤ g ∧ g < W.heap.size ∧ st.length + 1 ≤ cap ∧ cap ≤ maxLen ∧ W.cell? ⟨g, st.length, none⟩ = some (.slice p l.length c) ∧ SlV W B p c l ∧ Stk W base B (.slice (some ⟨g, 0, none⟩) st.length cap) st := by
  obtain ⟨xs, h1, h2⟩ := h.own
  obtain ⟨ys, p, c, rfl, h3, h4⟩ := h2.last
  obtain ⟨q1, q2⟩ := h1
  have hl := h3.len
  rcases q2 with ⟨_, h5⟩ | ⟨g, cap, cur, rfl, q3, q4, q5, q6, q7, q8⟩
  · simp at h5
  · simp only [List.length_append, List.length_singleton, Nat.mul_one] at q5 q7 q8 ⊢
    have hcur : ∀ j, j < st.length + 1 → cur[j]? = (ys ++ [Value.slice p l.length c])[j]? := fun j hj => by
      rw [← q8, List.getElem?_take_of_lt hj, Array.getElem?_toList]
    refine ⟨g, cap, p, c, rfl, q3, (Array.getElem?_eq_some_iff.1 q4).1, q5, q6, ?_, h4, ⟨ys, ⟨by omega, .inr ⟨g, cap, cur, rfl, q3, q4, by omega, q6, by omega, ?_⟩⟩, h3⟩⟩
    · simp only [World.cell?, q4]
      rw [hcur _ (by omega)]
      simp [← hl]
    · apply List.ext_getElem?
      intro j
      by_cases hj : j < st.length
      · rw [List.getElem?_take_of_lt (by omega), Array.getElem?_toList, hcur j (by omega), List.getElem?_append_left (by omega)]
      · rw [List.getElem?_eq_none (by simp; omega), List.getElem?_eq_none (by omega)]
theorem Stk.keep {W W' : World} {base B : Nat} {v : Value} {st : List (List V)} (h : Stk W base B v st) (hB : Lo B W W') (hb : ∀ g o, v.ownBlock = some g → W.heap[g]? = some o → W'.heap[g]? = some o) : Stk W' base B v st := by
  obtain ⟨xs, h1, h2⟩ := h.own
  exact ⟨xs, own_same h1 hb, h2.lo hB⟩
theorem Stk.ext {W W' : World} {base B : Nat} {v : Value} {st : List (List V)} (h : Stk W base B v st) (hB : B ≤ W.heap.size) (hb : Below W.heap.size W W') : Stk W' base B v st :=
  h.keep (Lo.of (hb.mono hB)) (fun g o _ hg => (hb.block g (Array.getElem?_eq_some_iff.1 hg).1).trans hg)
theorem Stk.push {W W' : World} {base B : Nat} {v' : Value} {st : List (List V)} {p : Option Addr} {c : Nat} {l : List V} {xs : List Value} (h2 : SlVs W B xs st) (hl : SlV W B p c l) (h' : W'.ownsRow base 22 1 v' (st.length + 1) (xs ++ [.slice p l.length c])) (hB : Lo B W W') : Stk W' base B v' (st ++ [l]) :=
  ⟨xs ++ [.slice p l.length c], by simpa using h', (h2.append (ys := [.slice p l.length c]) (ls := st) (ms := [l]) ⟨⟨p, c, rfl, hl⟩, trivial⟩).lo hB⟩
/-- a row that grows by itself leaves what is below -/
theorem lo_grown {W W' : World} {B base : Nat} {r : Option Nat} (hg : W.grownBy W' r) (hr : ∀ g, r = some g → base ≤ g) (hB : B ≤ base) (hs : B ≤ W.heap.size) : Lo B W W' :=
  Lo.blocks fun b hb => hg.block b (by omega) (fun e => by have := hr b e.symm; omega)
theorem slice_one (W : World) (g : Nat) (u : Value) (t : TypeId) (hg : W.heap[g]? = some (.cells #[u] t (0, 0))) : ∀ (j : Nat) (x : Value), [u][j]? = some x → W.cell? ((⟨g, 0, none⟩ : Addr).add j) = some x := by
  intro j x hx
  cases j with
  | zero =>
    simp at hx
    subst hx
    simp [World.cell?, Addr.add, hg]
  | succ j => simp at hx
theorem slice_cell (p : Option Addr) (n c : Nat) : ∀ u ∈ [Value.slice p n c], u.oneCell' = true := by
  intro u hu; simp at hu; subst hu; rfl
theorem own_base {W : World} {base : Nat} {e : TypeId} {s : Nat} {v : Value} {n : Nat} {cs : List Value} (h : W.ownsRow base e s v n cs) : ∀ g, v.ownBlock = some g → base ≤ g := by
  intro g hg
  rcases h.2 with ⟨rfl, _⟩ | ⟨g', cap, cur, rfl, h2, _⟩
  · cases hg
  · cases hg; exact h2
theorem push_all {wr X w' : World} {base B : Nat} {u v' : Value} {st : List (List V)} {xs : List Value} {r : Option Addr} {rc : Nat} {l : List V} (hown : wr.ownsRow base 22 1 u st.length xs) (hsl : SlVs wr B xs st) (hl : SlV wr B r rc l) (hX : Below wr.heap.size wr X)
    (hown' : w'.ownsRow base 22 1 v' (st.length + 1) (xs ++ [.slice r l.length rc])) (hg : X.grownBy w' u.ownBlock) (hB : B ≤ base) (hbase : base ≤ wr.heap.size) :
    Stk w' base B v' (st ++ [l]) ∧ Lo B wr w' ∧ Below base wr w' ∧ wr.heap.size ≤ w'.heap.size := by
  have hs := hX.size
  have hb : Below base wr w' := (hX.mono hbase).grown hg (by omega) (fun k e => own_base hown k e)
  have hlo : Lo B wr w' := Lo.of (hb.mono hB)
  exact ⟨Stk.push hsl hl hown' hlo, hlo, hb, Nat.le_trans hs hg.size⟩
theorem own_new {wr X : World} {base : Nat} {e : TypeId} {s : Nat} {v : Value} {n : Nat} {cs : List Value} (h : wr.ownsRow base e s v n cs) (hX : Below wr.heap.size wr X) : X.ownsRow base e s v n cs :=
  own_same h (fun g o _ hg => (hX.block g (Array.getElem?_eq_some_iff.1 hg).1).trans hg)
theorem two_new (w : World) (o o' : Obj) : Below w.heap.size w ((w.alloc o).alloc o') := (below1 _ _).trans ((below1 _ _).mono (by simp))
theorem alloc_at (w : World) (o o' : Obj) : ((w.alloc o).alloc o').heap[w.heap.size + 1]? = some o' := by
  have := World.alloc_heap_new (w.alloc o) o'; rwa [World.size_alloc] at this

/-- a value's three cells, by its number in a row -/
theorem SlV.at3 {W : World} {B : Nat} {p : Option Addr} {cap : Nat} {l : List V} (h : SlV W B p cap l) (i : Nat) (hi : i < l.length) :
    ∃ b o q c, p = some ⟨b, o, none⟩ ∧ b < B ∧ W.cell? ⟨b, o + i * 3, none⟩ = some (.int .i64 l[i].k) ∧ W.cell? ⟨b, o + i * 3 + 1, none⟩ = some (.int .i64 l[i].n) ∧ W.cell? ⟨b, o + i * 3 + 2, none⟩ = some (.slice q l[i].l.length c) ∧ SlV W B q c l[i].l ∧ I64 l[i].k ∧ I64 l[i].n := by
  obtain ⟨b, o, e, hb, h1⟩ := h.get i hi
  obtain ⟨q, c, h2, h3⟩ := h1.c2
  rw [Nat.mul_comm] at h1 h2
  exact ⟨b, o, q, c, e, hb, h1.c0, h1.c1, h2, h3, h1.k64, h1.n64⟩
theorem szs_drop {l : List V} {i : Nat} (hi : i < l.length) : szs (l.drop i) = 1 + szs l[i].l + szs (l.drop (i + 1)) := by
  rw [List.drop_eq_getElem_cons hi, szs, V.sz_eq]
theorem ownB {p : Nat} {n c : Nat} : (Value.slice (some ⟨p, 0, none⟩) n c).ownBlock = some p := rfl
end Go.Proofs.Ytikijkpklneihaa
namespace Go.Proofs.Ytikijkpklneihaa
open Go.RowKit
set_option linter.unusedVariables false
set_option linter.unusedSimpArgs false

theorem infoSl : (Try.prog.info? 22).map (fun i => (i.zero, i.size, i.bytes)) = some (some (.slice none 0 0), 1, 24) := by kernel_rfl
def sizeI (s : Nat) (m : Int) : Int := if m < 1 then max (m + 1) 0 else min (s : Int) (m + 1)

set_option maxRecDepth 100000 in
set_option maxHeartbeats 2000000 in
theorem Size_few (w : World) (B : Nat) (v : Value) (x : V) (m : Int) (hv : IsV w B v x) (hB : B ≤ w.heap.size) (hx : x.sz ≤ 200000) (hm : m < 1) (hm6 : I64 m) :
    Calls Try.prog 19 #[v, .int .i64 m] w fun e w' => e = .returned (.int .i64 (sizeI x.sz m)) ∧ Below w.heap.size w w' := by
  obtain ⟨⟨p, cap, rfl, h1⟩, h2, h3⟩ := hv
  have hs : sizeI x.sz m = max (m + 1) 0 := by simp [sizeI, hm]
  rw [hs]
  have hw : wrap64 (m + 1) = m + 1 := by unfold wrap64; have := hm6.1; omega
  generalize x.l.length = L at *
  generalize x.k = K at *
  generalize x.n = N at *
  clear h1 h2 h3
  go_enter Try.func19, Try.ntmps19
  go_wp2
  go_step3
  go_wp2
  · go_ret
    exact ⟨by rw [show max (m + 1) 0 = 0 from by omega]; rfl, below1 _ _⟩
  · go_ret
    exact ⟨by rw [show max (m + 1) 0 = m + 1 from by omega]; rfl, below1 _ _⟩

set_option maxRecDepth 100000 in
set_option maxHeartbeats 2000000 in
theorem Size_many (w : World) (B : Nat) (v : Value) (x : V) (m : Int) (hv : IsV w B v x) (hB : B ≤ w.heap.size) (hx : x.sz ≤ 200000) (hm : ¬ m < 1) (hm6 : I64 m) :
    Calls Try.prog 19 #[v, .int .i64 m] w fun e w' => e = .returned (.int .i64 (sizeI x.sz m)) ∧ Below w.heap.size w w' := by
  obtain ⟨⟨p, cap, rfl, h1⟩, h2, h3⟩ := hv
  have hs : sizeI x.sz m = min (x.sz : Int) (m + 1) := by simp [sizeI, hm]
  rw [hs]
  obtain ⟨i0, hi, hz0', hz1, hz2⟩ := info_parts infoSl
  have HX : Bx _ := ⟨V.sz_eq x⟩
  have HL : Bx _ := ⟨h1⟩
  have hcap : x.l.length ≤ cap ∧ cap ≤ maxLen := ⟨h1.1, h1.2.1⟩
  clear h1 h2 h3
  generalize hl : x.l = xl at *
  generalize x.k = K at *
  generalize x.n = N at *
  generalize x.sz = S at *
  clear hl
  go_enter Try.func19, Try.ntmps19
  go_wp2
  go_step3
  go_wp2
  go_step3
  go_wp2
  obtain ⟨W0, hW0⟩ : ∃ W0, (w.alloc (Obj.cells #[Value.int IntKind.i64 K, Value.int IntKind.i64 N, Value.slice p xl.length cap] 24)).alloc (Obj.cells #[Value.slice p xl.length cap] 22) = W0 := ⟨_, rfl⟩
  have hb0 : Below w.heap.size w W0 := by rw [← hW0]; exact (below1 _ _).trans ((below1 _ _).mono (by simp))
  have hW0h : W0.heap[w.heap.size + 1]? = some (.cells #[Value.slice p xl.length cap] 22 (0, 0)) := by
    rw [← hW0]; have := World.alloc_heap_new (w.alloc (Obj.cells #[Value.int IntKind.i64 K, Value.int IntKind.i64 N, Value.slice p xl.length cap] 24)) (Obj.cells #[Value.slice p xl.length cap] 22); rwa [World.size_alloc] at this
  have HS0 : Bx (Stk W0 (w.heap.size + 1) B (.slice (some ⟨w.heap.size + 1, 0, none⟩) 1 1) [xl]) :=
    ⟨⟨[.slice p xl.length cap], ⟨rfl, .inr ⟨_, 1, _, rfl, Nat.le_refl _, hW0h, by simp, by simp [maxLen], by simp, by simp⟩⟩, ⟨⟨p, cap, rfl, HL.out.lo (Lo.of (hb0.mono hB))⟩, trivial⟩⟩⟩
  have HB0 : Bx _ := ⟨hb0⟩
  have hz0 : w.heap.size + 2 ≤ W0.heap.size := by rw [← hW0]; simp
  rw [hW0]
  clear hb0 hW0h HL
  have hm1 : 1 ≤ m := by omega
  go_loopg [5, 6] S (fun k c v wr => ∃ (cn : Nat) (st : List (List V)), k = stz st + st.length ∧ k ≤ S ∧ c = .int .i64 cn ∧ cn + stz st = S ∧ (cn : Int) ≤ m ∧ Bx (Stk wr (w.heap.size + 1) B v st ∧ Below w.heap.size w wr ∧ w.heap.size + 2 ≤ wr.heap.size))
  case atStart => exact ⟨1, [xl], by simp [stz, HX.out]; omega, Nat.le_refl _, rfl, by simp [stz, HX.out], hm1, ⟨HS0.out, HB0.out, hz0⟩⟩
  case round =>
    obtain ⟨cn, st, hk, hkS, rfl, hc, hcm, HS⟩ := hrel
    clear HS0 HB0
    rcases List.eq_nil_or_concat st with rfl | ⟨qs, l, rfl⟩
    · have hcS : cn = S := by simpa [stz] using hc
      have he : (min (S : Int) (m + 1)) = (cn : Int) := by subst hcS; omega
      have HE : Bx _ := ⟨he⟩
      clear hcS hc he
      rcases HS.out.1.val with ⟨rfl, _⟩ | ⟨g, gc, rfl, _⟩
      · go_wp2
        go_ret
        exact ⟨congrArg (fun z => Ending.returned (.int .i64 z)) HE.out.symm, HS.out.2.1⟩
      · rw [show ([] : List (List V)).length = 0 from rfl]
        go_wp2
        rw [Exit.noGoto_ret]
        go_ret
        exact ⟨congrArg (fun z => Ending.returned (.int .i64 z)) HE.out.symm, HS.out.2.1⟩
    · rw [List.concat_eq_append] at HS hk hc
      obtain ⟨g, gc, q, qc, rfl, hg, hgl, hgc, hgm, c0, HQ, hst⟩ := HS.out.1.pop
      have hw0 := HS.out.2
      have hlq : l.length ≤ qc := HQ.1
      have hqm : qc ≤ maxLen := HQ.2.1
      have HQB : Bx _ := ⟨HQ⟩
      simp only [stz_append, stz, List.length_append, List.length_singleton, Nat.add_zero] at hk hc
      unfold maxLen at hgm hqm
      have hll := szs_len l
      clear HQ HS
      have HST : Bx _ := ⟨hst⟩
      have HW : Bx _ := ⟨hw0⟩
      clear hst hw0
      go_wp2
      go_loopg [5, 6, 34] l.length (fun k c v iv wr' => ∃ (i cn' : Nat) (st : List (List V)), k = l.length - i ∧ i ≤ l.length ∧ iv = .int .i64 i ∧ c = .int .i64 cn' ∧ cn' + szs (l.drop i) + stz st = S ∧ (cn' : Int) ≤ m ∧ stz st + st.length + szs (l.drop i) ≤ stz qs + qs.length + szs l ∧ Bx (Stk wr' (w.heap.size + 1) B v st ∧ SlV wr' B q qc l ∧ Below w.heap.size w wr' ∧ w.heap.size + 2 ≤ wr'.heap.size))
      case atStart => exact ⟨0, cn, qs, by simp, by omega, rfl, rfl, by simp <;> omega, hcm, by simp <;> omega, ⟨HST.out, HQB.out, HW.out.1, HW.out.2⟩⟩
      case round =>
        obtain ⟨i, cn', st, hk', hil, rfl, rfl, hc', hcm', hms, HR⟩ := hrel
        by_cases hlt : i < l.length
        · obtain ⟨b, o, r, rc, rfl, hbB, d0, d1, d2, hR, _, _⟩ := HR.out.2.1.at3 i hlt
          have hdr := szs_drop hlt
          have hw3 : Below wr.heap.size wr (wr.alloc (.cells #[.int .i64 l[i].k, .int .i64 l[i].n, .slice r l[i].l.length rc] 24)) := below1 _ _
          have HW3 : Bx (∀ o, Below wr.heap.size wr (wr.alloc o)) := ⟨fun o => below1 _ _⟩
          have hz := HR.out.2.2.2
          have hcn : (cn' : Int) + 1 ≤ 200000 := by omega
          by_cases hover : m < (cn' : Int) + 1
          · have he : (min (S : Int) (m + 1)) = ((cn' : Int) + 1) := by omega
            have HE : Bx _ := ⟨HR.out.2.2.1.trans (hw3.mono (by omega))⟩
            clear hw3 hdr
            go_wp2
            rw [Exit.noGoto_ret]
            go_ret
            exact ⟨by rw [he]; rfl, HE.out⟩
          · have hnv : ¬ m < (cn' : Int) + 1 := hover
            by_cases hkid : 0 < l[i].l.length
            · obtain ⟨xs, ho, hsl⟩ := HR.out.1.own
              have HO : Bx _ := ⟨ho⟩
              have HSL : Bx _ := ⟨hsl⟩
              have HRR : Bx _ := ⟨hR⟩
              have HOW : Bx (((wr.alloc (.cells #[.int .i64 l[i].k, .int .i64 l[i].n, .slice r l[i].l.length rc] 24)).alloc (.cells #[.slice r l[i].l.length rc] 22)).ownsRow (w.heap.size + 1) 22 1 u6 st.length xs) := ⟨own_new ho (two_new _ _ _)⟩
              clear ho hsl hR hw3 hover
              go_wp2_with (first | (at_builtin; refine wpList_append_own _ rfl (.tmp 47) (.tmp 50) 45 rfl (w.heap.size + 1) 22 i0 (.slice none 0 0) 1 24 Try.underlying45 hi hz0' hz1 hz2 rfl (by decide) u6 st.length xs rfl HOW.out ⟨wr.heap.size + 1, 0, none⟩ 1 1 [.slice r l[i].l.length rc] rfl rfl (slice_one _ _ _ 22 (alloc_at _ _ _)) (slice_cell _ _ _) (by unfold maxLen; omega) (by omega) (by simp; omega) ?_; intro v' w' hown' hgrow _; obtain ⟨p1, p2, p3, p4⟩ := push_all HO.out HSL.out HRR.out (two_new _ _ _) hown' hgrow (by omega) (by omega)))
              go_roundg (l.length - (i + 1))
              case measure => omega
              case rel => exact ⟨i + 1, cn' + 1, st ++ [l[i].l], rfl, by omega, by simp, by simp, by simp only [stz_append, stz]; omega, by omega, by simp only [stz_append, stz, List.length_append, List.length_singleton]; omega, ⟨p1, HR.out.2.1.lo p2, HR.out.2.2.1.trans (p3.mono (by omega)), by omega⟩⟩
            · have hk0 : l[i].l.length = 0 := by omega
              have hs0 : szs l[i].l = 0 := by rw [List.eq_nil_of_length_eq_zero hk0]; simp [szs]
              clear hR hover
              go_wp2
              go_roundg (l.length - (i + 1))
              case measure => omega
              case rel => exact ⟨i + 1, cn' + 1, st, rfl, by omega, by simp, by simp, by omega, by omega, by omega, ⟨HR.out.1.ext (by omega) (HW3.out _), HR.out.2.1.lo (Lo.of ((HW3.out _).mono (by omega))), HR.out.2.2.1.trans ((HW3.out _).mono (by omega)), by simp; omega⟩⟩
        · have hie : i = l.length := by omega
          subst hie
          simp only [List.drop_length, szs, Nat.add_zero] at hc' hms
          go_wp2
          go_roundg (stz st + st.length)
          case measure => omega
          case rel => exact ⟨cn', st, rfl, by omega, rfl, hc', hcm', ⟨HR.out.1, HR.out.2.2.1, HR.out.2.2.2⟩⟩
theorem Size_big (w : World) (B : Nat) (v : Value) (x : V) (m : Int) (hv : IsV w B v x) (hB : B ≤ w.heap.size) (hx : x.sz ≤ 200000) (hm6 : I64 m) :
    Calls Try.prog 19 #[v, .int .i64 m] w fun e w' => e = .returned (.int .i64 (sizeI x.sz m)) ∧ Below w.heap.size w w' := by
  by_cases hm : m < 1
  · exact Size_few w B v x m hv hB hx hm hm6
  · exact Size_many w B v x m hv hB hx hm hm6
theorem Size_any (w : World) (B : Nat) (v : Value) (x : V) (m : Int) (hv : IsV w B v x) (hB : B ≤ w.heap.size) (hx : x.sz ≤ 65536) (hm6 : I64 m) :
    Calls Try.prog 19 #[v, .int .i64 m] w fun e w' => e = .returned (.int .i64 (sizeI x.sz m)) ∧ Below w.heap.size w w' := Size_big w B v x m hv hB (by omega) hm6
end Go.Proofs.Ytikijkpklneihaa
namespace Go.Proofs.Ytikijkpklneihaa
open Go.RowKit
set_option linter.unusedVariables false
set_option linter.unusedSimpArgs false

def shI (ka na : Int) (la : Nat) (kb nb : Int) (lb : Nat) : Bool := (ka == kb) && ((na == nb) && ((la : Int) == (lb : Int)))
theorem shI_iff {a b : V} : shI a.k a.n a.l.length b.k b.n b.l.length = true ↔ a.k = b.k ∧ a.n = b.n ∧ a.l.length = b.l.length := by simp [shI]; omega

set_option maxRecDepth 100000 in
set_option maxHeartbeats 2000000 in
theorem sameHead_any (w : World) (ka na : Int) (pa : Option Addr) (la ca : Nat) (kb nb : Int) (pb : Option Addr) (lb cb : Nat) :
    Calls Try.prog 35 #[.agg #[.int .i64 ka, .int .i64 na, .slice pa la ca], .agg #[.int .i64 kb, .int .i64 nb, .slice pb lb cb]] w fun e w' => e = .returned (.bool (shI ka na la kb nb lb)) ∧ Below w.heap.size w w' := by
  by_cases h1 : ka = kb
  · by_cases h2 : na = nb
    · subst h1 h2
      go_enter Try.func35, Try.ntmps35
      go_wp2
      go_ret
      exact ⟨by simp [shI], two_new _ _ _⟩
    · subst h1
      have e : shI ka na la ka nb lb = false := by simp [shI, h2]
      rw [e]
      have hb : (na == nb) = false := by simpa using h2
      go_enter Try.func35, Try.ntmps35
      go_wp2
      go_ret
      exact ⟨rfl, two_new _ _ _⟩
  · have e : shI ka na la kb nb lb = false := by simp [shI, h1]
    rw [e]
    have hb : (ka == kb) = false := by simpa using h1
    go_enter Try.func35, Try.ntmps35
    go_wp2
    go_ret
    exact ⟨rfl, two_new _ _ _⟩

/-- pairs of slices, one behind the other -/
def PrL (W : World) (B : Nat) : List (List V × List V) → List Value → Prop
  | [], xs => xs = []
  | l :: ls, xs => ∃ p c p' c' ys, xs = .slice p l.1.length c :: .slice p' l.2.length c' :: ys ∧ SlV W B p c l.1 ∧ SlV W B p' c' l.2 ∧ PrL W B ls ys
def PrVs (W : World) (B : Nat) (xs : List Value) (ls : List (List V × List V)) : Prop := PrL W B ls xs
theorem PrVs.len {W : World} {B : Nat} {ls : List (List V × List V)} : ∀ {xs : List Value}, PrVs W B xs ls → xs.length = ls.length * 2 := by
  induction ls with
  | nil => intro xs h; simp [PrVs, PrL] at h; simp [h]
  | cons l ls ih =>
    intro xs h
    obtain ⟨p, c, p', c', ys, rfl, h1, h2, h3⟩ := h
    have := ih h3; simp; omega
theorem PrVs.lo {W W' : World} {B : Nat} (hB : Lo B W W') {ls : List (List V × List V)} : ∀ {xs : List Value}, PrVs W B xs ls → PrVs W' B xs ls := by
  induction ls with
  | nil => intro xs h; exact h
  | cons l ls ih =>
    intro xs h
    obtain ⟨p, c, p', c', ys, rfl, h1, h2, h3⟩ := h
    exact ⟨p, c, p', c', ys, rfl, h1.lo hB, h2.lo hB, ih h3⟩
theorem PrVs.append {W : World} {B : Nat} {ls ms : List (List V × List V)} {ys : List Value} : ∀ {xs : List Value}, PrVs W B xs ls → PrVs W B ys ms → PrVs W B (xs ++ ys) (ls ++ ms) := by
  induction ls with
  | nil => intro xs h k; simp [PrVs, PrL] at h; subst h; exact k
  | cons l ls ih =>
    intro xs h k
    obtain ⟨p, c, p', c', zs, rfl, h1, h2, h3⟩ := h
    exact ⟨p, c, p', c', zs ++ ys, rfl, h1, h2, ih h3 k⟩
theorem PrVs.last {W : World} {B : Nat} {l : List V × List V} {ls : List (List V × List V)} : ∀ {xs : List Value}, PrVs W B xs (ls ++ [l]) → ∃ ys p cap p' cap', xs = ys ++ [.slice p l.1.length cap, .slice p' l.2.length cap'] ∧ PrVs W B ys ls ∧ SlV W B p cap l.1 ∧ SlV W B p' cap' l.2 := by
  induction ls with
  | nil =>
    intro xs h
    obtain ⟨p, c, p', c', zs, rfl, h1, h2, h3⟩ := h
    simp [PrL] at h3
    subst h3
    exact ⟨[], p, c, p', c', rfl, rfl, h1, h2⟩
  | cons m ls ih =>
    intro xs h
    obtain ⟨p, c, p', c', zs, rfl, h1, h2, h3⟩ := h
    obtain ⟨ys, q, d, q', d', rfl, k1, k2, k3⟩ := ih h3
    exact ⟨_ :: _ :: ys, q, d, q', d', rfl, ⟨p, c, p', c', ys, rfl, h1, h2, k1⟩, k2, k3⟩

structure StkP (W : World) (base B : Nat) (v : Value) (st : List (List V × List V)) : Prop where
  own : ∃ xs, W.ownsRow base 56 2 v st.length xs ∧ PrVs W B xs st
theorem StkP.val {W : World} {base B : Nat} {v : Value} {st : List (List V × List V)} (h : StkP W base B v st) : (v = .slice none 0 0 ∧ st = []) ∨ ∃ g cap, v = .slice (some ⟨g, 0, none⟩) st.length cap ∧ base ≤ g ∧ g < W.heap.size ∧ st.length ≤ cap ∧ cap ≤ maxLen := by
  obtain ⟨xs, h1, h2⟩ := h.own
  rcases h1.2 with ⟨rfl, h3⟩ | ⟨g, cap, cur, rfl, h4, h5, h6, h7, _⟩
  · exact .inl ⟨rfl, List.eq_nil_of_length_eq_zero h3⟩
  · exact .inr ⟨g, cap, rfl, h4, (Array.getElem?_eq_some_iff.1 h5).1, h6, h7⟩
theorem StkP.pop {W : World} {base B : Nat} {v : Value} {st : List (List V × List V)} {l : List V × List V} (h : StkP W base B v (st ++ [l])) :
    ∃ g cap p c p' c', v = .slice (some ⟨g, 0, none⟩) (st.length + 1) cap ∧ base ≤ g ∧ g < W.heap.size ∧ st.length + 1 ≤ cap ∧ cap ≤ maxLen ∧ W.cell? ⟨g, st.length * 2, none⟩ = some (.slice p l.1.length c) ∧ W.cell? ⟨g, st.length * 2 + 1, none⟩ = some (.slice p' l.2.length c') ∧
      SlV W B p c l.1 ∧ SlV W B p' c' l.2 ∧ StkP W base B (.slice (some ⟨g, 0, none⟩) st.length cap) st := by
  obtain ⟨xs, h1, h2⟩ := h.own
  obtain ⟨ys, p, c, p', c', rfl, h3, h4, h4'⟩ := h2.last
  obtain ⟨q1, q2⟩ := h1
  have hl := h3.len
  rcases q2 with ⟨_, h5⟩ | ⟨g, cap, cur, rfl, q3, q4, q5, q6, q7, q8⟩
  · simp at h5
  · simp only [List.length_append, List.length_singleton] at q5 q7 q8 ⊢
    have hcur : ∀ j, j < (st.length + 1) * 2 → cur[j]? = (ys ++ [Value.slice p l.1.length c, Value.slice p' l.2.length c'])[j]? := fun j hj => by
      rw [← q8, List.getElem?_take_of_lt hj, Array.getElem?_toList]
    refine ⟨g, cap, p, c, p', c', rfl, q3, (Array.getElem?_eq_some_iff.1 q4).1, q5, q6, ?_, ?_, h4, h4', ⟨ys, ⟨by omega, .inr ⟨g, cap, cur, rfl, q3, q4, by omega, q6, by omega, ?_⟩⟩, h3⟩⟩
    · simp only [World.cell?, q4]
      rw [hcur _ (by omega)]
      simp [← hl]
    · simp only [World.cell?, q4]
      rw [hcur _ (by omega), ← hl, List.getElem?_append_right (by omega)]
      simp
    · apply List.ext_getElem?
      intro j
      by_cases hj : j < st.length * 2
      · rw [List.getElem?_take_of_lt (by omega), Array.getElem?_toList, hcur j (by omega), List.getElem?_append_left (by omega)]
      · rw [List.getElem?_eq_none (by simp; omega), List.getElem?_eq_none (by omega)]
theorem StkP.keep {W W' : World} {base B : Nat} {v : Value} {st : List (List V × List V)} (h : StkP W base B v st) (hB : Lo B W W') (hb : ∀ g o, v.ownBlock = some g → W.heap[g]? = some o → W'.heap[g]? = some o) : StkP W' base B v st := by
  obtain ⟨xs, h1, h2⟩ := h.own
  exact ⟨xs, own_same h1 hb, h2.lo hB⟩
theorem StkP.ext {W W' : World} {base B : Nat} {v : Value} {st : List (List V × List V)} (h : StkP W base B v st) (hB : B ≤ W.heap.size) (hb : Below W.heap.size W W') : StkP W' base B v st :=
  h.keep (Lo.of (hb.mono hB)) (fun g o _ hg => (hb.block g (Array.getElem?_eq_some_iff.1 hg).1).trans hg)
theorem pushP_all {wr X w' : World} {base B : Nat} {u v' : Value} {st : List (List V × List V)} {xs : List Value} {r : Option Addr} {rc : Nat} {l : List V} {r' : Option Addr} {rc' : Nat} {l' : List V} (hown : wr.ownsRow base 56 2 u st.length xs) (hsl : PrVs wr B xs st) (hl : SlV wr B r rc l) (hl' : SlV wr B r' rc' l') (hX : Below wr.heap.size wr X)
    (hown' : w'.ownsRow base 56 2 v' (st.length + 1) (xs ++ [.slice r l.length rc, .slice r' l'.length rc'])) (hg : X.grownBy w' u.ownBlock) (hB : B ≤ base) (hbase : base ≤ wr.heap.size) :
    StkP w' base B v' (st ++ [(l, l')]) ∧ Lo B wr w' ∧ Below base wr w' ∧ wr.heap.size ≤ w'.heap.size := by
  have hs := hX.size
  have hb : Below base wr w' := (hX.mono hbase).grown hg (by omega) (fun k e => own_base hown k e)
  have hlo : Lo B wr w' := Lo.of (hb.mono hB)
  exact ⟨⟨_, by simpa using hown', (hsl.append (ys := [.slice r l.length rc, .slice r' l'.length rc']) (ms := [(l, l')]) ⟨r, rc, r', rc', [], rfl, hl, hl', rfl⟩).lo hlo⟩, hlo, hb, Nat.le_trans hs hg.size⟩
/-- a slice of one value -/
theorem one_sl {W : World} {B b : Nat} {p : Option Addr} {cap : Nat} {x : V} {t : TypeId} (h : W.heap[b]? = some (.cells #[.int .i64 x.k, .int .i64 x.n, .slice p x.l.length cap] t (0, 0))) (hs : SlV W B p cap x.l) (hk : I64 x.k) (hn : I64 x.n) (hb : b < B) : SlV W B (some ⟨b, 0, none⟩) 1 [x] := by
  refine ⟨by simp, by simp [maxLen], .inr ⟨b, 0, rfl, hb, ?_⟩⟩
  simp only [AtVs, and_true]
  refine atV_iff.2 ⟨?_, ?_, hk, hn, p, cap, ?_, hs⟩ <;> simp [World.cell?, h]
theorem infoPr : (Try.prog.info? 56).map (fun i => (i.zero, i.size, i.bytes)) = some (some (.agg #[.slice none 0 0, .slice none 0 0]), 2, 48) := by kernel_rfl
theorem drop_eq_iff {l m : List V} {i : Nat} (h1 : i < l.length) (h2 : i < m.length) : (l.drop i = m.drop i) ↔ (l[i] = m[i] ∧ l.drop (i + 1) = m.drop (i + 1)) := by
  rw [List.drop_eq_getElem_cons h1, List.drop_eq_getElem_cons h2, List.cons.injEq]
theorem keep2 {wr w3 : World} {a0 a1 a2 b0 b1 b2 : Value} {t : TypeId} (hb : Below ((wr.alloc (.cells #[a0, a1, a2] t)).alloc (.cells #[b0, b1, b2] t)).heap.size ((wr.alloc (.cells #[a0, a1, a2] t)).alloc (.cells #[b0, b1, b2] t)) w3) :
    w3.cell? ⟨wr.heap.size, 2, none⟩ = some a2 ∧ w3.cell? ⟨wr.heap.size + 1, 2, none⟩ = some b2 ∧ Below wr.heap.size wr w3 ∧ wr.heap.size + 2 ≤ w3.heap.size := by
  have h1 : w3.heap[wr.heap.size]? = some (.cells #[a0, a1, a2] t) := (hb.block _ (by simp; omega)).trans ((Below.heap_alloc _ _ _ (by simp)).trans (World.alloc_heap_new wr _))
  have h2 : w3.heap[wr.heap.size + 1]? = some (.cells #[b0, b1, b2] t) := (hb.block _ (by simp)).trans (alloc_at _ _ _)
  have hs := hb.size
  simp at hs
  refine ⟨by simp [World.cell?, h1], by simp [World.cell?, h2], (two_new _ _ _).trans (hb.mono (by simp; omega)), by omega⟩
theorem pair_one (W : World) (g : Nat) (u u' : Value) (t : TypeId) (hg : W.heap[g]? = some (.cells #[u, u'] t (0, 0))) : ∀ (j : Nat) (x : Value), [u, u'][j]? = some x → W.cell? ((⟨g, 0, none⟩ : Addr).add j) = some x := by
  intro j x hx
  match j with
  | 0 => simp at hx; subst hx; simp [World.cell?, Addr.add, hg]
  | 1 => simp at hx; subst hx; simp [World.cell?, Addr.add, hg]
  | j + 2 => simp at hx
theorem pair_cell (p : Option Addr) (n c : Nat) (p' : Option Addr) (n' c' : Nat) : ∀ u ∈ [Value.slice p n c, Value.slice p' n' c'], u.oneCell' = true := by
  intro u hu; simp at hu; rcases hu with rfl | rfl <;> rfl
def stp : List (List V × List V) → Nat
  | [] => 0
  | l :: ls => szs l.1 + stp ls
theorem stp_append (a b : List (List V × List V)) : stp (a ++ b) = stp a + stp b := by
  induction a with
  | nil => simp [stp]
  | cons x xs ih => simp [stp, ih]; omega
theorem all_snoc {st : List (List V × List V)} {q : List V × List V} {P : List V × List V → Prop} : (∀ x ∈ st ++ [q], P x) ↔ (∀ x ∈ st, P x) ∧ P q := by
  constructor
  · intro h; exact ⟨fun x hx => h x (by simp [hx]), h q (by simp)⟩
  · rintro ⟨h1, h2⟩ x hx
    rcases List.mem_append.1 hx with h | h
    · exact h1 x h
    · simp at h; subst h; exact h2
theorem alloc3_at {w : World} {a b c d : Obj} : ((((w.alloc a).alloc b).alloc c).alloc d).heap[w.heap.size + 2]? = some c := by
  have := World.alloc_heap_new ((w.alloc a).alloc b) c
  rw [World.size_alloc, World.size_alloc] at this
  exact (Below.heap_alloc _ _ _ (by simp)).trans this

open Classical in
noncomputable def eqB (x y : V) : Bool := decide (x = y)
theorem eqB_yes {x y : V} (h : x = y) : eqB x y = true := by simp [eqB, h]
theorem eqB_no {x y : V} (h : ¬ x = y) : eqB x y = false := by simp [eqB, h]
set_option maxRecDepth 100000 in
set_option maxHeartbeats 2000000 in
theorem Same_any (w : World) (B : Nat) (v u : Value) (x y : V) (hv : IsV w B v x) (hu : IsV w B u y) (hB : B ≤ w.heap.size) (hx : x.sz ≤ 65536) :
    Calls Try.prog 20 #[v, u] w fun e w' => e = .returned (.bool (eqB x y)) ∧ Below w.heap.size w w' := by
  obtain ⟨⟨p, cap, rfl, h1⟩, h2, h3⟩ := hv
  obtain ⟨⟨p', cap', rfl, h1'⟩, h2', h3'⟩ := hu
  obtain ⟨i0, hi, iz0, iz1, iz2⟩ := info_parts infoPr
  go_enter Try.func20, Try.ntmps20
  go_wp2
  obtain ⟨W0, hW0⟩ : ∃ W0, ((((w.alloc (Obj.cells #[Value.int IntKind.i64 x.k, Value.int IntKind.i64 x.n, Value.slice p x.l.length cap] 24)).alloc (Obj.cells #[Value.int IntKind.i64 y.k, Value.int IntKind.i64 y.n, Value.slice p' y.l.length cap'] 24)).alloc (Obj.cells #[Value.int IntKind.i64 x.k, Value.int IntKind.i64 x.n, Value.slice p x.l.length cap] 24)).alloc (Obj.cells #[Value.int IntKind.i64 y.k, Value.int IntKind.i64 y.n, Value.slice p' y.l.length cap'] 24)) = W0 := ⟨_, rfl⟩
  have hz0 : W0.heap.size = w.heap.size + 4 := by rw [← hW0]; simp
  have hb0 : Below w.heap.size w W0 := by rw [← hW0]; exact (two_new _ _ _).trans ((two_new _ _ _).mono (by simp; omega))
  have ha2 : W0.heap[w.heap.size + 2]? = some (Obj.cells #[Value.int IntKind.i64 x.k, Value.int IntKind.i64 x.n, Value.slice p x.l.length cap] 24) := by rw [← hW0]; exact alloc3_at
  have ha3 : W0.heap[w.heap.size + 3]? = some (Obj.cells #[Value.int IntKind.i64 y.k, Value.int IntKind.i64 y.n, Value.slice p' y.l.length cap'] 24) := by
    rw [← hW0]; have := alloc_at ((w.alloc (Obj.cells #[Value.int IntKind.i64 x.k, Value.int IntKind.i64 x.n, Value.slice p x.l.length cap] 24)).alloc (Obj.cells #[Value.int IntKind.i64 y.k, Value.int IntKind.i64 y.n, Value.slice p' y.l.length cap'] 24)) (Obj.cells #[Value.int IntKind.i64 x.k, Value.int IntKind.i64 x.n, Value.slice p x.l.length cap] 24) (Obj.cells #[Value.int IntKind.i64 y.k, Value.int IntKind.i64 y.n, Value.slice p' y.l.length cap'] 24)
    simpa using this
  rw [hW0]
  have hLo : Lo B w W0 := Lo.of (hb0.mono hB)
  obtain ⟨A, hA⟩ : ∃ A, A = w.heap.size + 4 := ⟨_, rfl⟩
  have hr1 : SlV W0 A (some ⟨w.heap.size + 2, 0, none⟩) 1 [x] := one_sl ha2 ((h1.lo hLo).up (by omega)) h2 h3 (by omega)
  have hr2 : SlV W0 A (some ⟨w.heap.size + 3, 0, none⟩) 1 [y] := one_sl ha3 ((h1'.lo hLo).up (by omega)) h2' h3' (by omega)
  obtain ⟨W1, hW1⟩ : ∃ W1, W0.alloc (Obj.cells #[Value.slice (some ⟨w.heap.size + 2, 0, none⟩) 1 1, Value.slice (some ⟨w.heap.size + 3, 0, none⟩) 1 1] 56) = W1 := ⟨_, rfl⟩
  have hb1 : Below W0.heap.size W0 W1 := by rw [← hW1]; exact below1 _ _
  have hn1 : W1.heap[A]? = some (Obj.cells #[Value.slice (some ⟨w.heap.size + 2, 0, none⟩) 1 1, Value.slice (some ⟨w.heap.size + 3, 0, none⟩) 1 1] 56) := by rw [← hW1, hA, ← hz0]; exact World.alloc_heap_new _ _
  have hLo1 : Lo A W0 W1 := Lo.of (hb1.mono (by omega))
  have HS0 : Bx (StkP W1 A A (.slice (some ⟨A, 0, none⟩) 1 1) [([x], [y])] ∧ Below w.heap.size w W1 ∧ A + 1 ≤ W1.heap.size) :=
    ⟨⟨⟨[.slice (some ⟨w.heap.size + 2, 0, none⟩) 1 1, .slice (some ⟨w.heap.size + 3, 0, none⟩) 1 1], ⟨rfl, .inr ⟨_, 1, _, rfl, Nat.le_refl _, hn1, by simp, by simp [maxLen], by simp, by simp⟩⟩, ⟨_, _, _, _, [], rfl, hr1.lo hLo1, hr2.lo hLo1, rfl⟩⟩⟩, hb0.trans (hb1.mono (by omega)), by rw [← hW1]; simp; omega⟩
  simp only [Nat.add_assoc, Nat.reduceAdd]
  rw [hz0] at *
  have hAw : w.heap.size ≤ A := by omega
  rw [← hA] at *
  rw [hW1]
  clear hr1 hr2 hLo1 hn1 hb1 hW1 ha2 ha3 hW0 hb0 hLo h1 h1' h2 h2' h3 h3'
  go_loopg [5] (x.sz + 1) (fun k v wr => ∃ st, k = stp st + st.length ∧ k ≤ x.sz + 1 ∧ (∀ q ∈ st, q.1.length = q.2.length) ∧ Bx ((x = y ↔ ∀ q ∈ st, q.1 = q.2) ∧ StkP wr A A v st ∧ Below w.heap.size w wr ∧ A + 1 ≤ wr.heap.size))
  case atStart => exact ⟨[([x], [y])], by simp [stp, szs], Nat.le_refl _, by simp, ⟨by simp, HS0.out⟩⟩
  case round =>
    obtain ⟨st, hk, hkS, hlen, HS⟩ := hrel
    clear HS0
    rcases List.eq_nil_or_concat st with rfl | ⟨qs, ⟨l, l'⟩, rfl⟩
    · have HE : Bx (x = y ∧ Below w.heap.size w wr) := ⟨HS.out.1.2 (by simp), HS.out.2.2.1⟩
      rcases HS.out.2.1.val with ⟨rfl, _⟩ | ⟨g, gc, rfl, _⟩
      · go_wp2
        go_ret
        exact ⟨congrArg (fun z => Ending.returned (.bool z)) (eqB_yes HE.out.1).symm, HE.out.2⟩
      · rw [show ([] : List (List V × List V)).length = 0 from rfl]
        go_wp2
        go_ret
        exact ⟨congrArg (fun z => Ending.returned (.bool z)) (eqB_yes HE.out.1).symm, HE.out.2⟩
    · rw [List.concat_eq_append] at HS hk hlen
      obtain ⟨g, gc, q, qc, q', qc', rfl, hg, hgl, hgc, hgm, c0, c1, HQ, HQ', hst⟩ := HS.out.2.1.pop
      rw [all_snoc] at hlen
      obtain ⟨hlen, hll⟩ := hlen
      simp only at hll c0 c1 HQ HQ'
      have hlq : l.length ≤ qc := HQ.1
      have hqm : qc ≤ maxLen := HQ.2.1
      have hlq' : l'.length ≤ qc' := HQ'.1
      rw [← hll] at c1 hlq'
      have HLL : Bx _ := ⟨hll⟩
      clear hll
      have hqm' : qc' ≤ maxLen := HQ'.2.1
      simp only [stp_append, stp, List.length_append, List.length_singleton, Nat.add_zero] at hk
      have HLN : Bx _ := ⟨hlen⟩
      have HT : Bx (x = y ↔ (l = l' ∧ ∀ q ∈ qs, q.1 = q.2)) := ⟨HS.out.1.trans (by rw [all_snoc]; exact And.comm)⟩
      unfold maxLen at hgm hqm hqm'
      have hzl := szs_len l
      obtain ⟨W2, hW2⟩ : ∃ W2, wr.alloc (Obj.cells #[Value.slice q l.length qc, Value.slice q' l.length qc'] 56) = W2 := ⟨_, rfl⟩
      have hb2 : Below wr.heap.size wr W2 := by rw [← hW2]; exact below1 _ _
      have hg2 : W2.heap[wr.heap.size]? = some (Obj.cells #[Value.slice q l.length qc, Value.slice q' l.length qc'] 56) := by rw [← hW2]; exact World.alloc_heap_new _ _
      have hA := HS.out.2.2.2
      have HST : Bx (StkP W2 A A (.slice (some ⟨g, 0, none⟩) qs.length gc) qs ∧ SlV W2 A q qc l ∧ SlV W2 A q' qc' l' ∧ Below w.heap.size w W2 ∧ Below (wr.heap.size + 1) W2 W2) :=
        ⟨hst.ext (by omega) hb2, HQ.lo (Lo.of (hb2.mono (by omega))), HQ'.lo (Lo.of (hb2.mono (by omega))), HS.out.2.2.1.trans (hb2.mono (by omega)), Below.refl _ _⟩
      have HG2 : Bx _ := ⟨hg2⟩
      have hz2 : W2.heap.size = wr.heap.size + 1 := by rw [← hW2]; simp
      have x0 : W2.cell? ⟨wr.heap.size, 0, none⟩ = some (.slice q l.length qc) := by simp [World.cell?, hg2]
      have x1 : W2.cell? ⟨wr.heap.size, 1, none⟩ = some (.slice q' l.length qc') := by simp [World.cell?, hg2]
      clear HQ HQ' HS hst hlen hb2 hg2
      go_wp2
      clear hW2 x0 x1
      have hAR : A + 1 ≤ wr.heap.size := by omega
      generalize wr.heap.size = R at *
      have HR0 : Bx _ := ⟨HG2.out⟩
      go_loopg [5, 33] l.length (fun k v iv wr' => ∃ (i : Nat) (st : List (List V × List V)), k = l.length - i ∧ i ≤ l.length ∧ iv = .int .i64 i ∧ stp st + st.length + szs (l.drop i) ≤ stp qs + qs.length + szs l ∧ Bx ((∀ q ∈ st, q.1.length = q.2.length) ∧ (x = y ↔ (l.drop i = l'.drop i ∧ ∀ q ∈ st, q.1 = q.2)) ∧ StkP wr' A A v st ∧ SlV wr' A q qc l ∧ SlV wr' A q' qc' l' ∧ Below w.heap.size w wr' ∧ R + 1 ≤ wr'.heap.size ∧ W2.heap[R]? = wr'.heap[R]? ∧ v.ownBlock ≠ some R))
      case atStart => exact ⟨0, qs, by simp, by omega, rfl, by simp, ⟨HLN.out, by simpa using HT.out, HST.out.1, HST.out.2.1, HST.out.2.2.1, HST.out.2.2.2.1, by omega, rfl, by rw [ownB]; intro e; cases e; omega⟩⟩
      case round =>
        obtain ⟨i, st, hk', hil, rfl, hms, HR⟩ := hrel
        have hRc : wr.heap[R]? = some (Obj.cells #[Value.slice q l.length qc, Value.slice q' l.length qc'] 56) := HR.out.2.2.2.2.2.2.2.1.symm.trans HG2.out
        have e0 : wr.cell? ⟨R, 0, none⟩ = some (.slice q l.length qc) := by simp [World.cell?, hRc]
        have e1 : wr.cell? ⟨R, 1, none⟩ = some (.slice q' l.length qc') := by simp [World.cell?, hRc]
        have hRz : R < wr.heap.size := HR.out.2.2.2.2.2.2.1
        by_cases hlt : i < l.length
        · obtain ⟨b, o, r, rc, rfl, hbB, d0, d1, d2, hR, _, _⟩ := HR.out.2.2.2.1.at3 i hlt
          have hlt' : i < l'.length := by have := HLL.out; omega
          obtain ⟨b', o', r', rc', rfl, hbB', d0', d1', d2', hR', _, _⟩ := HR.out.2.2.2.2.1.at3 i hlt'
          have hdr := szs_drop hlt
          have hbl : b < wr.heap.size := by omega
          have hbl' : b' < wr.heap.size := by omega
          have hdi := drop_eq_iff hlt hlt'
          have HI : Bx _ := ⟨HR.out.2.1⟩
          have HDI : Bx _ := ⟨hdi⟩
          have hA2 : A + 1 ≤ wr.heap.size := by omega
          clear hdi
          cases hsh : shI l[i].k l[i].n l[i].l.length l'[i].k l'[i].n l'[i].l.length
          · have HNE : Bx (¬ x = y) := ⟨fun h => by
              have h2 := (HDI.out.1 (HI.out.1 h).1).1
              rw [shI_iff.2 ⟨by rw [h2], by rw [h2], by rw [h2]⟩] at hsh
              cases hsh⟩
            have HB : Bx _ := ⟨HR.out.2.2.2.2.2.1⟩
            clear hR hR' HR HDI
            go_wp2_with (first | (go_at_call 35; refine Calls.mono (sameHead_any _ _ _ _ _ _ _ _ _ _ _) ?_; rintro e w3 ⟨he3, hb3⟩; rw [hsh] at he3; subst he3; obtain ⟨g2, g2', hb3', hz3⟩ := keep2 hb3))
            go_ret
            exact ⟨congrArg (fun z => Ending.returned (.bool z)) (eqB_no HNE.out).symm, HB.out.trans (hb3'.mono (by omega))⟩
          · obtain ⟨s1, s2, s3⟩ := shI_iff.1 hsh
            have hVe : l[i] = l'[i] ↔ l[i].l = l'[i].l := ⟨fun h => by rw [h], fun h => V.ext s1 s2 h⟩
            have HVE : Bx _ := ⟨hVe⟩
            have HS3 : Bx _ := ⟨s3⟩
            clear s1 s2 s3 hVe
            by_cases hkid : 0 < l[i].l.length
            · obtain ⟨xs, ho, hsl⟩ := HR.out.2.2.1.own
              have HO : Bx _ := ⟨ho⟩
              have HSL : Bx _ := ⟨hsl⟩
              have HRR : Bx _ := ⟨hR⟩
              have HRR' : Bx _ := ⟨hR'⟩
              clear ho hsl hR hR'
              go_wp2_with (first | (go_at_call 35; refine Calls.mono (sameHead_any _ _ _ _ _ _ _ _ _ _ _) ?_; rintro e w3 ⟨he3, hb3⟩; rw [hsh] at he3; subst he3; obtain ⟨g2, g2', hb3', hz3⟩ := keep2 hb3) | (at_builtin; refine wpList_append_lies _ rfl (.tmp 51) (.tmp 57) 57 rfl A 56 i0 (.agg #[.slice none 0 0, .slice none 0 0]) 2 48 Try.underlying57 hi iz0 iz1 iz2 rfl (by decide) u5 st.length xs rfl (own_new HO.out (hb3'.trans ((below1 _ _).mono hb3'.size))) ⟨w3.heap.size, 0, none⟩ 1 1 [.slice r l[i].l.length rc, .slice r' l'[i].l.length rc'] rfl rfl (pair_one _ _ _ _ 56 (World.alloc_heap_new _ _)) (pair_cell _ _ _ _ _ _) (by decide) (by unfold maxLen; omega) (by omega) (by simp; omega) (w3.heap.size + 1) (by simp) ?_; intro gg gcap w' hown' hgrow hgi hgl'; obtain ⟨p1, p2, p3, p4⟩ := pushP_all HO.out HSL.out HRR.out HRR'.out (hb3'.trans ((below1 _ _).mono hb3'.size)) hown' hgrow (by omega) (by omega); have hw9 : W2.heap[R]? = w'.heap[R]? := (HR.out.2.2.2.2.2.2.2.1.trans ((hgrow.block R (by simp; omega) (fun e => HR.out.2.2.2.2.2.2.2.2 e.symm)).trans ((hb3'.trans ((below1 _ _).mono hb3'.size)).block R (by omega))).symm); have hw8 : (Value.slice (some ⟨gg, 0, none⟩) (st.length + 1) gcap).ownBlock ≠ some R := (by rw [ownB]; rcases hgi with h | h <;> intro e <;> cases e <;> first | exact HR.out.2.2.2.2.2.2.2.2 h | omega)))
              go_roundg (l.length - (i + 1))
              case measure => omega
              case rel => exact ⟨i + 1, st ++ [(l[i].l, l'[i].l)], rfl, by omega, by simp, by simp only [stp_append, stp, List.length_append, List.length_singleton]; omega, ⟨all_snoc.2 ⟨HR.out.1, HS3.out⟩, by rw [HI.out, HDI.out, HVE.out, all_snoc]; exact ⟨fun h => ⟨h.1.2, h.2, h.1.1⟩, fun h => ⟨⟨h.2.2, h.1⟩, h.2.1⟩⟩, p1, HR.out.2.2.2.1.lo p2, HR.out.2.2.2.2.1.lo p2, HR.out.2.2.2.2.2.1.trans (p3.mono (by omega)), by omega, hw9, hw8⟩⟩
            · have hk0 : l[i].l = [] := List.eq_nil_of_length_eq_zero (by omega)
              have hk0' : l'[i].l = [] := List.eq_nil_of_length_eq_zero (by have := HS3.out; omega)
              have HK : Bx (l[i].l = l'[i].l ∧ szs l[i].l = 0) := ⟨by rw [hk0, hk0'], by rw [hk0]; simp [szs]⟩
              clear hk0 hk0' hR hR'
              go_wp2_with (first | (go_at_call 35; refine Calls.mono (sameHead_any _ _ _ _ _ _ _ _ _ _ _) ?_; rintro e w3 ⟨he3, hb3⟩; rw [hsh] at he3; subst he3; obtain ⟨g2, g2', hb3', hz3⟩ := keep2 hb3))
              go_roundg (l.length - (i + 1))
              case measure => omega
              case rel => exact ⟨i + 1, st, rfl, by omega, by simp, by have := HK.out.2; omega, ⟨HR.out.1, by rw [HI.out, HDI.out, HVE.out]; exact ⟨fun h => ⟨h.1.2, h.2⟩, fun h => ⟨⟨HK.out.1, h.1⟩, h.2⟩⟩, HR.out.2.2.1.ext (by omega) hb3', HR.out.2.2.2.1.lo (Lo.of (hb3'.mono (by omega))), HR.out.2.2.2.2.1.lo (Lo.of (hb3'.mono (by omega))), HR.out.2.2.2.2.2.1.trans (hb3'.mono (by omega)), by omega, HR.out.2.2.2.2.2.2.2.1.trans (hb3'.block _ (by omega)).symm, HR.out.2.2.2.2.2.2.2.2⟩⟩
        · have hie : i = l.length := by omega
          subst hie
          simp only [List.drop_length, szs, Nat.add_zero] at hms
          have HF : Bx (x = y ↔ ∀ q ∈ st, q.1 = q.2) := ⟨HR.out.2.1.trans (by rw [show List.drop l.length l' = [] from (by rw [HLL.out, List.drop_length]), List.drop_length]; simp)⟩
          go_wp2
          go_roundg (stp st + st.length)
          case measure => omega
          case rel => exact ⟨st, rfl, by omega, HR.out.1, ⟨HF.out, HR.out.2.2.1, HR.out.2.2.2.2.2.1, by omega⟩⟩
end Go.Proofs.Ytikijkpklneihaa
namespace Go.Proofs.Ytikijkpklneihaa
open Go.RowKit
set_option linter.unusedVariables false
set_option linter.unusedSimpArgs false

def rightI (k n : Int) (L : Nat) : Bool :=
  if k = 1 then (L : Int) == 0 else if k = 2 then (n == 0 || n == 1) && ((L : Int) == 0) else if k = 3 then n == 0 else if k = 4 then (n == 0) && decide (2 ≤ (L : Int))
  else if k = 5 then decide (0 ≤ n) && ((L : Int) == 0) else if k = 6 then decide (0 < n) || ((n == 0) && ((L : Int) == 0)) else false

set_option maxRecDepth 100000 in
set_option maxHeartbeats 4000000 in
theorem right_any (w : World) (k n : Int) (p : Option Addr) (L c : Nat) :
    Calls Try.prog 34 #[.agg #[.int .i64 k, .int .i64 n, .slice p L c]] w fun e w' => e = .returned (.bool (rightI k n L)) ∧ Below w.heap.size w w' := by
  by_cases h1 : k = 1
  · subst h1
    have e : rightI 1 n L = ((L : Int) == 0) := by simp [rightI]
    rw [e]
    go_enter Try.func34, Try.ntmps34
    go_wp2
    go_ret
    exact ⟨rfl, below1 _ _⟩
  by_cases h2 : k = 2
  · subst h2
    by_cases a0 : n = 0
    · subst a0
      have e : rightI 2 0 L = ((L : Int) == 0) := by simp [rightI]
      rw [e]
      go_enter Try.func34, Try.ntmps34
      go_wp2
      go_ret
      exact ⟨rfl, below1 _ _⟩
    by_cases a1 : n = 1
    · subst a1
      have e : rightI 2 1 L = ((L : Int) == 0) := by simp [rightI]
      rw [e]
      go_enter Try.func34, Try.ntmps34
      go_wp2
      go_ret
      exact ⟨rfl, below1 _ _⟩
    have b0 : (n == 0) = false := by simpa using a0
    have b1 : (n == 1) = false := by simpa using a1
    have e : rightI 2 n L = false := by simp [rightI, a0, a1]
    rw [e]
    go_enter Try.func34, Try.ntmps34
    go_wp2
    go_ret
    exact ⟨rfl, below1 _ _⟩
  by_cases h3 : k = 3
  · subst h3
    have e : rightI 3 n L = (n == 0) := by simp [rightI]
    rw [e]
    go_enter Try.func34, Try.ntmps34
    go_wp2
    go_ret
    exact ⟨rfl, below1 _ _⟩
  by_cases h4 : k = 4
  · subst h4
    by_cases a0 : n = 0
    · subst a0
      have e : rightI 4 0 L = decide (2 ≤ (L : Int)) := by simp [rightI]
      rw [e]
      go_enter Try.func34, Try.ntmps34
      go_wp2
      go_ret
      exact ⟨rfl, below1 _ _⟩
    have b0 : (n == 0) = false := by simpa using a0
    have e : rightI 4 n L = false := by simp [rightI, a0]
    rw [e]
    go_enter Try.func34, Try.ntmps34
    go_wp2
    go_ret
    exact ⟨rfl, below1 _ _⟩
  by_cases h5 : k = 5
  · subst h5
    by_cases a0 : 0 ≤ n
    · have e : rightI 5 n L = ((L : Int) == 0) := by simp [rightI, a0]
      rw [e]
      go_enter Try.func34, Try.ntmps34
      go_wp2
      go_ret
      exact ⟨rfl, below1 _ _⟩
    have b0 : decide (0 ≤ n) = false := by simpa using a0
    have e : rightI 5 n L = false := by simp [rightI, a0]
    rw [e]
    go_enter Try.func34, Try.ntmps34
    go_wp2
    go_ret
    exact ⟨rfl, below1 _ _⟩
  by_cases h6 : k = 6
  · subst h6
    by_cases a1 : 0 < n
    · have e : rightI 6 n L = true := by simp [rightI, a1]
      rw [e]
      go_enter Try.func34, Try.ntmps34
      go_wp2
      go_ret
      exact ⟨rfl, below1 _ _⟩
    by_cases a0 : n = 0
    · subst a0
      have e : rightI 6 0 L = ((L : Int) == 0) := by simp [rightI]
      rw [e]
      go_enter Try.func34, Try.ntmps34
      go_wp2
      go_ret
      exact ⟨rfl, below1 _ _⟩
    have b0 : (n == 0) = false := by simpa using a0
    have b1 : decide (0 < n) = false := by simpa using a1
    have e : rightI 6 n L = false := by simp [rightI, a0, a1]
    rw [e]
    go_enter Try.func34, Try.ntmps34
    go_wp2
    go_ret
    exact ⟨rfl, below1 _ _⟩
  have e : rightI k n L = false := by simp [rightI, *]
  rw [e]
  go_enter Try.func34, Try.ntmps34
  go_wp2
  go_ret
  exact ⟨rfl, below1 _ _⟩
end Go.Proofs.Ytikijkpklneihaa
namespace Go.Proofs.Ytikijkpklneihaa
open Go Go.RowKit
set_option linter.unusedVariables false

/-- what a round of the body keeps, but for the body's own blocks -/
structure Sep (lo : Nat) (foot : World → Nat → Prop) (A B : World) : Prop where
  low : ∀ b, b < lo → B.heap[b]? = A.heap[b]?
  size : A.heap.size ≤ B.heap.size
  same : ∀ b o, A.heap[b]? = some o → o.isCells = true → ¬ foot A b → B.heap[b]? = some o
  new : ∀ b, foot B b → foot A b ∨ A.heap.size ≤ b

theorem Sep.refl (lo : Nat) (foot : World → Nat → Prop) (A : World) : Sep lo foot A A := ⟨fun _ _ => rfl, Nat.le_refl _, fun _ _ h _ _ => h, fun _ h => .inl h⟩

theorem Sep.trans {lo : Nat} {foot : World → Nat → Prop} {A B C : World} (h : Sep lo foot A B) (k : Sep lo foot B C) : Sep lo foot A C :=
  ⟨fun b hb => (k.low b hb).trans (h.low b hb), Nat.le_trans h.size k.size, fun b o hb ho hf => k.same b o (h.same b o hb ho hf) ho (fun h2 => by
    rcases h.new b h2 with h3 | h3
    · exact hf h3
    · have := (Array.getElem?_eq_some_iff.1 hb).1
      omega), fun b hf => by
    rcases k.new b hf with h2 | h2
    · exact h.new b h2
    · exact .inr (Nat.le_trans h.size h2)⟩

/-- what is said abides whatever is done to blocks that are not the body's own -/
structure Abid (lo : Nat) (foot : World → Nat → Prop) {β : Type} (J : β → World → Prop) : Prop where
  go : ∀ s A B row, J s A → A.grownBy B row → (∀ r, row = some r → lo ≤ r ∧ ¬ foot A r) → J s B ∧ ∀ b, foot B b → foot A b
  cells : ∀ s A b, J s A → foot A b → lo ≤ b ∧ ∃ o : Obj, A.heap[b]? = some o ∧ o.isCells = true

/-- .. to rows of cells -/
structure AbidC (lo : Nat) (foot : World → Nat → Prop) {β : Type} (J : β → World → Prop) : Prop where
  go : ∀ s A B row, J s A → A.grownBy B row → (∀ r, row = some r → lo ≤ r ∧ ¬ foot A r ∧ ∃ o : Obj, A.heap[r]? = some o ∧ o.isCells = true) → J s B ∧ ∀ b, foot B b → foot A b
  cells : ∀ s A b, J s A → foot A b → lo ≤ b ∧ b < A.heap.size

/-- an iterator that has rows of its own in memory -/
def SeqSep {α : Type} (F : Fence) (n : Nat) (P : Program) (g : Nat) (lb : Array Value) (encs : α → Array Value) (Rx : α → World → Prop) (S Sp : List α → Prop) (N lo : Nat) (w : World) : Prop :=
  ∀ (l : Nat) (foot : World → Nat → Prop) (J Jx : List α → World → Prop) (W : World), Below w.heap.size w W → AbidC lo foot J →
    (∀ pre x W1, J pre W1 → Rx x W1 → pre.length < N → YieldAt F (n - 1) P l (encs x) W1 fun e W' =>
      (e = .returned (.bool true) ∧ J (pre ++ [x]) W' ∧ Sep lo foot W1 W') ∨ (e = .returned (.bool false) ∧ Jx (pre ++ [x]) W')) →
    J [] W →
    CallsIn F n P g (#[.func (.yield l) #[] #[]] ++ lb) W fun e W' => (∃ v, e = .returned v) ∧ ((∃ xs, S xs ∧ J xs W') ∨ (∃ pre, Sp pre ∧ Jx pre W'))

/-- how the body of a round may be left -/
def sepPost {α : Type} (lo : Nat) (foot : World → Nat → Prop) (I : List α → World → Prop) (Ix : Code → List α → World → Prop) (xs : List α) (W : World) : Exit → Act → World → Prop
  | .normal, _, W' => KeepsOthers W W' ∧ Sep lo foot W W' ∧ I xs W'
  | .ret, _, W' => KeepsOthers W W' ∧ Ix .ret xs W'
  | .exit id, _, W' => KeepsOthers W W' ∧ Ix (.exit id) xs W'
  | .goto t, _, W' => KeepsOthers W W' ∧ Ix (.goto t) xs W'
  | .panic _, _, _ => False
  | .outgrown, _, _ => False

theorem not_cells_loop {r : Loop} : (Obj.loop r).isCells = false := rfl

theorem Abid.putObj {lo : Nat} {foot : World → Nat → Prop} {β : Type} {J : β → World → Prop} (h : Abid lo foot J) {s : β} {A : World} {l : Nat} {o : Obj} (o' : Obj) (hs : J s A) (hl : A.heap[l]? = some o) (ho : o.isCells = false) (hlo : lo ≤ l) : J s (A.putObj l o') ∧ ∀ b, foot (A.putObj l o') b → foot A b :=
  h.go s A _ (some l) hs (grownBy_putObj' A l o') (fun r e => by
    cases e
    refine ⟨hlo, fun hf => ?_⟩
    obtain ⟨_, o2, h2, h3⟩ := h.cells s A _ hs hf
    rw [hl] at h2; cases h2; rw [ho] at h3; cases h3)

theorem grownBy_other {A B : World} {row : Option Nat} (hg : A.grownBy B row) {b : Nat} {o : Obj} (h : A.heap[b]? = some o) (hr : row ≠ some b) : B.heap[b]? = some o := by
  refine (hg.block b (Array.getElem?_eq_some_iff.1 h).1 (fun e => hr e.symm)).trans h

variable {F : Fence} {n : Nat} {P : Program}

/-- a range over a function whose iterator has rows of its own -/
theorem wpIn_rangeFunc_sep {α : Type} {g : Operand} {ps : Array Tmp} {assign body : Code} {Q : Exit → Act → World → Prop} {a : Act} {w : World}
    (hro : F.round = none) (h1 : 1 ≤ n) {gf : Nat} {lb : Array Value} (hg : a.eval g = .func (.func gf) #[] lb) (hFg : F.fn gf) (eg : ∀ args w, (callFunc gf args).run P w = .ok (.enter gf args) w)
    {encs : α → Array Value} {Rx : α → World → Prop} {S Sp : List α → Prop} {w0 : World} {N lo : Nat} (hlo : lo ≤ w.heap.size) (hseq : SeqSep F (n - 1) P gf lb encs Rx S Sp N lo w0) (hb0 : Below w0.heap.size w0 w) (hps : ∀ x, (encs x).size = ps.size)
    (foot : World → Nat → Prop) (I : List α → World → Prop) (Ix : Code → List α → World → Prop) (hI : Abid lo foot I) (hIx : ∀ c, OwnFrom w.heap.size (Ix c))
    (h0 : I [] w) (Ax : α → Act → World → Prop) (hAx : ∀ x a', OwnFrom w.heap.size (fun (_ : Unit) W => Ax x a' W))
    (hassign : ∀ (l : Nat) (pre : List α) (x : α) (W : World) (K : Act → World → Prop), I pre W → Rx x W → (∀ a' W', KeepsOthers W W' → Sep lo foot W W' → I pre W' → Ax x a' W' → K a' W') →
      assign.wpIn (F.inRound l) (n - 1 - 1) P (Exit.then K (fun _ _ _ => False)) { tmps := (ps.zip (encs x)).foldl (fun t (p, v) => t.setIfInBounds p v) a.tmps, defers := [] } W)
    (hbody : ∀ (l : Nat) (pre : List α) (x : α) (a' : Act) (W : World), I pre W → Ax x a' W → pre.length < N → body.wpIn (F.inRound l) (n - 1 - 1) P (sepPost lo foot I Ix (pre ++ [x]) W) a' W)
    (hdone : ∀ (D : Nat) (xs : List α) (W : World), w.heap.size ≤ D → S xs → I xs W → W.heap[D]? = some (.deferred (some [])) → Q .normal { a with defers := { target := .collected D, args := #[] } :: a.defers } W)
    (hstop : ∀ (D : Nat) (c : Code) (pre : List α) (W : World), w.heap.size ≤ D → Sp pre → Ix c pre W → W.heap[D]? = some (.deferred (some [])) → c.wpIn F n P Q { a with defers := { target := .collected D, args := #[] } :: a.defers } W) :
    (Code.rangeFunc g ps assign body).wpIn F n P Q a w := by
  refine wpIn_rangeFunc ?_
  intro fn hfn
  rw [hro]
  let rec' : LoopState → Option Code → Loop := fun st pe => { state := st, pending := pe, fn, tmps := a.tmps, params := ps, assign, body, defers := w.heap.size }
  obtain ⟨rc, hrc⟩ : ∃ rc, rec' = rc := ⟨_, rfl⟩
  obtain ⟨W1, hW1⟩ : ∃ W1, (w.alloc (.deferred (some []))).alloc (.loop (rc .ready none)) = W1 := ⟨_, rfl⟩
  have hL : W1.heap[w.heap.size + 1]? = some (.loop (rc .ready none)) := by
    rw [← hW1]; have := World.alloc_heap_new (w.alloc (.deferred (some []))) (.loop (rc .ready none)); rwa [World.size_alloc] at this
  have hD : W1.heap[w.heap.size]? = some (.deferred (some [])) := by
    rw [← hW1]; exact (Below.heap_alloc _ _ _ (by simp)).trans (World.alloc_heap_new w _)
  have hJ0 : I [] W1 := by
    rw [← hW1]
    exact (hI.go [] _ _ none (hI.go [] w _ none h0 (World.grownBy_alloc w _ none) (fun r e => by cases e)).1 (World.grownBy_alloc _ _ none) (fun r e => by cases e)).1
  have hbl : Below w0.heap.size w0 W1 := by
    rw [← hW1]; exact hb0.trans ((((Below.refl _ w).alloc (Nat.le_refl _) _).alloc (by simp) _).mono hb0.size)
  -- the invariant with the loop's two blocks
  let J : List α → World → Prop := fun pre W => I pre W ∧ W.heap[w.heap.size + 1]? = some (.loop (rc .ready none)) ∧ W.heap[w.heap.size]? = some (.deferred (some []))
  let Jx : List α → World → Prop := fun pre W => ∃ c, Ix c pre W ∧ W.heap[w.heap.size + 1]? = some (.loop (rc .done (some c))) ∧ W.heap[w.heap.size]? = some (.deferred (some []))
  refine ⟨w.heap.size + 1, [{ target := .collected w.heap.size, args := #[] }], W1, { target := .fn (.func gf) lb, args := #[.func (.yield (w.heap.size + 1)) #[] #[]] }, W1, gf,
    #[.func (.yield (w.heap.size + 1)) #[] #[]] ++ lb, W1, ?_, ?_, ?_, ?_, fun _ => h1, ?_⟩
  · rw [← hW1, ← hrc]; exact run_enterLoop_outer _ _ _ _ _
  · simp only [resolve, hg]
    simp [go_sem]
  · intro f' hf'; simp [Target.leads] at hf'; subst hf'; exact hFg
  · simp [invoke, go_sem, eg]
  have hJ : AbidC lo foot J := ⟨fun s A B row hs hg' hr => by
      obtain ⟨h1, h2⟩ := hI.go s A B row hs.1 hg' (fun r e => ⟨(hr r e).1, (hr r e).2.1⟩)
      have key : ∀ (b : Nat) (o : Obj), A.heap[b]? = some o → o.isCells = false → B.heap[b]? = some o := fun b o hb ho => by
        refine grownBy_other hg' hb (fun e => ?_)
        obtain ⟨_, _, o2, ho2, hc⟩ := hr b e
        rw [hb] at ho2; cases ho2; rw [ho] at hc; cases hc
      exact ⟨⟨h1, key _ _ hs.2.1 rfl, key _ _ hs.2.2 rfl⟩, h2⟩, fun s A b hs hf => by
      obtain ⟨h1, o, h2, _⟩ := hI.cells s A b hs.1 hf
      exact ⟨h1, (Array.getElem?_eq_some_iff.1 h2).1⟩⟩
  refine (hseq (w.heap.size + 1) foot J Jx W1 hbl hJ ?_ ⟨hJ0, hL, hD⟩).mono ?_
  · rintro pre x W0 ⟨hi0, hl0, hk0⟩ hx hlen
    have hy := run_yield (P := P) (args := encs x) hl0 (by rw [← hrc]; exact hps x)
    rw [← hrc] at hy
    refine ⟨fn, _, assign, body, hy, roundIn_of_wpIn hfn (hassign _ pre x W0 _ hi0 hx ?_)⟩
    clear hy
    intro a' W hka hsa hi hax
    have hl := hka.same _ _ hl0 rfl
    have hk := hka.same _ _ hk0 rfl
    refine ⟨_, run_beginRound hl (by rw [← hrc]), ?_⟩
    obtain ⟨Wb, hWb⟩ : ∃ Wb, W.putObj (w.heap.size + 1) (.loop { rc .ready none with state := .busy }) = Wb := ⟨_, rfl⟩
    rw [hWb]
    obtain ⟨hib, hfb⟩ := hI.putObj (.loop { rc .ready none with state := .busy }) hi hl rfl (by omega)
    rw [hWb] at hib hfb
    have hlb : Wb.heap[w.heap.size + 1]? = some (.loop { rc .ready none with state := .busy }) := by
      rw [← hWb]; exact World.putObj_heap_same (Array.getElem?_eq_some_iff.1 hl).1
    have hkb : Wb.heap[w.heap.size]? = some (.deferred (some [])) := by
      rw [← hWb]; exact (World.putObj_heap_other (by omega)).trans hk
    have hsb : Wb.heap.size = W.heap.size := by rw [← hWb]; simp
    have hot : ∀ b, b ≠ w.heap.size + 1 → Wb.heap[b]? = W.heap[b]? := fun b hb => by rw [← hWb]; exact World.putObj_heap_other hb
    have hxb : Ax x a' Wb := by
      rw [← hWb]
      exact hAx x a' () _ _ (some (w.heap.size + 1)) hax (grownBy_putObj' _ _ _) (fun r e => by cases e; exact ⟨by omega, _, hl, rfl⟩)
    have fin : ∀ (jump : Option Code) (W3 : World), KeepsOthers Wb W3 →
        ∃ W4, (Instr.endRound (w.heap.size + 1) jump).run P W3 = .ok (.bool jump.isNone) W4 ∧ W4 = W3.putObj (w.heap.size + 1) (.loop (rc (if jump.isNone then .ready else .done) jump)) ∧
          W3.heap[w.heap.size + 1]? = some (.loop { rc .ready none with state := .busy }) ∧
          W4.heap[w.heap.size + 1]? = some (.loop (rc (if jump.isNone then .ready else .done) jump)) ∧ W4.heap[w.heap.size]? = some (.deferred (some [])) := fun jump W3 h3 => by
      have hl3 := h3.same _ _ hlb rfl
      have hr := run_endRound (P := P) jump hl3
      refine ⟨_, ?_, rfl, hl3, World.putObj_heap_same (Array.getElem?_eq_some_iff.1 hl3).1, (World.putObj_heap_other (by omega)).trans (h3.same _ _ hkb rfl)⟩
      rw [← hrc] at hr ⊢
      exact hr
    refine wpIn_mono (hbody _ pre x a' Wb hib hxb hlen) ?_
    rintro e a3 W3 hp
    cases e with
    | normal =>
      obtain ⟨hk3, hs3, hi3⟩ := hp
      obtain ⟨W4, hr, e4, hl3, hl4, hk4⟩ := fin none W3 hk3
      obtain ⟨hi4, hf4⟩ := hI.putObj (.loop (rc .ready none)) hi3 hl3 rfl (by omega)
      have e4' : W4 = W3.putObj (w.heap.size + 1) (.loop (rc .ready none)) := by simpa using e4
      rw [← e4'] at hi4 hf4
      refine ⟨_, _, hr, .inl ⟨rfl, ⟨hi4, by simpa using hl4, hk4⟩, hsa.trans ⟨fun b hb => by rw [e4', World.putObj_heap_other (by omega)]; exact (hs3.low b hb).trans (hot b (by omega)), by rw [e4', World.putObj_size, ← hsb]; exact hs3.size, fun b o hb ho hf => ?_, fun b hf => ?_⟩⟩⟩
      · have hne : b ≠ w.heap.size + 1 := fun e => by subst e; rw [hl] at hb; cases hb; cases ho
        rw [e4', World.putObj_heap_other hne]
        exact hs3.same b o ((hot b hne).trans hb) ho (fun h => hf (hfb b h))
      · rcases hs3.new b (hf4 b hf) with h | h
        · exact .inl (hfb b h)
        · exact .inr (by rw [← hsb]; exact h)
    | ret =>
      obtain ⟨hk3, hi3⟩ := hp
      obtain ⟨W4, hr, e4, hl3, hl4, hk4⟩ := fin (some .ret) W3 hk3
      exact ⟨_, _, hr, .inr ⟨rfl, .ret, by rw [e4]; exact (hIx _).putObj _ hi3 (by omega) hl3 rfl, hl4, hk4⟩⟩
    | exit id =>
      obtain ⟨hk3, hi3⟩ := hp
      obtain ⟨W4, hr, e4, hl3, hl4, hk4⟩ := fin (some (.exit id)) W3 hk3
      exact ⟨_, _, hr, .inr ⟨rfl, .exit id, by rw [e4]; exact (hIx _).putObj _ hi3 (by omega) hl3 rfl, hl4, hk4⟩⟩
    | goto t =>
      obtain ⟨hk3, hi3⟩ := hp
      obtain ⟨W4, hr, e4, hl3, hl4, hk4⟩ := fin (some (.goto t)) W3 hk3
      exact ⟨_, _, hr, .inr ⟨rfl, .goto t, by rw [e4]; exact (hIx _).putObj _ hi3 (by omega) hl3 rfl, hl4, hk4⟩⟩
    | panic ch => exact hp.elim
    | outgrown => exact hp.elim
  · rintro e W2 ⟨⟨v, rfl⟩, (⟨xs, hS, hi, hl, hk⟩ | ⟨pre, hSp, c, hi, hl, hk⟩)⟩
    · have hr := run_endLoop (P := P) hl (by rw [← hrc]; simp)
      refine ⟨none, _, by rw [← hrc] at hr; exact hr, hdone _ xs _ (Nat.le_refl _) hS (hI.putObj _ hi hl rfl (by omega)).1 ((World.putObj_heap_other (by omega)).trans hk)⟩
    · have hr := run_endLoop (P := P) hl (by rw [← hrc]; simp)
      refine ⟨some c, _, by rw [← hrc] at hr; exact hr, hstop _ c pre _ (Nat.le_refl _) hSp ((hIx c).putObj _ hi (by omega) hl rfl) ((World.putObj_heap_other (by omega)).trans hk)⟩

end Go.Proofs.Ytikijkpklneihaa
namespace Go.Proofs.Ytikijkpklneihaa
open Go.RowKit
set_option linter.unusedVariables false
set_option linter.unusedSimpArgs false

theorem wpListIn_app {F : Fence} {n : Nat} {P : Program} (w : World) {ops : Array Oper} {rest : List Oper} {o : Oper} {a : Act} {Q : Exit → Act → World → Prop}
    (hg : o.guard = none) (s x : Operand) (t : TypeId) (hop : o.op = Op.call { callee := Callee.builtin Builtin.append, args := #[s, x], argTypes := #[t, t] })
    (base : Nat) (e : TypeId) (i : TypeInfo) (z : Value) (size bytes : Nat) (h1 : P.underlying t = some (.slice e)) (h2 : P.info? e = some i) (h3 : i.zero = some z) (h4 : i.size = size) (h5 : i.bytes = bytes) (h6 : z.cells.size = size) (h7 : 0 < size)
    (v : Value) (k : Nat) (xs : List Value) (hs : a.eval s = v) (hown : w.ownsRow base e size v k xs) (ad : Addr) (m c : Nat) (news : List Value) (hx : a.eval x = .slice (some ad) m c) (hn : news.length = m * size)
    (hc : ∀ j u, news[j]? = some u → w.cell? (ad.add j) = some u) (h1c : ∀ u ∈ news, u.oneCell' = true) (b0 : 0 < m) (b1 : k + m ≤ maxLen) (b2 : (k + m) * bytes ≤ 140737488355328) (b3 : base ≤ w.heap.size) (H : Nat) (hH : w.heap.size = H)
    (hK : ∀ g cap w', w'.ownsRow base e size (.slice (some ⟨g, 0, none⟩) (k + m) cap) (k + m) (xs ++ news) → w.grownBy w' v.ownBlock → (v.ownBlock = some g ∨ g = H) → g < w'.heap.size → wpListIn F n P ops Q rest (a.put o.dst (.slice (some ⟨g, 0, none⟩) (k + m) cap)) w') :
    wpListIn F n P ops Q (o :: rest) a w := by
  refine wpListIn_plain hg fun K hK' => ?_
  obtain ⟨g, cap, w', hrun, r1, r2, r3, r4⟩ := run_append_lies (P := P) w t o.type base e i z size bytes h1 h2 h3 h4 h5 h6 h7 v k xs hown ad m c news hn hc h1c b0 b1 b2 b3 H hH
  unfold Oper.wpIn
  constructor
  · simp [Oper.about, hop, resolve, Target.leads, Sem.run_pure]
  · have hp : ∀ cl, o.op ≠ Op.defer cl := by intro cl hcl; rw [hop] at hcl; cases hcl
    rw [Oper.semAt_plain F _ _ (by rw [hop]; intro c hc'; cases hc')]
    simp [execOp, hop, resolve, invoke, builtin, hs, hx, hrun, Result.andThen]
    exact hK' _ _ (hK g cap w' r1 r2 r3 r4)

/-- slices, each of which is a list in memory -/
def RowQ (Q : Option Addr → Nat → List V → Prop) : List (List V) → List Value → Prop
  | [], xs => xs = []
  | l :: ls, xs => ∃ p c ys, xs = .slice p l.length c :: ys ∧ Q p c l ∧ RowQ Q ls ys
theorem RowQ.len {Q : Option Addr → Nat → List V → Prop} {ls : List (List V)} : ∀ {xs : List Value}, RowQ Q ls xs → xs.length = ls.length := by
  induction ls with
  | nil => intro xs h; simp [RowQ] at h; simp [h]
  | cons l ls ih =>
    intro xs h
    obtain ⟨p, c, ys, rfl, h1, h2⟩ := h
    simp [ih h2]
theorem RowQ.mono {Q Q' : Option Addr → Nat → List V → Prop} (hQ : ∀ p c l, Q p c l → Q' p c l) {ls : List (List V)} : ∀ {xs : List Value}, RowQ Q ls xs → RowQ Q' ls xs := by
  induction ls with
  | nil => intro xs h; exact h
  | cons l ls ih =>
    intro xs h
    obtain ⟨p, c, ys, rfl, h1, h2⟩ := h
    exact ⟨p, c, ys, rfl, hQ _ _ _ h1, ih h2⟩
theorem RowQ.append {Q : Option Addr → Nat → List V → Prop} {ls ms : List (List V)} {ys : List Value} : ∀ {xs : List Value}, RowQ Q ls xs → RowQ Q ms ys → RowQ Q (ls ++ ms) (xs ++ ys) := by
  induction ls with
  | nil => intro xs h k; simp [RowQ] at h; subst h; exact k
  | cons l ls ih =>
    intro xs h k
    obtain ⟨p, c, zs, rfl, h1, h2⟩ := h
    exact ⟨p, c, zs ++ ys, rfl, h1, ih h2 k⟩
theorem RowQ.last {Q : Option Addr → Nat → List V → Prop} {l : List V} {ls : List (List V)} : ∀ {xs : List Value}, RowQ Q (ls ++ [l]) xs → ∃ ys p c, xs = ys ++ [.slice p l.length c] ∧ RowQ Q ls ys ∧ Q p c l := by
  induction ls with
  | nil =>
    intro xs h
    obtain ⟨p, c, zs, rfl, h1, h2⟩ := h
    simp [RowQ] at h2
    subst h2
    exact ⟨[], p, c, rfl, rfl, h1⟩
  | cons m ls ih =>
    intro xs h
    obtain ⟨p, c, zs, rfl, h1, h2⟩ := h
    obtain ⟨ys, q, d, rfl, k1, k2⟩ := ih h2
    exact ⟨_ :: ys, q, d, rfl, ⟨p, c, ys, rfl, h1, k1⟩, k2⟩
/-- a row of such, of one's own -/
structure StkQ (W : World) (base : Nat) (Q : Option Addr → Nat → List V → Prop) (v : Value) (st : List (List V)) : Prop where
  own : ∃ xs, W.ownsRow base 22 1 v st.length xs ∧ RowQ Q st xs
theorem StkQ.val {W : World} {base : Nat} {Q : Option Addr → Nat → List V → Prop} {v : Value} {st : List (List V)} (h : StkQ W base Q v st) : (v = .slice none 0 0 ∧ st = []) ∨ ∃ g cap, v = .slice (some ⟨g, 0, none⟩) st.length cap ∧ base ≤ g ∧ g < W.heap.size ∧ st.length ≤ cap ∧ cap ≤ maxLen := by
  obtain ⟨xs, h1, h2⟩ := h.own
  rcases h1.2 with ⟨rfl, h3⟩ | ⟨g, cap, cur, rfl, h4, h5, h6, h7, _⟩
  · exact .inl ⟨rfl, List.eq_nil_of_length_eq_zero h3⟩
  · exact .inr ⟨g, cap, rfl, h4, (Array.getElem?_eq_some_iff.1 h5).1, h6, h7⟩
theorem StkQ.pop {W : World} {base : Nat} {Q : Option Addr → Nat → List V → Prop} {v : Value} {st : List (List V)} {l : List V} (h : StkQ W base Q v (st ++ [l])) :
    ∃ g cap p c, v = .slice (some ⟨g, 0, none⟩) (st.length + 1) cap ∧ base ≤ g ∧ g < W.heap.size ∧ st.length + 1 ≤ cap ∧ cap ≤ maxLen ∧ W.cell? ⟨g, st.length, none⟩ = some (.slice p l.length c) ∧ Q p c l ∧ StkQ W base Q (.slice (some ⟨g, 0, none⟩) st.length cap) st := by
  obtain ⟨xs, h1, h2⟩ := h.own
  obtain ⟨ys, p, c, rfl, h3, h4⟩ := h2.last
  obtain ⟨q1, q2⟩ := h1
  have hl := h3.len
  rcases q2 with ⟨_, h5⟩ | ⟨g, cap, cur, rfl, q3, q4, q5, q6, q7, q8⟩
  · simp at h5
  · simp only [List.length_append, List.length_singleton, Nat.mul_one] at q5 q7 q8 ⊢
    have hcur : ∀ j, j < st.length + 1 → cur[j]? = (ys ++ [Value.slice p l.length c])[j]? := fun j hj => by
      rw [← q8, List.getElem?_take_of_lt hj, Array.getElem?_toList]
    refine ⟨g, cap, p, c, rfl, q3, (Array.getElem?_eq_some_iff.1 q4).1, q5, q6, ?_, h4, ⟨ys, ⟨by omega, .inr ⟨g, cap, cur, rfl, q3, q4, by omega, q6, by omega, ?_⟩⟩, h3⟩⟩
    · simp only [World.cell?, q4]
      rw [hcur _ (by omega)]
      simp [← hl]
    · apply List.ext_getElem?
      intro j
      by_cases hj : j < st.length
      · rw [List.getElem?_take_of_lt (by omega), Array.getElem?_toList, hcur j (by omega), List.getElem?_append_left (by omega)]
      · rw [List.getElem?_eq_none (by simp; omega), List.getElem?_eq_none (by omega)]
theorem own_cells {W : World} {base : Nat} {e : TypeId} {s : Nat} {v : Value} {n : Nat} {cs : List Value} (h : W.ownsRow base e s v n cs) {g : Nat} (hg : v.ownBlock = some g) : ∃ o : Obj, W.heap[g]? = some o ∧ o.isCells = true := by
  rcases h.2 with ⟨rfl, _⟩ | ⟨g', cap, cur, rfl, h2, h3, _⟩
  · cases hg
  · cases hg; exact ⟨_, h3, rfl⟩

/-- a value and all that stands in it -/
inductive Nod : V → V → Prop
  | me (x : V) : Nod x x
  | kid {x y z : V} : z ∈ x.l → Nod z y → Nod x y
theorem nod_iff {x y : V} : Nod x y ↔ y = x ∨ ∃ z ∈ x.l, Nod z y := by
  constructor
  · intro h
    cases h with
    | me => exact .inl rfl
    | kid h1 h2 => exact .inr ⟨_, h1, h2⟩
  · rintro (rfl | ⟨z, h1, h2⟩)
    · exact .me _
    · exact .kid h1 h2
/-- .. of a list -/
def Nods (l : List V) (y : V) : Prop := ∃ z ∈ l, Nod z y
theorem nods_nil (y : V) : ¬ Nods [] y := by rintro ⟨_, h, _⟩; cases h
theorem nods_drop {l : List V} {i : Nat} (h : i < l.length) (y : V) : Nods (l.drop i) y ↔ (y = l[i] ∨ Nods l[i].l y) ∨ Nods (l.drop (i + 1)) y := by
  rw [List.drop_eq_getElem_cons h]
  constructor
  · rintro ⟨z, h1, h2⟩
    rcases List.mem_cons.1 h1 with rfl | h1
    · exact .inl (nod_iff.1 h2)
    · exact .inr ⟨z, h1, h2⟩
  · rintro (h1 | ⟨z, h1, h2⟩)
    · exact ⟨_, List.mem_cons_self, nod_iff.2 h1⟩
    · exact ⟨z, List.mem_cons_of_mem _ h1, h2⟩
def Nodst (st : List (List V)) (y : V) : Prop := ∃ l ∈ st, Nods l y
theorem nodst_snoc {st : List (List V)} {l : List V} (y : V) : Nodst (st ++ [l]) y ↔ Nodst st y ∨ Nods l y := by
  constructor
  · rintro ⟨m, h1, h2⟩
    rcases List.mem_append.1 h1 with h | h
    · exact .inl ⟨m, h, h2⟩
    · simp at h; subst h; exact .inr h2
  · rintro (⟨m, h1, h2⟩ | h)
    · exact ⟨m, by simp [h1], h2⟩
    · exact ⟨l, by simp, h⟩
end Go.Proofs.Ytikijkpklneihaa
namespace Go.Proofs.Ytikijkpklneihaa
open Go.RowKit Go.Shelf
set_option linter.unusedVariables false
set_option linter.unusedSimpArgs false
attribute [local go_sem] Oper.semAt_some

/-- a list in memory, below lo or in the block rb -/
structure Lst (W : World) (lo rb : Nat) (p : Option Addr) (c : Nat) (l : List V) : Prop where
  len : l.length ≤ c
  max : c ≤ maxLen
  at_ : ∀ i (h : i < l.length), ∃ b o q d, p = some ⟨b, o, none⟩ ∧ (b < lo ∨ b = rb) ∧ W.cell? ⟨b, o + i * 3, none⟩ = some (.int .i64 l[i].k) ∧ W.cell? ⟨b, o + i * 3 + 1, none⟩ = some (.int .i64 l[i].n) ∧ W.cell? ⟨b, o + i * 3 + 2, none⟩ = some (.slice q l[i].l.length d) ∧ SlV W lo q d l[i].l ∧ I64 l[i].k ∧ I64 l[i].n
theorem Lst.of {W : World} {lo rb : Nat} {p : Option Addr} {c : Nat} {l : List V} (h : SlV W lo p c l) : Lst W lo rb p c l :=
  ⟨h.1, h.2.1, fun i hi => by
    obtain ⟨b, o, q, d, e, hb, h1, h2, h3, h4, h5, h6⟩ := h.at3 i hi
    exact ⟨b, o, q, d, e, .inl hb, h1, h2, h3, h4, h5, h6⟩⟩
theorem Lst.keep {W W' : World} {lo rb : Nat} {p : Option Addr} {c : Nat} {l : List V} (h : Lst W lo rb p c l) (hl : ∀ b, b < lo → W'.heap[b]? = W.heap[b]?) (hr : W'.heap[rb]? = W.heap[rb]?) : Lst W' lo rb p c l :=
  ⟨h.len, h.max, fun i hi => by
    obtain ⟨b, o, q, d, e, hb, h1, h2, h3, h4, h5, h6⟩ := h.at_ i hi
    have hc : W'.heap[b]? = W.heap[b]? := by
      rcases hb with hb | rfl
      · exact hl b hb
      · exact hr
    have hcell : ∀ k, W'.cell? ⟨b, k, none⟩ = W.cell? ⟨b, k, none⟩ := fun k => by simp [World.cell?, hc]
    exact ⟨b, o, q, d, e, hb, by rw [hcell]; exact h1, by rw [hcell]; exact h2, by rw [hcell]; exact h3, h4.lo (Lo.blocks hl), h5, h6⟩⟩

/-- what the iterator has of its own -/
structure EI (foot : World → Nat → Prop) (lo rb : Nat) (O : Obj) (wr : World) (v : Value) (st : List (List V)) : Prop where
  stk : StkQ wr (rb + 1) (Lst wr lo rb) v st
  nf : ∀ g, v.ownBlock = some g → ¬ foot wr g
  root : wr.heap[rb]? = some O
  isc : O.isCells = true
  nfr : ¬ foot wr rb
  sz : rb + 2 ≤ wr.heap.size
  lo_ : lo ≤ rb
theorem EI.sep {foot : World → Nat → Prop} {lo rb : Nat} {O : Obj} {wr wr' : World} {v : Value} {st : List (List V)} (h : EI foot lo rb O wr v st) (hs : Sep lo foot wr wr') : EI foot lo rb O wr' v st := by
  have hroot : wr'.heap[rb]? = some O := hs.same rb O h.root h.isc h.nfr
  obtain ⟨xs, ho, hr⟩ := h.stk.own
  refine ⟨⟨xs, own_same ho (fun g o hg hgo => ?_), hr.mono (fun p c l hq => hq.keep hs.low (by rw [hroot, h.root]))⟩, fun g hg hf => ?_, hroot, h.isc, fun hf => ?_, Nat.le_trans h.sz hs.size, h.lo_⟩
  · obtain ⟨o', h1, h2⟩ := own_cells ho hg
    rw [hgo] at h1; cases h1
    exact hs.same g o hgo h2 (h.nf g hg)
  · obtain ⟨o', h1, h2⟩ := own_cells ho hg
    rcases hs.new g hf with h3 | h3
    · exact h.nf g hg h3
    · have := (Array.getElem?_eq_some_iff.1 h1).1; omega
  · rcases hs.new rb hf with h3 | h3
    · exact h.nfr h3
    · have := h.sz; omega
theorem sep_alloc {α : Type} {J : List α → World → Prop} {lo : Nat} {foot : World → Nat → Prop} (hJ : AbidC lo foot J) {pre : List α} {wr : World} (hj : J pre wr) (hlo : lo ≤ wr.heap.size) (o : Obj) : J pre (wr.alloc o) ∧ Sep lo foot wr (wr.alloc o) ∧ ∀ b, foot (wr.alloc o) b → foot wr b := by
  obtain ⟨h1, h2⟩ := hJ.go pre wr (wr.alloc o) none hj (World.grownBy_alloc wr o none) (fun r e => by cases e)
  exact ⟨h1, ⟨fun b hb => Below.heap_alloc _ _ _ (by omega), by simp, fun b x hb _ _ => (Below.heap_alloc _ _ _ (Array.getElem?_eq_some_iff.1 hb).1).trans hb, fun b hf => .inl (h2 b hf)⟩, h2⟩
theorem EI.push {α : Type} {J : List α → World → Prop} {foot : World → Nat → Prop} {lo rb : Nat} {O : Obj} {X w' : World} {u : Value} {g cap : Nat} {st : List (List V)} {xs : List Value} {r : Option Addr} {rc : Nat} {l : List V} (hJ : AbidC lo foot J) {pre : List α} (hj : J pre X) (h : EI foot lo rb O X u st)
    (hown : X.ownsRow (rb + 1) 22 1 u st.length xs) (hrow : RowQ (Lst X lo rb) st xs) (hl : SlV X lo r rc l)
    (hown' : w'.ownsRow (rb + 1) 22 1 (.slice (some ⟨g, 0, none⟩) (st.length + 1) cap) (st.length + 1) (xs ++ [.slice r l.length rc])) (hg : X.grownBy w' u.ownBlock) (hat : u.ownBlock = some g ∨ g = X.heap.size) :
    J pre w' ∧ EI foot lo rb O w' (.slice (some ⟨g, 0, none⟩) (st.length + 1) cap) (st ++ [l]) ∧ (∀ b, b < lo → w'.heap[b]? = X.heap[b]?) ∧ w'.heap[rb]? = X.heap[rb]? := by
  obtain ⟨h1, h2⟩ := hJ.go pre X w' u.ownBlock hj hg (fun r e => ⟨by have := own_base hown r e; have := h.lo_; omega, h.nf r e, own_cells hown e⟩)
  have hsz := h.sz
  have hlo := h.lo_
  have hlow : ∀ b, b < lo → w'.heap[b]? = X.heap[b]? := fun b hb => hg.block b (by omega) (fun e => by have := own_base hown b e.symm; omega)
  have hroot : w'.heap[rb]? = X.heap[rb]? := hg.block rb (by omega) (fun e => by have := own_base hown rb e.symm; omega)
  have hnf : ∀ g', some g = some g' → ¬ foot w' g' := fun g' e hf => by
    cases e
    have hf' := h2 _ hf
    rcases hat with h3 | h3
    · exact h.nf _ h3 hf'
    · have := (hJ.cells pre X _ hj hf').2; omega
  refine ⟨h1, ⟨⟨_, by simpa using hown', (hrow.append (ms := [l]) (ys := [.slice r l.length rc]) ⟨r, rc, [], rfl, Lst.of hl, rfl⟩).mono (fun p c m hq => hq.keep hlow hroot)⟩, hnf, hroot.trans h.root, h.isc, fun hf => h.nfr (h2 _ hf), Nat.le_trans hsz hg.size, hlo⟩, hlow, hroot⟩

theorem or_turn {a b c : Prop} : ((a ∨ b) ∨ c) ↔ (b ∨ (c ∨ a)) :=
  ⟨fun h => h.elim (fun h => h.elim (fun h => .inr (.inr h)) .inl) (fun h => .inr (.inl h)), fun h => h.elim (fun h => .inl (.inr h)) (fun h => h.elim .inr (fun h => .inl (.inl h)))⟩
/-- all that stand in a value were handed out -/
def AllOf (x : V) (xs : List (Value × V)) : Prop := (∀ y, Nod x y ↔ y ∈ xs.map Prod.snd) ∧ xs.length = x.sz
/-- some of them -/
def SomeOf (x : V) (xs : List (Value × V)) : Prop := ∀ y ∈ xs.map Prod.snd, Nod x y
/-- what is handed out, and what is left -/
def Left (x : V) (pre : List (Value × V)) (R : V → Prop) : Prop := ∀ y, Nod x y ↔ y ∈ pre.map Prod.snd ∨ R y
theorem Left.one {x : V} {pre : List (Value × V)} {R R' : V → Prop} {a : Value × V} (h : Left x pre R) (hR : ∀ y, R y ↔ (y = a.2 ∨ R' y)) : Left x (pre ++ [a]) R' := by
  intro y
  rw [h y, hR y]
  simp only [List.map_append, List.mem_append, List.map_cons, List.map_nil, List.mem_singleton]
  constructor
  · rintro (h1 | h1 | h1)
    · exact .inl (.inl h1)
    · exact .inl (.inr h1)
    · exact .inr h1
  · rintro ((h1 | h1) | h1)
    · exact .inl h1
    · exact .inr (.inl h1)
    · exact .inr (.inr h1)
theorem Left.same {x : V} {pre : List (Value × V)} {R R' : V → Prop} (h : Left x pre R) (hR : ∀ y, R y ↔ R' y) : Left x pre R' := fun y => by rw [h y, hR y]
theorem Left.some {x : V} {pre : List (Value × V)} {R : V → Prop} (h : Left x pre R) : SomeOf x pre := fun y hy => (h y).2 (.inl hy)

theorem infoSl' : (Try.prog.info? 22).map (fun i => (i.zero, i.size, i.bytes)) = some (some (.slice none 0 0), 1, 24) := by kernel_rfl

set_option maxRecDepth 100000 in
set_option maxHeartbeats 2000000 in
theorem each_in (n : Nat) (k m : Int) (p : Option Addr) (L c : Nat) (w : World) :
    CallsIn Fence.wide n Try.prog 28 #[.agg #[.int .i64 k, .int .i64 m, .slice p L c]] w fun e w' => e = .returned (.func (.func 37) #[] #[.pointer (some ⟨w.heap.size, 0, none⟩)]) ∧ w' = w.alloc (.cells #[.int .i64 k, .int .i64 m, .slice p L c] 24) := by
  refine callsIn_of_wp Try.func28 rfl trivial ?_ rfl
  simp only [Try.ntmps28, List.size_toArray, List.length_cons, List.length_nil, Nat.reduceAdd, Nat.reduceSub, Array.replicate_succ, Array.replicate_zero, List.push_toArray, List.append_toArray, List.nil_append, List.cons_append]
  gi_wp2
  go_ret
  exact ⟨rfl, rfl⟩

set_option maxRecDepth 100000 in
set_option maxHeartbeats 4000000 in
theorem each1_in (n : Nat) (hn : 1 ≤ n) (lo Bs : Nat) (w0 : World) (x : V) (p : Option Addr) (cap : Nat) (hlo : lo ≤ w0.heap.size)
    (hBs : w0.heap[Bs]? = some (.cells #[.int .i64 x.k, .int .i64 x.n, .slice p x.l.length cap] 24)) (hv : SlV w0 lo p cap x.l) (hk : I64 x.k) (hm : I64 x.n) (hx : x.sz ≤ 65536) :
    SeqSep Fence.wide n Try.prog 37 #[.pointer (some ⟨Bs, 0, none⟩)] (fun a : Value × V => #[a.1]) (fun a W => IsV W lo a.1 a.2)
      (AllOf x) (SomeOf x) x.sz lo w0 := by
  intro l foot J Jx W hW hJ hY h0
  have hbx : W.heap[Bs]? = some (.cells #[.int .i64 x.k, .int .i64 x.n, .slice p x.l.length cap] 24) := (hW.block Bs (Array.getElem?_eq_some_iff.1 hBs).1).trans hBs
  have d0 : W.cell? ⟨Bs, 0, none⟩ = some (.int .i64 x.k) := by simp [World.cell?, hbx]
  have d1 : W.cell? ⟨Bs, 1, none⟩ = some (.int .i64 x.n) := by simp [World.cell?, hbx]
  have d2 : W.cell? ⟨Bs, 2, none⟩ = some (.slice p x.l.length cap) := by simp [World.cell?, hbx]
  have hvW : SlV W lo p cap x.l := hv.lo (Lo.of (hW.mono hlo))
  have hloW : lo ≤ W.heap.size := Nat.le_trans hlo hW.size
  obtain ⟨i0, hi, iz0, iz1, iz2⟩ := info_parts infoSl'
  refine callsIn_of_wp Try.func37 rfl trivial ?_ rfl
  simp only [Try.ntmps37, List.size_toArray, List.length_cons, List.length_nil, Nat.reduceAdd, Nat.reduceSub, Array.replicate_succ, Array.replicate_zero, List.push_toArray, List.append_toArray, List.nil_append, List.cons_append]
  gi_wp2
  obtain ⟨rb, hrb⟩ : ∃ rb, rb = W.heap.size := ⟨_, rfl⟩
  obtain ⟨O, hO⟩ : ∃ O, O = Obj.cells #[Value.int IntKind.i64 x.k, Value.int IntKind.i64 x.n, Value.slice p x.l.length cap] 24 := ⟨_, rfl⟩
  obtain ⟨W0, hW0⟩ : ∃ W0, ((W.alloc (Obj.cells #[Value.int IntKind.i64 x.k, Value.int IntKind.i64 x.n, Value.slice p x.l.length cap] 24)).alloc (Obj.cells #[Value.slice (some ⟨W.heap.size, 0, none⟩) 1 1] 22)) = W0 := ⟨_, rfl⟩
  obtain ⟨j1, s1, t1⟩ := sep_alloc hJ h0 hloW (Obj.cells #[Value.int IntKind.i64 x.k, Value.int IntKind.i64 x.n, Value.slice p x.l.length cap] 24)
  obtain ⟨j2, s2, t2⟩ := sep_alloc hJ j1 (by simp; omega) (Obj.cells #[Value.slice (some ⟨W.heap.size, 0, none⟩) 1 1] 22)
  rw [hW0] at j2 s2 t2
  have s12 := s1.trans s2
  have hr0 : W0.heap[rb]? = some O := by
    rw [hrb, hO, ← hW0]
    exact (Below.heap_alloc _ _ _ (by simp)).trans (World.alloc_heap_new W _)
  have hr1 : W0.heap[rb + 1]? = some (Obj.cells #[Value.slice (some ⟨W.heap.size, 0, none⟩) 1 1] 22) := by rw [hrb, ← hW0]; exact alloc_at _ _ _
  have hz0 : W0.heap.size = rb + 2 := by rw [hrb, ← hW0]; simp
  have hnew : ∀ b, W.heap.size ≤ b → ¬ foot W0 b := fun b hb hf => by
    have := (hJ.cells [] W b h0 (t1 b (t2 b hf))).2
    omega
  have hlst : Lst W0 lo rb (some ⟨rb, 0, none⟩) 1 [x] := ⟨by simp, by simp [maxLen], fun i hi => by
    have : i = 0 := by simpa using hi
    subst this
    rw [hO] at hr0
    exact ⟨rb, 0, p, cap, rfl, .inr rfl, by simp [World.cell?, hr0], by simp [World.cell?, hr0], by simp [World.cell?, hr0], hvW.lo (Lo.blocks s12.low), hk, hm⟩⟩
  have HE0 : Bx (J [] W0 ∧ EI foot lo rb O W0 (.slice (some ⟨rb + 1, 0, none⟩) 1 1) [[x]]) :=
    ⟨j2, ⟨⟨[.slice (some ⟨rb, 0, none⟩) 1 1], ⟨rfl, .inr ⟨_, 1, _, rfl, Nat.le_refl _, by rw [hrb] at hr1 ⊢; exact hr1, by simp, by simp [maxLen], by simp, by simp⟩⟩, ⟨_, _, [], rfl, hlst, rfl⟩⟩, fun g hg => by rw [ownB] at hg; cases hg; exact hnew _ (by omega), hr0, by rw [hO]; rfl, hnew _ (by omega), by omega, by omega⟩⟩
  rw [hW0]
  rw [← hrb]
  clear hrb hO
  clear hlst hnew hr0 hr1 s12 s1 s2 t1 t2 j1 j2 hvW hW0 d0 d1 d2 hbx hBs hv
  gi_loopg [3] (x.sz + 1) (fun k v wr => ∃ (pre : List (Value × V)) (st : List (List V)), k = stz st + st.length ∧ k ≤ x.sz + 1 ∧ pre.length + stz st = x.sz ∧ Bx (J pre wr ∧ EI foot lo rb O wr v st ∧ Left x pre (Nodst st)))
  case atStart => exact ⟨[], [[x]], by simp [stz, szs], Nat.le_refl _, by simp [stz, szs], ⟨HE0.out.1, HE0.out.2, fun y => by simp [Nodst, Nods]⟩⟩
  case round =>
    obtain ⟨pre, st, hk', hkS, hpl, HS⟩ := hrel
    clear HE0
    rcases List.eq_nil_or_concat st with rfl | ⟨qs, l', rfl⟩
    · have HF : Bx (J pre wr ∧ AllOf x pre) := ⟨HS.out.1, fun y => by rw [HS.out.2.2 y]; simp [Nodst], by simpa [stz] using hpl⟩
      clear hpl hk'
      rcases HS.out.2.1.stk.val with ⟨rfl, _⟩ | ⟨g, gc, rfl, _⟩
      · gi_wp2
        go_end0
        exact ⟨⟨_, rfl⟩, .inl ⟨pre, HF.out.2, HF.out.1⟩⟩
      · rw [show ([] : List (List V)).length = 0 from rfl]
        gi_wp2
        go_end0
        exact ⟨⟨_, rfl⟩, .inl ⟨pre, HF.out.2, HF.out.1⟩⟩
    · rw [List.concat_eq_append] at HS hk' hpl
      obtain ⟨g, gc, q, qc, rfl, hg, hgl, hgc, hgm, c0, HQ, hst⟩ := HS.out.2.1.stk.pop
      have hlq := HQ.len
      have hqm := HQ.max
      simp only [stz_append, stz, List.length_append, List.length_singleton, Nat.add_zero] at hk' hpl
      unfold maxLen at hgm hqm
      have HST : Bx (J pre wr ∧ EI foot lo rb O wr (.slice (some ⟨g, 0, none⟩) qs.length gc) qs ∧ Left x pre (fun y => Nods l' y ∨ Nodst qs y) ∧ Lst wr lo rb q qc l') :=
        ⟨HS.out.1, ⟨hst, HS.out.2.1.nf, HS.out.2.1.root, HS.out.2.1.isc, HS.out.2.1.nfr, HS.out.2.1.sz, HS.out.2.1.lo_⟩, HS.out.2.2.same (fun y => by rw [nodst_snoc, or_comm]), HQ⟩
      have hll := szs_len l'
      clear HQ HS hst
      gi_wp2
      gi_loopg [3, 26] l'.length (fun k v iv wr' => ∃ (i : Nat) (pre : List (Value × V)) (st : List (List V)), k = l'.length - i ∧ i ≤ l'.length ∧ iv = .int .i64 i ∧ pre.length + szs (l'.drop i) + stz st = x.sz ∧ stz st + st.length + szs (l'.drop i) ≤ stz qs + qs.length + szs l' ∧ Bx (J pre wr' ∧ EI foot lo rb O wr' v st ∧ Left x pre (fun y => Nods (l'.drop i) y ∨ Nodst st y) ∧ Lst wr' lo rb q qc l'))
      case atStart => exact ⟨0, pre, qs, by simp, by omega, rfl, by simp <;> omega, by simp, ⟨HST.out.1, HST.out.2.1, by simpa using HST.out.2.2.1, HST.out.2.2.2⟩⟩
      case round =>
        obtain ⟨i, pre, st, hk'', hil, rfl, hpl', hms, HR⟩ := hrel
        clear HST
        by_cases hlt : i < l'.length
        · obtain ⟨b, o, r, rc, rfl, hbB, d0, d1, d2, hR, e1, e2⟩ := HR.out.2.2.2.at_ i hlt
          have hdr := szs_drop hlt
          have hsz := HR.out.2.1.sz
          have hlr := HR.out.2.1.lo_
          obtain ⟨j1, s1, t1⟩ := sep_alloc hJ HR.out.1 (by omega) (Obj.cells #[.int .i64 l'[i].k, .int .i64 l'[i].n, .slice r l'[i].l.length rc] 24)
          have hv1 : SlV (wr.alloc (Obj.cells #[.int .i64 l'[i].k, .int .i64 l'[i].n, .slice r l'[i].l.length rc] 24)) lo r rc l'[i].l := hR.lo (Lo.blocks s1.low)
          obtain ⟨fn, tmps, assign, body, hy, hRd⟩ := hY pre (.agg #[.int .i64 l'[i].k, .int .i64 l'[i].n, .slice r l'[i].l.length rc], l'[i]) _ j1 ⟨⟨r, rc, rfl, hv1⟩, e1, e2⟩ (by omega)
          dsimp only at hy
          gi_wp2
          refine hRd.mono ?_
          have HP : Bx (SomeOf x (pre ++ [(.agg #[.int .i64 l'[i].k, .int .i64 l'[i].n, .slice r l'[i].l.length rc], l'[i])])) := ⟨(HR.out.2.2.1.one (R' := fun y => (Nods l'[i].l y ∨ Nods (l'.drop (i + 1)) y) ∨ Nodst st y) (fun y => by rw [nods_drop hlt]; simp only [or_assoc])).some⟩
          have HL1 : Bx (Left x (pre ++ [(.agg #[.int .i64 l'[i].k, .int .i64 l'[i].n, .slice r l'[i].l.length rc], l'[i])]) (fun y => (Nods l'[i].l y ∨ Nods (l'.drop (i + 1)) y) ∨ Nodst st y)) := ⟨HR.out.2.2.1.one (fun y => by rw [nods_drop hlt]; simp only [or_assoc])⟩
          have HE1 : Bx (EI foot lo rb O (wr.alloc (Obj.cells #[.int .i64 l'[i].k, .int .i64 l'[i].n, .slice r l'[i].l.length rc] 24)) u3 st ∧ Lst (wr.alloc (Obj.cells #[.int .i64 l'[i].k, .int .i64 l'[i].n, .slice r l'[i].l.length rc] 24)) lo rb (some ⟨b, o, none⟩) qc l') := ⟨HR.out.2.1.sep s1, HR.out.2.2.2.keep s1.low ((HR.out.2.1.sep s1).root.trans HR.out.2.1.root.symm)⟩
          have htb : (wr.alloc (Obj.cells #[.int .i64 l'[i].k, .int .i64 l'[i].n, .slice r l'[i].l.length rc] 24)).heap[wr.heap.size]? = some (Obj.cells #[.int .i64 l'[i].k, .int .i64 l'[i].n, .slice r l'[i].l.length rc] 24) := World.alloc_heap_new _ _
          have hntb : ¬ foot (wr.alloc (Obj.cells #[.int .i64 l'[i].k, .int .i64 l'[i].n, .slice r l'[i].l.length rc] 24)) wr.heap.size := fun hf => by
            have := (hJ.cells _ _ _ HR.out.1 (t1 _ hf)).2; omega
          have hV1 : Bx _ := ⟨hv1⟩
          clear hRd hy hR HR d0 d1 d2 t1 s1 j1 hv1
          rintro e W3 (⟨rfl, hJ3, hk3⟩ | ⟨rfl, hJx3⟩)
          · have h3b : W3.heap[wr.heap.size]? = some (Obj.cells #[.int .i64 l'[i].k, .int .i64 l'[i].n, .slice r l'[i].l.length rc] 24) := hk3.same _ _ htb rfl hntb
            have g2 : W3.cell? ⟨wr.heap.size, 2, none⟩ = some (.slice r l'[i].l.length rc) := by simp [World.cell?, h3b]
            have hE3 : EI foot lo rb O W3 u3 st := HE1.out.1.sep hk3
            have hL3 : Lst W3 lo rb (some ⟨b, o, none⟩) qc l' := HE1.out.2.keep hk3.low (hE3.root.trans HE1.out.1.root.symm)
            have hV3 : SlV W3 lo r rc l'[i].l := hV1.out.lo (Lo.blocks hk3.low)
            have hz3 : wr.heap.size + 1 ≤ W3.heap.size := by have := hk3.size; simpa using this
            by_cases hkid : 0 < l'[i].l.length
            · obtain ⟨j4, s4, t4⟩ := sep_alloc hJ hJ3 (by omega) (Obj.cells #[.slice r l'[i].l.length rc] 22)
              have hE4 := hE3.sep s4
              obtain ⟨xs, ho, hrow⟩ := hE4.stk.own
              have HJ4 : Bx _ := ⟨j4⟩
              have HE4 : Bx _ := ⟨hE4⟩
              have HO : Bx _ := ⟨ho⟩
              have HRW : Bx _ := ⟨hrow⟩
              have HL4 : Bx _ := ⟨hL3.keep s4.low (hE4.root.trans hE3.root.symm)⟩
              have HV4 : Bx _ := ⟨hV3.lo (Lo.blocks s4.low)⟩
              clear j4 hE4 ho hrow hL3 hV3 s4 t4 hE3 hJ3 hk3 HE1
              gi_wp2_with (first | (gi_at_builtin; refine wpListIn_app _ rfl (.tmp 38) (.tmp 41) 45 rfl (rb + 1) 22 i0 (.slice none 0 0) 1 24 Try.underlying45 hi iz0 iz1 iz2 rfl (by decide) u3 st.length xs rfl HO.out ⟨W3.heap.size, 0, none⟩ 1 1 [.slice r l'[i].l.length rc] rfl rfl (slice_one _ _ _ 22 (World.alloc_heap_new _ _)) (slice_cell _ _ _) (by decide) (by unfold maxLen; omega) (by omega) (by simp; omega) (W3.heap.size + 1) (by simp) ?_; intro gg gcap w' hown' hgrow hgi hgl'; obtain ⟨q1, q2, q3, q4⟩ := EI.push hJ HJ4.out HE4.out HO.out HRW.out HV4.out hown' hgrow (by simpa using hgi)))
              gi_roundg (l'.length - (i + 1))
              case measure => omega
              case rel => exact ⟨i + 1, _, st ++ [l'[i].l], rfl, by omega, by simp, by simp only [stz_append, stz, List.length_append, List.length_singleton]; omega, by simp only [stz_append, stz, List.length_append, List.length_singleton]; omega, ⟨q1, q2, HL1.out.same (fun y => by rw [nodst_snoc]; exact or_turn), HL4.out.keep q3 q4⟩⟩
            · have hs0 : szs l'[i].l = 0 := by rw [List.eq_nil_of_length_eq_zero (show l'[i].l.length = 0 by omega)]; simp [szs]
              have HN : Bx (∀ y, ¬ Nods l'[i].l y) := ⟨fun y h => by rw [List.eq_nil_of_length_eq_zero (show l'[i].l.length = 0 by omega)] at h; exact nods_nil y h⟩
              have HH : Bx (J _ W3 ∧ EI foot lo rb O W3 u3 st ∧ Lst W3 lo rb (some ⟨b, o, none⟩) qc l') := ⟨hJ3, hE3, hL3⟩
              clear hE3 hL3 hJ3 hk3 hV3
              gi_wp2
              gi_roundg (l'.length - (i + 1))
              case measure => omega
              case rel => exact ⟨i + 1, _, st, rfl, by omega, by simp, by simp only [List.length_append, List.length_singleton]; omega, by omega, ⟨HH.out.1, HH.out.2.1, HL1.out.same (fun y => by simp [HN.out y]), HH.out.2.2⟩⟩
          · gi_wp2
            refine bodyPost_ret (results_none rfl _ _ _) rfl ?_
            exact ⟨⟨_, rfl⟩, .inr ⟨_, HP.out, hJx3⟩⟩
        · have hie : i = l'.length := by omega
          subst hie
          simp only [List.drop_length, szs, Nat.add_zero] at hpl' hms
          have HF : Bx (J pre wr ∧ EI foot lo rb O wr u3 st ∧ Left x pre (Nodst st)) := ⟨HR.out.1, HR.out.2.1, HR.out.2.2.1.same (fun y => by simp [nods_nil])⟩
          clear HR
          gi_wp2
          gi_roundg (stz st + st.length)
          case measure => omega
          case rel => exact ⟨pre, st, rfl, by omega, hpl', ⟨HF.out.1, HF.out.2.1, HF.out.2.2⟩⟩
end Go.Proofs.Ytikijkpklneihaa
namespace Go.Proofs.Ytikijkpklneihaa
open Go.RowKit Go.Shelf
set_option linter.unusedVariables false
set_option linter.unusedSimpArgs false
attribute [local go_sem] Oper.semAt_some

/-- one value is right by itself -/
def rt (x : V) : Bool := rightI x.k x.n x.l.length
open Classical in
/-- it may be -/
noncomputable def validB (x : V) : Bool := decide (∀ y, Nod x y → rt y = true)
theorem validB_yes {x : V} (h : ∀ y, Nod x y → rt y = true) : validB x = true := by simp [validB]; exact h
theorem validB_no {x y : V} (h : Nod x y) (hr : rt y = false) : validB x = false := by
  simp only [validB, decide_eq_false_iff_not]
  intro h2
  rw [h2 y h] at hr
  cases hr

theorem keeps_below {W W' : World} (h : Below W.heap.size W W') : KeepsOthers W W' := ⟨h.size, fun k o hk _ => (h.block k (Array.getElem?_eq_some_iff.1 hk).1).trans hk⟩
theorem sep_below {lo : Nat} {foot : World → Nat → Prop} {W W' : World} (h : Below W.heap.size W W') (hlo : lo ≤ W.heap.size) (hf : ∀ b, foot W' b → foot W b ∨ W.heap.size ≤ b) : Sep lo foot W W' :=
  ⟨fun b hb => h.block b (by omega), h.size, fun b o hb _ _ => (h.block b (Array.getElem?_eq_some_iff.1 hb).1).trans hb, hf⟩

set_option maxRecDepth 100000 in
set_option maxHeartbeats 2000000 in
theorem Valid_in (n : Nat) (hn : 4 ≤ n) (w : World) (v : Value) (x : V) (hv : IsV w w.heap.size v x) (hx : x.sz ≤ 65536) :
    CallsIn Fence.wide n Try.prog 18 #[v] w fun e w' => e = .returned (.bool (validB x)) ∧ Below w.heap.size w w' := by
  obtain ⟨⟨p, cap, rfl, h1⟩, h2, h3⟩ := hv
  refine callsIn_of_wp_marks Try.func18 rfl trivial ?_ rfl
  simp only [Try.ntmps18, List.size_toArray, List.length_cons, List.length_nil, Nat.reduceAdd, Nat.reduceSub, Array.replicate_succ, Array.replicate_zero, List.push_toArray, List.append_toArray, List.nil_append, List.cons_append]
  gi_wp2
  refine ⟨trivial, fun _ => by omega, ?_⟩
  refine (each_in (n - 1) _ _ _ _ _ _).mono ?_
  rintro e w' ⟨rfl, rfl⟩
  gi_wp2
  obtain ⟨A, hA⟩ : ∃ A, A = w.heap.size := ⟨_, rfl⟩
  obtain ⟨W3, hW3⟩ : ∃ W3, (((w.alloc (Obj.cells #[Value.int IntKind.i64 x.k, Value.int IntKind.i64 x.n, Value.slice p x.l.length cap] 24)).alloc (Obj.cells #[Value.bool false] 4)).alloc (Obj.cells #[Value.int IntKind.i64 x.k, Value.int IntKind.i64 x.n, Value.slice p x.l.length cap] 24)) = W3 := ⟨_, rfl⟩
  have hb3 : Below A w W3 := by rw [hA, ← hW3]; exact (two_new _ _ _).trans ((below1 _ _).mono (by simp; omega))
  have hr3 : W3.heap[A + 1]? = some (Obj.cells #[Value.bool false] 4) := by rw [hA, ← hW3]; exact (Below.heap_alloc _ _ _ (by simp)).trans (alloc_at _ _ _)
  have hx3 : W3.heap[A + 2]? = some (Obj.cells #[Value.int IntKind.i64 x.k, Value.int IntKind.i64 x.n, Value.slice p x.l.length cap] 24) := by
    rw [hA, ← hW3]; have := World.alloc_heap_new ((w.alloc (Obj.cells #[Value.int IntKind.i64 x.k, Value.int IntKind.i64 x.n, Value.slice p x.l.length cap] 24)).alloc (Obj.cells #[Value.bool false] 4)) (Obj.cells #[Value.int IntKind.i64 x.k, Value.int IntKind.i64 x.n, Value.slice p x.l.length cap] 24)
    simpa using this
  have hz3 : W3.heap.size = A + 3 := by rw [hA, ← hW3]; simp
  rw [hW3]
  have hsl : SlV W3 A p cap x.l := by rw [hA] at hb3 ⊢; exact h1.lo (Lo.of hb3)
  have hseq := each1_in (n - 1) (by omega) A (A + 2) W3 x p cap (by omega) hx3 hsl h2 h3 hx
  clear hx3 hsl hW3 h1 h2 h3
  simp only [Nat.add_assoc, Nat.reduceAdd]
  rw [← hA]
  have HA : Bx (A = w.heap.size) := ⟨hA⟩
  clear hA
  refine wpIn_rangeFunc_sep (lo := A) rfl (by omega) (gf := 37) (lb := #[.pointer (some ⟨A + 2, 0, none⟩)]) rfl trivial (enters_of Try.func37 (by kernel_rfl) rfl) (by omega) hseq (Below.refl _ _) (fun _ => rfl)
    (fun _ b => b = A + 1) (fun pre W => W.heap[A + 1]? = some (Obj.cells #[Value.bool false] 4) ∧ (∀ y ∈ pre.map Prod.snd, rt y = true) ∧ Below A w W)
    (fun c pre W => c = .ret ∧ (W.cell? ⟨A + 1, 0, none⟩ = some (.bool false) ∧ W.frozen? ⟨A + 1, 0, none⟩ = false) ∧ (∃ y ∈ pre.map Prod.snd, rt y = false) ∧ Below A w W)
    ?hI ?hIx ⟨hr3, by simp, hb3⟩
    (fun a a' W => ∃ tb q d, a.1 = .agg #[.int .i64 a.2.k, .int .i64 a.2.n, .slice q a.2.l.length d] ∧ W.heap[tb]? = some (Obj.cells #[.int .i64 a.2.k, .int .i64 a.2.n, .slice q a.2.l.length d] 24) ∧
      a' = { tmps := #[Value.agg #[Value.int IntKind.i64 x.k, Value.int IntKind.i64 x.n, Value.slice p x.l.length cap], Value.pointer (some ⟨A, 0, none⟩), Value.pointer (some ⟨A + 1, 0, none⟩), Value.pointer (some ⟨tb, 0, none⟩),
        Value.agg #[Value.int IntKind.i64 x.k, Value.int IntKind.i64 x.n, Value.slice p x.l.length cap], Value.func (Fn.func 37) #[] #[Value.pointer (some ⟨A + 2, 0, none⟩)], a.1, undef, undef, undef], defers := [] })
    ?hAx ?assign ?body ?done ?stop
  case hI =>
    refine ⟨fun s X Y row hs hg hr => ⟨⟨?_, hs.2.1, ?_⟩, fun b hb => hb⟩, fun s X b hs hf => ?_⟩
    · exact grownBy_other hg hs.1 (fun e => (hr _ e).2 rfl)
    · exact hs.2.2.grown hg (by have := hs.2.2.size; have := HA.out; omega) (fun k e => (hr k e).1)
    · subst hf; exact ⟨by omega, _, hs.1, rfl⟩
  case hIx =>
    intro c s X Y row hs hg hr
    refine ⟨hs.1, ?_, hs.2.2.1, ?_⟩
    · exact ⟨cell_kept hs.2.1.1 hg (fun r e => (hr r e).2), (frozen_kept hs.2.1.1 hg (fun r e => (hr r e).2)).trans hs.2.1.2⟩
    · exact hs.2.2.2.grown hg (by have := hs.2.2.2.size; have := HA.out; omega) (fun k e => by have := (hr k e).1; omega)
  case hAx =>
    rintro a a' s X Y row ⟨tb, q, d, e1, e2, e3⟩ hg hr
    exact ⟨tb, q, d, e1, grownBy_other hg e2 (fun e => by obtain ⟨_, o, ho, hc⟩ := hr _ e; rw [e2] at ho; cases ho; cases hc), e3⟩
  case assign =>
    rintro l pre ⟨v', y⟩ W K hi ⟨⟨q, d, he, hq⟩, hk, hn'⟩ hK
    dsimp only at he
    subst he
    have hsz : A ≤ W.heap.size := by have := hi.2.2.size; have := HA.out; omega
    have HI : Bx _ := ⟨hi⟩
    clear hi
    gi_wp2
    refine hK _ _ (keeps_below (below1 _ _)) (sep_below (below1 _ _) hsz (fun b hb => .inl hb)) ⟨?_, HI.out.2.1, HI.out.2.2.trans ((below1 _ _).mono hsz)⟩ ⟨W.heap.size, q, d, rfl, World.alloc_heap_new _ _, rfl⟩
    exact (Below.heap_alloc _ _ _ (Array.getElem?_eq_some_iff.1 HI.out.1).1).trans HI.out.1
  case body =>
    rintro l pre ⟨v', y⟩ a' W hi ⟨tb, q, d, he, htb, rfl⟩ _
    dsimp only at he htb ⊢
    subst he
    have hsz : A ≤ W.heap.size := by have := hi.2.2.size; have := HA.out; omega
    have c0 : W.cell? ⟨tb, 0, none⟩ = some (.int .i64 y.k) := by simp [World.cell?, htb]
    have c1 : W.cell? ⟨tb, 1, none⟩ = some (.int .i64 y.n) := by simp [World.cell?, htb]
    have c2 : W.cell? ⟨tb, 2, none⟩ = some (.slice q y.l.length d) := by simp [World.cell?, htb]
    have HI : Bx _ := ⟨hi⟩
    clear hi htb
    gi_wp2
    refine ⟨trivial, fun _ => by omega, ?_⟩
    refine (CallsIn.inRound l (callsIn_wide.2 (right_any W y.k y.n q y.l.length d))).mono ?_
    rintro e W4 ⟨he4, hb4⟩
    have hz4 := hb4.size
    have h4 : W4.heap[A + 1]? = some (Obj.cells #[Value.bool false] 4) := (hb4.block _ (Array.getElem?_eq_some_iff.1 HI.out.1).1).trans HI.out.1
    have f0 : W4.cell? ⟨A + 1, 0, none⟩ = some (.bool false) := by simp [World.cell?, h4]
    have f1 : W4.frozen? ⟨A + 1, 0, none⟩ = false := by simp [World.frozen?, h4]
    cases hrt : rightI y.k y.n y.l.length
    · rw [hrt] at he4
      subst he4
      gi_wp2
      refine ⟨(keeps_below hb4).trans (KeepsOthers.setCell _ _ _), rfl, ⟨?_, ?_⟩, ⟨y, by simp, hrt⟩, (HI.out.2.2.trans (hb4.mono hsz)).setCell (p := ⟨A + 1, 0, none⟩) (by show A ≤ A + 1; omega) _⟩
      · exact World.cell?_setCell_same' _ _ _ (by rw [f0]; rfl)
      · rw [World.frozen?_setCell]; exact f1
    · rw [hrt] at he4
      subst he4
      gi_wp2
      refine ⟨keeps_below hb4, sep_below hb4 hsz (fun b hb => .inl hb), h4, ?_, HI.out.2.2.trans (hb4.mono hsz)⟩
      intro z hz
      simp only [List.map_append, List.mem_append, List.map_cons, List.map_nil, List.mem_singleton] at hz
      rcases hz with hz | rfl
      · exact HI.out.2.1 z hz
      · exact hrt
  case done =>
    rintro D xs W hD hS ⟨h1, h2, h3⟩ hK
    have f0 : W.cell? ⟨A + 1, 0, none⟩ = some (.bool false) := by simp [World.cell?, h1]
    have f1 : W.frozen? ⟨A + 1, 0, none⟩ = false := by simp [World.frozen?, h1]
    have HV : Bx (validB x = true) := ⟨validB_yes (fun y hy => h2 y ((hS.1 y).1 hy))⟩
    have hK' : (W.setCell ⟨A + 1, 0, none⟩ (.bool true)).heap[D]? = some (.deferred (some [])) := (KeepsOthers.setCell _ _ _).same D _ hK rfl
    have hc' : (W.setCell ⟨A + 1, 0, none⟩ (.bool true)).cell? ⟨A + 1, 0, none⟩ = some (.bool true) := World.cell?_setCell_same' _ _ _ (by rw [f0]; rfl)
    have HB : Bx (Below A w (W.setCell ⟨A + 1, 0, none⟩ (.bool true))) := ⟨h3.setCell (p := ⟨A + 1, 0, none⟩) (by show A ≤ A + 1; omega) _⟩
    gi_wp2
    obtain ⟨W5, hW5⟩ : ∃ W5, W.setCell ⟨A + 1, 0, none⟩ (.bool true) = W5 := ⟨_, rfl⟩
    rw [hW5] at hK' hc' HB ⊢
    have hc5 : (W5.putObj D (.deferred none)).cell? ⟨A + 1, 0, none⟩ = some (.bool true) := by
      rw [← hc']; simp only [World.cell?]; rw [World.putObj_heap_other (by omega)]
    refine ⟨by simp, .inl ⟨_, _, rfl, run_takeDeferred hK', ?_⟩⟩
    refine ⟨.bool true, by simp [results, Try.results18, go_sem, hc5], by rw [HV.out], ?_⟩
    rw [← HA.out]
    exact HB.out.grown (grownBy_putObj' _ _ _) (by have := HB.out.size; have := HA.out; omega) (fun k e => by cases e; omega)
  case stop =>
    rintro D c pre W hD hS ⟨rfl, ⟨f0, f1⟩, ⟨y, hy, hry⟩, h3⟩ hK
    have HV : Bx (validB x = false) := ⟨validB_no (hS y hy) hry⟩
    gi_wp2
    have hc5 : (W.putObj D (.deferred none)).cell? ⟨A + 1, 0, none⟩ = some (.bool false) := by
      rw [← f0]; simp only [World.cell?]; rw [World.putObj_heap_other (by omega)]
    refine ⟨by simp, .inl ⟨_, _, rfl, run_takeDeferred hK, ?_⟩⟩
    refine ⟨.bool false, by simp [results, Try.results18, go_sem, hc5], by rw [HV.out], ?_⟩
    rw [← HA.out]
    exact h3.grown (grownBy_putObj' _ _ _) (by have := h3.size; have := HA.out; omega) (fun k e => by cases e; omega)
theorem Valid_any (w : World) (B : Nat) (v : Value) (x : V) (hv : IsV w B v x) (hB : B ≤ w.heap.size) (hx : x.sz ≤ 65536) :
    Calls Try.prog 18 #[v] w fun e w' => e = .returned (.bool (validB x)) ∧ Below w.heap.size w w' :=
  (callsIn_wide (n := 4)).1 (Valid_in 4 (by omega) w v x (hv.up hB) hx)
end Go.Proofs.Ytikijkpklneihaa
namespace Go.Proofs.Ytikijkpklneihaa
open Go.RowKit
set_option linter.unusedVariables false
set_option linter.unusedSimpArgs false

/-- a list that rises -/
def Ris (l : List Int) : Prop := l.Pairwise (· < ·)
theorem ris_mem_nil {l : List Int} (h : ∀ x, ¬ x ∈ l) : l = [] := by
  cases l with
  | nil => rfl
  | cons a b => exact absurd List.mem_cons_self (h a)
theorem ris_one {a b : List Int} (ha : Ris a) (hb : Ris b) (h : ∀ x, x ∈ a ↔ x ∈ b) : a = b := by
  induction a generalizing b with
  | nil => exact (ris_mem_nil (fun x hx => by have := (h x).2 hx; cases this)).symm
  | cons x xs ih =>
    cases b with
    | nil => have := (h x).1 List.mem_cons_self; cases this
    | cons y ys =>
      have hx := List.pairwise_cons.1 ha
      have hy := List.pairwise_cons.1 hb
      have hxy : x = y := by
        rcases List.mem_cons.1 ((h x).1 List.mem_cons_self) with h1 | h1
        · exact h1
        · rcases List.mem_cons.1 ((h y).2 List.mem_cons_self) with h2 | h2
          · exact h2.symm
          · have a1 := hx.1 y h2
            have a2 := hy.1 x h1
            omega
      subst hxy
      rw [ih hx.2 hy.2 (fun z => ?_)]
      constructor
      · intro hz
        rcases List.mem_cons.1 ((h z).1 (List.mem_cons_of_mem _ hz)) with h1 | h1
        · have := hx.1 z hz; omega
        · exact h1
      · intro hz
        rcases List.mem_cons.1 ((h z).2 (List.mem_cons_of_mem _ hz)) with h1 | h1
        · have := hy.1 z hz; omega
        · exact h1
theorem comp_up (d : Array Int) (hd : ∀ i j, i < j → j < d.size → d[i]! ≤ d[j]!) : ∀ m, m ≤ d.size → Ris (Lib.compactUpTo d m) ∧ (∀ x, x ∈ Lib.compactUpTo d m ↔ ∃ j, j < m ∧ x = d[j]!) := by
  intro m
  induction m with
  | zero => intro _; exact ⟨by simp [Lib.compactUpTo, Ris], fun x => by simp [Lib.compactUpTo]⟩
  | succ m ih =>
    intro hm
    obtain ⟨h1, h2⟩ := ih (by omega)
    rw [Lib.compactUpTo_succ]
    by_cases hk : Lib.keeps d m = true
    · simp only [hk, if_true]
      refine ⟨List.pairwise_append.2 ⟨h1, by simp, fun a ha b hb => ?_⟩, fun x => ?_⟩
      · simp at hb
        subst hb
        obtain ⟨j, hj, rfl⟩ := (h2 a).1 ha
        have hne : m ≠ 0 := by omega
        have hdm : d[m]! ≠ d[m - 1]! := by
          intro e
          rw [Lib.keeps_neg (by omega) e] at hk
          cases hk
        have a1 := hd (m - 1) m (by omega) (by omega)
        have a2 : d[j]! ≤ d[m - 1]! := by
          rcases Nat.lt_or_ge j (m - 1) with h | h
          · exact hd j (m - 1) h (by omega)
          · have : j = m - 1 := by omega
            rw [this]; exact Int.le_refl _
        omega
      · rw [List.mem_append, h2]
        constructor
        · rintro (⟨j, hj, e⟩ | h)
          · exact ⟨j, by omega, e⟩
          · simp at h; exact ⟨m, by omega, h⟩
        · rintro ⟨j, hj, e⟩
          rcases Nat.lt_or_ge j m with h | h
          · exact .inl ⟨j, h, e⟩
          · have : j = m := by omega
            subst this; exact .inr (by simp [e])
    · have hk' : Lib.keeps d m = false := by simpa using hk
      simp only [hk', Bool.false_eq_true, if_false, List.append_nil]
      refine ⟨h1, fun x => ?_⟩
      rw [h2]
      constructor
      · rintro ⟨j, hj, e⟩; exact ⟨j, by omega, e⟩
      · rintro ⟨j, hj, e⟩
        rcases Nat.lt_or_ge j m with h | h
        · exact ⟨j, h, e⟩
        · have : j = m := by omega
          subst this
          have hm0 : 0 < j := by
            rcases Nat.eq_zero_or_pos j with h0 | h0
            · subst h0; simp [Lib.keeps] at hk'
            · exact h0
          have hde : d[j]! = d[j - 1]! := by
            rcases Classical.em (d[j]! = d[j - 1]!) with h | h
            · exact h
            · rw [Lib.keeps_pos h] at hk'; cases hk'
          exact ⟨j - 1, by omega, by rw [e, hde]⟩
/-- sorted and without what is there twice -/
def tidy (zs : List Int) : List Int := Lib.compact (zs.mergeSort fun x y => decide (x ≤ y))
theorem tidy_ris (zs : List Int) : Ris (tidy zs) ∧ ∀ x, x ∈ tidy zs ↔ x ∈ zs := by
  have hp := List.pairwise_mergeSort (le := fun x y : Int => decide (x ≤ y)) (fun a b c => by simp; omega) (fun a b => by simp; omega) zs
  have hm : ∀ x, x ∈ zs.mergeSort (fun x y => decide (x ≤ y)) ↔ x ∈ zs := fun x => (List.mergeSort_perm zs _).mem_iff
  unfold tidy Lib.compact
  generalize zs.mergeSort (fun x y => decide (x ≤ y)) = s at *
  have hget : ∀ j (h : j < s.length), s.toArray[j]! = s[j] := fun j h => by simp [getElem!_pos, h]
  obtain ⟨h1, h2⟩ := comp_up s.toArray (fun i j hij hj => by
    have hj' : j < s.length := by simpa using hj
    rw [hget i (by omega), hget j hj']
    have := List.pairwise_iff_getElem.1 hp i j (by omega) hj' hij
    simpa using this) s.length (by simp)
  refine ⟨h1, fun x => ?_⟩
  rw [h2, ← hm]
  constructor
  · rintro ⟨j, hj, rfl⟩
    rw [hget j hj]
    exact List.getElem_mem hj
  · intro hx
    obtain ⟨j, hj, rfl⟩ := List.getElem_of_mem hx
    exact ⟨j, hj, (hget j hj).symm⟩
/-- the channels among values -/
def chs (l : List V) : List Int := (l.filter (fun y => (y.k == 5) && decide (0 < y.n))).map V.n
theorem chs_snoc_yes {l : List V} {y : V} (h1 : y.k = 5) (h2 : 0 < y.n) : chs (l ++ [y]) = chs l ++ [y.n] := by simp [chs, h1, h2]
theorem chs_snoc_no {l : List V} {y : V} (h : ¬ (y.k = 5 ∧ 0 < y.n)) : chs (l ++ [y]) = chs l := by
  have : ((y.k == 5) && decide (0 < y.n)) = false := by simpa using h
  simp [chs, this]
theorem chs_len (l : List V) : (chs l).length ≤ l.length := by simp [chs]; exact List.length_filter_le _ _
/-- the channels in a value, rising -/
def IsCh (x : V) (cs : List Int) : Prop := Ris cs ∧ ∀ n, n ∈ cs ↔ ∃ y, Nod x y ∧ y.k = 5 ∧ 0 < y.n ∧ y.n = n
theorem IsCh.one {x : V} {a b : List Int} (ha : IsCh x a) (hb : IsCh x b) : a = b := ris_one ha.1 hb.1 (fun n => by rw [ha.2, hb.2])
theorem isCh_tidy {x : V} {xs : List (Value × V)} (h : AllOf x xs) : IsCh x (tidy (chs (xs.map Prod.snd))) := by
  obtain ⟨h1, h2⟩ := tidy_ris (chs (xs.map Prod.snd))
  refine ⟨h1, fun n => ?_⟩
  rw [h2]
  simp only [chs, List.mem_map, List.mem_filter, Bool.and_eq_true, beq_iff_eq, decide_eq_true_eq]
  constructor
  · rintro ⟨y, ⟨hy, hk, hn⟩, e⟩
    exact ⟨y, (h.1 y).2 (List.mem_map.2 hy), hk, hn, e⟩
  · rintro ⟨y, hy, hk, hn, e⟩
    exact ⟨y, ⟨List.mem_map.1 ((h.1 y).1 hy), hk, hn⟩, e⟩
end Go.Proofs.Ytikijkpklneihaa
/-
  DERIVED: THE SHELF's CONTRACTS AT THIS DUMP, IN PLAIN WORDS (tools/lay-plain.mjs out of 'TryShelfS.lean', which tools/lay-shelf.mjs wrote): THE SAME DECLARATIONS UNDER THE SAME NAMES: 'import', 'namespace', 'open', 'def', 'theorem' AND NOTHING ELSE: no command of the shelf's: FOR A HAND-IN. Each laying: the table of numbers ('.._ren') and one theorem, a field a fact of the dump's own or the kernel's comparison; each contract: ONE APPLICATION.
-/
namespace Go.Proofs
open Go.Shelf
def Try.lays189_ren : Go.Shelf.Ren := ⟨fun | 189 => 29 | 125 => 39 | 257 => 38 | 128 => 52 | 129 => 53 | 294 => 43 | 295 => 44 | 296 => 45 | 297 => 46 | 298 => 47 | 299 => 48 | 216 => 49 | 300 => 50 | 301 => 51 | 328 => 54 | 329 => 55 | 330 => 56 | 331 => 57 | 332 => 58 | 215 => 59 | 343 => 60 | n => n, fun | 28 => 25 | 3 => 3 | 46 => 61 | 0 => 0 | 51 => 73 | 53 => 75 | 4 => 4 | 183 => 65 | 182 => 64 | 131 => 70 | 5 => 5 | 9 => 9 | 218 => 76 | 222 => 80 | 228 => 83 | 229 => 84 | n => n, fun | n => n⟩
theorem Try.lays189 : Go.Proofs.Lays.n189 Try.prog Try.lays189_ren := {
  mixed := by kernel_rfl
  f125 := Try.func39.trans (congrArg some (by kernel_rfl))
  f128 := Try.func52.trans (congrArg some (by kernel_rfl))
  f129 := Try.func53.trans (congrArg some (by kernel_rfl))
  f189 := Try.func29.trans (congrArg some (by kernel_rfl))
  f215 := Try.func59.trans (congrArg some (by kernel_rfl))
  f216 := Try.func49.trans (congrArg some (by kernel_rfl))
  f257 := Try.func38.trans (congrArg some (by kernel_rfl))
  f294 := Try.func43.trans (congrArg some (by kernel_rfl))
  f295 := Try.func44.trans (congrArg some (by kernel_rfl))
  f296 := Try.func45.trans (congrArg some (by kernel_rfl))
  f297 := Try.func46.trans (congrArg some (by kernel_rfl))
  f298 := Try.func47.trans (congrArg some (by kernel_rfl))
  f299 := Try.func48.trans (congrArg some (by kernel_rfl))
  f300 := Try.func50.trans (congrArg some (by kernel_rfl))
  f301 := Try.func51.trans (congrArg some (by kernel_rfl))
  f328 := Try.func54.trans (congrArg some (by kernel_rfl))
  f329 := Try.func55.trans (congrArg some (by kernel_rfl))
  f330 := Try.func56.trans (congrArg some (by kernel_rfl))
  f331 := Try.func57.trans (congrArg some (by kernel_rfl))
  f332 := Try.func58.trans (congrArg some (by kernel_rfl))
  f343 := Try.func60.trans (congrArg some (by kernel_rfl))
  t0 := Try.underlying0
  a0 := Try.isAgg0
  z0 := Try.sizeOf0
  v0 := Try.zeroValue0
  t3 := Try.underlying3
  a3 := Try.isAgg3
  z3 := Try.sizeOf3
  v3 := Try.zeroValue3
  t4 := Try.underlying4
  a4 := Try.isAgg4
  z4 := Try.sizeOf4
  v4 := Try.zeroValue4
  t5 := Try.underlying5
  a5 := Try.isAgg5
  z5 := Try.sizeOf5
  v5 := Try.zeroValue5
  t9 := Try.underlying9
  a9 := Try.isAgg9
  z9 := Try.sizeOf9
  v9 := Try.zeroValue9
  t28 := Try.underlying25
  a28 := Try.isAgg25
  z28 := Try.sizeOf25
  v28 := Try.zeroValue25
  t46 := Try.underlying61
  a46 := Try.isAgg61
  z46 := Try.sizeOf61
  v46 := Try.zeroValue61
  t51 := Try.underlying73
  a51 := Try.isAgg73
  z51 := Try.sizeOf73
  v51 := Try.zeroValue73
  t53 := Try.underlying75
  a53 := Try.isAgg75
  z53 := Try.sizeOf75
  v53 := Try.zeroValue75
  t131 := Try.underlying70
  a131 := Try.isAgg70
  z131 := Try.sizeOf70
  v131 := Try.zeroValue70
  t182 := Try.underlying64
  a182 := Try.isAgg64
  z182 := Try.sizeOf64
  v182 := Try.zeroValue64
  t183 := Try.underlying65
  a183 := Try.isAgg65
  z183 := Try.sizeOf65
  v183 := Try.zeroValue65
  t218 := Try.underlying76
  a218 := Try.isAgg76
  z218 := Try.sizeOf76
  v218 := Try.zeroValue76
  t222 := Try.underlying80
  a222 := Try.isAgg80
  z222 := Try.sizeOf80
  v222 := Try.zeroValue80
  t228 := Try.underlying83
  a228 := Try.isAgg83
  z228 := Try.sizeOf83
  v228 := Try.zeroValue83
  t229 := Try.underlying84
  a229 := Try.isAgg84
  z229 := Try.sizeOf84
  v229 := Try.zeroValue84 }
open Go.Sort Go.RowKit in
theorem Try.slices_Sort_int (blk off cap : Nat) (zs : List Int) (w : World) (hH : Holds (Value.int .i64) w blk off zs.toArray) (hblk : blk < w.heap.size) (hsz : zs.length < 4611686018427387904) :
    Calls Try.prog 29 #[.slice (some ⟨blk, off, none⟩) zs.length cap] w fun e w' =>
      e = .returned (.tuple #[]) ∧ ∃ n os, w' = grow (putRow (Value.int .i64) (Sort.ahead w n) blk off (zs.mergeSort fun x y => decide (x ≤ y)).toArray) os := Any.slices_Sort_int Try.lays189 blk off cap zs w hH hblk hsz
def Try.laysNm220_ren : Go.Shelf.Ren := ⟨fun | 20 => 30 | n => n, fun | 22 => 25 | 3 => 3 | 4 => 4 | 0 => 0 | n => n, fun | n => n⟩
theorem Try.laysNm220 : Go.Proofs.Lays2.n20 Try.prog Try.laysNm220_ren := {
  mixed := by kernel_rfl
  f20 := Try.func30.trans (congrArg some (by kernel_rfl))
  t0 := Try.underlying0
  a0 := Try.isAgg0
  z0 := Try.sizeOf0
  v0 := Try.zeroValue0
  t3 := Try.underlying3
  a3 := Try.isAgg3
  z3 := Try.sizeOf3
  v3 := Try.zeroValue3
  t4 := Try.underlying4
  a4 := Try.isAgg4
  z4 := Try.sizeOf4
  v4 := Try.zeroValue4
  t22 := Try.underlying25
  a22 := Try.isAgg25
  z22 := Try.sizeOf25
  v22 := Try.zeroValue25
  i3 := by kernel_rfl }
open Go.RowKit Go.Lib Go.Sort in
/-- slices.Compact at []int: "Compact replaces consecutive runs of equal elements with a single copy. This is like the uniq command found on Unix. Compact modifies the contents of the slice s and returns the modified slice, which may have a smaller length. Compact zeroes the elements between the new length and the original length. The result preserves the nilness of s.": IT RETURNS THE SLICE CUT TO 'Lib.compact zs'; ITS CELLS HOLD 'Lib.compact zs', THEN ZERO VALUES up to the old length; all else is as it was, but for the count of draws. IN THE WORDS OF slices.Sort's CONTRACT ('Holds', 'putRow'): so the everyday 'slices.Sort(xs); xs = slices.Compact(xs)' goes from the one contract to the other. It asks 'zs.length ≤ cap' (every slice's: the reslicing 's[:k]' looks at it). Length 0, nil: '.._empty'. (LAID: no walk: one application.) -/
theorem Try.slices_Compact_int (blk off cap : Nat) (zs : List Int) (w : World) (hH : Holds (Value.int .i64) w blk off zs.toArray) (hsz : zs.length ≤ 9223372036854775807) (hcap : zs.length ≤ cap) :
    Calls Try.prog 30 #[.slice (some ⟨blk, off, none⟩) zs.length cap] w fun e w' => e = .returned (.slice (some ⟨blk, off, none⟩) (Lib.compact zs).length cap) ∧ ∃ q, w' = putRow (Value.int .i64) (Sort.ahead w q) blk off (Lib.compact zs ++ List.replicate (zs.length - (Lib.compact zs).length) 0).toArray := Any.slices_Compact_int Try.laysNm220 blk off cap zs w hH hsz hcap
open Go.RowKit Go.Lib Go.Sort in
/-- The same at a slice of length 0, a nil one too: it comes back as it is. (LAID: no walk: one application.) -/
theorem Try.slices_Compact_int_empty (a : Option Addr) (cap : Nat) (w : World) :
    Calls Try.prog 30 #[.slice a 0 cap] w fun e w' => e = .returned (.slice a 0 cap) ∧ w' = w := Any.slices_Compact_int_empty Try.laysNm220 a cap w
open Go.RowKit Go.Sort in
/-- .. and plain. (LAID: no walk: one application.) -/
theorem Try.slices_Sort_int_none (p : Option Addr) (cap : Nat) (w : World) :
    Calls Try.prog 29 #[.slice p 0 cap] w fun e w' => e = .returned (.tuple #[]) ∧ w' = w := Any.slices_Sort_int_none Try.lays189 p cap w
end Go.Proofs
namespace Go.Proofs.Ytikijkpklneihaa
open Go.RowKit Go.Shelf Go.Sort
set_option linter.unusedVariables false
set_option linter.unusedSimpArgs false
attribute [local go_sem] Oper.semAt_some

theorem infoI : (Try.prog.info? 3).map (fun i => (i.zero, i.size, i.bytes)) = some (some (.int .i64 0), 1, 8) := by kernel_rfl

/-- the body's own: the variable out, and its row -/
def foot (A : Nat) (W : World) (b : Nat) : Prop := b = A + 1 ∨ ∃ sv, W.heap[A + 1]? = some (Obj.cells #[sv] 25) ∧ sv.ownBlock = some b
/-- out holds numbers -/
structure Out (A : Nat) (W : World) (zs : List Int) : Prop where
  ex : ∃ sv, W.heap[A + 1]? = some (Obj.cells #[sv] 25) ∧ W.ownsRow (A + 3) 3 1 sv zs.length (zs.map (Value.int .i64))
theorem Out.keep {A : Nat} {W W' : World} {zs : List Int} (h : Out A W zs) (h1 : W'.heap[A + 1]? = W.heap[A + 1]?) (h2 : ∀ b o, foot A W b → W.heap[b]? = some o → W'.heap[b]? = some o) : Out A W' zs := by
  obtain ⟨sv, e1, e2⟩ := h.ex
  exact ⟨sv, h1.trans e1, own_same e2 (fun g o hg hgo => h2 g o (.inr ⟨sv, e1, hg⟩) hgo)⟩
theorem foot_same {A : Nat} {W W' : World} (h1 : W'.heap[A + 1]? = W.heap[A + 1]?) {b : Nat} (h : foot A W' b) : foot A W b := by
  rcases h with h | ⟨sv, e1, e2⟩
  · exact .inl h
  · exact .inr ⟨sv, h1 ▸ e1, e2⟩
theorem Out.abid {A : Nat} {w : World} (hA : A = w.heap.size) {β : Type} (f : β → List Int) : Abid A (foot A) (fun (s : β) W => Out A W (f s) ∧ Below A w W) := by
  refine ⟨fun s X Y row hs hg hr => ?_, fun s X b hs hf => ?_⟩
  · obtain ⟨sv, e1, e2⟩ := hs.1.ex
    have h1 : Y.heap[A + 1]? = X.heap[A + 1]? := (grownBy_other hg e1 (fun e => (hr _ e).2 (.inl rfl))).trans e1.symm
    exact ⟨⟨hs.1.keep h1 (fun b o hf hb => grownBy_other hg hb (fun e => (hr _ e).2 hf)), hs.2.grown hg (by have := hs.2.size; omega) (fun k e => (hr k e).1)⟩, fun b hb => foot_same h1 hb⟩
  · obtain ⟨sv, e1, e2⟩ := hs.1.ex
    rcases hf with rfl | ⟨sv', e1', e2'⟩
    · exact ⟨by omega, _, e1, rfl⟩
    · rw [e1] at e1'
      simp at e1'
      subst e1'
      exact ⟨by have := own_base e2 b e2'; omega, own_cells e2 e2'⟩

/-- a number more -/
theorem Out.push {A : Nat} {W w4 : World} {zs : List Int} {sv : Value} {g cap : Nat} {y : Int} (e1 : W.heap[A + 1]? = some (Obj.cells #[sv] 25)) (e2 : W.ownsRow (A + 3) 3 1 sv zs.length (zs.map (Value.int .i64))) {o : Obj}
    (hown : w4.ownsRow (A + 3) 3 1 (.slice (some ⟨g, 0, none⟩) (zs.length + 1) cap) (zs.length + 1) (zs.map (Value.int .i64) ++ [.int .i64 y])) (hg : (W.alloc o).grownBy w4 sv.ownBlock) (hat : sv.ownBlock = some g ∨ g = W.heap.size + 1) (hA : A + 2 ≤ W.heap.size) :
    let W' := w4.setCell ⟨A + 1, 0, none⟩ (.slice (some ⟨g, 0, none⟩) (zs.length + 1) cap)
    Out A W' (zs ++ [y]) ∧ KeepsOthers W W' ∧ Sep A (foot A) W W' ∧ (∀ w, A = w.heap.size → Below A w W → Below A w W') ∧ Boxed w4 (A + 1) 25 sv := by
  intro W'
  have hne : ∀ b, sv.ownBlock = some b → A + 3 ≤ b := fun b hb => own_base e2 b hb
  have hX : ∀ b o', W.heap[b]? = some o' → (W.alloc o).heap[b]? = some o' := fun b o' hb => (Below.heap_alloc _ _ _ (Array.getElem?_eq_some_iff.1 hb).1).trans hb
  have b4 : Boxed w4 (A + 1) 25 sv := grownBy_other hg (hX _ _ e1) (fun e => by have := hne _ e; omega)
  have b5 : Boxed W' (A + 1) 25 (.slice (some ⟨g, 0, none⟩) (zs.length + 1) cap) := b4.set _
  have hg3 : A + 3 ≤ g := own_base hown g rfl
  have ho5 : W'.ownsRow (A + 3) 3 1 (.slice (some ⟨g, 0, none⟩) (zs.length + 1) cap) (zs.length + 1) (zs.map (Value.int .i64) ++ [.int .i64 y]) := own_same hown (fun g' o' hg' ho' => by
    rw [ownB] at hg'; cases hg'
    exact (Below.heap_setCell _ _ _ _ (by show g ≠ A + 1; omega)).trans ho')
  have hsz : W.heap.size ≤ W'.heap.size := by
    have h1 := hg.size
    have h2 : W'.heap.size = w4.heap.size := World.size_setCell _ _ _
    rw [h2]; simp at h1; omega
  have hsame : ∀ b o', W.heap[b]? = some o' → sv.ownBlock ≠ some b → b ≠ A + 1 → W'.heap[b]? = some o' := fun b o' hb h1 h2 =>
    (Below.heap_setCell _ _ _ _ h2).trans (grownBy_other hg (hX _ _ hb) h1)
  refine ⟨⟨_, b5, by simpa using ho5⟩, ⟨hsz, fun k o' hk ho' => hsame k o' hk (fun e => ?_) (fun e => ?_)⟩, ⟨fun b hb => ?_, hsz, fun b o' hb _ hf => hsame b o' hb (fun e => hf (.inr ⟨sv, e1, e⟩)) (fun e => hf (.inl e)), fun b hf => ?_⟩, fun w hw hb => ?_, b4⟩
  · obtain ⟨o2, h1, h2⟩ := own_cells e2 e
    rw [hk] at h1; cases h1; rw [ho'] at h2; cases h2
  · subst e; rw [e1] at hk; cases hk; cases ho'
  · rw [Below.heap_setCell _ _ _ _ (by show b ≠ A + 1; omega)]
    exact (hg.block b (by simp; omega) (fun e => by have := hne _ e.symm; omega)).trans (Below.heap_alloc _ _ _ (by omega))
  · rcases hf with h | ⟨sv', q1, q2⟩
    · exact .inl (.inl h)
    · rw [show W'.heap[A + 1]? = _ from b5] at q1
      simp at q1
      subst q1
      rw [ownB] at q2
      cases q2
      rcases hat with h | h
      · exact .inl (.inr ⟨sv, e1, h⟩)
      · exact .inr (by omega)
  · exact ((hb.alloc (by omega) o).grown hg (by simp; omega) (fun k e => by have := hne k e; omega)).setCell (p := ⟨A + 1, 0, none⟩) (by show A ≤ A + 1; omega) _

theorem own_close {A D : Nat} {W : World} {e : TypeId} {s : Nat} {v : Value} {n : Nat} {cs : List Value} (hown : W.ownsRow (A + 3) e s v n cs) (hK : W.heap[D]? = some (.deferred (some []))) : (W.putObj D (.deferred none)).ownsRow A e s v n cs := by
  have h1 : W.ownsRow A e s v n cs := ⟨hown.1, by
    rcases hown.2 with h | ⟨g, cap, cur, e, h1, h2⟩
    · exact .inl h
    · exact .inr ⟨g, cap, cur, e, by omega, h2⟩⟩
  refine own_same h1 (fun g o hg ho => ?_)
  rw [World.putObj_heap_other (fun e => ?_)]
  · exact ho
  · subst e
    obtain ⟨o2, h1, h2⟩ := own_cells hown hg
    rw [hK] at h1; cases h1; cases h2
theorem putRow_other {W : World} {g q b : Nat} {d : Array Int} (h : b ≠ g) : (putRow (Value.int .i64) (Sort.ahead W q) g 0 d).heap[b]? = W.heap[b]? := by
  simp [putRow, mapBlock, Sort.ahead, Array.getElem?_modify, show g ≠ b by omega]

def ChPost (w : World) (x : V) (e : Ending) (w' : World) : Prop := ∃ cs v, e = .returned v ∧ IsCh x cs ∧ w'.ownsRow w.heap.size 3 1 v cs.length (cs.map (Value.int .i64)) ∧ Below w.heap.size w w'

set_option maxRecDepth 100000 in
set_option maxHeartbeats 2000000 in
theorem Chans_in (n : Nat) (hn : 4 ≤ n) (w : World) (v : Value) (x : V) (hv : IsV w w.heap.size v x) (hx : x.sz ≤ 65536) :
    CallsIn Fence.wide n Try.prog 16 #[v] w (ChPost w x) := by
  obtain ⟨⟨p, cap, rfl, h1⟩, h2, h3⟩ := hv
  obtain ⟨i0, hi, iz0, iz1, iz2⟩ := info_parts infoI
  refine callsIn_of_wp_marks Try.func16 rfl trivial ?_ rfl
  simp only [Try.ntmps16, List.size_toArray, List.length_cons, List.length_nil, Nat.reduceAdd, Nat.reduceSub, Array.replicate_succ, Array.replicate_zero, List.push_toArray, List.append_toArray, List.nil_append, List.cons_append]
  gi_wp2
  refine ⟨trivial, fun _ => by omega, ?_⟩
  refine (each_in (n - 1) _ _ _ _ _ _).mono ?_
  rintro e w' ⟨rfl, rfl⟩
  gi_wp2
  obtain ⟨A, hA⟩ : ∃ A, A = w.heap.size := ⟨_, rfl⟩
  obtain ⟨W3, hW3⟩ : ∃ W3, (((w.alloc (Obj.cells #[Value.int IntKind.i64 x.k, Value.int IntKind.i64 x.n, Value.slice p x.l.length cap] 24)).alloc (Obj.cells #[Value.slice none 0 0] 25)).alloc (Obj.cells #[Value.int IntKind.i64 x.k, Value.int IntKind.i64 x.n, Value.slice p x.l.length cap] 24)) = W3 := ⟨_, rfl⟩
  have hb3 : Below A w W3 := by rw [hA, ← hW3]; exact (two_new _ _ _).trans ((below1 _ _).mono (by simp; omega))
  have hr3 : W3.heap[A + 1]? = some (Obj.cells #[Value.slice none 0 0] 25) := by rw [hA, ← hW3]; exact (Below.heap_alloc _ _ _ (by simp)).trans (alloc_at _ _ _)
  have hx3 : W3.heap[A + 2]? = some (Obj.cells #[Value.int IntKind.i64 x.k, Value.int IntKind.i64 x.n, Value.slice p x.l.length cap] 24) := by
    rw [hA, ← hW3]; have := World.alloc_heap_new ((w.alloc (Obj.cells #[Value.int IntKind.i64 x.k, Value.int IntKind.i64 x.n, Value.slice p x.l.length cap] 24)).alloc (Obj.cells #[Value.slice none 0 0] 25)) (Obj.cells #[Value.int IntKind.i64 x.k, Value.int IntKind.i64 x.n, Value.slice p x.l.length cap] 24)
    simpa using this
  have hz3 : W3.heap.size = A + 3 := by rw [hA, ← hW3]; simp
  rw [hW3]
  have hsl : SlV W3 A p cap x.l := by rw [hA] at hb3 ⊢; exact h1.lo (Lo.of hb3)
  have hseq := each1_in (n - 1) (by omega) A (A + 2) W3 x p cap (by omega) hx3 hsl h2 h3 hx
  clear hx3 hsl hW3 h1 h2 h3
  simp only [Nat.add_assoc, Nat.reduceAdd]
  rw [← hA]
  have HA : Bx (A = w.heap.size) := ⟨hA⟩
  have hI := Out.abid hA (β := List (Value × V)) (fun pre => chs (pre.map Prod.snd))
  clear hA
  refine wpIn_rangeFunc_sep (lo := A) rfl (by omega) (gf := 37) (lb := #[.pointer (some ⟨A + 2, 0, none⟩)]) rfl trivial (enters_of Try.func37 (by kernel_rfl) rfl) (by omega) hseq (Below.refl _ _) (fun _ => rfl)
    (foot A) (fun pre W => Out A W (chs (pre.map Prod.snd)) ∧ Below A w W)
    (fun c pre W => False)
    hI ?hIx ⟨⟨_, hr3, ⟨rfl, .inl ⟨rfl, rfl⟩⟩⟩, hb3⟩
    (fun a a' W => ∃ tb q d, a.1 = .agg #[.int .i64 a.2.k, .int .i64 a.2.n, .slice q a.2.l.length d] ∧ W.heap[tb]? = some (Obj.cells #[.int .i64 a.2.k, .int .i64 a.2.n, .slice q a.2.l.length d] 24) ∧ I64 a.2.n ∧
      a' = { tmps := #[Value.agg #[Value.int IntKind.i64 x.k, Value.int IntKind.i64 x.n, Value.slice p x.l.length cap], Value.pointer (some ⟨A, 0, none⟩), Value.slice none 0 0, Value.pointer (some ⟨A + 1, 0, none⟩), Value.pointer (some ⟨tb, 0, none⟩),
        Value.agg #[Value.int IntKind.i64 x.k, Value.int IntKind.i64 x.n, Value.slice p x.l.length cap], Value.func (Fn.func 37) #[] #[Value.pointer (some ⟨A + 2, 0, none⟩)], a.1, undef, undef, undef, undef, undef, undef, undef, undef, undef, undef, undef, undef, undef, undef, undef, undef, undef], defers := [] })
    ?hAx ?assign ?body ?done ?stop
  case hIx =>
    intro c s X Y row hs hg hr
    exact hs
  case hAx =>
    rintro a a' s X Y row ⟨tb, q, d, e1, e2, e0, e3⟩ hg hr
    exact ⟨tb, q, d, e1, grownBy_other hg e2 (fun e => by obtain ⟨_, o, ho, hc⟩ := hr _ e; rw [e2] at ho; cases ho; cases hc), e0, e3⟩
  case assign =>
    rintro l pre ⟨v', y⟩ W K hi ⟨⟨q, d, he, hq⟩, hk, hn'⟩ hK
    dsimp only at he
    subst he
    have hsz : A ≤ W.heap.size := by have := hi.2.size; have := HA.out; omega
    have HI : Bx _ := ⟨hi⟩
    clear hi
    gi_wp2
    obtain ⟨q1, q2⟩ := hI.go _ W (W.alloc (Obj.cells #[.int .i64 y.k, .int .i64 y.n, .slice q y.l.length d] 24)) none HI.out (World.grownBy_alloc W _ none) (fun r e => by cases e)
    exact hK _ _ (keeps_below (below1 _ _)) (sep_below (below1 _ _) hsz (fun b hb => .inl (q2 b hb))) q1 ⟨W.heap.size, q, d, rfl, World.alloc_heap_new _ _, hn', rfl⟩
  case body =>
    rintro l pre ⟨v', y⟩ a' W hi ⟨tb, q, d, he, htb, hyn, rfl⟩ hpl
    dsimp only at he htb hyn ⊢
    subst he
    have c0 : W.cell? ⟨tb, 0, none⟩ = some (.int .i64 y.k) := by simp [World.cell?, htb]
    have c1 : W.cell? ⟨tb, 1, none⟩ = some (.int .i64 y.n) := by simp [World.cell?, htb]
    have htl : tb < W.heap.size := (Array.getElem?_eq_some_iff.1 htb).1
    have hsz : A ≤ W.heap.size := by have := hi.2.size; have := HA.out; omega
    by_cases hyes : y.k = 5 ∧ 0 < y.n
    · obtain ⟨hy1, hy2⟩ := hyes
      have hcs : chs ((pre ++ [((.agg #[.int .i64 y.k, .int .i64 y.n, .slice q y.l.length d] : Value), y)]).map Prod.snd) = chs (pre.map Prod.snd) ++ [y.n] := by simpa using chs_snoc_yes (l := pre.map Prod.snd) hy1 hy2
      have HCS : Bx _ := ⟨hcs⟩
      have hzl : (chs (pre.map Prod.snd)).length ≤ 65536 := by have := chs_len (pre.map Prod.snd); simp at this; omega
      obtain ⟨sv, e1, e2⟩ := hi.1.ex
      have hb5 : (y.k == 5) = true := by simpa using hy1
      have HB : Bx _ := ⟨hi.2⟩
      have hA2 : A + 2 ≤ W.heap.size := (Array.getElem?_eq_some_iff.1 e1).1
      have g0 : W.cell? ⟨A + 1, 0, none⟩ = some sv := by simp [World.cell?, e1]
      have HE1 : Bx _ := ⟨e1⟩
      have HE2 : Bx _ := ⟨e2⟩
      clear hi hcs hy1 e1 e2 hI
      generalize chs (pre.map Prod.snd) = zs at *
      gi_wp2_with (first | (gi_at_builtin; refine wpListIn_app _ rfl (.tmp 16) (.tmp 19) 25 rfl (A + 3) 3 i0 (.int .i64 0) 1 8 Try.underlying25 hi iz0 iz1 iz2 rfl (by decide) sv zs.length (zs.map (Value.int .i64)) rfl (own_new HE2.out (below1 _ _)) ⟨W.heap.size, 0, none⟩ 1 1 [.int .i64 y.n] rfl rfl (slice_one _ _ _ 3 (World.alloc_heap_new _ _)) (by simp [Value.oneCell']) (by decide) (by unfold maxLen; omega) (by omega) (by simp; omega) (W.heap.size + 1) (by simp) ?_; intro gg gcap w4 hown' hgrow hgi hgl'; obtain ⟨q1, q2, q3, q4, q5⟩ := Out.push HE1.out HE2.out hown' hgrow hgi hA2; have k0 := q5.cell; have k1 := q5.frozen))
      exact ⟨q2, q3, by rw [HCS.out]; exact q1, q4 w HA.out HB.out⟩
    · have hcs : chs ((pre ++ [((.agg #[.int .i64 y.k, .int .i64 y.n, .slice q y.l.length d] : Value), y)]).map Prod.snd) = chs (pre.map Prod.snd) := by simpa using chs_snoc_no (l := pre.map Prod.snd) hyes
      have HI : Bx (Out A W (chs ((pre ++ [((.agg #[.int .i64 y.k, .int .i64 y.n, .slice q y.l.length d] : Value), y)]).map Prod.snd)) ∧ Below A w W) := ⟨by rw [hcs]; exact hi.1, hi.2⟩
      clear hi hcs
      by_cases hy1 : y.k = 5
      · have hy2 : ¬ 0 < y.n := fun h => hyes ⟨hy1, h⟩
        have hb5 : (y.k == 5) = true := by simpa using hy1
        clear hy1 hyes
        gi_wp2
        exact ⟨KeepsOthers.refl _, Sep.refl _ _ _, HI.out⟩
      · have hy1' : (y.k == 5) = false := by simpa using hy1
        gi_wp2
        exact ⟨KeepsOthers.refl _, Sep.refl _ _ _, HI.out⟩
  case done =>
    rintro D xs W hD hS ⟨hO, hB⟩ hK
    have HC : Bx _ := ⟨isCh_tidy hS⟩
    have hzl : (chs (xs.map Prod.snd)).length ≤ 65536 := by have h1 := chs_len (xs.map Prod.snd); have h2 := hS.2; rw [List.length_map] at h1; omega
    generalize chs (xs.map Prod.snd) = zs at *
    obtain ⟨sv, e1, e2⟩ := hO.ex
    have hDA : D ≠ A + 1 := by omega
    have g0 : W.cell? ⟨A + 1, 0, none⟩ = some sv := by simp [World.cell?, e1]
    by_cases hz : zs = []
    · subst hz
      have HT : Bx (IsCh x []) := ⟨by have := HC.out; rwa [show tidy [] = [] from by simp [tidy, Lib.compact, Lib.compactUpTo]] at this⟩
      have HO : Bx (W.ownsRow (A + 3) 3 1 sv 0 []) := ⟨e2⟩
      have hsv : ∃ p c, sv = .slice p 0 c := by
        rcases e2.2 with ⟨rfl, _⟩ | ⟨g, c, cur, rfl, _⟩
        · exact ⟨_, _, rfl⟩
        · exact ⟨_, _, rfl⟩
      obtain ⟨p', c', rfl⟩ := hsv
      have HB : Bx _ := ⟨hB⟩
      clear hB hO e2 HC hS
      gi_wp2
      refine ⟨trivial, fun _ => by omega, ?_⟩
      refine (callsIn_wide.2 (Try.slices_Sort_int_none p' c' W)).mono ?_
      rintro e W2 ⟨rfl, rfl⟩
      gi_wp2
      refine ⟨trivial, fun _ => by omega, ?_⟩
      refine (callsIn_wide.2 (Try.slices_Compact_int_empty p' c' W2)).mono ?_
      rintro e W3 ⟨rfl, rfl⟩
      gi_wp2
      refine ⟨by simp, .inl ⟨_, _, rfl, run_takeDeferred hK, ?_⟩⟩
      refine ⟨_, results_tmp rfl _ _ _, [], .slice p' 0 c', rfl, HT.out, ?_, ?_⟩
      · rw [← HA.out]
        exact own_close HO.out hK
      · rw [← HA.out]
        exact HB.out.grown (grownBy_putObj' _ _ _) (by have := HB.out.size; have := HA.out; omega) (fun k e => by cases e; omega)
    · have hnn : sv ≠ .slice none 0 0 := by
        rintro rfl
        rcases e2.2 with ⟨_, h⟩ | ⟨g, c, cur, h, _⟩
        · exact hz (List.eq_nil_of_length_eq_zero h)
        · cases h
      obtain ⟨g, gc, rfl, hg3, hgl, hgc, hgm, _, hH⟩ := Lib.holds_of_ownsRow e2 hnn
      obtain ⟨N, hN⟩ : ∃ N, N = zs.length := ⟨_, rfl⟩
      have hNb : N ≤ 9223372036854775807 := by unfold maxLen at hgm; omega
      rw [← hN] at e1 g0 e2 hgc
      have hDg : D ≠ g := by
        rintro rfl
        obtain ⟨o2, h1, h2⟩ := own_cells e2 ownB
        rw [hK] at h1; cases h1; cases h2
      have HH : Bx _ := ⟨hH⟩
      have HO : Bx _ := ⟨e2⟩
      have HB : Bx _ := ⟨hB⟩
      have hsort := Try.slices_Sort_int g 0 gc zs W hH hgl (by omega)
      rw [← hN] at hsort
      have HSO : Bx _ := ⟨hsort⟩
      have HN : Bx _ := ⟨hN⟩
      clear hB hO e2 hS hH hnn hsort hN
      gi_wp2
      refine ⟨trivial, fun _ => by omega, ?_⟩
      refine (callsIn_wide.2 HSO.out).mono ?_
      have hN := HN.out
      rintro e W2 ⟨rfl, nn, os, hW2⟩
      obtain ⟨ss, hss⟩ : ∃ ss, ss = zs.mergeSort fun x y => decide (x ≤ y) := ⟨_, rfl⟩
      have hsl : ss.length = N := by rw [hss, List.length_mergeSort, hN]
      rw [← hss] at hW2
      have hgb : W.grownBy W2 (some g) := by rw [hW2]; exact grownBy_sortedI _
      have g2 : W2.cell? ⟨A + 1, 0, none⟩ = some (.slice (some ⟨g, 0, none⟩) N gc) := by
        rw [← g0]; simp only [World.cell?]; rw [hgb.block _ (Array.getElem?_eq_some_iff.1 e1).1 (fun e => by cases e; omega)]
      have hK2 : W2.heap[D]? = some (.deferred (some [])) := grownBy_other hgb hK (fun e => hDg (by cases e; rfl))
      have HO2 : Bx (W2.ownsRow (A + 3) 3 1 (.slice (some ⟨g, 0, none⟩) N gc) N (ss.map (Value.int .i64))) := ⟨by
        rcases HO.out.2 with ⟨h, _⟩ | ⟨g', cap', cur, e, q1, q2, q3, q4, q5, q6⟩
        · cases h
        · cases e
          rw [hW2, hN]
          exact ownsRow_sortedI (ss := zs) (by rw [hsl, hN]) q1 q2 (by omega) q4 q5⟩
      have HB2 : Bx (RowKit.Below A w W2) := ⟨HB.out.grown hgb (by have := HB.out.size; have := HA.out; omega) (fun k e => by cases e; omega)⟩
      have hH2 : Holds (Value.int .i64) W2 g 0 ss.toArray := by
        obtain ⟨g', c', e, _, _, _, _, _, h⟩ := Lib.holds_of_ownsRow HO2.out (by simp)
        cases e
        exact h
      clear hW2 hgb HH HO HB hK g0 e1 HSO
      have hcomp := Try.slices_Compact_int g 0 gc ss W2 hH2 (by omega) (by omega)
      rw [hsl] at hcomp
      have hct : Lib.compact ss = tidy zs := by rw [hss]; rfl
      have hcl := Lib.compact_length_le ss
      rw [hct] at hcomp hcl
      rw [hsl] at hcl
      have HCO : Bx _ := ⟨hcomp⟩
      clear hcomp hct hsl hss hN hH2
      gi_wp2
      refine ⟨trivial, fun _ => by omega, ?_⟩
      refine (callsIn_wide.2 HCO.out).mono ?_
      rintro e W3 ⟨rfl, q, hW3'⟩
      have hK3 : W3.heap[D]? = some (.deferred (some [])) := by rw [hW3', putRow_other hDg]; exact hK2
      have hrow := Lib.ownsRow_putRow (q := q) (k := (tidy zs).length) (ys := tidy zs ++ List.replicate (N - (tidy zs).length) 0) HO2.out (by simp; omega) (by omega)
      rw [List.take_left] at hrow
      rw [← hW3'] at hrow
      have hB3 : RowKit.Below A w W3 := by rw [hW3']; exact Lib.below_putRow HB2.out (by omega)
      have HR3 : Bx _ := ⟨hrow⟩
      have HB3 : Bx _ := ⟨hB3⟩
      clear hrow hB3 hW3' hK2 g2 HCO
      gi_wp2
      refine ⟨by simp, .inl ⟨_, _, rfl, run_takeDeferred hK3, ?_⟩⟩
      refine ⟨_, results_tmp rfl _ _ _, tidy zs, _, rfl, HC.out, ?_, ?_⟩
      · rw [← HA.out]
        exact own_close HR3.out hK3
      · rw [← HA.out]
        exact HB3.out.grown (grownBy_putObj' _ _ _) (by have := HB3.out.size; have := HA.out; omega) (fun k e => by cases e; omega)
  case stop =>
    rintro D c pre W hD hS h hK
    exact h.elim
theorem Chans_any (w : World) (B : Nat) (v : Value) (x : V) (hv : IsV w B v x) (hB : B ≤ w.heap.size) (hx : x.sz ≤ 65536) :
    Calls Try.prog 16 #[v] w (ChPost w x) :=
  (callsIn_wide (n := 4)).1 (Chans_in 4 (by omega) w v x (hv.up hB) hx)
end Go.Proofs.Ytikijkpklneihaa
namespace Go.Proofs.Ytikijkpklneihaa
open Go.RowKit
set_option linter.unusedVariables false
set_option linter.unusedSimpArgs false

/-- numbers in memory -/
structure Pth (W : World) (B : Nat) (p : Option Addr) (cap : Nat) (ks : List Int) : Prop where
  len : ks.length ≤ cap
  max : cap ≤ maxLen
  at_ : ∀ i (h : i < ks.length), ∃ b o, p = some ⟨b, o, none⟩ ∧ b < B ∧ W.cell? ⟨b, o + i, none⟩ = some (.int .i64 ks[i]) ∧ I64 ks[i]
theorem Pth.lo {W W' : World} {B : Nat} {p : Option Addr} {cap : Nat} {ks : List Int} (h : Pth W B p cap ks) (hl : Lo B W W') : Pth W' B p cap ks :=
  ⟨h.len, h.max, fun i hi => by
    obtain ⟨b, o, e, hb, h1, h2⟩ := h.at_ i hi
    exact ⟨b, o, e, hb, by rw [hl.cell _ _ hb]; exact h1, h2⟩⟩
theorem Pth.up {W : World} {B B' : Nat} {p : Option Addr} {cap : Nat} {ks : List Int} (h : Pth W B p cap ks) (hB : B ≤ B') : Pth W B' p cap ks :=
  ⟨h.len, h.max, fun i hi => by
    obtain ⟨b, o, e, hb, h1, h2⟩ := h.at_ i hi
    exact ⟨b, o, e, by omega, h1, h2⟩⟩

/-- a value goes on at a number -/
def goesI (x : V) (k : Int) : Bool := ((x.k == 3) || (x.k == 4)) && (decide (0 ≤ k) && decide (k < (x.l.length : Int)))
/-- the part at a path -/
def findV : V → List Int → Option V
  | x, [] => some x
  | x, k :: ks => if goesI x k then findV (x.l.getD k.toNat v0) ks else none
theorem goes_lt {x : V} {k : Int} (h : goesI x k = true) : 0 ≤ k ∧ k.toNat < x.l.length := by
  simp only [goesI, Bool.and_eq_true, decide_eq_true_eq] at h
  omega
theorem find_sz {x y : V} {ks : List Int} (h : findV x ks = some y) : y.sz ≤ x.sz := by
  induction ks generalizing x with
  | nil => simp [findV] at h; subst h; exact Nat.le_refl _
  | cons k ks ih =>
    simp only [findV] at h
    split at h
    · rename_i hg
      have hl := (goes_lt hg).2
      have := ih h
      rw [List.getD, List.getElem?_eq_getElem hl] at this
      have h2 := szs_mem (List.getElem_mem hl)
      rw [V.sz_eq x]
      simp at this
      omega
    · cases h
theorem set3 {W : World} {A : Nat} {x y z a b c : Value} {t : TypeId} (h : W.heap[A]? = some (.cells #[x, y, z] t (0, 0))) :
    (((W.setCell ⟨A, 0, none⟩ a).setCell ⟨A, 1, none⟩ b).setCell ⟨A, 2, none⟩ c).heap[A]? = some (.cells #[a, b, c] t (0, 0)) := by
  simp [World.setCell, Array.getElem?_modify, h]
theorem c3 {W : World} {A : Nat} {x y z : Value} {t : TypeId} (h : W.heap[A]? = some (.cells #[x, y, z] t (0, 0))) :
    W.cell? ⟨A, 0, none⟩ = some x ∧ W.cell? ⟨A, 1, none⟩ = some y ∧ W.cell? ⟨A, 2, none⟩ = some z ∧ W.frozen? ⟨A, 0, none⟩ = false ∧ W.frozen? ⟨A, 1, none⟩ = false ∧ W.frozen? ⟨A, 2, none⟩ = false ∧ A < W.heap.size := by
  refine ⟨?_, ?_, ?_, ?_, ?_, ?_, (Array.getElem?_eq_some_iff.1 h).1⟩ <;> simp [World.cell?, World.frozen?, h]
theorem set3_other {W : World} {A b : Nat} (x y z : Value) (h : b ≠ A) : (((W.setCell ⟨A, 0, none⟩ x).setCell ⟨A, 1, none⟩ y).setCell ⟨A, 2, none⟩ z).heap[b]? = W.heap[b]? := by
  rw [Below.heap_setCell _ _ _ _ h, Below.heap_setCell _ _ _ _ h, Below.heap_setCell _ _ _ _ h]
theorem below3 {B A : Nat} {w W : World} (h : Below B w W) (hA : B ≤ A) (x y z : Value) : Below B w (((W.setCell ⟨A, 0, none⟩ x).setCell ⟨A, 1, none⟩ y).setCell ⟨A, 2, none⟩ z) :=
  ((h.setCell (p := ⟨A, 0, none⟩) hA _).setCell (p := ⟨A, 1, none⟩) hA _).setCell (p := ⟨A, 2, none⟩) hA _

/-- what find answers -/
def FiPost (w : World) (B : Nat) (x : V) (ks : List Int) (e : Ending) (w' : World) : Prop :=
  (∃ y u, findV x ks = some y ∧ e = .returned (.tuple #[u, .bool true]) ∧ IsV w' B u y ∧ Below w.heap.size w w') ∨ (findV x ks = none ∧ e = .returned (.tuple #[pv 0 0, .bool false]) ∧ Below w.heap.size w w')

set_option maxRecDepth 100000 in
set_option maxHeartbeats 2000000 in
theorem find_any (w : World) (B : Nat) (v : Value) (x : V) (pp : Option Addr) (pc : Nat) (ks : List Int) (hv : IsV w B v x) (hp : Pth w B pp pc ks) (hB : B ≤ w.heap.size) :
    Calls Try.prog 21 #[v, .slice pp ks.length pc] w (FiPost w B x ks) := by
  obtain ⟨⟨p, cap, rfl, h1⟩, h2, h3⟩ := hv
  obtain ⟨A, hA⟩ : ∃ A, A = w.heap.size := ⟨_, rfl⟩
  have hpl := hp.len
  have hpm := hp.max
  unfold maxLen at hpm
  have HP : Bx _ := ⟨hp⟩
  have HL : Bx _ := ⟨h1⟩
  have HA : Bx (A = w.heap.size) := ⟨hA⟩
  have HK : Bx (I64 x.k ∧ I64 x.n) := ⟨h2, h3⟩
  clear hp h1 h2 h3
  go_enter Try.func21, Try.ntmps21
  go_wp2
  rw [← hA]
  obtain ⟨W0, hW0⟩ : ∃ W0, (w.alloc (Obj.cells #[Value.int IntKind.i64 x.k, Value.int IntKind.i64 x.n, Value.slice p x.l.length cap] 24)).alloc z3 = W0 := ⟨_, rfl⟩
  have hb0 : Below A w W0 := by rw [hA, ← hW0]; exact two_new _ _ _
  have ha0 : W0.heap[A]? = some (Obj.cells #[Value.int IntKind.i64 x.k, Value.int IntKind.i64 x.n, Value.slice p x.l.length cap] 24) := by
    rw [hA, ← hW0]; exact (Below.heap_alloc _ _ _ (by simp)).trans (World.alloc_heap_new _ _)
  have ha1 : W0.heap[A + 1]? = some z3 := by rw [hA, ← hW0]; exact alloc_at _ _ _
  rw [hW0]
  clear hW0 hA
  have HS0 : Bx (Below A w W0 ∧ W0.heap[A]? = some (Obj.cells #[Value.int IntKind.i64 x.k, Value.int IntKind.i64 x.n, Value.slice p x.l.length cap] 24) ∧ W0.heap[A + 1]? = some z3) := ⟨hb0, ha0, ha1⟩
  clear hb0 ha0 ha1
  go_loopg [10] ks.length (fun k iv wr => ∃ (i : Nat) (y : V) (q : Option Addr) (d : Nat), k = ks.length - i ∧ i ≤ ks.length ∧ iv = .int .i64 i ∧ Bx (findV x ks = findV y (ks.drop i) ∧ Below A w wr ∧ wr.heap[A]? = some (Obj.cells #[.int .i64 y.k, .int .i64 y.n, .slice q y.l.length d] 24) ∧ wr.heap[A + 1]? = some z3 ∧ SlV wr B q d y.l ∧ I64 y.k ∧ I64 y.n))
  case atStart => exact ⟨0, x, p, cap, by simp, by omega, rfl, ⟨by simp, HS0.out.1, HS0.out.2.1, HS0.out.2.2, HL.out.lo (Lo.of (HS0.out.1.mono (by have := HA.out; omega))), HK.out.1, HK.out.2⟩⟩
  case round =>
    obtain ⟨i, y, q, d, hk, hil, rfl, HS⟩ := hrel
    clear HS0
    obtain ⟨c0, c1, c2, f0, f1, f2, hAl⟩ := c3 HS.out.2.2.1
    obtain ⟨z0, z1, z2, g0, g1, g2, hAl'⟩ := c3 HS.out.2.2.2.1
    by_cases hlt : i < ks.length
    · obtain ⟨b, o, rfl, hb, p0, p1⟩ := (HP.out.lo (Lo.of (HS.out.2.1.mono (by have := HA.out; omega)))).at_ i hlt
      have hfd : findV y (ks.drop i) = if goesI y ks[i] then findV (y.l.getD ks[i].toNat v0) (ks.drop (i + 1)) else none := by rw [List.drop_eq_getElem_cons hlt, findV]
      have HFD : Bx _ := ⟨hfd⟩
      obtain ⟨e, he⟩ : ∃ e, e = ks[i] := ⟨_, rfl⟩
      rw [← he] at HFD p0 p1
      clear hfd he
      have HNO : Bx (goesI y e = false → (findV x ks = none ∧ Below A w (((wr.setCell ⟨A + 1, 0, none⟩ (.int .i64 0)).setCell ⟨A + 1, 1, none⟩ (.int .i64 0)).setCell ⟨A + 1, 2, none⟩ (.slice none 0 0)))) := ⟨fun h => ⟨by rw [HS.out.1, HFD.out, h]; rfl, below3 HS.out.2.1 (by omega) _ _ _⟩⟩
      by_cases hk3 : y.k = 3 ∨ y.k = 4
      · by_cases h0 : 0 ≤ e
        · by_cases h4 : e < (y.l.length : Int)
          · obtain ⟨j, rfl⟩ : ∃ j : Nat, e = j := ⟨e.toNat, by omega⟩
            have hj : j < y.l.length := by omega
            have hg : goesI y j = true := by rcases hk3 with h | h <;> simp [goesI, h, hj]
            obtain ⟨b', o', r, rc, rfl, hb', d0, d1, d2, hR, e1, e2⟩ := HS.out.2.2.2.2.1.at3 j hj
            have hyl : y.l.length ≤ d := HS.out.2.2.2.2.1.1
            have hym : d ≤ maxLen := HS.out.2.2.2.2.1.2.1
            unfold maxLen at hym
            have hbA : b' ≠ A := by have := HA.out; omega
            have HG : Bx (findV x ks = findV y.l[j] (ks.drop (i + 1)) ∧ Below A w (((wr.setCell ⟨A, 0, none⟩ (.int .i64 y.l[j].k)).setCell ⟨A, 1, none⟩ (.int .i64 y.l[j].n)).setCell ⟨A, 2, none⟩ (.slice r y.l[j].l.length rc)) ∧
              (((wr.setCell ⟨A, 0, none⟩ (.int .i64 y.l[j].k)).setCell ⟨A, 1, none⟩ (.int .i64 y.l[j].n)).setCell ⟨A, 2, none⟩ (.slice r y.l[j].l.length rc)).heap[A]? = some (Obj.cells #[.int .i64 y.l[j].k, .int .i64 y.l[j].n, .slice r y.l[j].l.length rc] 24) ∧
              (((wr.setCell ⟨A, 0, none⟩ (.int .i64 y.l[j].k)).setCell ⟨A, 1, none⟩ (.int .i64 y.l[j].n)).setCell ⟨A, 2, none⟩ (.slice r y.l[j].l.length rc)).heap[A + 1]? = some z3 ∧
              SlV (((wr.setCell ⟨A, 0, none⟩ (.int .i64 y.l[j].k)).setCell ⟨A, 1, none⟩ (.int .i64 y.l[j].n)).setCell ⟨A, 2, none⟩ (.slice r y.l[j].l.length rc)) B r rc y.l[j].l ∧ I64 y.l[j].k ∧ I64 y.l[j].n) :=
              ⟨by rw [HS.out.1, HFD.out, hg]; simp [List.getD, List.getElem?_eq_getElem hj], below3 HS.out.2.1 (Nat.le_refl _) _ _ _, set3 HS.out.2.2.1, (set3_other _ _ _ (by omega)).trans HS.out.2.2.2.1, hR.lo (Lo.blocks fun b hb => set3_other _ _ _ (by have := HA.out; omega)), e1, e2⟩
            clear HS HFD HNO hR hg
            by_cases h3 : y.k = 3
            · have hb3 : (y.k != 3) = false := by simpa using h3
              clear h3 hk3
              go_wp2
              go_roundg (ks.length - (i + 1))
              case measure => omega
              case rel => exact ⟨i + 1, y.l[j], r, rc, rfl, by omega, by simp, HG⟩
            · have hb3 : (y.k != 3) = true := by simpa using h3
              have hb4 : (y.k != 4) = false := by rcases hk3 with h | h; exact absurd h h3; simpa using h
              clear h3 hk3
              go_wp2
              go_roundg (ks.length - (i + 1))
              case measure => omega
              case rel => exact ⟨i + 1, y.l[j], r, rc, rfl, by omega, by simp, HG⟩
          · have HN : Bx _ := ⟨HNO.out (by simp [goesI, h4])⟩
            clear HS HFD HNO
            by_cases h3 : y.k = 3
            · have hb3 : (y.k != 3) = false := by simpa using h3
              clear h3 hk3
              go_wp2
              refine bodyPost_ret (v := .tuple #[pv 0 0, .bool false]) (by simp [results, Try.results21, go_sem, z0, z1, z2, hAl']) rfl (.inr ⟨HN.out.1, rfl, by rw [← HA.out]; exact HN.out.2⟩)
            · have hb3 : (y.k != 3) = true := by simpa using h3
              have hb4 : (y.k != 4) = false := by rcases hk3 with h | h; exact absurd h h3; simpa using h
              clear h3 hk3
              go_wp2
              refine bodyPost_ret (v := .tuple #[pv 0 0, .bool false]) (by simp [results, Try.results21, go_sem, z0, z1, z2, hAl']) rfl (.inr ⟨HN.out.1, rfl, by rw [← HA.out]; exact HN.out.2⟩)
        · have HN : Bx _ := ⟨HNO.out (by simp [goesI, h0])⟩
          clear HS HFD HNO
          by_cases h3 : y.k = 3
          · have hb3 : (y.k != 3) = false := by simpa using h3
            clear h3 hk3
            go_wp2
            refine bodyPost_ret (v := .tuple #[pv 0 0, .bool false]) (by simp [results, Try.results21, go_sem, z0, z1, z2, hAl']) rfl (.inr ⟨HN.out.1, rfl, by rw [← HA.out]; exact HN.out.2⟩)
          · have hb3 : (y.k != 3) = true := by simpa using h3
            have hb4 : (y.k != 4) = false := by rcases hk3 with h | h; exact absurd h h3; simpa using h
            clear h3 hk3
            go_wp2
            refine bodyPost_ret (v := .tuple #[pv 0 0, .bool false]) (by simp [results, Try.results21, go_sem, z0, z1, z2, hAl']) rfl (.inr ⟨HN.out.1, rfl, by rw [← HA.out]; exact HN.out.2⟩)
      · have h3 : ¬ y.k = 3 := fun h => hk3 (.inl h)
        have h4 : ¬ y.k = 4 := fun h => hk3 (.inr h)
        have HN : Bx _ := ⟨HNO.out (by simp [goesI, h3, h4])⟩
        have hb3 : (y.k != 3) = true := by simpa using h3
        have hb4 : (y.k != 4) = true := by simpa using h4
        clear HS HFD HNO h3 h4 hk3
        go_wp2
        refine bodyPost_ret (v := .tuple #[pv 0 0, .bool false]) (by simp [results, Try.results21, go_sem, z0, z1, z2, hAl']) rfl (.inr ⟨HN.out.1, rfl, by rw [← HA.out]; exact HN.out.2⟩)
    · have hie : i = ks.length := by omega
      subst hie
      have HF : Bx (findV x ks = some y ∧ IsV (((wr.setCell ⟨A + 1, 0, none⟩ (.int .i64 y.k)).setCell ⟨A + 1, 1, none⟩ (.int .i64 y.n)).setCell ⟨A + 1, 2, none⟩ (.slice q y.l.length d)) B (.agg #[.int .i64 y.k, .int .i64 y.n, .slice q y.l.length d]) y ∧ Below A w (((wr.setCell ⟨A + 1, 0, none⟩ (.int .i64 y.k)).setCell ⟨A + 1, 1, none⟩ (.int .i64 y.n)).setCell ⟨A + 1, 2, none⟩ (.slice q y.l.length d))) :=
        ⟨by rw [HS.out.1]; simp [findV], ⟨⟨q, d, rfl, HS.out.2.2.2.2.1.lo (Lo.blocks fun b hb => set3_other _ _ _ (by have := HA.out; omega))⟩, HS.out.2.2.2.2.2.1, HS.out.2.2.2.2.2.2⟩, below3 HS.out.2.1 (by omega) _ _ _⟩
      clear HS
      go_wp2
      refine bodyPost_ret (v := .tuple #[.agg #[.int .i64 y.k, .int .i64 y.n, .slice q y.l.length d], .bool true]) (by simp [results, Try.results21, go_sem, z0, z1, z2, hAl']) rfl (.inl ⟨y, _, HF.out.1, rfl, HF.out.2.1, by rw [← HA.out]; exact HF.out.2.2⟩)
end Go.Proofs.Ytikijkpklneihaa
namespace Go.Proofs.Ytikijkpklneihaa
open Go.RowKit
set_option linter.unusedVariables false
set_option linter.unusedSimpArgs false

set_option maxRecDepth 100000 in
theorem copied_nil (w : World) (p : Option Addr) (c : Nat) : Calls Try.prog 36 #[.slice p 0 c] w fun e w' => e = .returned (.slice none 0 0) ∧ w = w' := by
  go_enter Try.func36, Try.ntmps36
  go_wp2
  go_ret
  exact ⟨rfl, rfl⟩

set_option maxRecDepth 100000 in
set_option maxHeartbeats 2000000 in
theorem own_leaf (w : World) (k n : Int) (p : Option Addr) (c : Nat) : Calls Try.prog 22 #[.agg #[.int .i64 k, .int .i64 n, .slice p 0 c]] w fun e w' => e = .returned (pv k n) ∧ Below w.heap.size w w' := by
  obtain ⟨A, hA⟩ : ∃ A, A = w.heap.size := ⟨_, rfl⟩
  obtain ⟨W0, hW0⟩ : ∃ W0, (w.alloc (Obj.cells #[Value.int IntKind.i64 k, Value.int IntKind.i64 n, Value.slice p 0 c] 24)).alloc z3 = W0 := ⟨_, rfl⟩
  have hb0 : Below A w W0 := by rw [hA, ← hW0]; exact two_new _ _ _
  have ha0 : W0.heap[A]? = some (Obj.cells #[Value.int IntKind.i64 k, Value.int IntKind.i64 n, Value.slice p 0 c] 24) := by
    rw [hA, ← hW0]; exact (Below.heap_alloc _ _ _ (by simp)).trans (World.alloc_heap_new _ _)
  have ha1 : W0.heap[A + 1]? = some z3 := by rw [hA, ← hW0]; exact alloc_at _ _ _
  have hz0 : W0.heap.size = A + 2 := by rw [hA, ← hW0]; simp
  obtain ⟨c0, c1, c2, f0, f1, f2, hAl⟩ := c3 ha0
  obtain ⟨W1, hW1⟩ : ∃ W1, W0.setCell ⟨A, 2, none⟩ (.slice none 0 0) = W1 := ⟨_, rfl⟩
  have h1a : W1.heap[A]? = some (Obj.cells #[Value.int IntKind.i64 k, Value.int IntKind.i64 n, Value.slice none 0 0] 24) := by
    rw [← hW1]; simp [World.setCell, Array.getElem?_modify, ha0]
  have h1b : W1.heap[A + 1]? = some z3 := by rw [← hW1, Below.heap_setCell _ _ _ _ (by show A + 1 ≠ A; omega)]; exact ha1
  have hb1 : Below A w W1 := by rw [← hW1]; exact hb0.setCell (p := ⟨A, 2, none⟩) (Nat.le_refl _) _
  have hz1 : W1.heap.size = A + 2 := by rw [← hW1, World.size_setCell]; exact hz0
  obtain ⟨k0, k1, k2, l0, l1, l2, hAl1⟩ := c3 h1a
  obtain ⟨W2, hW2⟩ : ∃ W2, W1.alloc (Obj.cells #[.slice none 0 0] 22) = W2 := ⟨_, rfl⟩
  have h2a : W2.heap[A]? = some (Obj.cells #[Value.int IntKind.i64 k, Value.int IntKind.i64 n, Value.slice none 0 0] 24) := by rw [← hW2]; exact (Below.heap_alloc _ _ _ (by omega)).trans h1a
  have h2b : W2.heap[A + 1]? = some z3 := by rw [← hW2]; exact (Below.heap_alloc _ _ _ (by omega)).trans h1b
  have h2c : W2.heap[A + 2]? = some (Obj.cells #[.slice none 0 0] 22) := by rw [← hW2, ← hz1]; exact World.alloc_heap_new _ _
  have hb2 : Below A w W2 := by rw [← hW2]; exact hb1.trans ((below1 _ _).mono (by omega))
  have HA : Bx (A = w.heap.size) := ⟨hA⟩
  obtain ⟨m0, m1, m2, n0, n1, n2, hAl2⟩ := c3 h2a
  obtain ⟨r0, r1, r2, s0, s1, s2, hAl3⟩ := c3 h2b
  have t0 : W2.cell? ⟨A + 2, 0, none⟩ = some (.slice none 0 0) := by simp [World.cell?, h2c]
  have HB2 : Bx (Below A w (((W2.setCell ⟨A + 1, 0, none⟩ (.int .i64 k)).setCell ⟨A + 1, 1, none⟩ (.int .i64 n)).setCell ⟨A + 1, 2, none⟩ (.slice none 0 0))) := ⟨below3 hb2 (by omega) _ _ _⟩
  clear hb0 ha0 ha1 hb1 h1a h1b h2a h2b h2c hb2
  subst hA
  go_enter Try.func22, Try.ntmps22
  go_wp2_with (first | (go_at_call 36; refine Calls.mono (copied_nil _ _ _) ?_; rintro e w1 ⟨rfl, rfl⟩))
  go_loopg [3] 1 (fun k v wr => wr = W2 ∧ ((k = 1 ∧ v = .slice (some ⟨w.heap.size + 2, 0, none⟩) 1 1) ∨ (k = 0 ∧ v = .slice (some ⟨w.heap.size + 2, 0, none⟩) 0 1)))
  case atStart => exact ⟨rfl, .inl ⟨rfl, rfl⟩⟩
  case round =>
    obtain ⟨rfl, ⟨rfl, rfl⟩ | ⟨rfl, rfl⟩⟩ := hrel
    · go_wp2
      go_loopg [3, 29] 0 (fun k u v wr' => wr' = wr ∧ u = .slice (some ⟨w.heap.size + 2, 0, none⟩) 0 1 ∧ v = .int .i64 0)
      case atStart => exact ⟨rfl, rfl, rfl⟩
      case round =>
        obtain ⟨rfl, rfl, rfl⟩ := hrel
        go_wp2
        go_roundg 0
        case measure => omega
        case rel => exact ⟨rfl, .inr ⟨rfl, rfl⟩⟩
    · go_wp2
      refine bodyPost_ret (v := pv k n) (by simp [results, Try.results22, go_sem, r0, r1, r2, hAl3]) rfl ⟨rfl, HB2.out⟩

set_option maxRecDepth 100000 in
set_option maxHeartbeats 2000000 in
/-- a part that has no list -/
theorem Part_leaf (w : World) (B : Nat) (v : Value) (x y : V) (pp : Option Addr) (pc : Nat) (ks : List Int) (hv : IsV w B v x) (hp : Pth w B pp pc ks) (hB : B ≤ w.heap.size) (hf : findV x ks = some y) (hy : y.l = []) :
    Calls Try.prog 7 #[v, .slice pp ks.length pc] w fun e w' => e = .returned (.tuple #[pv y.k y.n, .bool true]) ∧ Below w.heap.size w w' := by
  obtain ⟨⟨p, cap, rfl, h1⟩, h2, h3⟩ := hv
  obtain ⟨W0, hW0⟩ : ∃ W0, (w.alloc (Obj.cells #[Value.int IntKind.i64 x.k, Value.int IntKind.i64 x.n, Value.slice p x.l.length cap] 24)).alloc z3 = W0 := ⟨_, rfl⟩
  have hb0 : Below w.heap.size w W0 := by rw [← hW0]; exact two_new _ _ _
  have ha0 : W0.heap[w.heap.size]? = some (Obj.cells #[Value.int IntKind.i64 x.k, Value.int IntKind.i64 x.n, Value.slice p x.l.length cap] 24) := by
    rw [← hW0]; exact (Below.heap_alloc _ _ _ (by simp)).trans (World.alloc_heap_new _ _)
  have ha1 : W0.heap[w.heap.size + 1]? = some z3 := by rw [← hW0]; exact alloc_at _ _ _
  obtain ⟨c0, c1, c2, f0, f1, f2, hAl⟩ := c3 ha0
  have hLo : Lo B w W0 := Lo.of (hb0.mono hB)
  have HF : Bx _ := ⟨find_any W0 B (.agg #[.int .i64 x.k, .int .i64 x.n, .slice p x.l.length cap]) x pp pc ks ⟨⟨p, cap, rfl, h1.lo hLo⟩, h2, h3⟩ (hp.lo hLo) (by have := hb0.size; omega)⟩
  have HB0 : Bx _ := ⟨hb0⟩
  have HH1 : Bx _ := ⟨ha1⟩
  have hlen : y.l.length = 0 := by rw [hy]; rfl
  clear hp h1 h2 h3 hb0 ha0 ha1 hLo
  go_enter Try.func7, Try.ntmps7
  go_wp2_with (first | (go_at_call 21; refine Calls.mono HF.out ?_; rintro e w2 (⟨y', u, hf', rfl, hu, hb2⟩ | ⟨hf', _, _⟩); rotate_left; exact absurd (hf.symm.trans hf') (by simp); obtain rfl : y = y' := Option.some.inj (hf.symm.trans hf'); obtain ⟨⟨q, d, rfl, _⟩, _, _⟩ := hu; rw [hlen]; have hz2 := hb2.size) | (go_at_call 22; refine Calls.mono (own_leaf _ _ _ _ _) ?_; rintro e w3 ⟨rfl, hb3⟩; have hw1 : w.heap.size + 1 < W0.heap.size := (Array.getElem?_eq_some_iff.1 HH1.out).1; have hr3 : w3.heap[w.heap.size + 1]? = some z3 := (hb3.block _ (by simp; omega)).trans ((Below.heap_alloc _ _ _ (by omega)).trans ((hb2.block _ hw1).trans HH1.out)); obtain ⟨r0, r1, r2, s0, s1, s2, hAl3⟩ := c3 hr3))
  refine bodyPost_ret (v := .tuple #[pv y.k y.n, .bool true]) (by simp [results, Try.results7, go_sem, r0, r1, r2, hAl3]) rfl ⟨rfl, ?_⟩
  refine below3 (((HB0.out.trans (hb2.mono HB0.out.size)).alloc (by omega) _).trans (hb3.mono (by simp; omega))) (by omega) _ _ _
end Go.Proofs.Ytikijkpklneihaa
namespace Go.Proofs.Ytikijkpklneihaa
open Go.RowKit
set_option linter.unusedVariables false
set_option linter.unusedSimpArgs false

/-- the document's example -/
def exV : V := .mk 3 0 [.mk 1 1 [], .mk 4 0 [.mk 1 2 [], .mk 5 3 []]]
theorem ex_nod (y : V) : Nod exV y ↔ y = exV ∨ y = .mk 1 1 [] ∨ y = .mk 4 0 [.mk 1 2 [], .mk 5 3 []] ∨ y = .mk 1 2 [] ∨ y = .mk 5 3 [] := by
  have leaf : ∀ k n (y : V), Nod (.mk k n []) y ↔ y = .mk k n [] := fun k n y => by rw [nod_iff]; simp [V.l]
  rw [nod_iff]
  simp only [exV, V.l, List.mem_cons, List.not_mem_nil, or_false, exists_eq_or_imp, exists_eq_left, leaf]
  rw [nod_iff]
  simp only [V.l, List.mem_cons, List.not_mem_nil, or_false, exists_eq_or_imp, exists_eq_left, leaf]
theorem ex_valid : validB exV = true := validB_yes fun y hy => by
  rcases (ex_nod y).1 hy with rfl | rfl | rfl | rfl | rfl <;> simp [rt, rightI, exV, V.k, V.n, V.l]
theorem v0_valid : validB v0 = false := validB_no (.me v0) (by simp [rt, rightI, v0, V.k, V.n, V.l])
theorem ex_sz : exV.sz = 5 := by simp [exV, V.sz, szs]
theorem ex_s9 : sizeI 5 9 = 5 := by simp only [sizeI]; omega
theorem ex_s3 : sizeI 5 3 = 4 := by simp only [sizeI]; omega
theorem ex_ch {cs : List Int} (h : IsCh exV cs) : cs = [3] := by
  refine ris_one h.1 (by simp [Ris]) (fun n => ?_)
  rw [h.2]
  constructor
  · rintro ⟨y, hy, hk, hn, e⟩
    rcases (ex_nod y).1 hy with rfl | rfl | rfl | rfl | rfl <;> simp_all [exV, V.k, V.n]
  · intro hn
    simp at hn
    subst hn
    exact ⟨.mk 5 3 [], (ex_nod _).2 (by simp), rfl, by simp [V.n], rfl⟩
theorem ex_find : findV exV [1, 1] = some (.mk 5 3 []) := by simp [findV, goesI, exV, V.k, V.l, List.getD]
theorem ex_bin : binI 42 1 (-7) 1 2 = (1, -3, 0) := by simp [binI, numI, wrap64]

theorem keep_h {X w' : World} (hb : Below X.heap.size X w') {b : Nat} {o : Obj} (h : X.heap[b]? = some o) : w'.heap[b]? = some o := (hb.block b (Array.getElem?_eq_some_iff.1 h).1).trans h

/-- the example in memory -/
structure ExW (w W : World) : Prop where
  c0 : W.cell? ⟨w.heap.size + 1 + 1, 0, none⟩ = some (.int .i64 3)
  c1 : W.cell? ⟨w.heap.size + 1 + 1, 1, none⟩ = some (.int .i64 0)
  c2 : W.cell? ⟨w.heap.size + 1 + 1, 2, none⟩ = some (.slice (some ⟨w.heap.size + 1, 0, none⟩) 2 2)
  lt : w.heap.size + 1 + 1 < W.heap.size
  is : IsV W (w.heap.size + 2) (.agg #[.int .i64 3, .int .i64 0, .slice (some ⟨w.heap.size + 1, 0, none⟩) 2 2]) exV
theorem ex_w (w : World) : ExW w ((((w.alloc (Obj.cells #[.int .i64 1, .int .i64 2, .slice none 0 0, .int .i64 5, .int .i64 3, .slice none 0 0] 24)).alloc (Obj.cells #[.int .i64 1, .int .i64 1, .slice none 0 0, .int .i64 4, .int .i64 0, .slice (some ⟨w.heap.size, 0, none⟩) 2 2] 24)).alloc (Obj.cells #[.int .i64 3, .int .i64 0, .slice (some ⟨w.heap.size + 1, 0, none⟩) 2 2] 24))) := by
  obtain ⟨W, hW⟩ : ∃ W, ((w.alloc (Obj.cells #[.int .i64 1, .int .i64 2, .slice none 0 0, .int .i64 5, .int .i64 3, .slice none 0 0] 24)).alloc (Obj.cells #[.int .i64 1, .int .i64 1, .slice none 0 0, .int .i64 4, .int .i64 0, .slice (some ⟨w.heap.size, 0, none⟩) 2 2] 24)).alloc (Obj.cells #[.int .i64 3, .int .i64 0, .slice (some ⟨w.heap.size + 1, 0, none⟩) 2 2] 24) = W := ⟨_, rfl⟩
  have h0 : W.heap[w.heap.size]? = some (Obj.cells #[.int .i64 1, .int .i64 2, .slice none 0 0, .int .i64 5, .int .i64 3, .slice none 0 0] 24) := by rw [← hW]; exact (Below.heap_alloc _ _ _ (by simp; omega)).trans ((Below.heap_alloc _ _ _ (by simp)).trans (World.alloc_heap_new _ _))
  have h1 : W.heap[w.heap.size + 1]? = some (Obj.cells #[.int .i64 1, .int .i64 1, .slice none 0 0, .int .i64 4, .int .i64 0, .slice (some ⟨w.heap.size, 0, none⟩) 2 2] 24) := by rw [← hW]; exact (Below.heap_alloc _ _ _ (by simp)).trans (alloc_at _ _ _)
  have h2 : W.heap[w.heap.size + 1 + 1]? = some (Obj.cells #[.int .i64 3, .int .i64 0, .slice (some ⟨w.heap.size + 1, 0, none⟩) 2 2] 24) := by rw [← hW]; have := World.alloc_heap_new ((w.alloc (Obj.cells #[.int .i64 1, .int .i64 2, .slice none 0 0, .int .i64 5, .int .i64 3, .slice none 0 0] 24)).alloc (Obj.cells #[.int .i64 1, .int .i64 1, .slice none 0 0, .int .i64 4, .int .i64 0, .slice (some ⟨w.heap.size, 0, none⟩) 2 2] 24)) (Obj.cells #[.int .i64 3, .int .i64 0, .slice (some ⟨w.heap.size + 1, 0, none⟩) 2 2] 24); simpa using this
  rw [hW]
  clear hW
  have i64 : ∀ z : Int, -10 ≤ z → z ≤ 10 → I64 z := fun z h1 h2 => ⟨by omega, by omega⟩
  have nl : ∀ p, SlV W (w.heap.size + 2) p 0 [] := fun p => ⟨by simp, by simp [maxLen], .inl rfl⟩
  refine ⟨by simp [World.cell?, h2], by simp [World.cell?, h2], by simp [World.cell?, h2], (Array.getElem?_eq_some_iff.1 h2).1, ⟨⟨_, _, rfl, ⟨by simp [exV, V.l], by simp [maxLen], .inr ⟨_, _, rfl, by omega, ?_⟩⟩⟩, i64 _ (by simp [exV, V.k]) (by simp [exV, V.k]), i64 _ (by simp [exV, V.n]) (by simp [exV, V.n])⟩⟩
  simp only [exV, V.l, AtVs, and_true]
  refine ⟨atV_iff.2 ⟨by simp [World.cell?, h1, V.k], by simp [World.cell?, h1, V.n], i64 _ (by simp [V.k]) (by simp [V.k]), i64 _ (by simp [V.n]) (by simp [V.n]), none, 0, by simp [World.cell?, h1, V.l], nl _⟩,
    atV_iff.2 ⟨by simp [World.cell?, h1, V.k], by simp [World.cell?, h1, V.n], i64 _ (by simp [V.k]) (by simp [V.k]), i64 _ (by simp [V.n]) (by simp [V.n]), some ⟨w.heap.size, 0, none⟩, 2, by simp [World.cell?, h1, V.l], ⟨by simp [V.l], by simp [maxLen], .inr ⟨_, _, rfl, by omega, ?_⟩⟩⟩⟩
  simp only [V.l, AtVs, and_true]
  exact ⟨atV_iff.2 ⟨by simp [World.cell?, h0, V.k], by simp [World.cell?, h0, V.n], i64 _ (by simp [V.k]) (by simp [V.k]), i64 _ (by simp [V.n]) (by simp [V.n]), none, 0, by simp [World.cell?, h0, V.l], nl _⟩,
    atV_iff.2 ⟨by simp [World.cell?, h0, V.k], by simp [World.cell?, h0, V.n], i64 _ (by simp [V.k]) (by simp [V.k]), i64 _ (by simp [V.n]) (by simp [V.n]), none, 0, by simp [World.cell?, h0, V.l], nl _⟩⟩
theorem ExW.next {w W W' : World} (h : ExW w W) (hb : Below W.heap.size W W') : ExW w W' := by
  have hc : ∀ i, W'.cell? ⟨w.heap.size + 1 + 1, i, none⟩ = W.cell? ⟨w.heap.size + 1 + 1, i, none⟩ := fun i => hb.cell (p := ⟨w.heap.size + 1 + 1, i, none⟩) h.lt
  exact ⟨by rw [hc]; exact h.c0, by rw [hc]; exact h.c1, by rw [hc]; exact h.c2, Nat.lt_of_lt_of_le h.lt hb.size, h.is.lo (Lo.of (hb.mono (by have := h.lt; omega)))⟩

theorem path_at (w1 : World) (t : TypeId) : ∀ i (h : i < ([1, 1] : List Int).length), ∃ b o, some (⟨w1.heap.size, 0, none⟩ : Addr) = some ⟨b, o, none⟩ ∧ b < w1.heap.size + 1 ∧ (w1.alloc (.cells #[.int .i64 1, .int .i64 1] t)).cell? ⟨b, o + i, none⟩ = some (.int .i64 ([1, 1] : List Int)[i]) ∧ I64 ([1, 1] : List Int)[i] := by
  intro i hi
  refine ⟨w1.heap.size, 0, rfl, by omega, ?_, ?_⟩
  · have h := World.alloc_heap_new w1 (.cells #[.int .i64 1, .int .i64 1] t)
    generalize w1.alloc (.cells #[.int .i64 1, .int .i64 1] t) = W at *
    match i, hi with
    | 0, _ => simp [World.cell?, h]
    | 1, _ => simp [World.cell?, h]
  · match i, hi with
    | 0, _ => exact ⟨by simp, by simp⟩
    | 1, _ => exact ⟨by simp, by simp⟩
/-- .. and what came of it -/
structure ShB (w : World) (g pb qb : Nat) (W : World) : Prop where
  ex : ExW w W
  l : W.cell? ⟨g, 0, none⟩ = some (.int .i64 3)
  gl : g < W.heap.size
  p : W.cell? ⟨pb, 0, none⟩ = some (.int .i64 5)
  pl : pb < W.heap.size
  q : W.cell? ⟨qb, 1, none⟩ = some (.int .i64 (-3))
  ql : qb < W.heap.size
  bel : Below w.heap.size w W
theorem ShB.next {w W W' : World} {g pb qb : Nat} (h : ShB w g pb qb W) (hb : Below W.heap.size W W') : ShB w g pb qb W' :=
  ⟨h.ex.next hb, (hb.cell (p := ⟨g, 0, none⟩) h.gl).trans h.l, Nat.lt_of_lt_of_le h.gl hb.size, (hb.cell (p := ⟨pb, 0, none⟩) h.pl).trans h.p, Nat.lt_of_lt_of_le h.pl hb.size, (hb.cell (p := ⟨qb, 1, none⟩) h.ql).trans h.q, Nat.lt_of_lt_of_le h.ql hb.size, h.bel.trans (hb.mono h.bel.size)⟩

theorem cell_at1 {W : World} {b : Nat} {x y z : Value} {t : TypeId} (h : W.heap[b]? = some (.cells #[x, y, z] t (0, 0))) : W.cell? ⟨b, 1, none⟩ = some y := by simp [World.cell?, h]
theorem shb_of {w W0 w1 w2 w3 : World} {g : Nat} (he : ExW w w1) (hb1 : Below W0.heap.size W0 w1) (hb0 : Below w.heap.size w W0) (l0 : w1.cell? ⟨g, 0, none⟩ = some (.int .i64 3)) (hgl : g < w1.heap.size) (h12 : Below w1.heap.size w1 w2)
    (hb3 : Below (w2.alloc (Obj.cells #[.int .i64 5, .int .i64 3, .slice none 0 0] 24)).heap.size (w2.alloc (Obj.cells #[.int .i64 5, .int .i64 3, .slice none 0 0] 24)) w3) : ShB w g w2.heap.size w3.heap.size (w3.alloc (Obj.cells #[.int .i64 1, .int .i64 (-3), .slice none 0 0] 24)) := by
  have h13 : Below w1.heap.size w1 w3 := h12.trans (((below1 _ _).trans (hb3.mono (by simp))).mono h12.size)
  have hp : w3.heap[w2.heap.size]? = some (Obj.cells #[.int .i64 5, .int .i64 3, .slice none 0 0] 24) := keep_h hb3 (World.alloc_heap_new _ _)
  have hpl := (Array.getElem?_eq_some_iff.1 hp).1
  have hq := World.alloc_heap_new w3 (Obj.cells #[.int .i64 1, .int .i64 (-3), .slice none 0 0] 24)
  have h14 := h13.trans ((below1 w3 (Obj.cells #[.int .i64 1, .int .i64 (-3), .slice none 0 0] 24)).mono h13.size)
  refine ⟨he.next h14, (h14.cell (p := ⟨g, 0, none⟩) hgl).trans l0, Nat.lt_of_lt_of_le hgl h14.size, ?_, by simp; omega, cell_at1 hq, by simp, (hb0.trans (hb1.mono hb0.size)).trans (h14.mono (Nat.le_trans hb0.size hb1.size))⟩
  rw [(below1 w3 (Obj.cells #[.int .i64 1, .int .i64 (-3), .slice none 0 0] 24)).cell (p := ⟨w2.heap.size, 0, none⟩) hpl]
  simp [World.cell?, hp]

set_option maxRecDepth 100000 in
set_option maxHeartbeats 4000000 in
theorem shown_any (w : World) : Calls Try.prog 4 #[] w fun e w' => e = .returned (.bool true) ∧ Below w.heap.size w w' := by
  obtain ⟨W0, hW0⟩ : ∃ W0, ((w.alloc (Obj.cells #[.int .i64 1, .int .i64 2, .slice none 0 0, .int .i64 5, .int .i64 3, .slice none 0 0] 24)).alloc (Obj.cells #[.int .i64 1, .int .i64 1, .slice none 0 0, .int .i64 4, .int .i64 0, .slice (some ⟨w.heap.size, 0, none⟩) 2 2] 24)).alloc (Obj.cells #[.int .i64 3, .int .i64 0, .slice (some ⟨w.heap.size + 1, 0, none⟩) 2 2] 24) = W0 := ⟨_, rfl⟩
  have HE0 : Bx (ExW w W0) := ⟨by rw [← hW0]; exact ex_w w⟩
  have HB0 : Bx (Below w.heap.size w W0) := ⟨by rw [← hW0]; exact (two_new _ _ _).trans ((below1 _ _).mono (by simp; omega))⟩
  have a0 := HE0.out.c0
  have a1 := HE0.out.c1
  have a2 := HE0.out.c2
  have alt := HE0.out.lt
  have hzs : exV.sz ≤ 65536 := by rw [ex_sz]; omega
  have HV0 : Bx (∀ W B, IsV W B (.agg #[.int .i64 0, .int .i64 0, .slice none 0 0]) v0) := ⟨fun W B => ⟨⟨none, 0, rfl, by simp [v0, V.l, SlV, maxLen]⟩, ⟨by simp [v0, V.k], by simp [v0, V.k]⟩, ⟨by simp [v0, V.n], by simp [v0, V.n]⟩⟩⟩
  have tok1 : True := trivial
  have tok2 : True := trivial
  go_enter Try.func4, Try.ntmps4
  go_wp2_with (first | (go_at_call 16; refine Calls.mono (Chans_any W0 (w.heap.size + 2) _ exV HE0.out.is (by omega) hzs) ?_; rintro e w1 ⟨cs, lv, rfl, hcs, hown, hb1⟩; obtain rfl := ex_ch hcs; obtain ⟨g, lc, rfl, hg1, hgl⟩ := hown.form (by simp); have l0 : w1.cell? ⟨g, 0, none⟩ = some (.int .i64 3) := hown.cellAt 0 (by simp); have HE1 : Bx (ExW w w1) := ⟨HE0.out.next hb1⟩; have hz1 := hb1.size; have b0 := HE1.out.c0; have b1 := HE1.out.c1; have b2 := HE1.out.c2; have blt := HE1.out.lt; clear hcs hown) | (go_at_call 7; refine Calls.mono (Part_leaf _ (w1.heap.size + 1) _ exV (.mk 5 3 []) (some ⟨w1.heap.size, 0, none⟩) 2 [1, 1] ((HE1.out.next (below1 _ _)).is.up (by omega)) ⟨by simp, by simp [maxLen], path_at _ _⟩ (by simp) ex_find rfl) ?_; rintro e w2 ⟨he2, hb2⟩; simp only [V.k, V.n, pv] at he2; subst he2; have hz2 := hb2.size; simp at hz2; have hw12 : Below w1.heap.size w1 w2 := (below1 _ _).trans (hb2.mono (by simp))) | (go_at_call 17; refine Calls.mono (Bin_any 42 1 (-7) 1 2 none 0 0 none 0 0 _) ?_; rintro e w3 ⟨he3, hb3⟩; rw [ex_bin] at he3; simp only [ans, two, pv] at he3; subst he3; have hz3 := hb3.size; simp at hz3; have HS3 : Bx (ShB w g w2.heap.size w3.heap.size (w3.alloc (Obj.cells #[.int .i64 1, .int .i64 (-3), .slice none 0 0] 24))) := ⟨shb_of HE1.out hb1 (HB0.out) l0 hgl hw12 hb3⟩; have b30 := HS3.out.ex.c0; have b31 := HS3.out.ex.c1; have b32 := HS3.out.ex.c2; have b3t := HS3.out.ex.lt; have b3l := HS3.out.l; have b3p := HS3.out.p; have b3q := HS3.out.q; have bx3 := HS3.out.gl; have by3 := HS3.out.pl; have bz3 := HS3.out.ql) | (go_at_call 18; have _t := tok1; refine Calls.mono (Valid_any _ (w.heap.size + 2) _ exV HS3.out.ex.is (by omega) hzs) ?_; rintro e w4 ⟨he4, hb4⟩; rw [ex_valid] at he4; subst he4; have HS4 : Bx (ShB w g w2.heap.size w3.heap.size w4) := ⟨HS3.out.next hb4⟩; have b40 := HS4.out.ex.c0; have b41 := HS4.out.ex.c1; have b42 := HS4.out.ex.c2; have b4t := HS4.out.ex.lt; have b4l := HS4.out.l; have b4p := HS4.out.p; have b4q := HS4.out.q; have bx4 := HS4.out.gl; have by4 := HS4.out.pl; have bz4 := HS4.out.ql; clear tok1) | (go_at_call 18; refine Calls.mono (Valid_any _ 0 _ v0 (HV0.out _ _) (by omega) (by simp [v0, V.sz, szs])) ?_; rintro e w5 ⟨he5, hb5⟩; rw [v0_valid] at he5; subst he5; have HS5 : Bx (ShB w g w2.heap.size w3.heap.size w5) := ⟨HS4.out.next hb5⟩; have b50 := HS5.out.ex.c0; have b51 := HS5.out.ex.c1; have b52 := HS5.out.ex.c2; have b5t := HS5.out.ex.lt; have b5l := HS5.out.l; have b5p := HS5.out.p; have b5q := HS5.out.q; have bx5 := HS5.out.gl; have by5 := HS5.out.pl; have bz5 := HS5.out.ql) | (go_at_call 19; have _t := tok2; refine Calls.mono (Size_any _ (w.heap.size + 2) _ exV 9 HS5.out.ex.is (by omega) hzs ⟨by omega, by omega⟩) ?_; rintro e w6 ⟨he6, hb6⟩; rw [ex_sz, ex_s9] at he6; subst he6; have HS6 : Bx (ShB w g w2.heap.size w3.heap.size w6) := ⟨HS5.out.next hb6⟩; have b60 := HS6.out.ex.c0; have b61 := HS6.out.ex.c1; have b62 := HS6.out.ex.c2; have b6t := HS6.out.ex.lt; have b6l := HS6.out.l; have b6p := HS6.out.p; have b6q := HS6.out.q; have bx6 := HS6.out.gl; have by6 := HS6.out.pl; have bz6 := HS6.out.ql; clear tok2) | (go_at_call 19; refine Calls.mono (Size_any _ (w.heap.size + 2) _ exV 3 HS6.out.ex.is (by omega) hzs ⟨by omega, by omega⟩) ?_; rintro e w7 ⟨he7, hb7⟩; rw [ex_sz, ex_s3] at he7; subst he7; have HS7 : Bx (ShB w g w2.heap.size w3.heap.size w7) := ⟨HS6.out.next hb7⟩; have b70 := HS7.out.ex.c0; have b71 := HS7.out.ex.c1; have b72 := HS7.out.ex.c2; have b7t := HS7.out.ex.lt; have b7l := HS7.out.l; have b7p := HS7.out.p; have b7q := HS7.out.q; have bx7 := HS7.out.gl; have by7 := HS7.out.pl; have bz7 := HS7.out.ql) | (go_at_call 20; refine Calls.mono (Same_any _ (w.heap.size + 2) _ _ exV exV HS7.out.ex.is HS7.out.ex.is (by omega) hzs) ?_; rintro e w8 ⟨he8, hb8⟩; rw [eqB_yes rfl] at he8; subst he8; have HS8 : Bx (ShB w g w2.heap.size w3.heap.size w8) := ⟨HS7.out.next hb8⟩))
  go_ret
  exact ⟨rfl, HS8.out.bel⟩
end Go.Proofs.Ytikijkpklneihaa
namespace Go.Proofs.Ytikijkpklneihaa
open Go.RowKit
set_option linter.unusedVariables false
set_option linter.unusedSimpArgs false

/-- values, three cells each -/
def RowV (W : World) (B : Nat) : List V → List Value → Prop
  | [], xs => xs = []
  | v :: vs, xs => ∃ p c ys, xs = .int .i64 v.k :: .int .i64 v.n :: .slice p v.l.length c :: ys ∧ SlV W B p c v.l ∧ I64 v.k ∧ I64 v.n ∧ RowV W B vs ys
theorem RowV.len {W : World} {B : Nat} {vs : List V} : ∀ {xs : List Value}, RowV W B vs xs → xs.length = vs.length * 3 := by
  induction vs with
  | nil => intro xs h; simp [RowV] at h; simp [h]
  | cons l ls ih =>
    intro xs h
    obtain ⟨p, c, ys, rfl, h1, h2, h3, h4⟩ := h
    have := ih h4; simp; omega
theorem RowV.lo {W W' : World} {B : Nat} (hB : Lo B W W') {vs : List V} : ∀ {xs : List Value}, RowV W B vs xs → RowV W' B vs xs := by
  induction vs with
  | nil => intro xs h; exact h
  | cons l ls ih =>
    intro xs h
    obtain ⟨p, c, ys, rfl, h1, h2, h3, h4⟩ := h
    exact ⟨p, c, ys, rfl, h1.lo hB, h2, h3, ih h4⟩
theorem RowV.append {W : World} {B : Nat} {ls ms : List V} {ys : List Value} : ∀ {xs : List Value}, RowV W B ls xs → RowV W B ms ys → RowV W B (ls ++ ms) (xs ++ ys) := by
  induction ls with
  | nil => intro xs h k; simp [RowV] at h; subst h; exact k
  | cons l ls ih =>
    intro xs h k
    obtain ⟨p, c, zs, rfl, h1, h2, h3, h4⟩ := h
    exact ⟨p, c, zs ++ ys, rfl, h1, h2, h3, ih h4 k⟩
theorem RowV.last {W : World} {B : Nat} {l : V} {ls : List V} : ∀ {xs : List Value}, RowV W B (ls ++ [l]) xs → ∃ ys p c, xs = ys ++ [.int .i64 l.k, .int .i64 l.n, .slice p l.l.length c] ∧ RowV W B ls ys ∧ SlV W B p c l.l ∧ I64 l.k ∧ I64 l.n := by
  induction ls with
  | nil =>
    intro xs h
    obtain ⟨p, c, zs, rfl, h1, h2, h3, h4⟩ := h
    simp [RowV] at h4
    subst h4
    exact ⟨[], p, c, rfl, rfl, h1, h2, h3⟩
  | cons m ls ih =>
    intro xs h
    obtain ⟨p, c, zs, rfl, h1, h2, h3, h4⟩ := h
    obtain ⟨ys, q, d, rfl, k1, k2, k3, k4⟩ := ih h4
    exact ⟨_ :: _ :: _ :: ys, q, d, rfl, ⟨p, c, ys, rfl, h1, h2, h3, k1⟩, k2, k3, k4⟩
/-- values that are left, as a row of one's own -/
structure StkV (W : World) (base B : Nat) (v : Value) (st : List V) : Prop where
  own : ∃ xs, W.ownsRow base 24 3 v st.length xs ∧ RowV W B st xs
theorem StkV.val {W : World} {base B : Nat} {v : Value} {st : List V} (h : StkV W base B v st) : (v = .slice none 0 0 ∧ st = []) ∨ ∃ g cap, v = .slice (some ⟨g, 0, none⟩) st.length cap ∧ base ≤ g ∧ g < W.heap.size ∧ st.length ≤ cap ∧ cap ≤ maxLen := by
  obtain ⟨xs, h1, h2⟩ := h.own
  rcases h1.2 with ⟨rfl, h3⟩ | ⟨g, cap, cur, rfl, h4, h5, h6, h7, _⟩
  · exact .inl ⟨rfl, List.eq_nil_of_length_eq_zero h3⟩
  · exact .inr ⟨g, cap, rfl, h4, (Array.getElem?_eq_some_iff.1 h5).1, h6, h7⟩
theorem StkV.pop {W : World} {base B : Nat} {v : Value} {st : List V} {l : V} (h : StkV W base B v (st ++ [l])) :
    ∃ g cap p c, v = .slice (some ⟨g, 0, none⟩) (st.length + 1) cap ∧ base ≤ g ∧ g < W.heap.size ∧ st.length + 1 ≤ cap ∧ cap ≤ maxLen ∧ W.cell? ⟨g, st.length * 3, none⟩ = some (.int .i64 l.k) ∧ W.cell? ⟨g, st.length * 3 + 1, none⟩ = some (.int .i64 l.n) ∧ W.cell? ⟨g, st.length * 3 + 2, none⟩ = some (.slice p l.l.length c) ∧
      SlV W B p c l.l ∧ I64 l.k ∧ I64 l.n ∧ StkV W base B (.slice (some ⟨g, 0, none⟩) st.length cap) st := by
  obtain ⟨xs, h1, h2⟩ := h.own
  obtain ⟨ys, p, c, rfl, h3, h4, h4k, h4n⟩ := h2.last
  obtain ⟨q1, q2⟩ := h1
  have hl := h3.len
  rcases q2 with ⟨_, h5⟩ | ⟨g, cap, cur, rfl, q3, q4, q5, q6, q7, q8⟩
  · simp at h5
  · simp only [List.length_append, List.length_singleton] at q5 q7 q8 ⊢
    have hcur : ∀ j, j < (st.length + 1) * 3 → cur[j]? = (ys ++ [Value.int .i64 l.k, .int .i64 l.n, .slice p l.l.length c])[j]? := fun j hj => by
      rw [← q8, List.getElem?_take_of_lt hj, Array.getElem?_toList]
    refine ⟨g, cap, p, c, rfl, q3, (Array.getElem?_eq_some_iff.1 q4).1, q5, q6, ?_, ?_, ?_, h4, h4k, h4n, ⟨ys, ⟨by omega, .inr ⟨g, cap, cur, rfl, q3, q4, by omega, q6, by omega, ?_⟩⟩, h3⟩⟩
    · simp only [World.cell?, q4]
      rw [hcur _ (by omega), ← hl, List.getElem?_append_right (by omega)]
      simp
    · simp only [World.cell?, q4]
      rw [hcur _ (by omega), ← hl, List.getElem?_append_right (by omega)]
      simp
    · simp only [World.cell?, q4]
      rw [hcur _ (by omega), ← hl, List.getElem?_append_right (by omega)]
      simp
    · apply List.ext_getElem?
      intro j
      by_cases hj : j < st.length * 3
      · rw [List.getElem?_take_of_lt (by omega), Array.getElem?_toList, hcur j (by omega), List.getElem?_append_left (by omega)]
      · rw [List.getElem?_eq_none (by simp; omega), List.getElem?_eq_none (by omega)]
theorem StkV.keep {W W' : World} {base B : Nat} {v : Value} {st : List V} (h : StkV W base B v st) (hB : Lo B W W') (hb : ∀ g o, v.ownBlock = some g → W.heap[g]? = some o → W'.heap[g]? = some o) : StkV W' base B v st := by
  obtain ⟨xs, h1, h2⟩ := h.own
  exact ⟨xs, own_same h1 hb, h2.lo hB⟩
theorem StkV.ext {W W' : World} {base B : Nat} {v : Value} {st : List V} (h : StkV W base B v st) (hB : B ≤ W.heap.size) (hb : Below W.heap.size W W') : StkV W' base B v st :=
  h.keep (Lo.of (hb.mono hB)) (fun g o _ hg => (hb.block g (Array.getElem?_eq_some_iff.1 hg).1).trans hg)
/-- numbers that are left -/
structure StkI (W : World) (base : Nat) (v : Value) (n : Nat) : Prop where
  own : ∃ zs : List Int, zs.length = n ∧ (∀ z ∈ zs, 0 ≤ z ∧ z ≤ 65537) ∧ W.ownsRow base 3 1 v n (zs.map (Value.int .i64))
theorem StkI.pop {W : World} {base n : Nat} {v : Value} (h : StkI W base v (n + 1)) :
    ∃ g cap z, v = .slice (some ⟨g, 0, none⟩) (n + 1) cap ∧ base ≤ g ∧ g < W.heap.size ∧ n + 1 ≤ cap ∧ cap ≤ maxLen ∧ W.cell? ⟨g, n, none⟩ = some (.int .i64 z) ∧ 0 ≤ z ∧ z ≤ 65537 ∧ StkI W base (.slice (some ⟨g, 0, none⟩) n cap) n := by
  obtain ⟨zs, hz, hb, q1, q2⟩ := h.own
  rcases q2 with ⟨_, h5⟩ | ⟨g, cap, cur, rfl, q3, q4, q5, q6, q7, q8⟩
  · omega
  · have hn : n < zs.length := by omega
    have hcur : ∀ j, j < n + 1 → cur[j]? = (zs.map (Value.int .i64))[j]? := fun j hj => by
      rw [← q8, List.getElem?_take_of_lt (by omega), Array.getElem?_toList]
    have hbz := hb _ (List.getElem_mem hn)
    refine ⟨g, cap, zs[n], rfl, q3, (Array.getElem?_eq_some_iff.1 q4).1, q5, q6, ?_, hbz.1, hbz.2, ⟨zs.take n, by simp; omega, fun z hz => hb z (List.mem_of_mem_take hz), by simp; omega, .inr ⟨g, cap, cur, rfl, q3, q4, by omega, q6, by omega, ?_⟩⟩⟩
    · simp only [World.cell?, q4]
      rw [hcur _ (by omega)]
      simp [hn]
    · apply List.ext_getElem?
      intro j
      by_cases hj : j < n
      · rw [List.getElem?_take_of_lt (by omega), Array.getElem?_toList, hcur j (by omega), List.map_take, List.getElem?_take_of_lt hj]
      · rw [List.getElem?_eq_none (by simp; omega), List.getElem?_eq_none (by simp; omega)]
theorem StkI.keep {W W' : World} {base n : Nat} {v : Value} (h : StkI W base v n) (hb : ∀ g o, v.ownBlock = some g → W.heap[g]? = some o → W'.heap[g]? = some o) : StkI W' base v n := by
  obtain ⟨zs, h1, h2, h3⟩ := h.own
  exact ⟨zs, h1, h2, own_same h3 hb⟩
theorem StkI.ext {W W' : World} {base n : Nat} {v : Value} (h : StkI W base v n) (hb : Below W.heap.size W W') : StkI W' base v n :=
  h.keep (fun g o _ hg => (hb.block g (Array.getElem?_eq_some_iff.1 hg).1).trans hg)
end Go.Proofs.Ytikijkpklneihaa
