import Derived.Test.YteinpijbdgcehaaCOP
import Derived.Test.YteinpijbdgcehaaCOLw
import Derived.Test.YteinpijbdgcehaaChecked
import Derived.WalkKit
import Derived.WalkSpells
import Derived.WalkLawsBesides
import Derived.Deep.QuietTactic
import Derived.Deep.LoopGhost
import Derived.Deep.AppendLies
import Derived.Laws.AppendOwn
import Derived.OwnWalkIn
import Derived.RangeFuncBound
import Derived.RangeFuncCalls
import Derived.Shelf.Abstract
import Derived.Shelf.RegionOpen
import Derived.TacticsInMore
import Derived.LoopNIn
import Derived.LoopIn
import Derived.Sort.LoopGhostIn
namespace Go.Proofs.Yteinpijbdgcehaa
open Go.RowKit
set_option linter.unusedVariables false
set_option linter.unusedSimpArgs false

structure Bx (p : Prop) : Prop where
  out : p
def I64 (x : Int) : Prop := -9223372036854775808 ≤ x ∧ x ≤ 9223372036854775807
theorem below1 (w : World) (o : Obj) : Below w.heap.size w (w.alloc o) := (Below.refl _ _).alloc (Nat.le_refl _) _
theorem two_new (w : World) (o o' : Obj) : Below w.heap.size w ((w.alloc o).alloc o') := (below1 _ _).trans ((below1 _ _).mono (by simp))
theorem alloc_at (w : World) (o o' : Obj) : ((w.alloc o).alloc o').heap[w.heap.size + 1]? = some o' := by
  have := World.alloc_heap_new (w.alloc o) o'; rwa [World.size_alloc] at this
theorem grown_below {W W' : World} (h : Below W.heap.size W W') : W.grownBy W' none := ⟨h.os, h.tape, h.output, h.size, fun b hb _ => h.block b hb⟩
theorem own_same {W W' : World} {base : Nat} {e : TypeId} {s : Nat} {v : Value} {n : Nat} {cs : List Value} (h : W.ownsRow base e s v n cs) (hb : ∀ g o, v.ownBlock = some g → W.heap[g]? = some o → W'.heap[g]? = some o) : W'.ownsRow base e s v n cs := by
  refine ⟨h.1, ?_⟩
  rcases h.2 with h1 | ⟨g, cap, cur, rfl, h2, h3, h4⟩
  · exact .inl h1
  · exact .inr ⟨g, cap, cur, rfl, h2, hb g _ rfl h3, h4⟩
theorem own_base {W : World} {base : Nat} {e : TypeId} {s : Nat} {v : Value} {n : Nat} {cs : List Value} (h : W.ownsRow base e s v n cs) : ∀ g, v.ownBlock = some g → base ≤ g := by
  intro g hg
  rcases h.2 with ⟨rfl, _⟩ | ⟨g', cap, cur, rfl, h2, _⟩
  · cases hg
  · cases hg; exact h2
theorem own_cells {W : World} {base : Nat} {e : TypeId} {s : Nat} {v : Value} {n : Nat} {cs : List Value} (h : W.ownsRow base e s v n cs) {g : Nat} (hg : v.ownBlock = some g) : ∃ o : Obj, W.heap[g]? = some o ∧ o.isCells = true := by
  rcases h.2 with ⟨rfl, _⟩ | ⟨g', cap, cur, rfl, h2, h3, _⟩
  · cases hg
  · cases hg; exact ⟨_, h3, rfl⟩
theorem own_new {wr X : World} {base : Nat} {e : TypeId} {s : Nat} {v : Value} {n : Nat} {cs : List Value} (h : wr.ownsRow base e s v n cs) (hX : Below wr.heap.size wr X) : X.ownsRow base e s v n cs :=
  own_same h (fun g o _ hg => (hX.block g (Array.getElem?_eq_some_iff.1 hg).1).trans hg)
theorem ownB {p : Nat} {n c : Nat} : (Value.slice (some ⟨p, 0, none⟩) n c).ownBlock = some p := rfl
theorem own_low {W : World} {base base' : Nat} {e : TypeId} {s : Nat} {v : Value} {n : Nat} {cs : List Value} (h : W.ownsRow base e s v n cs) (hb : base' ≤ base) : W.ownsRow base' e s v n cs :=
  ⟨h.1, by
    rcases h.2 with h | ⟨g, cap, cur, e, h1, h2⟩
    · exact .inl h
    · exact .inr ⟨g, cap, cur, e, by omega, h2⟩⟩
theorem cell_of {W : World} {g : Nat} {us : Array Value} {t : TypeId} {fr : Nat × Nat} (h : W.heap[g]? = some (.cells us t fr)) {j : Nat} {v : Value} (hj : us[j]? = some v) : W.cell? ⟨g, j, none⟩ = some v := by
  simp only [World.cell?, h]
  simpa using hj
/-- the cells of a block -/
theorem block_cells (W : World) (g : Nat) (us : Array Value) (t : TypeId) (hg : W.heap[g]? = some (.cells us t (0, 0))) : ∀ (j : Nat) (x : Value), us.toList[j]? = some x → W.cell? ((⟨g, 0, none⟩ : Addr).add j) = some x := by
  intro j x hx
  have e : (⟨g, 0, none⟩ : Addr).add j = ⟨g, j, none⟩ := by
    cases j with
    | zero => simp [Addr.add]
    | succ j => simp [Addr.add]
  rw [e]
  simp only [World.cell?, hg]
  simpa using hx
theorem wpListIn_app {F : Fence} {n : Nat} {P : Program} (w : World) {ops : Array Oper} {rest : List Oper} {o : Oper} {a : Act} {Q : Exit → Act → World → Prop}
    (hg : o.guard = none) (s x : Operand) (t : TypeId) (hop : o.op = Op.call { callee := Callee.builtin Builtin.append, args := #[s, x], argTypes := #[t, t] })
    (base : Nat) (e : TypeId) (i : TypeInfo) (z : Value) (size bytes : Nat) (h1 : P.underlying t = some (.slice e)) (h2 : P.info? e = some i) (h3 : i.zero = some z) (h4 : i.size = size) (h5 : i.bytes = bytes) (h6 : z.cells.size = size) (h7 : 0 < size)
    (v : Value) (k : Nat) (xs : List Value) (hs : a.eval s = v) (hown : w.ownsRow base e size v k xs) (ad : Addr) (m c : Nat) (news : List Value) (hx : a.eval x = .slice (some ad) m c) (hn : news.length = m * size)
    (hc : ∀ j u, news[j]? = some u → w.cell? (ad.add j) = some u) (h1c : ∀ u ∈ news, u.oneCell' = true) (b0 : 0 < m) (b1 : k + m ≤ maxLen) (b2 : (k + m) * bytes ≤ 140737488355328) (b3 : base ≤ w.heap.size) (H : Nat) (hH : w.heap.size = H)
    (hK : ∀ g cap w', w'.ownsRow base e size (.slice (some ⟨g, 0, none⟩) (k + m) cap) (k + m) (xs ++ news) → w.grownBy w' v.ownBlock → (v.ownBlock = some g ∨ g = H) → g < w'.heap.size → wpListIn F n P ops Q rest (a.put o.dst (.slice (some ⟨g, 0, none⟩) (k + m) cap)) w') :
    wpListIn F n P ops Q (o :: rest) a w := by
  refine wpListIn_plain hg fun K hK' => ?_
  obtain ⟨g, cap, w', hrun, r1, r2, r3, r4⟩ := run_append_lies (P := P) w t o.type base e i z size bytes h1 h2 h3 h4 h5 h6 h7 v k xs hown ad m c news hn hc h1c b0 b1 b2 b3 H hH
  unfold Oper.wpIn
  constructor
  · simp [Oper.about, hop, resolve, Target.leads, Sem.run_pure]
  · have hp : ∀ cl, o.op ≠ Op.defer cl := by intro cl hcl; rw [hop] at hcl; cases hcl
    rw [Oper.semAt_plain F _ _ (by rw [hop]; intro c hc'; cases hc')]
    simp [execOp, hop, resolve, invoke, builtin, hs, hx, hrun, Result.andThen]
    exact hK' _ _ (hK g cap w' r1 r2 r3 r4)

/-! ### processes in memory -/
/-- the blocks that are read are as they were -/
def Kpt (Pr : Nat → Prop) (w W : World) : Prop := ∀ b, Pr b → W.heap[b]? = w.heap[b]?
theorem Kpt.refl (Pr : Nat → Prop) (w : World) : Kpt Pr w w := fun _ _ => rfl
theorem Kpt.trans {Pr : Nat → Prop} {a b c : World} (h : Kpt Pr a b) (k : Kpt Pr b c) : Kpt Pr a c := fun x hx => (k x hx).trans (h x hx)
theorem Kpt.cell {Pr : Nat → Prop} {w W : World} (h : Kpt Pr w W) {b o : Nat} (hb : Pr b) : W.cell? ⟨b, o, none⟩ = w.cell? ⟨b, o, none⟩ := by simp only [World.cell?, h b hb]
/-- an arm -/
def armV (a : OArm) : Value := .agg #[.int .i64 a.chan, .bool a.send, .int .i64 a.x, .int .i64 a.y, .slice a.zp a.zn a.zc]
structure ArmAt (W : World) (b o : Nat) (a : OArm) : Prop where
  c0 : W.cell? ⟨b, o, none⟩ = some (.int .i64 a.chan)
  c1 : W.cell? ⟨b, o + 1, none⟩ = some (.bool a.send)
  c2 : W.cell? ⟨b, o + 2, none⟩ = some (.int .i64 a.x)
  c3 : W.cell? ⟨b, o + 3, none⟩ = some (.int .i64 a.y)
  c4 : W.cell? ⟨b, o + 4, none⟩ = some (.slice a.zp a.zn a.zc)
  n64 : I64 a.chan
theorem ArmAt.keep {Pr : Nat → Prop} {w W : World} {b o : Nat} {a : OArm} (h : ArmAt w b o a) (k : Kpt Pr w W) (hb : Pr b) : ArmAt W b o a :=
  ⟨(k.cell hb).trans h.c0, (k.cell hb).trans h.c1, (k.cell hb).trans h.c2, (k.cell hb).trans h.c3, (k.cell hb).trans h.c4, h.n64⟩
structure ArmsIn (W : World) (Pr : Nat → Prop) (p : Option Addr) (c : Nat) (l : List OArm) : Prop where
  len : l.length ≤ c
  max : c ≤ maxLen
  at_ : ∀ i (h : i < l.length), ∃ b o, p = some ⟨b, o, none⟩ ∧ Pr b ∧ ArmAt W b (o + i * 5) l[i]
theorem ArmsIn.keep {Pr : Nat → Prop} {w W : World} {p : Option Addr} {c : Nat} {l : List OArm} (h : ArmsIn w Pr p c l) (k : Kpt Pr w W) : ArmsIn W Pr p c l :=
  ⟨h.len, h.max, fun i hi => by obtain ⟨b, o, e, hb, h1⟩ := h.at_ i hi; exact ⟨b, o, e, hb, h1.keep k hb⟩⟩
theorem ArmsIn.mono {Pr Pr' : Nat → Prop} {w : World} {p : Option Addr} {c : Nat} {l : List OArm} (h : ArmsIn w Pr p c l) (k : ∀ b, Pr b → Pr' b) : ArmsIn w Pr' p c l :=
  ⟨h.len, h.max, fun i hi => by obtain ⟨b, o, e, hb, h1⟩ := h.at_ i hi; exact ⟨b, o, e, k b hb, h1⟩⟩
/-- a process that waits -/
structure WsIn (W : World) (Pr : Nat → Prop) (p : Option Addr) (c : Nat) (l : List OWt) : Prop where
  len : l.length ≤ c
  max : c ≤ maxLen
  at_ : ∀ i (h : i < l.length), ∃ b o q d, p = some ⟨b, o, none⟩ ∧ Pr b ∧ W.cell? ⟨b, o + i * 2, none⟩ = some (.int .i64 l[i].id) ∧ W.cell? ⟨b, o + i * 2 + 1, none⟩ = some (.slice q l[i].arms.length d) ∧ ArmsIn W Pr q d l[i].arms ∧ I64 l[i].id
theorem WsIn.keep {Pr : Nat → Prop} {w W : World} {p : Option Addr} {c : Nat} {l : List OWt} (h : WsIn w Pr p c l) (k : Kpt Pr w W) : WsIn W Pr p c l :=
  ⟨h.len, h.max, fun i hi => by obtain ⟨b, o, q, d, e, hb, h1, h2, h3, h4⟩ := h.at_ i hi; exact ⟨b, o, q, d, e, hb, (k.cell hb).trans h1, (k.cell hb).trans h2, h3.keep k, h4⟩⟩
theorem WsIn.mono {Pr Pr' : Nat → Prop} {w : World} {p : Option Addr} {c : Nat} {l : List OWt} (h : WsIn w Pr p c l) (k : ∀ b, Pr b → Pr' b) : WsIn w Pr' p c l :=
  ⟨h.len, h.max, fun i hi => by obtain ⟨b, o, q, d, e, hb, h1, h2, h3, h4⟩ := h.at_ i hi; exact ⟨b, o, q, d, e, k b hb, h1, h2, h3.mono k, h4⟩⟩
/-- the blocks that are read are no body's own: they stay -/
theorem Kpt.sep {Pr G G' : Nat → Prop} {w A B : World} {hi : Nat} (h : Kpt Pr w A) (hPr : ∀ b, Pr b → ∃ o : Obj, w.heap[b]? = some o ∧ o.isCells = true) (hG : ∀ b, G b → ¬ Pr b) (s : Sep hi G G' A B) : Kpt Pr w B ∧ ∀ b, G' b → ¬ Pr b :=
  ⟨fun b hb => by
    obtain ⟨o, h1, h2⟩ := hPr b hb
    rw [h1]
    exact s.same b o ((h b hb).trans h1) h2 (fun hg => hG b hg hb), fun b hg hb => by
    rcases s.new b hg with h1 | h1
    · exact hG b h1 hb
    · obtain ⟨o, h2, _⟩ := hPr b hb
      have h3 := (h b hb).trans h2
      have := (Array.getElem?_eq_some_iff.1 h3).1
      omega⟩
theorem Kpt.below {Pr : Nat → Prop} {w A B : World} (h : Kpt Pr w A) (hPr : ∀ b, Pr b → ∃ o : Obj, w.heap[b]? = some o ∧ o.isCells = true) (s : Below A.heap.size A B) : Kpt Pr w B :=
  fun b hb => by
    obtain ⟨o, h1, h2⟩ := hPr b hb
    have h3 := (h b hb).trans h1
    rw [h1]
    exact (s.block b (Array.getElem?_eq_some_iff.1 h3).1).trans h3
theorem Kpt.of_below {Pr : Nat → Prop} {w B : World} (hPr : ∀ b, Pr b → ∃ o : Obj, w.heap[b]? = some o ∧ o.isCells = true) (s : Below w.heap.size w B) : Kpt Pr w B := (Kpt.refl Pr w).below hPr s
/-- what an iterator of those that have a property hands out -/
def thX {α : Type} (enc : α → Value) (pr : α → Bool) (l : List α) : List (Array Value) := ofm (fun i a => if pr a then [#[.int .i64 i, enc a]] else []) 0 l
theorem ofm_append {α β : Type} (f : Nat → α → List β) : ∀ (l m : List α) (n : Nat), ofm f n (l ++ m) = ofm f n l ++ ofm f (n + l.length) m
  | [], m, n => by simp [ofm]
  | a :: r, m, n => by rw [List.cons_append, ofm, ofm, ofm_append f r m, List.append_assoc, List.length_cons, show n + 1 + r.length = n + (r.length + 1) by omega]
theorem ofm_take {α β : Type} (f : Nat → α → List β) (l : List α) (i : Nat) (h : i < l.length) : ofm f 0 (l.take (i + 1)) = ofm f 0 (l.take i) ++ f i l[i] := by
  rw [List.take_succ_eq_append_getElem h, ofm_append]
  simp [ofm, Nat.min_eq_left (Nat.le_of_lt h)]
theorem ofm_split {α β : Type} (f : Nat → α → List β) (l : List α) (i : Nat) (h : i < l.length) : ∃ r, ofm f 0 l = ofm f 0 (l.take i) ++ f i l[i] ++ r := by
  refine ⟨ofm f (i + 1) (l.drop (i + 1)), ?_⟩
  rw [← ofm_take f l i h]
  conv => lhs; rw [← List.take_append_drop (i + 1) l, ofm_append]
  simp [Nat.min_eq_left (Nat.succ_le_of_lt h)]
/-- the next of what is handed out -/
theorem th_next {α : Type} (enc : α → Value) (pr : α → Bool) (l : List α) (i : Nat) (h : i < l.length) (hp : pr l[i] = true) : (thX enc pr l)[(thX enc pr (l.take i)).length]? = some #[.int .i64 i, enc l[i]] := by
  obtain ⟨r, e⟩ := ofm_split (fun i a => if pr a then [#[Value.int .i64 i, enc a]] else []) l i h
  unfold thX
  rw [e, hp, List.append_assoc, List.getElem?_append_right (Nat.le_refl _)]
  simp
theorem th_yes {α : Type} (enc : α → Value) (pr : α → Bool) (l : List α) (i : Nat) (h : i < l.length) (hp : pr l[i] = true) : (thX enc pr (l.take (i + 1))).length = (thX enc pr (l.take i)).length + 1 := by
  unfold thX
  rw [ofm_take _ _ _ h, hp]
  simp
theorem th_no {α : Type} (enc : α → Value) (pr : α → Bool) (l : List α) (i : Nat) (h : i < l.length) (hp : pr l[i] = false) : (thX enc pr (l.take (i + 1))).length = (thX enc pr (l.take i)).length := by
  unfold thX
  rw [ofm_take _ _ _ h, hp]
  simp
end Go.Proofs.Yteinpijbdgcehaa
