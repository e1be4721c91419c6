import Derived.Test.YtjabdhmkibahlaaCGP
import Derived.Test.YtjabdhmkibahlaaChecked
import Derived.WalkKit
import Derived.WalkSpells
import Derived.WalkLawsBesides
import Derived.Deep.QuietTactic
import Derived.Deep.LoopGhost
import Derived.Deep.AppendLies
import Derived.Deep.RegionLaw
import Derived.Deep.RegionHeld3
import Derived.Laws.AppendOwn
import Derived.Laws.AppendOwnNone
import Derived.OneCell
import Derived.Maps.Range
import Derived.Maps.RangeWalk
import Derived.BigQuiet
import Derived.RangeFuncRecord
namespace Go.Proofs.Ytjabdhmkibahlaa
open Go.RowKit
set_option linter.unusedVariables false
set_option linter.unusedSimpArgs false

structure Bx (p : Prop) : Prop where
  out : p
def I64 (x : Int) : Prop := -9223372036854775808 ≤ x ∧ x ≤ 9223372036854775807
theorem below1 (w : World) (o : Obj) : Below w.heap.size w (w.alloc o) := (Below.refl _ _).alloc (Nat.le_refl _) _
theorem two_new (w : World) (o o' : Obj) : Below w.heap.size w ((w.alloc o).alloc o') := (below1 _ _).trans ((below1 _ _).mono (by simp))
theorem below_drewN {B : Nat} {a w : World} (h : Below B a w) (n : Nat) : Below B a (w.drewN n) := ⟨h.os, h.tape, h.output, h.size, h.block⟩
theorem own_same {W W' : World} {base : Nat} {e : TypeId} {s : Nat} {v : Value} {n : Nat} {cs : List Value} (h : W.ownsRow base e s v n cs) (hb : ∀ g o, v.ownBlock = some g → W.heap[g]? = some o → W'.heap[g]? = some o) : W'.ownsRow base e s v n cs := by
  refine ⟨h.1, ?_⟩
  rcases h.2 with h1 | ⟨g, cap, cur, rfl, h2, h3, h4⟩
  · exact .inl h1
  · exact .inr ⟨g, cap, cur, rfl, h2, hb g _ rfl h3, h4⟩
theorem own_base {W : World} {base : Nat} {e : TypeId} {s : Nat} {v : Value} {n : Nat} {cs : List Value} (h : W.ownsRow base e s v n cs) : ∀ g, v.ownBlock = some g → base ≤ g := by
  intro g hg
  rcases h.2 with ⟨rfl, _⟩ | ⟨g', cap, cur, rfl, h2, _⟩
  · cases hg
  · cases hg; exact h2
theorem own_new {wr X : World} {base : Nat} {e : TypeId} {s : Nat} {v : Value} {n : Nat} {cs : List Value} (h : wr.ownsRow base e s v n cs) (hX : Below wr.heap.size wr X) : X.ownsRow base e s v n cs :=
  own_same h (fun g o _ hg => (hX.block g (Array.getElem?_eq_some_iff.1 hg).1).trans hg)
theorem own_low {W : World} {base base' : Nat} {e : TypeId} {s : Nat} {v : Value} {n : Nat} {cs : List Value} (h : W.ownsRow base e s v n cs) (hb : base' ≤ base) : W.ownsRow base' e s v n cs :=
  ⟨h.1, by
    rcases h.2 with h | ⟨g, cap, cur, e, h1, h2⟩
    · exact .inl h
    · exact .inr ⟨g, cap, cur, e, by omega, h2⟩⟩
theorem cell_of {W : World} {g : Nat} {us : Array Value} {t : TypeId} {fr : Nat × Nat} (h : W.heap[g]? = some (.cells us t fr)) {j : Nat} {v : Value} (hj : us[j]? = some v) : W.cell? ⟨g, j, none⟩ = some v := by
  simp only [World.cell?, h]
  simpa using hj
theorem block_cells (W : World) (g : Nat) (us : Array Value) (t : TypeId) (hg : W.heap[g]? = some (.cells us t (0, 0))) : ∀ (j : Nat) (x : Value), us.toList[j]? = some x → W.cell? ((⟨g, 0, none⟩ : Addr).add j) = some x := by
  intro j x hx
  have e : (⟨g, 0, none⟩ : Addr).add j = ⟨g, j, none⟩ := by
    cases j with
    | zero => simp [Addr.add]
    | succ j => simp [Addr.add]
  rw [e]
  simp only [World.cell?, hg]
  simpa using hx
theorem wpList_app {P : Program} (w : World) {ops : Array Oper} {rest : List Oper} {o : Oper} {a : Act} {Q : Exit → Act → World → Prop}
    (hg : o.guard = none) (s x : Operand) (t : TypeId) (hop : o.op = Op.call { callee := Callee.builtin Builtin.append, args := #[s, x], argTypes := #[t, t] })
    (base : Nat) (e : TypeId) (i : TypeInfo) (z : Value) (size bytes : Nat) (h1 : P.underlying t = some (.slice e)) (h2 : P.info? e = some i) (h3 : i.zero = some z) (h4 : i.size = size) (h5 : i.bytes = bytes) (h6 : z.cells.size = size) (h7 : 0 < size)
    (v : Value) (k : Nat) (xs : List Value) (hs : a.eval s = v) (hown : w.ownsRow base e size v k xs) (ad : Addr) (m c : Nat) (news : List Value) (hx : a.eval x = .slice (some ad) m c) (hn : news.length = m * size)
    (hc : ∀ j u, news[j]? = some u → w.cell? (ad.add j) = some u) (h1c : ∀ u ∈ news, u.oneCell' = true) (b0 : 0 < m) (b1 : k + m ≤ maxLen) (b2 : (k + m) * bytes ≤ 140737488355328) (b3 : base ≤ w.heap.size) (H : Nat) (hH : w.heap.size = H)
    (hK : ∀ g cap w', w'.ownsRow base e size (.slice (some ⟨g, 0, none⟩) (k + m) cap) (k + m) (xs ++ news) → w.grownBy w' v.ownBlock → (v.ownBlock = some g ∨ g = H) → g < w'.heap.size → wpList P ops Q rest (a.put o.dst (.slice (some ⟨g, 0, none⟩) (k + m) cap)) w') :
    wpList P ops Q (o :: rest) a w := by
  refine wpList_plain hg fun K hK' => ?_
  obtain ⟨g, cap, w', hrun, r1, r2, r3, r4⟩ := run_append_lies (P := P) w t o.type base e i z size bytes h1 h2 h3 h4 h5 h6 h7 v k xs hown ad m c news hn hc h1c b0 b1 b2 b3 H hH
  unfold Oper.wp
  simp [execOp, hop, resolve, invoke, builtin, hs, hx, hrun, Result.andThen]
  exact hK' _ _ (hK g cap w' r1 r2 r3 r4)
/-! ### agents in memory, to be read in every later world -/
structure HdsR (w : World) (p : Option Addr) (c : Nat) (l : List Hd) : Prop where
  len : l.length ≤ c
  max : c ≤ maxLen
  at_ : ∀ i (h : i < l.length), ∃ b o, p = some ⟨b, o, none⟩ ∧ I64 l[i].chan ∧ ∀ X, Below w.heap.size w X → X.cell? ⟨b, o + i * 2, none⟩ = some (.int .i64 l[i].chan) ∧ X.cell? ⟨b, o + i * 2 + 1, none⟩ = some (.bool l[i].send)
structure IntsR (w : World) (p : Option Addr) (c : Nat) (l : List Int) : Prop where
  len : l.length ≤ c
  max : c ≤ maxLen
  at_ : ∀ i (h : i < l.length), ∃ b o, p = some ⟨b, o, none⟩ ∧ I64 l[i] ∧ ∀ X, Below w.heap.size w X → X.cell? ⟨b, o + i, none⟩ = some (.int .i64 l[i])
theorem HdsR.later {w w' : World} {p : Option Addr} {c : Nat} {l : List Hd} (h : HdsR w p c l) (hb : Below w.heap.size w w') : HdsR w' p c l :=
  ⟨h.len, h.max, fun i hi => by obtain ⟨b, o, e, h6, h1⟩ := h.at_ i hi; exact ⟨b, o, e, h6, fun X hX => h1 X (hb.trans (hX.mono hb.size))⟩⟩
theorem IntsR.later {w w' : World} {p : Option Addr} {c : Nat} {l : List Int} (h : IntsR w p c l) (hb : Below w.heap.size w w') : IntsR w' p c l :=
  ⟨h.len, h.max, fun i hi => by obtain ⟨b, o, e, h6, h1⟩ := h.at_ i hi; exact ⟨b, o, e, h6, fun X hX => h1 X (hb.trans (hX.mono hb.size))⟩⟩
/-- an agent as a value -/
def agV (a : Ag) (ap : Option Addr) (ac : Nat) (hp : Option Addr) (hc : Nat) : Value := .agg #[.int .i64 a.id, .bool a.awake, .slice ap a.arms.length ac, .slice hp a.held.length hc]
structure AgR (w : World) (a : Ag) (ap : Option Addr) (ac : Nat) (hp : Option Addr) (hc : Nat) : Prop where
  id : I64 a.id
  arms : HdsR w ap ac a.arms
  held : IntsR w hp hc a.held
theorem AgR.later {w w' : World} {a : Ag} {ap hp : Option Addr} {ac hc : Nat} (h : AgR w a ap ac hp hc) (hb : Below w.heap.size w w') : AgR w' a ap ac hp hc := ⟨h.id, h.arms.later hb, h.held.later hb⟩
structure AgsR (w : World) (p : Option Addr) (c : Nat) (l : List Ag) : Prop where
  len : l.length ≤ c
  max : c ≤ maxLen
  at_ : ∀ i (h : i < l.length), ∃ b o ap ac hp hc, p = some ⟨b, o, none⟩ ∧ AgR w l[i] ap ac hp hc ∧ ∀ X, Below w.heap.size w X → X.cell? ⟨b, o + i * 4, none⟩ = some (.int .i64 l[i].id) ∧ X.cell? ⟨b, o + i * 4 + 1, none⟩ = some (.bool l[i].awake) ∧ X.cell? ⟨b, o + i * 4 + 2, none⟩ = some (.slice ap l[i].arms.length ac) ∧ X.cell? ⟨b, o + i * 4 + 3, none⟩ = some (.slice hp l[i].held.length hc)
theorem AgsR.later {w w' : World} {p : Option Addr} {c : Nat} {l : List Ag} (h : AgsR w p c l) (hb : Below w.heap.size w w') : AgsR w' p c l :=
  ⟨h.len, h.max, fun i hi => by obtain ⟨b, o, ap, ac, hp, hc, e, h6, h1⟩ := h.at_ i hi; exact ⟨b, o, ap, ac, hp, hc, e, h6.later hb, fun X hX => h1 X (hb.trans (hX.mono hb.size))⟩⟩

set_option maxRecDepth 100000 in
set_option maxHeartbeats 4000000 in
theorem rising_any (w : World) (p : Option Addr) (c : Nat) (l : List Int) (h : IntsR w p c l) :
    Calls Try.prog 53 #[.slice p l.length c] w fun e w' => e = .returned (.bool (risI l)) ∧ w' = w := by
  have hlc := h.len
  have hcm := h.max
  unfold maxLen at hcm
  go_enter Try.func53, Try.ntmps53
  go_wp2
  go_loopg [3, 8] l.length (fun k v3 v8 wr => ∃ (i : Nat) (x : Int), k = l.length - i ∧ i ≤ l.length ∧ v3 = .int .i64 x ∧ v8 = .int .i64 i ∧ Bx (risF x (l.drop i) = risI l ∧ wr = w))
  case atStart => exact ⟨0, 0, by simp, by omega, rfl, rfl, ⟨by simp [risI], rfl⟩⟩
  case round =>
    obtain ⟨i, x, hk, hil, rfl, rfl, HR⟩ := hrel
    obtain ⟨hr, rfl⟩ := HR.out
    clear HR
    by_cases hlt : i < l.length
    · obtain ⟨b, o, rfl, _, hc⟩ := h.at_ i hlt
      have c0 := hc wr (Below.refl _ _)
      have hd : l.drop i = l[i] :: l.drop (i + 1) := List.drop_eq_getElem_cons hlt
      rw [hd, risF] at hr
      clear h hc
      by_cases hx : l[i] ≤ x
      · have HF : Bx (risI l = false) := ⟨by rw [← hr, decide_eq_false (by omega), Bool.false_and]⟩
        clear hr hd
        go_wp2
        go_ret
        exact ⟨by rw [HF.out]; rfl, rfl⟩
      · have HF : Bx (risF l[i] (l.drop (i + 1)) = risI l) := ⟨by rw [← hr, decide_eq_true (by omega), Bool.true_and]⟩
        clear hr hd
        go_wp2
        go_roundg (l.length - (i + 1))
        case measure => omega
        case rel => exact ⟨i + 1, l[i], rfl, by omega, by simp, by simp, ⟨HF.out, rfl⟩⟩
    · have hie : i = l.length := by omega
      subst hie
      have HF : Bx (risI l = true) := ⟨by rw [← hr]; simp [risF]⟩
      clear hr
      go_wp2
      go_ret
      exact ⟨by rw [HF.out]; rfl, rfl⟩
end Go.Proofs.Ytjabdhmkibahlaa
