import Derived.WalkKit
import Derived.Test.YtjabdhmkibahlaaChecked
import Derived.WalkSpells
import Derived.WalkLawsBesides
import Derived.Deep.QuietTactic
import Derived.Deep.LoopGhost
import Derived.Deep.AppendLies
import Derived.Deep.RegionLaw
import Derived.Deep.RegionHeld3
import Derived.Laws.AppendOwn
import Derived.Laws.AppendOwnNone
import Derived.OneCell
import Derived.Maps.Range
import Derived.Maps.RangeWalk
import Derived.BigQuiet
import Derived.RangeFuncRecord
import Derived.Shelf.Sort.Plain
import Derived.Ground.Names2Prog
import Derived.Shelf.Slices.SearchI
import Derived.Shelf.Slices.In.SortNone
import Derived.Shelf.Slices.Empties
import Derived.Test.YtjabdhmkibahlaaProg
namespace Go.Proofs.Ytjabdhmkibahlaa
set_option linter.unusedVariables false
set_option linter.unusedSimpArgs false

/-! ### agents, in plain words -/
structure Hd where
  chan : Int
  send : Bool
structure Ag where
  id : Int
  awake : Bool
  arms : List Hd
  held : List Int
structure Lk where
  waker : Int
  woken : Int
  chan : Int
/-- each above the one ahead of it, all above k -/
def risF : Int → List Int → Bool
  | _, [] => true
  | k, x :: r => decide (k < x) && risF x r
def risI (l : List Int) : Bool := risF 0 l
def armOk (held : List Int) (h : Hd) : Bool := h.chan == 0 || held.contains h.chan
def agOk (a : Ag) : Bool := !(a.awake && decide (0 < a.arms.length)) && risI a.held && a.arms.all (armOk a.held)
def agsF : Int → List Ag → Bool
  | _, [] => true
  | k, a :: r => decide (k < a.id) && agOk a && agsF a.id r
/-- P14.1 -/
def stOk (s : List Ag) : Bool := decide (s.length ≤ 4096) && agsF (-1) s
def chkI (s : List Ag) : Int := if stOk s then 0 else 140
theorem ris_above : ∀ (l : List Int) (k : Int), risF k l = true → ∀ x ∈ l, k < x
  | [], k, _, x, h => by cases h
  | v :: r, k, hr, x, h => by
    rw [risF, Bool.and_eq_true, decide_eq_true_eq] at hr
    rcases List.mem_cons.1 h with rfl | h
    · exact hr.1
    · exact Int.lt_trans hr.1 (ris_above r v hr.2 x h)
theorem ris_lt : ∀ (l : List Int) (k : Int), risF k l = true → l.Pairwise (· < ·)
  | [], k, _ => List.Pairwise.nil
  | v :: r, k, hr => by
    rw [risF, Bool.and_eq_true, decide_eq_true_eq] at hr
    exact List.pairwise_cons.2 ⟨ris_above r v hr.2, ris_lt r v hr.2⟩
theorem ris_le {l : List Int} {k : Int} (h : risF k l = true) : l.Pairwise (· ≤ ·) := (ris_lt l k h).imp (fun h => Int.le_of_lt h)
/-! ### how somebody stands at a channel -/
structure Stc where
  awake : Bool
  sends : Bool
  recvs : Bool
def st0 : Stc := ⟨false, false, false⟩
def Stc.wakes (h o : Stc) : Bool := h.awake && (o.sends || o.recvs) || h.sends && o.recvs || h.recvs && o.sends
/-- an arm more -/
def stAdd (s : Stc) (h : Hd) : Stc := ⟨false, s.sends || h.send, s.recvs || !h.send⟩
def waitF (c : Int) : Stc → List Hd → Stc
  | s, [] => s
  | s, h :: r => waitF c (if h.chan ≠ 0 ∧ h.chan = c then stAdd s h else s) r
def waitI (l : List Hd) (c : Int) : Stc := waitF c st0 l
theorem waitF_snoc (c : Int) : ∀ (l : List Hd) (s : Stc) (h : Hd), waitF c s (l ++ [h]) = if h.chan ≠ 0 ∧ h.chan = c then stAdd (waitF c s l) h else waitF c s l
  | [], s, h => rfl
  | x :: r, s, h => by rw [List.cons_append, waitF, waitF_snoc c r, waitF]
/-- the channels that they are on -/
def onI (l : List Hd) (c : Int) : Bool := l.any fun h => h.chan != 0 && h.chan == c
theorem onI_snoc (l : List Hd) (h : Hd) (c : Int) : onI (l ++ [h]) c = (onI l c || (h.chan != 0 && h.chan == c)) := by simp [onI]
def standI (a : Ag) (c : Int) : Stc := if a.awake then ⟨a.held.contains c, false, false⟩ else waitI a.arms c
end Go.Proofs.Ytjabdhmkibahlaa
namespace Go.Proofs.Ytjabdhmkibahlaa
open Go.RowKit
set_option linter.unusedVariables false
set_option linter.unusedSimpArgs false

structure Bx (p : Prop) : Prop where
  out : p
def I64 (x : Int) : Prop := -9223372036854775808 ≤ x ∧ x ≤ 9223372036854775807
theorem below1 (w : World) (o : Obj) : Below w.heap.size w (w.alloc o) := (Below.refl _ _).alloc (Nat.le_refl _) _
theorem two_new (w : World) (o o' : Obj) : Below w.heap.size w ((w.alloc o).alloc o') := (below1 _ _).trans ((below1 _ _).mono (by simp))
theorem below_drewN {B : Nat} {a w : World} (h : Below B a w) (n : Nat) : Below B a (w.drewN n) := ⟨h.os, h.tape, h.output, h.size, h.block⟩
theorem own_same {W W' : World} {base : Nat} {e : TypeId} {s : Nat} {v : Value} {n : Nat} {cs : List Value} (h : W.ownsRow base e s v n cs) (hb : ∀ g o, v.ownBlock = some g → W.heap[g]? = some o → W'.heap[g]? = some o) : W'.ownsRow base e s v n cs := by
  refine ⟨h.1, ?_⟩
  rcases h.2 with h1 | ⟨g, cap, cur, rfl, h2, h3, h4⟩
  · exact .inl h1
  · exact .inr ⟨g, cap, cur, rfl, h2, hb g _ rfl h3, h4⟩
theorem own_base {W : World} {base : Nat} {e : TypeId} {s : Nat} {v : Value} {n : Nat} {cs : List Value} (h : W.ownsRow base e s v n cs) : ∀ g, v.ownBlock = some g → base ≤ g := by
  intro g hg
  rcases h.2 with ⟨rfl, _⟩ | ⟨g', cap, cur, rfl, h2, _⟩
  · cases hg
  · cases hg; exact h2
theorem own_new {wr X : World} {base : Nat} {e : TypeId} {s : Nat} {v : Value} {n : Nat} {cs : List Value} (h : wr.ownsRow base e s v n cs) (hX : Below wr.heap.size wr X) : X.ownsRow base e s v n cs :=
  own_same h (fun g o _ hg => (hX.block g (Array.getElem?_eq_some_iff.1 hg).1).trans hg)
theorem own_low {W : World} {base base' : Nat} {e : TypeId} {s : Nat} {v : Value} {n : Nat} {cs : List Value} (h : W.ownsRow base e s v n cs) (hb : base' ≤ base) : W.ownsRow base' e s v n cs :=
  ⟨h.1, by
    rcases h.2 with h | ⟨g, cap, cur, e, h1, h2⟩
    · exact .inl h
    · exact .inr ⟨g, cap, cur, e, by omega, h2⟩⟩
theorem cell_of {W : World} {g : Nat} {us : Array Value} {t : TypeId} {fr : Nat × Nat} (h : W.heap[g]? = some (.cells us t fr)) {j : Nat} {v : Value} (hj : us[j]? = some v) : W.cell? ⟨g, j, none⟩ = some v := by
  simp only [World.cell?, h]
  simpa using hj
theorem block_cells (W : World) (g : Nat) (us : Array Value) (t : TypeId) (hg : W.heap[g]? = some (.cells us t (0, 0))) : ∀ (j : Nat) (x : Value), us.toList[j]? = some x → W.cell? ((⟨g, 0, none⟩ : Addr).add j) = some x := by
  intro j x hx
  have e : (⟨g, 0, none⟩ : Addr).add j = ⟨g, j, none⟩ := by
    cases j with
    | zero => simp [Addr.add]
    | succ j => simp [Addr.add]
  rw [e]
  simp only [World.cell?, hg]
  simpa using hx
theorem wpList_app {P : Program} (w : World) {ops : Array Oper} {rest : List Oper} {o : Oper} {a : Act} {Q : Exit → Act → World → Prop}
    (hg : o.guard = none) (s x : Operand) (t : TypeId) (hop : o.op = Op.call { callee := Callee.builtin Builtin.append, args := #[s, x], argTypes := #[t, t] })
    (base : Nat) (e : TypeId) (i : TypeInfo) (z : Value) (size bytes : Nat) (h1 : P.underlying t = some (.slice e)) (h2 : P.info? e = some i) (h3 : i.zero = some z) (h4 : i.size = size) (h5 : i.bytes = bytes) (h6 : z.cells.size = size) (h7 : 0 < size)
    (v : Value) (k : Nat) (xs : List Value) (hs : a.eval s = v) (hown : w.ownsRow base e size v k xs) (ad : Addr) (m c : Nat) (news : List Value) (hx : a.eval x = .slice (some ad) m c) (hn : news.length = m * size)
    (hc : ∀ j u, news[j]? = some u → w.cell? (ad.add j) = some u) (h1c : ∀ u ∈ news, u.oneCell' = true) (b0 : 0 < m) (b1 : k + m ≤ maxLen) (b2 : (k + m) * bytes ≤ 140737488355328) (b3 : base ≤ w.heap.size) (H : Nat) (hH : w.heap.size = H)
    (hK : ∀ g cap w', w'.ownsRow base e size (.slice (some ⟨g, 0, none⟩) (k + m) cap) (k + m) (xs ++ news) → w.grownBy w' v.ownBlock → (v.ownBlock = some g ∨ g = H) → g < w'.heap.size → wpList P ops Q rest (a.put o.dst (.slice (some ⟨g, 0, none⟩) (k + m) cap)) w') :
    wpList P ops Q (o :: rest) a w := by
  refine wpList_plain hg fun K hK' => ?_
  obtain ⟨g, cap, w', hrun, r1, r2, r3, r4⟩ := run_append_lies (P := P) w t o.type base e i z size bytes h1 h2 h3 h4 h5 h6 h7 v k xs hown ad m c news hn hc h1c b0 b1 b2 b3 H hH
  unfold Oper.wp
  simp [execOp, hop, resolve, invoke, builtin, hs, hx, hrun, Result.andThen]
  exact hK' _ _ (hK g cap w' r1 r2 r3 r4)
/-! ### agents in memory, to be read in every later world -/
structure HdsR (w : World) (p : Option Addr) (c : Nat) (l : List Hd) : Prop where
  len : l.length ≤ c
  max : c ≤ maxLen
  at_ : ∀ i (h : i < l.length), ∃ b o, p = some ⟨b, o, none⟩ ∧ I64 l[i].chan ∧ ∀ X, Below w.heap.size w X → X.cell? ⟨b, o + i * 2, none⟩ = some (.int .i64 l[i].chan) ∧ X.cell? ⟨b, o + i * 2 + 1, none⟩ = some (.bool l[i].send)
structure IntsR (w : World) (p : Option Addr) (c : Nat) (l : List Int) : Prop where
  len : l.length ≤ c
  max : c ≤ maxLen
  at_ : ∀ i (h : i < l.length), ∃ b o, p = some ⟨b, o, none⟩ ∧ I64 l[i] ∧ ∀ X, Below w.heap.size w X → X.cell? ⟨b, o + i, none⟩ = some (.int .i64 l[i])
theorem HdsR.later {w w' : World} {p : Option Addr} {c : Nat} {l : List Hd} (h : HdsR w p c l) (hb : Below w.heap.size w w') : HdsR w' p c l :=
  ⟨h.len, h.max, fun i hi => by obtain ⟨b, o, e, h6, h1⟩ := h.at_ i hi; exact ⟨b, o, e, h6, fun X hX => h1 X (hb.trans (hX.mono hb.size))⟩⟩
theorem IntsR.later {w w' : World} {p : Option Addr} {c : Nat} {l : List Int} (h : IntsR w p c l) (hb : Below w.heap.size w w') : IntsR w' p c l :=
  ⟨h.len, h.max, fun i hi => by obtain ⟨b, o, e, h6, h1⟩ := h.at_ i hi; exact ⟨b, o, e, h6, fun X hX => h1 X (hb.trans (hX.mono hb.size))⟩⟩
/-- an agent as a value -/
def agV (a : Ag) (ap : Option Addr) (ac : Nat) (hp : Option Addr) (hc : Nat) : Value := .agg #[.int .i64 a.id, .bool a.awake, .slice ap a.arms.length ac, .slice hp a.held.length hc]
structure AgR (w : World) (a : Ag) (ap : Option Addr) (ac : Nat) (hp : Option Addr) (hc : Nat) : Prop where
  id : I64 a.id
  arms : HdsR w ap ac a.arms
  held : IntsR w hp hc a.held
theorem AgR.later {w w' : World} {a : Ag} {ap hp : Option Addr} {ac hc : Nat} (h : AgR w a ap ac hp hc) (hb : Below w.heap.size w w') : AgR w' a ap ac hp hc := ⟨h.id, h.arms.later hb, h.held.later hb⟩
structure AgsR (w : World) (p : Option Addr) (c : Nat) (l : List Ag) : Prop where
  len : l.length ≤ c
  max : c ≤ maxLen
  at_ : ∀ i (h : i < l.length), ∃ b o ap ac hp hc, p = some ⟨b, o, none⟩ ∧ AgR w l[i] ap ac hp hc ∧ ∀ X, Below w.heap.size w X → X.cell? ⟨b, o + i * 4, none⟩ = some (.int .i64 l[i].id) ∧ X.cell? ⟨b, o + i * 4 + 1, none⟩ = some (.bool l[i].awake) ∧ X.cell? ⟨b, o + i * 4 + 2, none⟩ = some (.slice ap l[i].arms.length ac) ∧ X.cell? ⟨b, o + i * 4 + 3, none⟩ = some (.slice hp l[i].held.length hc)
theorem AgsR.later {w w' : World} {p : Option Addr} {c : Nat} {l : List Ag} (h : AgsR w p c l) (hb : Below w.heap.size w w') : AgsR w' p c l :=
  ⟨h.len, h.max, fun i hi => by obtain ⟨b, o, ap, ac, hp, hc, e, h6, h1⟩ := h.at_ i hi; exact ⟨b, o, ap, ac, hp, hc, e, h6.later hb, fun X hX => h1 X (hb.trans (hX.mono hb.size))⟩⟩

set_option maxRecDepth 100000 in
set_option maxHeartbeats 4000000 in
theorem rising_any (w : World) (p : Option Addr) (c : Nat) (l : List Int) (h : IntsR w p c l) :
    Calls Try.prog 53 #[.slice p l.length c] w fun e w' => e = .returned (.bool (risI l)) ∧ w' = w := by
  have hlc := h.len
  have hcm := h.max
  unfold maxLen at hcm
  go_enter Try.func53, Try.ntmps53
  go_wp2
  go_loopg [3, 8] l.length (fun k v3 v8 wr => ∃ (i : Nat) (x : Int), k = l.length - i ∧ i ≤ l.length ∧ v3 = .int .i64 x ∧ v8 = .int .i64 i ∧ Bx (risF x (l.drop i) = risI l ∧ wr = w))
  case atStart => exact ⟨0, 0, by simp, by omega, rfl, rfl, ⟨by simp [risI], rfl⟩⟩
  case round =>
    obtain ⟨i, x, hk, hil, rfl, rfl, HR⟩ := hrel
    obtain ⟨hr, rfl⟩ := HR.out
    clear HR
    by_cases hlt : i < l.length
    · obtain ⟨b, o, rfl, _, hc⟩ := h.at_ i hlt
      have c0 := hc wr (Below.refl _ _)
      have hd : l.drop i = l[i] :: l.drop (i + 1) := List.drop_eq_getElem_cons hlt
      rw [hd, risF] at hr
      clear h hc
      by_cases hx : l[i] ≤ x
      · have HF : Bx (risI l = false) := ⟨by rw [← hr, decide_eq_false (by omega), Bool.false_and]⟩
        clear hr hd
        go_wp2
        go_ret
        exact ⟨by rw [HF.out]; rfl, rfl⟩
      · have HF : Bx (risF l[i] (l.drop (i + 1)) = risI l) := ⟨by rw [← hr, decide_eq_true (by omega), Bool.true_and]⟩
        clear hr hd
        go_wp2
        go_roundg (l.length - (i + 1))
        case measure => omega
        case rel => exact ⟨i + 1, l[i], rfl, by omega, by simp, by simp, ⟨HF.out, rfl⟩⟩
    · have hie : i = l.length := by omega
      subst hie
      have HF : Bx (risI l = true) := ⟨by rw [← hr]; simp [risF]⟩
      clear hr
      go_wp2
      go_ret
      exact ⟨by rw [HF.out]; rfl, rfl⟩
end Go.Proofs.Ytjabdhmkibahlaa
namespace Go.Proofs.Ytjabdhmkibahlaa
open Go.RowKit
set_option linter.unusedVariables false
set_option linter.unusedSimpArgs false

/-! ### what is counted -/
def totA : List Ag → Nat
  | [] => 0
  | a :: r => a.arms.length + a.held.length + 1 + totA r
theorem totA_app (l m : List Ag) : totA (l ++ m) = totA l + totA m := by
  induction l with
  | nil => simp [totA]
  | cons a r ih => rw [List.cons_append, totA, totA, ih]; omega
theorem totA_take (l : List Ag) (i : Nat) (h : i < l.length) : totA (l.take (i + 1)) = totA (l.take i) + (l[i].arms.length + l[i].held.length + 1) := by
  rw [List.take_succ_eq_append_getElem h, totA_app]
  simp [totA]
structure CapN (x : Int) (t : Nat) : Prop where
  lo : (t : Int) ≤ 2147483647 → x = t
  hi : 2147483647 < (t : Int) → x = 2147483648
def moreN (n k : Int) : Int := if n + k ≤ 2147483647 then n + k else 2147483648
theorem moreN_r {n k : Int} (h : 0 ≤ n) (h' : 0 ≤ k) : 0 ≤ moreN n k ∧ moreN n k ≤ 2147483648 := by unfold moreN; split <;> omega
theorem CapN.more {x : Int} {t k : Nat} (h : CapN x t) : CapN (moreN x k) (t + k) := by
  obtain ⟨h1, h2⟩ := h
  unfold moreN
  constructor
  · intro h
    rw [h1 (by omega), if_pos (by omega)]
    omega
  · intro h
    by_cases ht : (t : Int) ≤ 2147483647
    · rw [h1 ht, if_neg (by omega)]
    · rw [h2 (by omega), if_neg (by omega)]
end Go.Proofs.Ytjabdhmkibahlaa
/-
  DERIVED: THE SHELF's CONTRACTS AT THIS DUMP, IN PLAIN WORDS (tools/lay-plain.mjs out of 'TryShelfS.lean', which tools/lay-shelf.mjs wrote): THE SAME DECLARATIONS UNDER THE SAME NAMES: 'import', 'namespace', 'open', 'def', 'theorem' AND NOTHING ELSE: no command of the shelf's: FOR A HAND-IN. Each laying: the table of numbers ('.._ren') and one theorem, a field a fact of the dump's own or the kernel's comparison; each contract: ONE APPLICATION.
-/
namespace Go.Proofs
open Go.Shelf
def Try.lays189_ren : Go.Shelf.Ren := ⟨fun | 189 => 59 | 125 => 74 | 257 => 73 | 128 => 94 | 129 => 95 | 294 => 86 | 295 => 87 | 296 => 88 | 297 => 89 | 298 => 90 | 299 => 91 | 216 => 70 | 300 => 92 | 301 => 93 | 328 => 98 | 329 => 99 | 330 => 100 | 331 => 101 | 332 => 102 | 215 => 85 | 343 => 103 | n => n, fun | 28 => 45 | 3 => 3 | 46 => 109 | 0 => 0 | 51 => 131 | 53 => 133 | 4 => 4 | 183 => 125 | 182 => 124 | 131 => 89 | 5 => 5 | 9 => 9 | 218 => 136 | 222 => 140 | 228 => 142 | 229 => 143 | n => n, fun | n => n⟩
theorem Try.lays189 : Go.Proofs.Lays.n189 Try.prog Try.lays189_ren := {
  mixed := by kernel_rfl
  f125 := Try.func74.trans (congrArg some (by kernel_rfl))
  f128 := Try.func94.trans (congrArg some (by kernel_rfl))
  f129 := Try.func95.trans (congrArg some (by kernel_rfl))
  f189 := Try.func59.trans (congrArg some (by kernel_rfl))
  f215 := Try.func85.trans (congrArg some (by kernel_rfl))
  f216 := Try.func70.trans (congrArg some (by kernel_rfl))
  f257 := Try.func73.trans (congrArg some (by kernel_rfl))
  f294 := Try.func86.trans (congrArg some (by kernel_rfl))
  f295 := Try.func87.trans (congrArg some (by kernel_rfl))
  f296 := Try.func88.trans (congrArg some (by kernel_rfl))
  f297 := Try.func89.trans (congrArg some (by kernel_rfl))
  f298 := Try.func90.trans (congrArg some (by kernel_rfl))
  f299 := Try.func91.trans (congrArg some (by kernel_rfl))
  f300 := Try.func92.trans (congrArg some (by kernel_rfl))
  f301 := Try.func93.trans (congrArg some (by kernel_rfl))
  f328 := Try.func98.trans (congrArg some (by kernel_rfl))
  f329 := Try.func99.trans (congrArg some (by kernel_rfl))
  f330 := Try.func100.trans (congrArg some (by kernel_rfl))
  f331 := Try.func101.trans (congrArg some (by kernel_rfl))
  f332 := Try.func102.trans (congrArg some (by kernel_rfl))
  f343 := Try.func103.trans (congrArg some (by kernel_rfl))
  t0 := Try.underlying0
  a0 := Try.isAgg0
  z0 := Try.sizeOf0
  v0 := Try.zeroValue0
  t3 := Try.underlying3
  a3 := Try.isAgg3
  z3 := Try.sizeOf3
  v3 := Try.zeroValue3
  t4 := Try.underlying4
  a4 := Try.isAgg4
  z4 := Try.sizeOf4
  v4 := Try.zeroValue4
  t5 := Try.underlying5
  a5 := Try.isAgg5
  z5 := Try.sizeOf5
  v5 := Try.zeroValue5
  t9 := Try.underlying9
  a9 := Try.isAgg9
  z9 := Try.sizeOf9
  v9 := Try.zeroValue9
  t28 := Try.underlying45
  a28 := Try.isAgg45
  z28 := Try.sizeOf45
  v28 := Try.zeroValue45
  t46 := Try.underlying109
  a46 := Try.isAgg109
  z46 := Try.sizeOf109
  v46 := Try.zeroValue109
  t51 := Try.underlying131
  a51 := Try.isAgg131
  z51 := Try.sizeOf131
  v51 := Try.zeroValue131
  t53 := Try.underlying133
  a53 := Try.isAgg133
  z53 := Try.sizeOf133
  v53 := Try.zeroValue133
  t131 := Try.underlying89
  a131 := Try.isAgg89
  z131 := Try.sizeOf89
  v131 := Try.zeroValue89
  t182 := Try.underlying124
  a182 := Try.isAgg124
  z182 := Try.sizeOf124
  v182 := Try.zeroValue124
  t183 := Try.underlying125
  a183 := Try.isAgg125
  z183 := Try.sizeOf125
  v183 := Try.zeroValue125
  t218 := Try.underlying136
  a218 := Try.isAgg136
  z218 := Try.sizeOf136
  v218 := Try.zeroValue136
  t222 := Try.underlying140
  a222 := Try.isAgg140
  z222 := Try.sizeOf140
  v222 := Try.zeroValue140
  t228 := Try.underlying142
  a228 := Try.isAgg142
  z228 := Try.sizeOf142
  v228 := Try.zeroValue142
  t229 := Try.underlying143
  a229 := Try.isAgg143
  z229 := Try.sizeOf143
  v229 := Try.zeroValue143 }
open Go.Sort Go.RowKit in
theorem Try.slices_Sort_int (blk off cap : Nat) (zs : List Int) (w : World) (hH : Holds (Value.int .i64) w blk off zs.toArray) (hblk : blk < w.heap.size) (hsz : zs.length < 4611686018427387904) :
    Calls Try.prog 59 #[.slice (some ⟨blk, off, none⟩) zs.length cap] w fun e w' =>
      e = .returned (.tuple #[]) ∧ ∃ n os, w' = grow (putRow (Value.int .i64) (Sort.ahead w n) blk off (zs.mergeSort fun x y => decide (x ≤ y)).toArray) os := Any.slices_Sort_int Try.lays189 blk off cap zs w hH hblk hsz
def Try.laysNm225_ren : Go.Shelf.Ren := ⟨fun | 25 => 54 | 31 => 70 | 32 => 71 | 37 => 85 | n => n, fun | 22 => 45 | 3 => 3 | 4 => 4 | 40 => 109 | 0 => 0 | n => n, fun | n => n⟩
theorem Try.laysNm225 : Go.Proofs.Lays2.n25 Try.prog Try.laysNm225_ren := {
  mixed := by kernel_rfl
  f25 := Try.func54.trans (congrArg some (by kernel_rfl))
  f31 := Try.func70.trans (congrArg some (by kernel_rfl))
  f32 := Try.func71.trans (congrArg some (by kernel_rfl))
  f37 := Try.func85.trans (congrArg some (by kernel_rfl))
  t0 := Try.underlying0
  a0 := Try.isAgg0
  z0 := Try.sizeOf0
  v0 := Try.zeroValue0
  t3 := Try.underlying3
  a3 := Try.isAgg3
  z3 := Try.sizeOf3
  v3 := Try.zeroValue3
  t4 := Try.underlying4
  a4 := Try.isAgg4
  z4 := Try.sizeOf4
  v4 := Try.zeroValue4
  t22 := Try.underlying45
  a22 := Try.isAgg45
  z22 := Try.sizeOf45
  v22 := Try.zeroValue45
  t40 := Try.underlying109
  a40 := Try.isAgg109
  z40 := Try.sizeOf109
  v40 := Try.zeroValue109 }
open Go.RowKit Go.Lib in
/-- slices.BinarySearch at []int: "BinarySearch searches for target in a sorted slice and returns the earliest position where target is found, or the position where target would appear in the sort order; it also returns a bool saying whether the target is really found in the slice. The slice must be sorted in increasing order.": OF A SORTED SLICE IT RETURNS how many elements are less than the target, and whether the target is among the elements; the world is as it was but for the count of draws. 'zs': what the cells behind the slice's address hold; 'zs.take n': its elements. (Of a slice that is not sorted: no contract here.) (LAID: no walk: one application.) -/
theorem Try.slices_BinarySearch_int (b off n c : Nat) (zs : List Int) (x : Int) (w : World) (hz : n ≤ zs.length) (hbig : n < 4611686018427387904) (hc : ∀ j, j < zs.length → w.cell? ⟨b, off + j, none⟩ = some (.int .i64 (zs.getD j 0))) (hs : (zs.take n).Pairwise (· ≤ ·)) :
    Calls Try.prog 54 #[.slice (some ⟨b, off, none⟩) n c, .int .i64 x] w fun e w' => e = .returned (.tuple #[.int .i64 ((zs.take n).countP (· < x) : Nat), .bool ((zs.take n).contains x)]) ∧ ∃ q, w' = w.drewN q := Any.slices_BinarySearch_int Try.laysNm225 b off n c zs x w hz hbig hc hs
open Go.RowKit Go.Sort in
/-- .. and plain. (LAID: no walk: one application.) -/
theorem Try.slices_Sort_int_none (p : Option Addr) (cap : Nat) (w : World) :
    Calls Try.prog 59 #[.slice p 0 cap] w fun e w' => e = .returned (.tuple #[]) ∧ w' = w := Any.slices_Sort_int_none Try.lays189 p cap w
open Go.RowKit Go.Lib in
/-- slices.BinarySearch at []int of no element: position 0, not found; the world is as it was. (LAID: no walk: one application.) -/
theorem Try.slices_BinarySearch_int_empty (a : Option Addr) (c : Nat) (x : Int) (w : World) :
    Calls Try.prog 54 #[.slice a 0 c, .int .i64 x] w fun e w' => e = .returned (.tuple #[.int .i64 0, .bool false]) ∧ w' = w := Any.slices_BinarySearch_int_empty Try.laysNm225 a c x w
end Go.Proofs
