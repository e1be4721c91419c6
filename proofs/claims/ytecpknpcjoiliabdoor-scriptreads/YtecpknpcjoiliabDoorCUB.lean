import Derived.Test.YtecpknpcjoiliabDoorCUL
import Derived.Test.YtecpknpcjoiliabDoorCShelf
import Derived.Lib.AppendStr
import Derived.Lib.UnsafeStr
import Derived.Lib.BufferKept
import Derived.Deep.AppendLies
import Derived.Deep.LoopGhost
namespace Go.Proofs.YtecpknpcjoiliabDoor
open Go.RowKit
set_option linter.unusedVariables false
set_option linter.unusedSimpArgs false

/-- bytes in a row of one's own -/
def BO (w : World) (B : Nat) (v : Value) (bs : List UInt8) : Prop := w.ownsRow B 5 1 v bs.length (Lib.byteCells bs)
theorem BO.own {w : World} {B : Nat} {v : Value} {bs : List UInt8} (h : BO w B v bs) : w.ownsRow B 5 1 v bs.length (Lib.byteCells bs) := h
theorem owns_same {W W' : World} {B : Nat} {e : TypeId} {s : Nat} {v : Value} {n : Nat} {cs : List Value} (h : W.ownsRow B e s v n cs) (hb : ∀ g, B ≤ g → g < W.heap.size → W'.heap[g]? = W.heap[g]?) : W'.ownsRow B e s v n cs := by
  refine ⟨h.1, ?_⟩
  rcases h.2 with hn | ⟨g, cap, cur, rfl, hB, hgg, rest⟩
  · exact .inl hn
  · exact .inr ⟨g, cap, cur, rfl, hB, by rw [hb g hB (Array.getElem?_eq_some_iff.1 hgg).1]; exact hgg, rest⟩
theorem owns_block {W : World} {B : Nat} {e : TypeId} {s : Nat} {v : Value} {n : Nat} {cs : List Value} (h : W.ownsRow B e s v n cs) {g : Nat} (hg : v.ownBlock = some g) : B ≤ g ∧ g < W.heap.size := by
  rcases h.2 with ⟨rfl, _⟩ | ⟨g', cap, cur, rfl, hB, hgg, rest⟩
  · cases hg
  · simp only [Value.ownBlock, Option.some.injEq] at hg
    subst hg
    exact ⟨hB, (Array.getElem?_eq_some_iff.1 hgg).1⟩
theorem infoU8 : (Tryd.prog.info? 5).map (fun i => (i.zero, i.size, i.bytes)) = some (some (.int .u8 0), 1, 1) := by kernel_rfl
theorem u8_news (X : World) (H : Nat) (hH : X.heap.size = H) (a : Value) : ∀ (j : Nat) (u : Value), [a][j]? = some u → (X.alloc (.cells #[a] 5)).cell? ((⟨H, 0, none⟩ : Addr).add j) = some u := by
  subst hH
  exact World.news_of_block (w := X.alloc (.cells #[a] 5)) (cs := #[a]) (heap_alloc_new X (.cells #[a] 5))
theorem u8_one (x : Int) : ∀ u ∈ [Value.int .u8 x], u.oneCell' = true := by
  intro u hu
  simp at hu
  subst hu
  rfl
theorem BO.alloc {w : World} {B : Nat} {v : Value} {bs : List UInt8} (h : BO w B v bs) (o : Obj) : BO (w.alloc o) B v bs := owns_same h fun g _ hg => (below1 w o).block g hg
/-- nothing below is turned, and above the rows of bytes alone are -/
structure KU (B : Nat) (w w' : World) : Prop where
  bel : Below B w w'
  oth : Lib.OthersKept 5 none w w'
theorem KU.refl (B : Nat) (w : World) : KU B w w := ⟨Below.refl _ _, Lib.OthersKept.refl _ _ _⟩
theorem KU.trans {B : Nat} {a b c : World} (h : KU B a b) (g : KU B b c) : KU B a c := ⟨h.bel.trans g.bel, h.oth.trans g.oth⟩
theorem KU.alloc {B : Nat} {a b : World} (h : KU B a b) (hB : B ≤ b.heap.size) (o : Obj) : KU B a (b.alloc o) := ⟨h.bel.alloc hB o, h.oth.alloc o⟩
theorem KU.below {B : Nat} {a b c : World} (h : KU B a b) (hB : B ≤ b.heap.size) (hb : Below b.heap.size b c) : KU B a c := ⟨h.bel.trans (hb.mono hB), h.oth.below hb⟩
theorem KU.size {B : Nat} {a b : World} (h : KU B a b) : a.heap.size ≤ b.heap.size := h.bel.size
/-- a block that is no row of bytes stands -/
theorem KU.block {B : Nat} {a b : World} (h : KU B a b) {x : Nat} {o : Obj} (hx : a.heap[x]? = some o) (hne : ∀ c fz, o ≠ .cells c 5 fz) : b.heap[x]? = some o := h.oth x o hx (fun e => by cases e) hne
theorem owns_kind {W : World} {B : Nat} {e : TypeId} {s : Nat} {v : Value} {n : Nat} {cs : List Value} (h : W.ownsRow B e s v n cs) : ∀ g, v.ownBlock = some g → ∃ c fz, W.heap[g]? = some (.cells c e fz) := by
  intro g hg
  rcases h.2 with ⟨rfl, _⟩ | ⟨g', cap, cur, rfl, hB, hgg, rest⟩
  · cases hg
  · simp only [Value.ownBlock, Option.some.injEq] at hg
    subst hg
    exact ⟨_, _, hgg⟩
theorem KU.grown {B : Nat} {a b c : World} {v : Value} {bs : List UInt8} (h : KU B a b) (hB : B ≤ b.heap.size) (hv : BO b B v bs) (hg : b.grownBy c v.ownBlock) : KU B a c := ⟨h.bel.grown hg hB fun x hx => (owns_block hv hx).1, h.oth.grown hg (owns_kind hv)⟩
/-- a row of numbers that stays -/
def IntsS (w : World) (B : Nat) (a : Option Addr) (cap : Nat) (ks : List Int) : Prop := ∀ w', KU B w w' → IntsV w' w'.heap.size a cap ks
theorem IntsS.on {w w' : World} {B cap : Nat} {a : Option Addr} {ks : List Int} (h : IntsS w B a cap ks) (hk : KU B w w') : IntsS w' B a cap ks := fun w2 h2 => h w2 (hk.trans h2)
theorem IntsS.of {w : World} {B cap : Nat} {a : Option Addr} {ks : List Int} (h : IntsV w B a cap ks) (hB : B ≤ w.heap.size) : IntsS w B a cap ks := fun w' hk => (h.below hk.bel).up (Nat.le_trans hB hk.size)
/-- numbers that were written out -/
theorem IntsS.new {w : World} {B b : Nat} {cs : Array Value} {ks : List Int} (hb : w.heap[b]? = some (.cells cs 3 (0, 0))) (hc : cs.toList = ks.map (Value.int .i64)) (hm : ks.length ≤ maxLen) : IntsS w B (some ⟨b, 0, none⟩) ks.length ks := fun w' hk => by
  have h1 := hk.block hb (fun c fz e => by injection e with _ e; exact absurd e (by decide))
  refine ⟨Nat.le_refl _, hm, fun _ => ⟨b, 0, rfl, (Array.getElem?_eq_some_iff.1 h1).1, fun i hi => ?_⟩⟩
  rw [Nat.zero_add, World.cell?]
  simp only [h1]
  have e := congrArg (·[i]?) hc
  simp only [Array.getElem?_toList, List.getElem?_map, List.getElem?_eq_getElem hi, Option.map_some] at e
  simpa using e
/-- a byte behind them -/
theorem BO.push {w w8 : World} {B : Nat} {v : Value} {bs : List UInt8} {c : UInt8} {o : Obj} {w0 : World} (h : BO w B v bs) (hb : KU B w0 w) (hB : B ≤ w.heap.size) {g cp : Nat} (hg : (w.alloc o).grownBy w8 v.ownBlock)
    (ho : w8.ownsRow B 5 1 (.slice (some ⟨g, 0, none⟩) (bs.length + 1) cp) (bs.length + 1) (Lib.byteCells bs ++ [.int .u8 c.toNat])) : BO w8 B (.slice (some ⟨g, 0, none⟩) (bs.length + 1) cp) (bs ++ [c]) ∧ KU B w0 w8 := by
  refine ⟨?_, (hb.alloc hB o).grown (by simp; omega) (h.alloc o) hg⟩
  unfold BO
  rw [Lib.byteCells_append, List.length_append]
  exact ho
theorem nums_take {ks : List Int} {k : Nat} (h : k < ks.length) : numsT (ks.take (k + 1)) = numsT (ks.take k) ++ [32] ++ Lib.itoa ks[k] := by
  unfold numsT
  rw [List.take_succ_eq_append_getElem h, List.flatMap_append, List.append_assoc]
  congr 1
  simp
theorem dec_len : ∀ (k u : Nat), u < 10 ^ (k + 1) → (Lib.decDigits u).length ≤ k + 1
  | 0, u, h => by rw [Lib.decDigits, dif_pos (by omega)]; simp
  | k + 1, u, h => by
    rw [Lib.decDigits]
    split
    · simp
    · rw [List.length_append]
      have := dec_len k (u / 10) (by rw [Nat.pow_succ] at h; omega)
      simp only [List.length_cons, List.length_nil]
      omega
theorem itoa_len {n : Int} (h : I64 n) : (Lib.itoa n).length ≤ 20 := by
  obtain ⟨h1, h2⟩ := h
  unfold Lib.itoa
  split
  · have := dec_len 18 n.natAbs (by omega)
    simp only [List.length_cons]
    omega
  · have := dec_len 18 n.toNat (by omega)
    omega
theorem nums_le {ks : List Int} (h : ∀ k ∈ ks, I64 k) : (numsT ks).length ≤ 21 * ks.length := by
  induction ks with
  | nil => simp [numsT]
  | cons x r ih =>
    have h1 := ih fun k hk => h k (List.mem_cons_of_mem _ hk)
    have h2 := itoa_len (h x List.mem_cons_self)
    have e : numsT (x :: r) = 32 :: (Lib.itoa x ++ numsT r) := by simp [numsT]
    rw [e, List.length_cons, List.length_append, List.length_cons]
    omega
abbrev PowAt (B : Nat) (w : World) : Prop := Lib.TabBelow Tryd.prog B w "internal/strconv.uint64pow10" .u64 Lib.pow10Tab

/-- nothing is turned but v's own row; what comes of it lies there, or is new -/
structure KV (B : Nat) (v v' : Value) (w w' : World) : Prop where
  ku : KU B w w'
  blk : ∀ x, x < w.heap.size → v.ownBlock ≠ some x → w'.heap[x]? = w.heap[x]?
  lie : ∀ g, v'.ownBlock = some g → v.ownBlock = some g ∨ w.heap.size ≤ g
theorem KV.refl (B : Nat) (v : Value) (w : World) : KV B v v w w := ⟨KU.refl _ _, fun _ _ _ => rfl, fun g h => Or.inl h⟩
theorem KV.trans {B : Nat} {v v1 v2 : Value} {w w1 w2 : World} (h : KV B v v1 w w1) (g : KV B v1 v2 w1 w2) : KV B v v2 w w2 := by
  have hs := h.ku.size
  refine ⟨h.ku.trans g.ku, fun x hx hne => ?_, fun y hy => ?_⟩
  · rw [g.blk x (by omega) (fun e => by
      rcases h.lie x e with e | e
      · exact hne e
      · omega)]
    exact h.blk x hx hne
  · rcases g.lie y hy with e | e
    · exact h.lie y e
    · right; omega
/-- what is new only -/
theorem KV.new {B : Nat} {v : Value} {w w' : World} (hB : B ≤ w.heap.size) (h : Below w.heap.size w w') : KV B v v w w' := ⟨(KU.refl B w).below hB h, fun x hx _ => h.block x hx, fun g h => Or.inl h⟩
theorem KV.grown {B : Nat} {v v' : Value} {bs : List UInt8} {w w' : World} (hB : B ≤ w.heap.size) (hv : BO w B v bs) (hg : w.grownBy w' v.ownBlock) (hl : ∀ g, v'.ownBlock = some g → v.ownBlock = some g ∨ w.heap.size ≤ g) : KV B v v' w w' :=
  ⟨(KU.refl B w).grown hB hv hg, fun x hx hne => hg.block x hx (fun e => hne e.symm), hl⟩
theorem KV.drew {B : Nat} {v v' : Value} {w w' : World} (h : KV B v v' w w') : KV B v v' w w'.drew := ⟨⟨h.ku.bel.drew, h.ku.oth.drew⟩, h.blk, h.lie⟩
/-- a string behind them: where it lies -/
theorem str_lies (w : World) (B : Nat) (v : Value) (bs : List UInt8) (ho : BO w B v bs) (s : List UInt8) (hm : bs.length + s.length ≤ 140737488355328) (hB : B ≤ w.heap.size) (ty : TypeId) :
    ∃ v' w', (Builtin.append_ #[55, 9] ty #[v, strV s]).run Tryd.prog w = .ok v' w' ∧ BO w' B v' (bs ++ s) ∧ KV B v v' w w' := by
  obtain ⟨i0, hi, hz0, hz1, hz2⟩ := info_parts infoU8
  have hsz : (⟨s.toArray⟩ : ByteArray).size = s.length := by simp [ByteArray.size]
  obtain ⟨v', w', hr, h1, h2, h3⟩ := Lib.run_append_own_string (P := Tryd.prog) w B 55 9 ty 5 i0 Tryd.underlying55 Tryd.underlying9 hi hz0 hz1 hz2 v bs.length (Lib.byteCells bs) ho.own ⟨s.toArray⟩ (by rw [hsz]; unfold maxLen; omega) (by rw [hsz]; omega) hB
  refine ⟨v', w', hr, ?_, KV.grown hB ho h2 ?_⟩
  · unfold BO
    rw [List.length_append, Lib.byteCells_append]
    rw [hsz] at h1
    simpa [Lib.strCells_eq] using h1
  · intro g hg
    rcases ho.own.2 with ⟨rfl, hn⟩ | ⟨g0, cap, cur, rfl, hbg, hg0, hnc, hcm, hcs, htake⟩
    · by_cases hm0 : s.length = 0
      · have hs0 : s = [] := List.eq_nil_of_length_eq_zero hm0
        have := h3.2 ⟨rfl, by rw [hsz]; exact hm0⟩
        subst this
        cases hg
      · have hr2 := run_append_nil_string (P := Tryd.prog) w 55 9 ty 5 i0 (.int .u8 0) Tryd.underlying55 Tryd.underlying9 hi hz0 ⟨s.toArray⟩ (by rw [hsz]; omega) (by rw [hsz]; omega) (by rw [hz2, hsz]; omega)
        rw [hr2] at hr
        injection hr with e1 e2
        subst e1
        simp only [Value.ownBlock, Option.some.injEq] at hg
        right; omega
    · by_cases hroom : bs.length + (⟨s.toArray⟩ : ByteArray).size ≤ cap
      · have hcs' : cur.size = cap := by simpa using hcs
        have hr2 := Lib.run_append_room_string (P := Tryd.prog) w 55 9 ty 5 i0 Tryd.underlying55 Tryd.underlying9 hi hz1 g0 bs.length cap cur hg0 ⟨s.toArray⟩ hroom (by omega)
        rw [hr2] at hr
        injection hr with e1 e2
        subst e1
        simp only [Value.ownBlock, Option.some.injEq] at hg ⊢
        exact Or.inl hg
      · have holds : ∀ j u, (Lib.byteCells bs)[j]? = some u → w.cell? ((⟨g0, 0, none⟩ : Addr).add j) = some u := World.ownsRow.cells ho.own (g := g0) rfl
        have hr2 := Lib.run_append_grow_string (P := Tryd.prog) w 55 9 ty 5 i0 (.int .u8 0) Tryd.underlying55 Tryd.underlying9 hi hz0 ⟨g0, 0, none⟩ bs.length cap (Lib.byteCells bs) (by rw [hz1, Lib.byteCells_length]; omega) holds ⟨s.toArray⟩ (by omega) (by rw [hsz]; omega) (by rw [hz2]; exact growslice_fits (by omega) (by omega))
        rw [hr2] at hr
        injection hr with e1 e2
        subst e1
        simp only [Value.ownBlock, Option.some.injEq] at hg
        right; omega
/-- a string behind them, for the walk -/
theorem wpList_str {w w' : World} {ops : Array Oper} {rest : List Oper} {o : Oper} {a : Act} {Q : Exit → Act → World → Prop} (hgd : o.guard = none) (s x : Operand) (t u : TypeId)
    (ho : o.op = .call { callee := .builtin .append, args := #[s, x], argTypes := #[t, u] }) {v z r : Value} (hs : a.eval s = v) (hx : a.eval x = z) (hr : (Builtin.append_ #[t, u] o.type #[v, z]).run Tryd.prog w = .ok r w')
    (h : wpList Tryd.prog ops Q rest (a.put o.dst r) w') : wpList Tryd.prog ops Q (o :: rest) a w := by
  refine wpList_plain hgd fun K hK => ?_
  unfold Oper.wp
  simp [execOp, ho, resolve, invoke, builtin, hs, hx, hr, Result.andThen]
  exact hK _ _ h
end Go.Proofs.YtecpknpcjoiliabDoor
