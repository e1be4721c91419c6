import Derived.Test.YtadmpgegolmkgaaDoorCWlB
import Derived.Test.YtadmpgegolmkgaaDoorCWlC
import Derived.Test.YtadmpgegolmkgaaDoorCWlD
import Derived.Test.YtadmpgegolmkgaaDoorCWlE
import Derived.Test.YtadmpgegolmkgaaDoorCWlF
import Derived.Test.YtadmpgegolmkgaaDoorCWlG
import Derived.Test.YtadmpgegolmkgaaDoorCWlP
import Derived.Test.YtadmpgegolmkgaaDoorCWkH
import Derived.Test.YtadmpgegolmkgaaDoorCDP
import Derived.Deep.AppendLies
import Derived.Deep.RegionWith
namespace Go.Proofs.YtadmpgegolmkgaaDoor
open Go.RowKit Go.MapKept Go.ChangeMaps Go.WideShapes
set_option linter.unusedVariables false
set_option linter.unusedSimpArgs false

/-- **LOOK**: whatever instruction, whatever way it is come to -/
theorem look_any {w : World} {wb : Nat} {g : WG} {A : WA} {L gb : Nat} {P : Prs} {K : List Wy} {D : Nat → Bool} {B : Nat} {code : List CIn} {ca : Option Addr} {cc i : Nat} {x : CIn} {p : Wy} {res : Bool} (h : LkE w wb g A L gb P K D B code ca cc i x p res) (hL : L < 60) (hP : P.length + L < 1099511627776) {sl : Int} (hx : LkX code.length sl i x) (hsl : sl ≤ 65536) (hng : code.length ≤ g.n) (hs : vsP L P p.2) (hp2 : p.1 < 2305843009213693952) :
    Calls Tryd.prog 44 #[.pointer (some ⟨wb, 0, none⟩), .int .i64 (i : Int)] w fun e w' => e = .returned (.int .i64 (lookP code.length res L i x p ⟨P, K, D⟩).1) ∧ Bx (WkPost w wb g A L gb (lookP code.length res L i x p ⟨P, K, D⟩).2.P (lookP code.length res L i x p ⟨P, K, D⟩).2.K (lookP code.length res L i x p ⟨P, K, D⟩).2.D w') := by
  have hil := (List.getElem?_eq_some_iff.1 h.hx).1
  unfold lookP
  by_cases hl : (p.1 : Int) - 1 < popsI x
  · simp only [if_pos hl]
    refine (look_less h hl).mono ?_
    rintro e w' ⟨rfl, hb⟩
    exact ⟨rfl, ⟨WkPost.refl h.wk hb.out⟩⟩
  · simp only [if_neg hl]
    obtain ⟨a1, a2, a3⟩ := abN_eq hl hx.pop hx.push
    have ha5 : x.op = 5 ∨ x.op = 6 → 0 ≤ x.a ∧ x.a ≤ 2147483648 := fun e => by have := hx.a (by omega); omega
    by_cases h25 : x.op = 25
    · simp only [if_pos h25]
      have ho : (x.op == 4 || x.op == 6 || x.op == 16) = false := by simp [h25]
      have hg : (!(x.op == 19 || x.op == 21 || x.op == 25 || x.op == 27)) = false := by simp [h25]
      by_cases hr : (p.1 : Int) - 1 = if res then 1 else 0
      · simp only [if_pos hr]
        have ht : TgOk g.n i x := ⟨fun e => by omega, fun e => by omega, fun e1 e2 e3 e4 => absurd h25 e3⟩
        have hn : ∀ q, nextsI i x q = [] := fun q => by unfold nextsI; rw [if_pos h25]
        have hpa : past L P p.2 x.op x.a = (P, p.2) := by unfold past; rw [if_neg (by omega), if_neg (by omega)]
        have := look_on_r h hl ho h25 hg hr hL hP ha5 hs ht hx.push hx.pop (abN x p) (by omega) a1 true (by rw [hn]; rfl)
        rw [hn, hpa] at this
        exact this
      · simp only [if_neg hr]
        refine (look_ret h hl h25 hr).mono ?_
        rintro e w' ⟨rfl, hb⟩
        exact ⟨rfl, ⟨WkPost.refl h.wk hb.out⟩⟩
    · simp only [if_neg h25]
      by_cases hn : needB x.op = true
      · have ho : (x.op == 4 || x.op == 6 || x.op == 16) = true := hn
        have hop : x.op = 4 ∨ x.op = 6 ∨ x.op = 16 := by
          simp at ho
          omega
        have hg : (!(x.op == 19 || x.op == 21 || x.op == 25 || x.op == 27)) = true := by
          simp
          omega
        have ha4 : 0 ≤ x.a ∧ x.a ≤ 2147483648 := by have := hx.a (by omega); omega
        cases hd : den L P p.2 x.a.toNat with
        | false =>
          rw [if_pos ⟨hn, rfl⟩]
          exact look_93 h hl ho hL ha4 hs hd
        | true =>
          rw [if_neg (fun e => by cases e.2)]
          by_cases he : i + 1 = code.length
          · rw [if_pos ⟨hg, he⟩]
            exact look_96y h hl ho hg he hL ha4 hs hd
          · rw [if_neg (fun e => he e.2)]
            have ht0 := hx.tgok hil fun e => he e.2
            have ht : TgOk g.n i x := ⟨fun e => by have := ht0.a e; omega, fun e => ⟨(ht0.arms e).1, fun j q => by have := (ht0.arms e).2 j q; omega⟩, fun e1 e2 e3 e4 => by have := ht0.on e1 e2 e3 e4; omega⟩
            cases hr : (goP L i x p ⟨P, K, D⟩).1 with
            | true => exact look_on_y h hl ho h25 hg he hL hP ha5 hs ht hx.push hx.pop (abN x p) (by omega) a1 true hr ha4 hd
            | false => exact look_on_y h hl ho h25 hg he hL hP ha5 hs ht hx.push hx.pop (abN x p) (by omega) a1 false hr ha4 hd
      · have ho : (x.op == 4 || x.op == 6 || x.op == 16) = false := by
          cases hh : (x.op == 4 || x.op == 6 || x.op == 16) with
          | false => rfl
          | true => exact absurd hh hn
        rw [if_neg fun e => hn e.1]
        by_cases hb : behB x.op = true
        · have hg : (!(x.op == 19 || x.op == 21 || x.op == 25 || x.op == 27)) = true := hb
          by_cases he : i + 1 = code.length
          · rw [if_pos ⟨hb, he⟩]
            exact look_96n h hl ho hg he
          · rw [if_neg fun e => he e.2]
            have ht0 := hx.tgok hil fun e => he e.2
            have ht : TgOk g.n i x := ⟨fun e => by have := ht0.a e; omega, fun e => ⟨(ht0.arms e).1, fun j q => by have := (ht0.arms e).2 j q; omega⟩, fun e1 e2 e3 e4 => by have := ht0.on e1 e2 e3 e4; omega⟩
            cases hr : (goP L i x p ⟨P, K, D⟩).1 with
            | true => exact look_on_nb h hl ho h25 hg he hL hP ha5 hs ht hx.push hx.pop (abN x p) (by omega) a1 true hr
            | false => exact look_on_nb h hl ho h25 hg he hL hP ha5 hs ht hx.push hx.pop (abN x p) (by omega) a1 false hr
        · have hg : (!(x.op == 19 || x.op == 21 || x.op == 25 || x.op == 27)) = false := by
            cases hh : (!(x.op == 19 || x.op == 21 || x.op == 25 || x.op == 27)) with
            | false => rfl
            | true => exact absurd hh hb
          rw [if_neg fun e => hb e.1]
          have ht0 := hx.tgok hil fun e => hb e.1
          have ht : TgOk g.n i x := ⟨fun e => by have := ht0.a e; omega, fun e => ⟨(ht0.arms e).1, fun j q => by have := (ht0.arms e).2 j q; omega⟩, fun e1 e2 e3 e4 => by have := ht0.on e1 e2 e3 e4; omega⟩
          cases hr : (goP L i x p ⟨P, K, D⟩).1 with
          | true => exact look_on_ng h hl ho h25 hg hL hP ha5 hs ht hx.push hx.pop (abN x p) (by omega) a1 true hr
          | false => exact look_on_ng h hl ho h25 hg hL hP ha5 hs ht hx.push hx.pop (abN x p) (by omega) a1 false hr
end Go.Proofs.YtadmpgegolmkgaaDoor
namespace Go.Proofs.YtadmpgegolmkgaaDoor
open Go.RowKit
set_option linter.unusedVariables false
set_option linter.unusedSimpArgs false

/-- what is due, of at most 64 instructions: one word -/
structure Due (w : World) (db eb dc : Nat) (x : Int) : Prop where
  d0 : w.cell? ⟨db, 0, none⟩ = some (.slice (some ⟨eb, 0, none⟩) 1 1)
  e0 : w.heap[eb]? = some (.cells #[.int .u64 x] 63 (0, 0))
  cap : 1 ≤ dc
  ne : db ≠ eb
theorem Due.lt {w : World} {db eb dc : Nat} {x : Int} (h : Due w db eb dc x) : eb < w.heap.size ∧ db < w.heap.size := ⟨(Array.getElem?_eq_some_iff.1 h.e0).1, World.block_lt_of_cell? w _ h.d0⟩
theorem Due.put {w : World} {db eb dc : Nat} {x : Int} (h : Due w db eb dc x) (k : Nat) (u : Int) : Due ((w.drewN k).setCell ⟨eb, 0, none⟩ (.int .u64 u)) db eb dc u :=
  ⟨by rw [World.cell?_of_block (w := w) (Below.heap_setCell (w.drewN k) ⟨eb, 0, none⟩ _ db h.ne)]; exact h.d0, one_setCell (w := w.drewN k) h.e0, h.cap, h.ne⟩
set_option maxRecDepth 100000 in
set_option maxHeartbeats 1000000 in
theorem add_any (n : Nat) (hn : n < 3) (w : World) (db eb dc : Nat) (hD : Due w db eb dc 0) :
    Calls Tryd.prog 60 #[.slice (some ⟨db, 0, none⟩) 1 dc, .int .i64 n] w fun e w' => e = .returned (.tuple #[]) ∧ Bx (Due w' db eb dc ((2 ^ n : Nat) : Int) ∧ Fx (· = eb) w w') := by
  have d0 := hD.d0
  have e0 : w.cell? ⟨eb, 0, none⟩ = some (.int .u64 0) := (cell_of_row w _ 0 _ _ _ hD.e0).trans rfl
  have ef : w.frozen? ⟨eb, 0, none⟩ = false := by simp [World.frozen?, hD.e0]
  have hc := hD.cap
  have o0 : bits BinOp.or IntKind.u64 0 1 = 1 := by kernel_rfl
  have o1 : bits BinOp.or IntKind.u64 0 2 = 2 := by kernel_rfl
  have o2 : bits BinOp.or IntKind.u64 0 4 = 4 := by kernel_rfl
  have HE : Bx (∀ k u, Due ((w.drewN k).setCell ⟨eb, 0, none⟩ (.int .u64 u)) db eb dc u ∧ Fx (· = eb) w ((w.drewN k).setCell ⟨eb, 0, none⟩ (.int .u64 u))) := ⟨fun k u => ⟨hD.put k u, Fx.set (p := ⟨eb, 0, none⟩) ((Fx.refl (· = eb) w).drewN k) (.inl rfl) _⟩⟩
  clear hD
  rcases (show n = 0 ∨ n = 1 ∨ n = 2 by omega) with rfl | rfl | rfl
  all_goals
    go_enter Tryd.func60, Tryd.ntmps60
    go_wp2
    go_rounds 2
    go_region
    go_wp2
    rw [rounds_succ]
    go_wp2
    go_returns
    exact ⟨rfl, ⟨HE.out _ _⟩⟩
set_option maxRecDepth 100000 in
set_option maxHeartbeats 1000000 in
theorem drop_any (n : Nat) (hn : n < 3) (w : World) (db eb dc : Nat) (hD : Due w db eb dc ((2 ^ n : Nat) : Int)) :
    Calls Tryd.prog 64 #[.slice (some ⟨db, 0, none⟩) 1 dc, .int .i64 n] w fun e w' => e = .returned (.tuple #[]) ∧ Bx (Due w' db eb dc 0 ∧ Fx (· = eb) w w') := by
  have d0 := hD.d0
  have e0 : w.cell? ⟨eb, 0, none⟩ = some (.int .u64 ((2 ^ n : Nat) : Int)) := (cell_of_row w _ 0 _ _ _ hD.e0).trans rfl
  have ef : w.frozen? ⟨eb, 0, none⟩ = false := by simp [World.frozen?, hD.e0]
  have hc := hD.cap
  have o0 : bits BinOp.andNot IntKind.u64 1 1 = 0 := by kernel_rfl
  have o1 : bits BinOp.andNot IntKind.u64 2 2 = 0 := by kernel_rfl
  have o2 : bits BinOp.andNot IntKind.u64 4 4 = 0 := by kernel_rfl
  have hne : db ≠ eb := hD.ne
  have HE : Bx (∀ k u, Due ((w.drewN k).setCell ⟨eb, 0, none⟩ (.int .u64 u)) db eb dc u ∧ Fx (· = eb) w ((w.drewN k).setCell ⟨eb, 0, none⟩ (.int .u64 u))) := ⟨fun k u => ⟨hD.put k u, Fx.set (p := ⟨eb, 0, none⟩) ((Fx.refl (· = eb) w).drewN k) (.inl rfl) _⟩⟩
  clear hD
  rcases (show n = 0 ∨ n = 1 ∨ n = 2 by omega) with rfl | rfl | rfl
  all_goals
    simp only [Nat.reducePow] at e0
    go_enter Tryd.func64, Tryd.ntmps64
    go_wp2
    go_rounds 2
    go_region
    go_wp2
    rw [rounds_succ]
    go_wp2
    go_returns
    exact ⟨rfl, ⟨HE.out _ _⟩⟩
set_option maxRecDepth 100000 in
set_option maxHeartbeats 1000000 in
theorem take_no (w : World) (db eb dc : Nat) (hD : Due w db eb dc 0) :
    Calls Tryd.prog 43 #[.slice (some ⟨db, 0, none⟩) 1 dc] w fun e w' => e = .returned (.tuple #[.int .i64 0, .bool false]) ∧ w = w' := by
  have d0 := hD.d0
  have e0 : w.cell? ⟨eb, 0, none⟩ = some (.int .u64 0) := (cell_of_row w _ 0 _ _ _ hD.e0).trans rfl
  have hc := hD.cap
  clear hD
  go_enter Tryd.func43, Tryd.ntmps43
  go_wp2
  go_rounds 2
  go_returns
  exact ⟨rfl, rfl⟩
set_option maxRecDepth 100000 in
set_option maxHeartbeats 1000000 in
theorem take_yes (n : Nat) (hn : n < 3) (w : World) (hV : VW w) (db eb dc : Nat) (hD : Due w db eb dc ((2 ^ n : Nat) : Int)) :
    Calls Tryd.prog 43 #[.slice (some ⟨db, 0, none⟩) 1 dc] w fun e w' => e = .returned (.tuple #[.int .i64 n, .bool true]) ∧ Bx (Due w' db eb dc 0 ∧ Fx (· = eb) w w') := by
  have d0 := hD.d0
  have e0 : w.cell? ⟨eb, 0, none⟩ = some (.int .u64 ((2 ^ n : Nat) : Int)) := (cell_of_row w _ 0 _ _ _ hD.e0).trans rfl
  have hc := hD.cap
  have HT := tz_any n hn w hV
  have HD := drop_any n hn w db eb dc hD
  clear hD hV
  have hp : (((2 ^ n : Nat) : Int) == 0) = false := by
    rcases (show n = 0 ∨ n = 1 ∨ n = 2 by omega) with rfl | rfl | rfl <;> rfl
  generalize ((2 ^ n : Nat) : Int) = x at *
  go_enter Tryd.func43, Tryd.ntmps43
  go_wp2
  refine wp_loop_rounds 2 ?_
  rw [rounds_succ]
  go_wp2_with (first
    | (go_at_call 63; refine HT.mono ?_; rintro e w1 ⟨rfl, rfl⟩))
  rw [rounds_succ]
  go_wp2_with (first
    | (go_at_call 64; refine HD.mono ?_; rintro e w1 ⟨rfl, HX⟩))
  go_returns
  exact ⟨rfl, HX⟩
end Go.Proofs.YtadmpgegolmkgaaDoor
namespace Go.Proofs.YtadmpgegolmkgaaDoor
open Go.RowKit
set_option linter.unusedVariables false
set_option linter.unusedSimpArgs false

theorem wpList_appY {P : Program} {w w' : World} {ops : Array Oper} {rest : List Oper} {o : Oper} {a : Act} {Q : Exit → Act → World → Prop} (hgd : o.guard = none) (s x : Operand) (t : TypeId)
    (ho : o.op = .call { callee := .builtin .append, args := #[s, x], argTypes := #[t, t] }) {v u r : Value} (hs : a.eval s = v) (hx : a.eval x = u) (hr : ∀ ty, (Builtin.append_ #[t, t] ty #[v, u]).run P w = .ok r w')
    (h : wpList P ops Q rest (a.put o.dst r) w') : wpList P ops Q (o :: rest) a w := by
  refine wpList_plain hgd fun K hK => ?_
  unfold Oper.wp
  simp [execOp, ho, resolve, invoke, builtin, hs, hx, hr, Result.andThen]
  exact hK _ _ h
theorem infoDu : (Tryd.prog.info? 115).map (fun i => (i.zero, i.size, i.bytes)) = some (some (.slice none 0 0), 1, 24) := by kernel_rfl
set_option maxHeartbeats 1000000 in
theorem due_steps (w : World) : ∃ g c W3, (∀ ty, (Builtin.append_ #[69, 69] ty #[.slice none 0 0, .slice (some ⟨w.heap.size + 1, 0, none⟩) 1 1]).run Tryd.prog ((w.alloc (.cells #[.int .u64 0] 63)).alloc (.cells #[.slice (some ⟨w.heap.size, 0, none⟩) 1 1] 115)) = .ok (.slice (some ⟨g, 0, none⟩) 1 c) W3) ∧ Bx (Due W3 g w.heap.size c 0 ∧ Below w.heap.size w W3 ∧ w.heap.size ≤ g) := by
  obtain ⟨i0, hi0, hz0, hz1, hz2⟩ := info_parts infoDu
  obtain ⟨W1, hW1⟩ : ∃ W1, w.alloc (.cells #[.int .u64 0] 63) = W1 := ⟨_, rfl⟩
  rw [hW1]
  have s1 : W1.heap.size = w.heap.size + 1 := by rw [← hW1]; simp
  have b1 : Below w.heap.size w W1 := by rw [← hW1]; exact below1 w _
  have q1 : W1.heap[w.heap.size]? = some (.cells #[.int .u64 0] 63 (0, 0)) := by rw [← hW1]; exact heap_alloc_new w _
  have b2 : Below W1.heap.size W1 (W1.alloc (.cells #[.slice (some ⟨w.heap.size, 0, none⟩) 1 1] 115)) := below1 W1 _
  obtain ⟨g, c, W3, r1, r2, r3, r4, r5⟩ := run_append_lies (P := Tryd.prog) (W1.alloc (.cells #[.slice (some ⟨w.heap.size, 0, none⟩) 1 1] 115)) 69 69 (w.heap.size + 2) 115 i0 (.slice none 0 0) 1 24 Tryd.underlying69 hi0 hz0 hz1 hz2 rfl (by decide) (.slice none 0 0) 0 [] ⟨rfl, .inl ⟨rfl, rfl⟩⟩ ⟨w.heap.size + 1, 0, none⟩ 1 1 [.slice (some ⟨w.heap.size, 0, none⟩) 1 1] rfl (by
    have := World.news_of_block (w := W1.alloc (.cells #[.slice (some ⟨w.heap.size, 0, none⟩) 1 1] 115)) (cs := #[.slice (some ⟨w.heap.size, 0, none⟩) 1 1]) (heap_alloc_new W1 _)
    rw [s1] at this
    exact this) (by intro u hu; simp at hu; subst hu; rfl) (by decide) (by unfold maxLen; omega) (by omega) (by simp [s1]) _ rfl
  have b3 : Below (w.heap.size + 1) W1 W3 := (b2.mono (by omega)).grown r3 (by simp; omega) (fun k e => by cases e)
  have hge : w.heap.size + 2 ≤ g := by
    rcases r2.2 with ⟨h, _⟩ | ⟨g', c', cur, e, hge, _⟩
    · cases h
    · cases e; exact hge
  refine ⟨g, c, W3, fun ty => r1, ⟨?_, b1.trans (b3.mono (by omega)), by omega⟩⟩
  rcases r2.2 with ⟨h, _⟩ | ⟨g', c', cur, e, hge', hblk, hle, hcm, hsz, htk⟩
  · cases h
  · cases e
    refine ⟨?_, (b3.block _ (by omega)).trans q1, by omega, by omega⟩
    rw [World.cell?]
    simp only [hblk]
    have := congrArg (·[0]?) htk
    rw [List.getElem?_take_of_lt (by omega), Array.getElem?_toList] at this
    simpa using this
theorem infoU64 : (Tryd.prog.info? 63).map (fun i => (i.zero, i.size, i.bytes)) = some (some (.int .u64 0), 1, 8) := by kernel_rfl
theorem infoWay : (Tryd.prog.info? 66).map (fun i => (i.zero, i.size, i.bytes)) = some (some (.agg #[.int .i64 0, .int .u64 0]), 2, 16) := by kernel_rfl
theorem make_word (w : World) : (Instr.makeSlice 115 (.int .i64 1) (.int .i64 1)).run Tryd.prog w = .ok (.slice (some ⟨w.heap.size, 0, none⟩) 1 1) (w.alloc (.cells #[.int .u64 0] 63)) := by
  obtain ⟨i0, hi, hz0, hz1, hz2⟩ := info_parts infoU64
  have := run_make (P := Tryd.prog) w 115 63 i0 (.int .u64 0) Tryd.underlying115 hi hz0 .i64 .i64 1 1 (by omega) (by omega) (by rw [hz2]; omega) (by omega)
  rw [hz1] at this
  have e : madeCells #[Value.int .u64 0] 1 = #[Value.int .u64 0] := by kernel_rfl
  rw [← e]
  exact this
/-- how instructions are come to, as cells -/
def kC (K : List (Int × Int)) : Array Value := (K.flatMap fun p => [Value.int .i64 p.1, .int .u64 p.2]).toArray
theorem make_ways (w : World) (n : Nat) (hn : n ≤ 3) : (Instr.makeSlice 67 (.int .i64 n) (.int .i64 n)).run Tryd.prog w = .ok (.slice (some ⟨w.heap.size, 0, none⟩) n n) (w.alloc (.cells (kC (List.replicate n (0, 0))) 66)) := by
  obtain ⟨i0, hi, hz0, hz1, hz2⟩ := info_parts infoWay
  have := run_make (P := Tryd.prog) w 67 66 i0 (.agg #[.int .i64 0, .int .u64 0]) Tryd.underlying67 hi hz0 .i64 .i64 n n (by omega) (by omega) (by rw [hz2]; omega) (by omega)
  rw [hz1] at this
  have e : madeCells #[Value.int .i64 0, .int .u64 0] (n * 2) = kC (List.replicate n (0, 0)) := by
    rcases (show n = 0 ∨ n = 1 ∨ n = 2 ∨ n = 3 by omega) with rfl | rfl | rfl | rfl <;> kernel_rfl
  rw [← e]
  simpa [Value.cells] using this
set_option maxRecDepth 100000 in
set_option maxHeartbeats 1000000 in
theorem newDue_any (w : World) (n : Nat) (h0 : 0 < n) (hn : n ≤ 3) :
    Calls Tryd.prog 39 #[.int .i64 n] w fun e w' => ∃ db eb dc, e = .returned (.slice (some ⟨db, 0, none⟩) 1 dc) ∧ Bx (Due w' db eb dc 0 ∧ Below w.heap.size w w' ∧ w.heap.size ≤ db ∧ w.heap.size ≤ eb) := by
  obtain ⟨g, c, W3, run, HX⟩ := due_steps w
  have hmk := make_word
  rcases (show n = 1 ∨ n = 2 ∨ n = 3 by omega) with rfl | rfl | rfl
  all_goals
    go_enter Tryd.func39, Tryd.ntmps39
    go_wp2
    refine wp_loop_rounds 2 ?_
    rw [rounds_succ]
    go_wp2_with (first
      | (at_builtin; refine wpList_appY rfl (.tmp 14) (.tmp 17) 69 rfl rfl rfl run ?_; clear run))
    rw [rounds_succ]
    go_wp2
    go_ret
    exact ⟨g, _, c, rfl, ⟨HX.out.1, HX.out.2.1, HX.out.2.2, Nat.le_refl _⟩⟩
/-- a walker in memory -/
def wkO (a b c : Int) (r : Bool) (cd : Value) (kb n db dc : Nat) (lv : Int) (pv mv : Value) : Obj := .cells #[.int .i64 a, .int .i64 b, .int .i64 c, .bool r, cd, .slice (some ⟨kb, 0, none⟩) n n, .slice (some ⟨db, 0, none⟩) 1 dc, .int .i64 lv, pv, mv] 75 (0, 0)
structure WK (w : World) (wb kb db eb dc : Nat) (o : Obj) (K : List (Int × Int)) (x : Int) : Prop where
  wk : w.heap[wb]? = some o
  kn : w.heap[kb]? = some (.cells (kC K) 66 (0, 0))
  du : Due w db eb dc x
  n1 : wb ≠ kb
  n2 : wb ≠ db
  n3 : wb ≠ eb
  n4 : kb ≠ db
  n5 : kb ≠ eb
theorem Due.below {w w' : World} {db eb dc : Nat} {x : Int} (h : Due w db eb dc x) (hb : Below w.heap.size w w') : Due w' db eb dc x :=
  ⟨(hb.cell (p := ⟨db, 0, none⟩) h.lt.2).trans h.d0, (hb.block _ h.lt.1).trans h.e0, h.cap, h.ne⟩
theorem nw_of {w X : World} {kb db eb dc n : Nat} (hd : Due X db eb dc 0) (hk : X.heap[kb]? = some (.cells (kC (List.replicate n (0, 0))) 66 (0, 0))) (hb : Below w.heap.size w X) (h1 : w.heap.size ≤ kb) (h2 : w.heap.size ≤ db) (h3 : w.heap.size ≤ eb) (n4 : kb ≠ db) (n5 : kb ≠ eb) {wb : Nat} (hwb : X.heap.size = wb) :
    WK (X.alloc (wkO 0 0 0 false (.slice none 0 0) kb n db dc 0 (.slice none 0 0) (.map none))) wb kb db eb dc (wkO 0 0 0 false (.slice none 0 0) kb n db dc 0 (.slice none 0 0) (.map none)) (List.replicate n (0, 0)) 0 ∧ Below w.heap.size w (X.alloc (wkO 0 0 0 false (.slice none 0 0) kb n db dc 0 (.slice none 0 0) (.map none))) ∧ w.heap.size ≤ wb ∧ w.heap.size ≤ kb ∧ w.heap.size ≤ db ∧ w.heap.size ≤ eb := by
  subst hwb
  have hkl := (Array.getElem?_eq_some_iff.1 hk).1
  have hdl := hd.lt
  have hs := hb.size
  have b1 := below1 X (wkO 0 0 0 false (.slice none 0 0) kb n db dc 0 (.slice none 0 0) (.map none))
  exact ⟨⟨heap_alloc_new X _, (b1.block _ hkl).trans hk, hd.below b1, by omega, by omega, by omega, n4, n5⟩, hb.trans (b1.mono hs), hs, h1, h2, h3⟩
set_option maxRecDepth 100000 in
set_option maxHeartbeats 2000000 in
theorem newWalker_any (w : World) (n : Nat) (h0 : 0 < n) (hn : n ≤ 3) :
    Calls Tryd.prog 26 #[.int .i64 n] w fun e w' => ∃ wb kb db eb dc, e = .returned (.pointer (some ⟨wb, 0, none⟩)) ∧ Bx (WK w' wb kb db eb dc (wkO 0 0 0 false (.slice none 0 0) kb n db dc 0 (.slice none 0 0) (.map none)) (List.replicate n (0, 0)) 0 ∧ Below w.heap.size w w' ∧ w.heap.size ≤ wb ∧ w.heap.size ≤ kb ∧ w.heap.size ≤ db ∧ w.heap.size ≤ eb) := by
  have HD : Bx (∀ W, _) := ⟨fun W => newDue_any W n h0 hn⟩
  have hmk := fun W => make_ways W n hn
  go_enter Tryd.func26, Tryd.ntmps26
  go_wp2
  go_region_with (first
    | (go_at_call 39; refine (HD.out _).mono ?_; rintro e w1 ⟨db, eb, dc, rfl, HX⟩))
  · go_wp2
    go_ret
    have hx := HX.out
    have hs : (w.alloc (.cells (kC (List.replicate n (0, 0))) 66)).drew.heap.size = w.heap.size + 1 := by simp
    rw [hs] at hx
    obtain ⟨q1, q2, q3, q4⟩ := hx
    exact ⟨_, _, db, eb, dc, rfl, ⟨nw_of (w := w) (n := n) (kb := w.heap.size) q1 ((q2.block w.heap.size (by omega)).trans (heap_alloc_new w _)) (Below.trans (b := (w.alloc (.cells (kC (List.replicate n (0, 0))) 66)).drew) (below1 w _).drew (q2.mono (by omega))) (Nat.le_refl _) (by omega) (by omega) (by omega) (by omega) rfl⟩⟩
  · go_wp2
    go_ret
    obtain ⟨q1, q2, q3, q4⟩ := HX.out
    have l1 := q1.lt
    have hs := q2.size
    exact ⟨_, _, db, eb, dc, rfl, ⟨nw_of (w := w) (n := n) (kb := w1.heap.size) (q1.below (below1 w1 _)) (heap_alloc_new w1 _) (Below.trans ⟨q2.os, q2.tape, q2.output, q2.size, q2.block⟩ ((below1 w1 _).mono hs)) hs q3 q4 (by omega) (by omega) (by simp)⟩⟩
end Go.Proofs.YtadmpgegolmkgaaDoor
