import Derived.Test.YtadmpgegolmkgaaDoorCWlB
import Derived.Test.YtadmpgegolmkgaaDoorCWlC
import Derived.Test.YtadmpgegolmkgaaDoorCWlD
import Derived.Test.YtadmpgegolmkgaaDoorCWlE
import Derived.Test.YtadmpgegolmkgaaDoorCWlF
import Derived.Test.YtadmpgegolmkgaaDoorCWlG
import Derived.Test.YtadmpgegolmkgaaDoorCWlP
import Derived.Test.YtadmpgegolmkgaaDoorCWkH
import Derived.Test.YtadmpgegolmkgaaDoorCDP
namespace Go.Proofs.YtadmpgegolmkgaaDoor
open Go.RowKit Go.MapKept Go.ChangeMaps Go.WideShapes
set_option linter.unusedVariables false
set_option linter.unusedSimpArgs false

/-- **LOOK**: whatever instruction, whatever way it is come to -/
theorem look_any {w : World} {wb : Nat} {g : WG} {A : WA} {L gb : Nat} {P : Prs} {K : List Wy} {D : Nat → Bool} {B : Nat} {code : List CIn} {ca : Option Addr} {cc i : Nat} {x : CIn} {p : Wy} {res : Bool} (h : LkE w wb g A L gb P K D B code ca cc i x p res) (hL : L < 60) (hP : P.length + L < 1099511627776) {sl : Int} (hx : LkX code.length sl i x) (hsl : sl ≤ 65536) (hng : code.length ≤ g.n) (hs : vsP L P p.2) (hp2 : p.1 < 2305843009213693952) :
    Calls Tryd.prog 44 #[.pointer (some ⟨wb, 0, none⟩), .int .i64 (i : Int)] w fun e w' => e = .returned (.int .i64 (lookP code.length res L i x p ⟨P, K, D⟩).1) ∧ Bx (WkPost w wb g A L gb (lookP code.length res L i x p ⟨P, K, D⟩).2.P (lookP code.length res L i x p ⟨P, K, D⟩).2.K (lookP code.length res L i x p ⟨P, K, D⟩).2.D w') := by
  have hil := (List.getElem?_eq_some_iff.1 h.hx).1
  unfold lookP
  by_cases hl : (p.1 : Int) - 1 < popsI x
  · simp only [if_pos hl]
    refine (look_less h hl).mono ?_
    rintro e w' ⟨rfl, hb⟩
    exact ⟨rfl, ⟨WkPost.refl h.wk hb.out⟩⟩
  · simp only [if_neg hl]
    obtain ⟨a1, a2, a3⟩ := abN_eq hl hx.pop hx.push
    have ha5 : x.op = 5 ∨ x.op = 6 → 0 ≤ x.a ∧ x.a ≤ 2147483648 := fun e => by have := hx.a (by omega); omega
    by_cases h25 : x.op = 25
    · simp only [if_pos h25]
      have ho : (x.op == 4 || x.op == 6 || x.op == 16) = false := by simp [h25]
      have hg : (!(x.op == 19 || x.op == 21 || x.op == 25 || x.op == 27)) = false := by simp [h25]
      by_cases hr : (p.1 : Int) - 1 = if res then 1 else 0
      · simp only [if_pos hr]
        have ht : TgOk g.n i x := ⟨fun e => by omega, fun e => by omega, fun e1 e2 e3 e4 => absurd h25 e3⟩
        have hn : ∀ q, nextsI i x q = [] := fun q => by unfold nextsI; rw [if_pos h25]
        have hpa : past L P p.2 x.op x.a = (P, p.2) := by unfold past; rw [if_neg (by omega), if_neg (by omega)]
        have := look_on_r h hl ho h25 hg hr hL hP ha5 hs ht hx.push hx.pop (abN x p) (by omega) a1 true (by rw [hn]; rfl)
        rw [hn, hpa] at this
        exact this
      · simp only [if_neg hr]
        refine (look_ret h hl h25 hr).mono ?_
        rintro e w' ⟨rfl, hb⟩
        exact ⟨rfl, ⟨WkPost.refl h.wk hb.out⟩⟩
    · simp only [if_neg h25]
      by_cases hn : needB x.op = true
      · have ho : (x.op == 4 || x.op == 6 || x.op == 16) = true := hn
        have hop : x.op = 4 ∨ x.op = 6 ∨ x.op = 16 := by
          simp at ho
          omega
        have hg : (!(x.op == 19 || x.op == 21 || x.op == 25 || x.op == 27)) = true := by
          simp
          omega
        have ha4 : 0 ≤ x.a ∧ x.a ≤ 2147483648 := by have := hx.a (by omega); omega
        cases hd : den L P p.2 x.a.toNat with
        | false =>
          rw [if_pos ⟨hn, rfl⟩]
          exact look_93 h hl ho hL ha4 hs hd
        | true =>
          rw [if_neg (fun e => by cases e.2)]
          by_cases he : i + 1 = code.length
          · rw [if_pos ⟨hg, he⟩]
            exact look_96y h hl ho hg he hL ha4 hs hd
          · rw [if_neg (fun e => he e.2)]
            have ht0 := hx.tgok hil fun e => he e.2
            have ht : TgOk g.n i x := ⟨fun e => by have := ht0.a e; omega, fun e => ⟨(ht0.arms e).1, fun j q => by have := (ht0.arms e).2 j q; omega⟩, fun e1 e2 e3 e4 => by have := ht0.on e1 e2 e3 e4; omega⟩
            cases hr : (goP L i x p ⟨P, K, D⟩).1 with
            | true => exact look_on_y h hl ho h25 hg he hL hP ha5 hs ht hx.push hx.pop (abN x p) (by omega) a1 true hr ha4 hd
            | false => exact look_on_y h hl ho h25 hg he hL hP ha5 hs ht hx.push hx.pop (abN x p) (by omega) a1 false hr ha4 hd
      · have ho : (x.op == 4 || x.op == 6 || x.op == 16) = false := by
          cases hh : (x.op == 4 || x.op == 6 || x.op == 16) with
          | false => rfl
          | true => exact absurd hh hn
        rw [if_neg fun e => hn e.1]
        by_cases hb : behB x.op = true
        · have hg : (!(x.op == 19 || x.op == 21 || x.op == 25 || x.op == 27)) = true := hb
          by_cases he : i + 1 = code.length
          · rw [if_pos ⟨hb, he⟩]
            exact look_96n h hl ho hg he
          · rw [if_neg fun e => he e.2]
            have ht0 := hx.tgok hil fun e => he e.2
            have ht : TgOk g.n i x := ⟨fun e => by have := ht0.a e; omega, fun e => ⟨(ht0.arms e).1, fun j q => by have := (ht0.arms e).2 j q; omega⟩, fun e1 e2 e3 e4 => by have := ht0.on e1 e2 e3 e4; omega⟩
            cases hr : (goP L i x p ⟨P, K, D⟩).1 with
            | true => exact look_on_nb h hl ho h25 hg he hL hP ha5 hs ht hx.push hx.pop (abN x p) (by omega) a1 true hr
            | false => exact look_on_nb h hl ho h25 hg he hL hP ha5 hs ht hx.push hx.pop (abN x p) (by omega) a1 false hr
        · have hg : (!(x.op == 19 || x.op == 21 || x.op == 25 || x.op == 27)) = false := by
            cases hh : (!(x.op == 19 || x.op == 21 || x.op == 25 || x.op == 27)) with
            | false => rfl
            | true => exact absurd hh hb
          rw [if_neg fun e => hb e.1]
          have ht0 := hx.tgok hil fun e => hb e.1
          have ht : TgOk g.n i x := ⟨fun e => by have := ht0.a e; omega, fun e => ⟨(ht0.arms e).1, fun j q => by have := (ht0.arms e).2 j q; omega⟩, fun e1 e2 e3 e4 => by have := ht0.on e1 e2 e3 e4; omega⟩
          cases hr : (goP L i x p ⟨P, K, D⟩).1 with
          | true => exact look_on_ng h hl ho h25 hg hL hP ha5 hs ht hx.push hx.pop (abN x p) (by omega) a1 true hr
          | false => exact look_on_ng h hl ho h25 hg hL hP ha5 hs ht hx.push hx.pop (abN x p) (by omega) a1 false hr
end Go.Proofs.YtadmpgegolmkgaaDoor
namespace Go.Proofs.YtadmpgegolmkgaaDoor
open Go.RowKit
set_option linter.unusedVariables false
set_option linter.unusedSimpArgs false

/-- what is due, of at most 64 instructions: one word -/
structure Due (w : World) (db eb dc : Nat) (x : Int) : Prop where
  d0 : w.cell? ⟨db, 0, none⟩ = some (.slice (some ⟨eb, 0, none⟩) 1 1)
  e0 : w.heap[eb]? = some (.cells #[.int .u64 x] 63 (0, 0))
  cap : 1 ≤ dc
  ne : db ≠ eb
theorem Due.lt {w : World} {db eb dc : Nat} {x : Int} (h : Due w db eb dc x) : eb < w.heap.size ∧ db < w.heap.size := ⟨(Array.getElem?_eq_some_iff.1 h.e0).1, World.block_lt_of_cell? w _ h.d0⟩
theorem Due.put {w : World} {db eb dc : Nat} {x : Int} (h : Due w db eb dc x) (k : Nat) (u : Int) : Due ((w.drewN k).setCell ⟨eb, 0, none⟩ (.int .u64 u)) db eb dc u :=
  ⟨by rw [World.cell?_of_block (w := w) (Below.heap_setCell (w.drewN k) ⟨eb, 0, none⟩ _ db h.ne)]; exact h.d0, one_setCell (w := w.drewN k) h.e0, h.cap, h.ne⟩
set_option maxRecDepth 100000 in
set_option maxHeartbeats 1000000 in
theorem add_any (n : Nat) (hn : n < 3) (w : World) (db eb dc : Nat) (hD : Due w db eb dc 0) :
    Calls Tryd.prog 60 #[.slice (some ⟨db, 0, none⟩) 1 dc, .int .i64 n] w fun e w' => e = .returned (.tuple #[]) ∧ Bx (Due w' db eb dc ((2 ^ n : Nat) : Int) ∧ Fx (· = eb) w w') := by
  have d0 := hD.d0
  have e0 : w.cell? ⟨eb, 0, none⟩ = some (.int .u64 0) := (cell_of_row w _ 0 _ _ _ hD.e0).trans rfl
  have ef : w.frozen? ⟨eb, 0, none⟩ = false := by simp [World.frozen?, hD.e0]
  have hc := hD.cap
  have o0 : bits BinOp.or IntKind.u64 0 1 = 1 := by kernel_rfl
  have o1 : bits BinOp.or IntKind.u64 0 2 = 2 := by kernel_rfl
  have o2 : bits BinOp.or IntKind.u64 0 4 = 4 := by kernel_rfl
  have HE : Bx (∀ k u, Due ((w.drewN k).setCell ⟨eb, 0, none⟩ (.int .u64 u)) db eb dc u ∧ Fx (· = eb) w ((w.drewN k).setCell ⟨eb, 0, none⟩ (.int .u64 u))) := ⟨fun k u => ⟨hD.put k u, Fx.set (p := ⟨eb, 0, none⟩) ((Fx.refl (· = eb) w).drewN k) (.inl rfl) _⟩⟩
  clear hD
  rcases (show n = 0 ∨ n = 1 ∨ n = 2 by omega) with rfl | rfl | rfl
  all_goals
    go_enter Tryd.func60, Tryd.ntmps60
    go_wp2
    go_rounds 2
    go_region
    go_wp2
    rw [rounds_succ]
    go_wp2
    go_returns
    exact ⟨rfl, ⟨HE.out _ _⟩⟩
set_option maxRecDepth 100000 in
set_option maxHeartbeats 1000000 in
theorem drop_any (n : Nat) (hn : n < 3) (w : World) (db eb dc : Nat) (hD : Due w db eb dc ((2 ^ n : Nat) : Int)) :
    Calls Tryd.prog 64 #[.slice (some ⟨db, 0, none⟩) 1 dc, .int .i64 n] w fun e w' => e = .returned (.tuple #[]) ∧ Bx (Due w' db eb dc 0 ∧ Fx (· = eb) w w') := by
  have d0 := hD.d0
  have e0 : w.cell? ⟨eb, 0, none⟩ = some (.int .u64 ((2 ^ n : Nat) : Int)) := (cell_of_row w _ 0 _ _ _ hD.e0).trans rfl
  have ef : w.frozen? ⟨eb, 0, none⟩ = false := by simp [World.frozen?, hD.e0]
  have hc := hD.cap
  have o0 : bits BinOp.andNot IntKind.u64 1 1 = 0 := by kernel_rfl
  have o1 : bits BinOp.andNot IntKind.u64 2 2 = 0 := by kernel_rfl
  have o2 : bits BinOp.andNot IntKind.u64 4 4 = 0 := by kernel_rfl
  have hne : db ≠ eb := hD.ne
  have HE : Bx (∀ k u, Due ((w.drewN k).setCell ⟨eb, 0, none⟩ (.int .u64 u)) db eb dc u ∧ Fx (· = eb) w ((w.drewN k).setCell ⟨eb, 0, none⟩ (.int .u64 u))) := ⟨fun k u => ⟨hD.put k u, Fx.set (p := ⟨eb, 0, none⟩) ((Fx.refl (· = eb) w).drewN k) (.inl rfl) _⟩⟩
  clear hD
  rcases (show n = 0 ∨ n = 1 ∨ n = 2 by omega) with rfl | rfl | rfl
  all_goals
    simp only [Nat.reducePow] at e0
    go_enter Tryd.func64, Tryd.ntmps64
    go_wp2
    go_rounds 2
    go_region
    go_wp2
    rw [rounds_succ]
    go_wp2
    go_returns
    exact ⟨rfl, ⟨HE.out _ _⟩⟩
set_option maxRecDepth 100000 in
set_option maxHeartbeats 1000000 in
theorem take_no (w : World) (db eb dc : Nat) (hD : Due w db eb dc 0) :
    Calls Tryd.prog 43 #[.slice (some ⟨db, 0, none⟩) 1 dc] w fun e w' => e = .returned (.tuple #[.int .i64 0, .bool false]) ∧ w = w' := by
  have d0 := hD.d0
  have e0 : w.cell? ⟨eb, 0, none⟩ = some (.int .u64 0) := (cell_of_row w _ 0 _ _ _ hD.e0).trans rfl
  have hc := hD.cap
  clear hD
  go_enter Tryd.func43, Tryd.ntmps43
  go_wp2
  go_rounds 2
  go_returns
  exact ⟨rfl, rfl⟩
set_option maxRecDepth 100000 in
set_option maxHeartbeats 1000000 in
theorem take_yes (n : Nat) (hn : n < 3) (w : World) (hV : VW w) (db eb dc : Nat) (hD : Due w db eb dc ((2 ^ n : Nat) : Int)) :
    Calls Tryd.prog 43 #[.slice (some ⟨db, 0, none⟩) 1 dc] w fun e w' => e = .returned (.tuple #[.int .i64 n, .bool true]) ∧ Bx (Due w' db eb dc 0 ∧ Fx (· = eb) w w') := by
  have d0 := hD.d0
  have e0 : w.cell? ⟨eb, 0, none⟩ = some (.int .u64 ((2 ^ n : Nat) : Int)) := (cell_of_row w _ 0 _ _ _ hD.e0).trans rfl
  have hc := hD.cap
  have HT := tz_any n hn w hV
  have HD := drop_any n hn w db eb dc hD
  clear hD hV
  have hp : (((2 ^ n : Nat) : Int) == 0) = false := by
    rcases (show n = 0 ∨ n = 1 ∨ n = 2 by omega) with rfl | rfl | rfl <;> rfl
  generalize ((2 ^ n : Nat) : Int) = x at *
  go_enter Tryd.func43, Tryd.ntmps43
  go_wp2
  refine wp_loop_rounds 2 ?_
  rw [rounds_succ]
  go_wp2_with (first
    | (go_at_call 63; refine HT.mono ?_; rintro e w1 ⟨rfl, rfl⟩))
  rw [rounds_succ]
  go_wp2_with (first
    | (go_at_call 64; refine HD.mono ?_; rintro e w1 ⟨rfl, HX⟩))
  go_returns
  exact ⟨rfl, HX⟩
end Go.Proofs.YtadmpgegolmkgaaDoor
