import Derived.Test.YtecpknpcjoiliabDoorCUS
import Derived.Test.YtecpknpcjoiliabDoorCUK
import Derived.Lib.BufferMore
namespace Go.Proofs.YtecpknpcjoiliabDoor
open Go.RowKit
set_option linter.unusedVariables false
set_option linter.unusedSimpArgs false

theorem cell_blk {w : World} {b i : Nat} {cs : Array Value} {t : TypeId} {fz : Nat × Nat} {v : Value} (h : w.heap[b]? = some (.cells cs t fz)) (hv : cs[i]? = some v) : w.cell? ⟨b, i, none⟩ = some v := by
  rw [World.cell?]
  simp only [h]
  exact hv
theorem frz_blk {w : World} {b i : Nat} {cs : Array Value} {t : TypeId} (h : w.heap[b]? = some (.cells cs t (0, 0))) : w.frozen? ⟨b, i, none⟩ = false := by simp [World.frozen?, h]
theorem heap_lt {w : World} {b : Nat} {o : Obj} (h : w.heap[b]? = some o) : b < w.heap.size := (Array.getElem?_eq_some_iff.1 h).1
theorem heap_newH (w : World) (o : Obj) (H : Nat) (h : w.heap.size = H) : (w.alloc o).heap[H]? = some o := by subst h; exact heap_alloc_new w o
theorem below_heap {w w' : World} (h : Below w.heap.size w w') {b : Nat} {o : Obj} (hb : w.heap[b]? = some o) : w'.heap[b]? = some o := by
  rw [h.block b (heap_lt hb)]; exact hb
/-- all stays but the blocks that P picks -/
structure Kx (P : Nat → Prop) (w w' : World) : Prop where
  bel : Below 0 w w'
  blk : ∀ x, x < w.heap.size → ¬ P x → w'.heap[x]? = w.heap[x]?
theorem Kx.refl (P : Nat → Prop) (w : World) : Kx P w w := ⟨Below.refl _ _, fun _ _ _ => rfl⟩
theorem Kx.size {P : Nat → Prop} {w w' : World} (h : Kx P w w') : w.heap.size ≤ w'.heap.size := h.bel.size
theorem Kx.trans {P Q : Nat → Prop} {a b c : World} (h : Kx P a b) (g : Kx Q b c) (hQ : ∀ x, x < a.heap.size → Q x → P x) : Kx P a c := by
  refine ⟨h.bel.trans g.bel, fun x hx hp => ?_⟩
  rw [g.blk x (Nat.lt_of_lt_of_le hx h.size) (fun q => hp (hQ x hx q))]
  exact h.blk x hx hp
theorem Kx.new {P : Nat → Prop} {w w' : World} (h : Below w.heap.size w w') : Kx P w w' := ⟨h.mono (Nat.zero_le _), fun x hx _ => h.block x hx⟩
theorem Kx.set {P : Nat → Prop} (w : World) {b : Nat} (i : Nat) (v : Value) (h : P b) : Kx P w (w.setCell ⟨b, i, none⟩ v) :=
  ⟨(Below.refl 0 w).setCell (Nat.zero_le _) v, fun x hx hp => Below.heap_setCell w ⟨b, i, none⟩ v x (fun e => hp (by rw [e]; exact h))⟩
theorem Kx.below {P : Nat → Prop} {B : Nat} {w w' : World} (h : Kx P w w') (hB : B ≤ w.heap.size) (hP : ∀ x, P x → B ≤ x) : Below B w w' :=
  ⟨h.bel.os, h.bel.tape, h.bel.output, h.bel.size, fun x hx => h.blk x (Nat.lt_of_lt_of_le hx hB) (fun p => by have := hP x p; omega)⟩
theorem Kx.at_ {P : Nat → Prop} {w w' : World} (h : Kx P w w') {b : Nat} {o : Obj} (hb : w.heap[b]? = some o) (hp : ¬ P b) : w'.heap[b]? = some o := by
  rw [h.blk b (heap_lt hb) hp]; exact hb
/-- the variables, in whatever world that keeps what lies below B -/
def LB (B : Nat) (w : World) : Prop := ∀ w', Below B w w' → LW w'
theorem LB.on {B : Nat} {w w' : World} (h : LB B w) (hb : Below B w w') : LB B w' := fun w2 h2 => h w2 (hb.trans h2)
theorem LB.here {B : Nat} {w : World} (h : LB B w) : LW w := h w (Below.refl _ _)
theorem LW.lb {w : World} (h : LW w) : LB w.heap.size w := fun w' hb => h.below hb
theorem atoi_64 {p : List UInt8} {n : Int} (hn : Lib.atoiAll p = .ok n) : I64 n := by
  unfold Lib.atoiAll at hn
  split at hn
  · cases hn
  · simp only [] at hn
    split at hn
    · cases hn
    · cases hn
    · rename_i u hu
      split at hn
      · cases hn
      · split at hn
        · cases hn
        · injection hn with hn
          subst hn
          unfold I64
          split <;> omega
theorem numOf_no {t : List UInt8} (h : ∀ n, Lib.atoiAll t ≠ .ok n) : numOf t = none := by
  unfold numOf
  split
  · rename_i n hn; exact absurd hn (h n)
  · rfl
/-- what number answers -/
def NumV (t : List UInt8) : Value := match numOf t with
  | none => .tuple #[.int .i64 0, .bool false]
  | some n => .tuple #[.int .i64 n, .bool true]
set_option maxRecDepth 100000 in
set_option maxHeartbeats 2000000 in
theorem number_any (t : List UInt8) (w : World) (hL : LW w) (hm : t.length ≤ 281474976710656) :
    Calls Tryd.prog 42 #[strV t] w fun e w' => e = .returned (NumV t) ∧ Below w.heap.size w w' := by
  by_cases hok : ∃ n, Lib.atoiAll t = .ok n
  · obtain ⟨n, hn⟩ := hok
    have hn64 := atoi_64 hn
    have HA : Bx (Calls Tryd.prog 47 #[strV t] w fun e w' => e = .returned (.tuple #[.int .i64 n, .nilIface]) ∧ Below w.heap.size w w') := ⟨Atoi_yes t w n hm hn⟩
    have HI : Bx (∀ W, Below w.heap.size w W → Calls Tryd.prog 48 #[.int .i64 n] W fun e w' => e = .returned (strV (Lib.itoa n)) ∧ Below w.heap.size w w') := ⟨fun W hb => (Itoa_any n W (hL.below hb) hn64).mono fun e w' h => ⟨h.1, hb.trans (h.2.mono hb.size)⟩⟩
    by_cases hit : Lib.itoa n = t
    · have hV : NumV t = .tuple #[.int .i64 n, .bool true] := by unfold NumV numOf; rw [hn]; simp [hit]
      rw [hV]
      have hit2 : (Lib.itoa n == t) = true := by simpa using hit
      clear hn hV hL hit
      generalize Lib.itoa n = it at *
      go_enter Tryd.func42, Tryd.ntmps42
      go_wp2_with (first
        | (go_at_call 47; refine HA.out.mono ?_; rintro e w1 ⟨rfl, hb1⟩; have HB1 : Bx _ := ⟨hb1⟩; clear hb1)
        | (go_at_call 48; refine (HI.out _ HB1.out).mono ?_; rintro e w2 ⟨rfl, hb2⟩; have HB2 : Bx _ := ⟨hb2⟩; clear hb2))
      go_ret2
      exact ⟨rfl, HB2.out⟩
    · have hV : NumV t = .tuple #[.int .i64 0, .bool false] := by unfold NumV numOf; rw [hn]; simp [hit]
      rw [hV]
      have hit2 : (Lib.itoa n == t) = false := by simpa using hit
      have hit3 : ¬ Lib.itoa n = t := hit
      clear hn hV hL hit
      generalize Lib.itoa n = it at *
      go_enter Tryd.func42, Tryd.ntmps42
      go_wp2_with (first
        | (go_at_call 47; refine HA.out.mono ?_; rintro e w1 ⟨rfl, hb1⟩; have HB1 : Bx _ := ⟨hb1⟩; clear hb1)
        | (go_at_call 48; refine (HI.out _ HB1.out).mono ?_; rintro e w2 ⟨rfl, hb2⟩; have HB2 : Bx _ := ⟨hb2⟩; clear hb2))
      go_ret2
      exact ⟨rfl, HB2.out⟩
  · have h0 : ∀ n, Lib.atoiAll t ≠ .ok n := fun n h => hok ⟨n, h⟩
    have hV : NumV t = .tuple #[.int .i64 0, .bool false] := by unfold NumV; rw [numOf_no h0]
    rw [hV]
    have HA : Bx _ := ⟨Atoi_no t w hL hm h0⟩
    clear hok h0 hV hL
    go_enter Tryd.func42, Tryd.ntmps42
    go_wp2_with (go_at_call 47; refine HA.out.mono ?_; rintro e w1 ⟨n, ty, p, rfl, hb1⟩; have HB1 : Bx _ := ⟨hb1⟩; clear hb1)
    go_ret2
    exact ⟨rfl, HB1.out⟩
end Go.Proofs.YtecpknpcjoiliabDoor
