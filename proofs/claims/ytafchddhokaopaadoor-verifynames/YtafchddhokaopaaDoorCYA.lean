import Derived.Test.YtafchddhokaopaaDoorCDT
import Derived.Handy
import Derived.Deep.RegionHeld3
namespace Go.Proofs.YtafchddhokaopaaDoor
open Go.RowKit
set_option linter.unusedVariables false
set_option linter.unusedSimpArgs false

theorem ret_bool {b c : Bool} (h : b = c) : Ending.returned (.bool b) = .returned (.bool c) := by rw [h]
def dbT : List Int := [0, 1, 56, 2, 57, 49, 28, 3, 61, 58, 42, 50, 38, 29, 17, 4, 62, 47, 59, 36, 45, 43, 51, 22, 53, 39, 33, 30, 24, 18, 12, 5, 63, 55, 48, 27, 60, 41, 37, 16, 46, 35, 44, 21, 52, 32, 23, 11, 54, 26, 40, 15, 34, 20, 31, 10, 25, 14, 19, 9, 13, 8, 7, 6]
def vsT : List (Int × Int × Int) := [(0, 0, 0), (1, 0, 0), (2, 0, 0), (5, 0, 0), (12, 0, 0), (12, 0, 0), (12, 0, 0), (13, 0, 0), (0, 0, 0), (0, 0, 0), (4, 0, 0), (3, 0, 0), (0, 0, 0), (0, 0, 0), (0, 0, 0), (3, 0, 0), (12, 0, 10), (6, 0, 0), (7, 0, 0), (14, 0, 0), (14, 0, 0), (15, 0, 0), (8, 9, 0), (3, 2, 0), (3, 0, 0), (0, 0, 0), (0, 0, 0), (0, 0, 11)]
/-- all the variables that are read -/
structure VW (w : World) : Prop where
  shp : Shp w
  db : ∀ k, k < 64 → w.cell? ⟨2, k, none⟩ = some (.int .u8 (dbT.getD k 0))
  v0 : ∀ k, k < 28 → w.cell? ⟨1, k * 3, none⟩ = some (.int .i64 (vsT.getD k (0, 0, 0)).1)
  v1 : ∀ k, k < 28 → w.cell? ⟨1, k * 3 + 1, none⟩ = some (.int .i64 (vsT.getD k (0, 0, 0)).2.1)
  v2 : ∀ k, k < 28 → w.cell? ⟨1, k * 3 + 2, none⟩ = some (.int .i64 (vsT.getD k (0, 0, 0)).2.2)
  ltd : 2 < w.heap.size
  ltv : 1 < w.heap.size
theorem VW.below {w w' : World} (h : VW w) (hb : Below w.heap.size w w') : VW w' := by
  have hc : ∀ i, w'.cell? ⟨2, i, none⟩ = w.cell? ⟨2, i, none⟩ := fun i => hb.cell (p := ⟨2, i, none⟩) h.ltd
  have hv : ∀ i, w'.cell? ⟨1, i, none⟩ = w.cell? ⟨1, i, none⟩ := fun i => hb.cell (p := ⟨1, i, none⟩) h.ltv
  exact ⟨h.shp.below hb, fun k hk => by rw [hc]; exact h.db k hk, fun k hk => by rw [hv]; exact h.v0 k hk, fun k hk => by rw [hv]; exact h.v1 k hk, fun k hk => by rw [hv]; exact h.v2 k hk, Nat.lt_of_lt_of_le h.ltd hb.size, Nat.lt_of_lt_of_le h.ltv hb.size⟩

/-- what is turned lies in one of some blocks -/
structure Fx (P : Nat → Prop) (w w' : World) : Prop where
  os : w'.os = w.os
  tape : w'.tape = w.tape
  output : w'.output = w.output
  size : w.heap.size ≤ w'.heap.size
  block : ∀ k, k < w.heap.size → ¬ P k → w'.heap[k]? = w.heap[k]?
theorem Fx.refl (P : Nat → Prop) (w : World) : Fx P w w := ⟨rfl, rfl, rfl, Nat.le_refl _, fun _ _ _ => rfl⟩
theorem Fx.trans {P : Nat → Prop} {a b c : World} (h : Fx P a b) (k : Fx P b c) : Fx P a c :=
  ⟨k.os.trans h.os, k.tape.trans h.tape, k.output.trans h.output, Nat.le_trans h.size k.size, fun i hi hp => (k.block i (Nat.lt_of_lt_of_le hi h.size) hp).trans (h.block i hi hp)⟩
theorem Fx.of {P : Nat → Prop} {a b : World} (h : Below a.heap.size a b) : Fx P a b := ⟨h.os, h.tape, h.output, h.size, fun k hk _ => h.block k hk⟩
theorem Fx.alloc {P : Nat → Prop} {a b : World} (h : Fx P a b) (o : Obj) : Fx P a (b.alloc o) := h.trans (Fx.of (below1 b o))
theorem Fx.drew {P : Nat → Prop} {a b : World} (h : Fx P a b) : Fx P a b.drew := ⟨h.os, h.tape, h.output, h.size, h.block⟩
theorem Fx.drewN {P : Nat → Prop} {a b : World} (h : Fx P a b) (n : Nat) : Fx P a (b.drewN n) := ⟨h.os, h.tape, h.output, h.size, h.block⟩
theorem Fx.set {P : Nat → Prop} {a b : World} (h : Fx P a b) {p : Addr} (hp : P p.block ∨ a.heap.size ≤ p.block) (u : Value) : Fx P a (b.setCell p u) :=
  ⟨h.os, h.tape, h.output, by simpa [World.setCell] using h.size, fun k hk hn => (Below.heap_setCell b p u k (fun e => by subst e; rcases hp with hp | hp; exact hn hp; omega)).trans (h.block k hk hn)⟩
theorem Fx.mono {P Q : Nat → Prop} {a b : World} (h : Fx P a b) (hpq : ∀ k, k < a.heap.size → P k → Q k) : Fx Q a b := ⟨h.os, h.tape, h.output, h.size, fun k hk hn => h.block k hk (fun hp => hn (hpq k hk hp))⟩
theorem Fx.bel {P : Nat → Prop} {a b : World} {B : Nat} (h : Fx P a b) (hB : B ≤ a.heap.size) (hp : ∀ k, k < B → ¬ P k) : Below B a b := ⟨h.os, h.tape, h.output, h.size, fun k hk => h.block k (Nat.lt_of_lt_of_le hk hB) (hp k hk)⟩

set_option maxRecDepth 100000 in
set_option maxHeartbeats 1000000 in
theorem tz_any (n : Nat) (hn : n < 3) (w : World) (hV : VW w) : Calls Tryd.prog 64 #[.int .u64 ((2 ^ n : Nat) : Int)] w fun e w' => e = .returned (.int .i64 n) ∧ w = w' := by
  have d0 := hV.db 0 (by omega)
  have d1 := hV.db 1 (by omega)
  have d2 := hV.db 3 (by omega)
  simp [dbT] at d0 d1 d2
  rcases (show n = 0 ∨ n = 1 ∨ n = 2 by omega) with rfl | rfl | rfl
  · have h1 : IntKind.u64.wrap (-1) = 18446744073709551615 := by kernel_rfl
    have h2 : bits BinOp.and IntKind.u64 1 18446744073709551615 = 1 := by kernel_rfl
    have h3 : IntKind.u64.wrap (1 * 285870213051353865) = 285870213051353865 := by kernel_rfl
    have h3' : IntKind.u64.wrap (285870213051353865) = 285870213051353865 := by kernel_rfl
    have h3'' : IntKind.u64.wrap (285870213051353865) = 285870213051353865 := by kernel_rfl
    go_enter Tryd.func64, Tryd.ntmps64
    go_wp2
    go_ret
    exact ⟨rfl, rfl⟩
  · have h1 : IntKind.u64.wrap (-2) = 18446744073709551614 := by kernel_rfl
    have h2 : bits BinOp.and IntKind.u64 2 18446744073709551614 = 2 := by kernel_rfl
    have h3 : IntKind.u64.wrap (2 * 285870213051353865) = 571740426102707730 := by kernel_rfl
    have h3' : IntKind.u64.wrap (285870213051353865) = 285870213051353865 := by kernel_rfl
    have h3'' : IntKind.u64.wrap (571740426102707730) = 571740426102707730 := by kernel_rfl
    go_enter Tryd.func64, Tryd.ntmps64
    go_wp2
    go_ret
    exact ⟨rfl, rfl⟩
  · have h1 : IntKind.u64.wrap (-4) = 18446744073709551612 := by kernel_rfl
    have h2 : bits BinOp.and IntKind.u64 4 18446744073709551612 = 4 := by kernel_rfl
    have h3 : IntKind.u64.wrap (4 * 285870213051353865) = 1143480852205415460 := by kernel_rfl
    have h3' : IntKind.u64.wrap (285870213051353865) = 285870213051353865 := by kernel_rfl
    have h3'' : IntKind.u64.wrap (1143480852205415460) = 1143480852205415460 := by kernel_rfl
    go_enter Tryd.func64, Tryd.ntmps64
    go_wp2
    go_ret
    exact ⟨rfl, rfl⟩
end Go.Proofs.YtafchddhokaopaaDoor
