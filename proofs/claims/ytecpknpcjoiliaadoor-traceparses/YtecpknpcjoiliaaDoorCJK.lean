import Derived.Test.YtecpknpcjoiliaaDoorCJL
import Derived.Deep.MidRow
namespace Go.Proofs.YtecpknpcjoiliaaDoor
open Go.RowKit
set_option linter.unusedVariables false
set_option linter.unusedSimpArgs false

theorem ret_int {k : IntKind} {a b : Int} (h : a = b) : Ending.returned (.int k a) = .returned (.int k b) := by rw [h]
abbrev shV (s : TSh) : Value := .agg #[strV s.1, .int .i64 (s.2.1 : Nat), .int .i64 (s.2.2 : Nat)]
set_option maxHeartbeats 1000000 in
theorem shapeOf_no (k : Int) (w : World) (h : k < 1 ∨ 11 < k) :
    Calls Tryd.prog 23 #[.int .i64 k] w fun e w' => e = .returned (.tuple #[.agg #[strV [], .int .i64 0, .int .i64 0], .bool false]) ∧ Below w.heap.size w w' := by
  by_cases h0 : k < 1
  · go_enter Tryd.func23, Tryd.ntmps23
    go_wp2
    refine bodyPost_ret (v := .tuple #[.agg #[strV [], .int .i64 0, .int .i64 0], .bool false]) (by simp [results, Tryd.results23, go_sem]) rfl ⟨rfl, ?_⟩
    repeat (first | exact below1 _ _ | refine Below.setCell ?_ (Nat.le_refl _) _)
  · have h1 : 11 < k := by omega
    go_enter Tryd.func23, Tryd.ntmps23
    go_wp2
    refine bodyPost_ret (v := .tuple #[.agg #[strV [], .int .i64 0, .int .i64 0], .bool false]) (by simp [results, Tryd.results23, go_sem]) rfl ⟨rfl, ?_⟩
    repeat (first | exact below1 _ _ | refine Below.setCell ?_ (Nat.le_refl _) _)
set_option maxHeartbeats 1000000 in
theorem shapeOf_yes (k : Int) (w : World) (hs : Shp w) (h : 1 ≤ k ∧ k ≤ 11) :
    Calls Tryd.prog 23 #[.int .i64 k] w fun e w' => e = .returned (.tuple #[shV (tsh k), .bool true]) ∧ Below w.heap.size w w' := by
  obtain ⟨j, rfl⟩ : ∃ j : Nat, k = (j : Int) + 1 := ⟨(k - 1).toNat, by omega⟩
  have hj : j < 11 := by omega
  have c0 := hs.c0 j hj; have c1 := hs.c1 j hj; have c2 := hs.c2 j hj
  have e : tsh ((j : Int) + 1) = tshT.getD j noTsh := by
    unfold tsh
    have : ((j : Int) + 1).toNat - 1 = j := by omega
    rw [this]
  rw [e]
  generalize tshT.getD j noTsh = s at *
  have hlt := hs.lt
  have lc : ∀ i o, (w.alloc o).cell? ⟨0, i, none⟩ = w.cell? ⟨0, i, none⟩ := fun i o => (below1 w o).cell (p := ⟨0, i, none⟩) hlt
  have d0 := (lc (j * 3) (.cells #[.string ⟨#[]⟩, .int .i64 0, .int .i64 0] 45)).trans c0
  have d1 := (lc (j * 3 + 1) (.cells #[.string ⟨#[]⟩, .int .i64 0, .int .i64 0] 45)).trans c1
  have d2 := (lc (j * 3 + 2) (.cells #[.string ⟨#[]⟩, .int .i64 0, .int .i64 0] 45)).trans c2
  have hsub : (j : Int) + 1 - 1 = (j : Int) := by omega
  obtain ⟨K, hK⟩ : ∃ K : Int, K = (j : Int) + 1 := ⟨_, rfl⟩
  have k1 : 1 ≤ K := by omega
  have k2 : K ≤ 11 := by omega
  have k3 : K - 1 = (j : Int) := by omega
  rw [← hK]
  clear lc hs hK h e
  go_enter Tryd.func23, Tryd.ntmps23
  go_wp2
  refine bodyPost_ret (v := .tuple #[shV s, .bool true]) (by simp [results, Tryd.results23, go_sem]) rfl ⟨rfl, ?_⟩
  repeat (first | exact below1 _ _ | refine Below.setCell ?_ (Nat.le_refl _) _)
theorem tkind_at {j : Nat} (h : j < 11) : tkind (tshT.getD j noTsh).1 = j + 1 := by
  match j, h with
  | 0, _ => rfl
  | 1, _ => rfl
  | 2, _ => rfl
  | 3, _ => rfl
  | 4, _ => rfl
  | 5, _ => rfl
  | 6, _ => rfl
  | 7, _ => rfl
  | 8, _ => rfl
  | 9, _ => rfl
  | 10, _ => rfl
theorem place_zero {t : List UInt8} : ∀ {l : List (List UInt8)}, (∀ j, j < l.length → l.getD j [] ≠ t) → place t l = 0
  | [], _ => rfl
  | x :: r, h => by
    have h0 : x ≠ t := h 0 (by simp)
    have := place_zero (l := r) fun j hj => h (j + 1) (by simpa using hj)
    rw [place, if_neg h0, if_pos this]
theorem tkind_none {t : List UInt8} (h : ∀ j, j < 11 → (tshT.getD j noTsh).1 ≠ t) : tkind t = 0 := by
  unfold tkind
  refine place_zero fun j hj => ?_
  have hj : j < 11 := hj
  have := h j hj
  match j, hj with
  | 0, _ => exact this
  | 1, _ => exact this
  | 2, _ => exact this
  | 3, _ => exact this
  | 4, _ => exact this
  | 5, _ => exact this
  | 6, _ => exact this
  | 7, _ => exact this
  | 8, _ => exact this
  | 9, _ => exact this
  | 10, _ => exact this
/-- the table as a value -/
def shpA : Value := .agg #[strV [98, 111, 114, 110], .int .i64 5, .int .i64 0, strV [109, 101, 101, 116], .int .i64 31, .int .i64 0, strV [105, 110], .int .i64 12, .int .i64 1, strV [111, 117, 116], .int .i64 3, .int .i64 1, strV [101, 120, 105, 116], .int .i64 1, .int .i64 0, strV [116, 114, 97, 112], .int .i64 1, .int .i64 2, strV [115, 107, 105, 112], .int .i64 0, .int .i64 0, strV [105, 100, 108, 101], .int .i64 0, .int .i64 0, strV [112, 114, 111, 98, 101], .int .i64 0, .int .i64 4, strV [114, 101, 97, 112], .int .i64 1, .int .i64 0, strV [115, 112, 101, 110, 116], .int .i64 1, .int .i64 3]
theorem shp_i0 (W : World) : (Instr.index 62 shpA (.int .i64 0)).run Tryd.prog W = .ok (.agg #[strV [98, 111, 114, 110], .int .i64 5, .int .i64 0]) W := by kernel_rfl
theorem shp_i1 (W : World) : (Instr.index 62 shpA (.int .i64 1)).run Tryd.prog W = .ok (.agg #[strV [109, 101, 101, 116], .int .i64 31, .int .i64 0]) W := by kernel_rfl
theorem shp_i2 (W : World) : (Instr.index 62 shpA (.int .i64 2)).run Tryd.prog W = .ok (.agg #[strV [105, 110], .int .i64 12, .int .i64 1]) W := by kernel_rfl
theorem shp_i3 (W : World) : (Instr.index 62 shpA (.int .i64 3)).run Tryd.prog W = .ok (.agg #[strV [111, 117, 116], .int .i64 3, .int .i64 1]) W := by kernel_rfl
theorem shp_i4 (W : World) : (Instr.index 62 shpA (.int .i64 4)).run Tryd.prog W = .ok (.agg #[strV [101, 120, 105, 116], .int .i64 1, .int .i64 0]) W := by kernel_rfl
theorem shp_i5 (W : World) : (Instr.index 62 shpA (.int .i64 5)).run Tryd.prog W = .ok (.agg #[strV [116, 114, 97, 112], .int .i64 1, .int .i64 2]) W := by kernel_rfl
theorem shp_i6 (W : World) : (Instr.index 62 shpA (.int .i64 6)).run Tryd.prog W = .ok (.agg #[strV [115, 107, 105, 112], .int .i64 0, .int .i64 0]) W := by kernel_rfl
theorem shp_i7 (W : World) : (Instr.index 62 shpA (.int .i64 7)).run Tryd.prog W = .ok (.agg #[strV [105, 100, 108, 101], .int .i64 0, .int .i64 0]) W := by kernel_rfl
theorem shp_i8 (W : World) : (Instr.index 62 shpA (.int .i64 8)).run Tryd.prog W = .ok (.agg #[strV [112, 114, 111, 98, 101], .int .i64 0, .int .i64 4]) W := by kernel_rfl
theorem shp_i9 (W : World) : (Instr.index 62 shpA (.int .i64 9)).run Tryd.prog W = .ok (.agg #[strV [114, 101, 97, 112], .int .i64 1, .int .i64 0]) W := by kernel_rfl
theorem shp_i10 (W : World) : (Instr.index 62 shpA (.int .i64 10)).run Tryd.prog W = .ok (.agg #[strV [115, 112, 101, 110, 116], .int .i64 1, .int .i64 3]) W := by kernel_rfl
theorem shp_ix (j : Nat) (hj : j < 11) (W : World) : (Instr.index 62 shpA (.int .i64 (j : Nat))).run Tryd.prog W = .ok (shV (tshT.getD j noTsh)) W := by
  match j, hj with
  | 0, _ => exact shp_i0 W
  | 1, _ => exact shp_i1 W
  | 2, _ => exact shp_i2 W
  | 3, _ => exact shp_i3 W
  | 4, _ => exact shp_i4 W
  | 5, _ => exact shp_i5 W
  | 6, _ => exact shp_i6 W
  | 7, _ => exact shp_i7 W
  | 8, _ => exact shp_i8 W
  | 9, _ => exact shp_i9 W
  | 10, _ => exact shp_i10 W
def shpL : List Value := [strV [98, 111, 114, 110], .int .i64 5, .int .i64 0, strV [109, 101, 101, 116], .int .i64 31, .int .i64 0, strV [105, 110], .int .i64 12, .int .i64 1, strV [111, 117, 116], .int .i64 3, .int .i64 1, strV [101, 120, 105, 116], .int .i64 1, .int .i64 0, strV [116, 114, 97, 112], .int .i64 1, .int .i64 2, strV [115, 107, 105, 112], .int .i64 0, .int .i64 0, strV [105, 100, 108, 101], .int .i64 0, .int .i64 0, strV [112, 114, 111, 98, 101], .int .i64 0, .int .i64 4, strV [114, 101, 97, 112], .int .i64 1, .int .i64 0, strV [115, 112, 101, 110, 116], .int .i64 1, .int .i64 3]
theorem shp_range {w : World} (hs : Shp w) : w.rangeAt 0 0 shpL := by
  intro j v hj
  rw [Nat.zero_add]
  match j, hj with
  | 0, hj => injection hj with e; subst e; exact hs.c0 0 (by omega)
  | 1, hj => injection hj with e; subst e; exact hs.c1 0 (by omega)
  | 2, hj => injection hj with e; subst e; exact hs.c2 0 (by omega)
  | 3, hj => injection hj with e; subst e; exact hs.c0 1 (by omega)
  | 4, hj => injection hj with e; subst e; exact hs.c1 1 (by omega)
  | 5, hj => injection hj with e; subst e; exact hs.c2 1 (by omega)
  | 6, hj => injection hj with e; subst e; exact hs.c0 2 (by omega)
  | 7, hj => injection hj with e; subst e; exact hs.c1 2 (by omega)
  | 8, hj => injection hj with e; subst e; exact hs.c2 2 (by omega)
  | 9, hj => injection hj with e; subst e; exact hs.c0 3 (by omega)
  | 10, hj => injection hj with e; subst e; exact hs.c1 3 (by omega)
  | 11, hj => injection hj with e; subst e; exact hs.c2 3 (by omega)
  | 12, hj => injection hj with e; subst e; exact hs.c0 4 (by omega)
  | 13, hj => injection hj with e; subst e; exact hs.c1 4 (by omega)
  | 14, hj => injection hj with e; subst e; exact hs.c2 4 (by omega)
  | 15, hj => injection hj with e; subst e; exact hs.c0 5 (by omega)
  | 16, hj => injection hj with e; subst e; exact hs.c1 5 (by omega)
  | 17, hj => injection hj with e; subst e; exact hs.c2 5 (by omega)
  | 18, hj => injection hj with e; subst e; exact hs.c0 6 (by omega)
  | 19, hj => injection hj with e; subst e; exact hs.c1 6 (by omega)
  | 20, hj => injection hj with e; subst e; exact hs.c2 6 (by omega)
  | 21, hj => injection hj with e; subst e; exact hs.c0 7 (by omega)
  | 22, hj => injection hj with e; subst e; exact hs.c1 7 (by omega)
  | 23, hj => injection hj with e; subst e; exact hs.c2 7 (by omega)
  | 24, hj => injection hj with e; subst e; exact hs.c0 8 (by omega)
  | 25, hj => injection hj with e; subst e; exact hs.c1 8 (by omega)
  | 26, hj => injection hj with e; subst e; exact hs.c2 8 (by omega)
  | 27, hj => injection hj with e; subst e; exact hs.c0 9 (by omega)
  | 28, hj => injection hj with e; subst e; exact hs.c1 9 (by omega)
  | 29, hj => injection hj with e; subst e; exact hs.c2 9 (by omega)
  | 30, hj => injection hj with e; subst e; exact hs.c0 10 (by omega)
  | 31, hj => injection hj with e; subst e; exact hs.c1 10 (by omega)
  | 32, hj => injection hj with e; subst e; exact hs.c2 10 (by omega)
  | n + 33, hj => simp [shpL] at hj
theorem wpList_shp {ops : Array Oper} {rest : List Oper} {op : Oper} {a : Act} {w : World} {Q : Exit → Act → World → Prop} (hs : Shp w) (hgd : op.guard = none) (ho : op.op = .load 62 (.global 0))
    (h : wpList Tryd.prog ops Q rest (a.put op.dst shpA) w) : wpList Tryd.prog ops Q (op :: rest) a w :=
  wpList_load_mid (P := Tryd.prog) hgd 62 (.global 0) ho 0 0 rfl shpL _ (shp_range hs) Tryd.underlying62 rfl (by kernel_rfl) h
end Go.Proofs.YtecpknpcjoiliaaDoor
