import Derived.Test.YtijdcplffmdijaaDoorCDP
import Derived.Test.YtijdcplffmdijaaDoorChecked
import Derived.WalkKit
import Derived.WalkSpells
import Derived.WalkLawsBesides
import Derived.Below
import Derived.Deep.QuietTactic
import Derived.BigQuiet
import Derived.Deep.RegionHeld
import Derived.WalkSmall
namespace Go.Proofs.YtijdcplffmdijaaDoor
open Go.RowKit
set_option linter.unusedVariables false
set_option linter.unusedSimpArgs false

/-- a fact that the walk does not look into -/
structure Bx (p : Prop) : Prop where
  out : p
theorem ret_int {k : IntKind} {a b : Int} (h : a = b) : Ending.returned (.int k a) = .returned (.int k b) := by rw [h]
theorem ret_str {a b : List UInt8} (h : a = b) : Ending.returned (.string ⟨a.toArray⟩) = .returned (.string ⟨b.toArray⟩) := by rw [h]
abbrev strV (l : List UInt8) : Value := .string ⟨l.toArray⟩
def shpV (s : List UInt8 × Int × Int × Int) : Value := .agg #[strV s.1, .int .i64 s.2.1, .int .i64 s.2.2.1, .int .i64 s.2.2.2]

/-- the table of shapes -/
structure Shp (w : World) : Prop where
  c0 : ∀ k, k < 28 → w.cell? ⟨0, k * 4, none⟩ = some (strV (shapesT.getD k noShape).1)
  c1 : ∀ k, k < 28 → w.cell? ⟨0, k * 4 + 1, none⟩ = some (.int .i64 (shapesT.getD k noShape).2.1)
  c2 : ∀ k, k < 28 → w.cell? ⟨0, k * 4 + 2, none⟩ = some (.int .i64 (shapesT.getD k noShape).2.2.1)
  c3 : ∀ k, k < 28 → w.cell? ⟨0, k * 4 + 3, none⟩ = some (.int .i64 (shapesT.getD k noShape).2.2.2)
  lt : 0 < w.heap.size
theorem Shp.below {w w' : World} (h : Shp w) (hb : Below w.heap.size w w') : Shp w' := by
  have hc : ∀ i, w'.cell? ⟨0, i, none⟩ = w.cell? ⟨0, i, none⟩ := fun i => hb.cell (p := ⟨0, i, none⟩) h.lt
  exact ⟨fun k hk => by rw [hc]; exact h.c0 k hk, fun k hk => by rw [hc]; exact h.c1 k hk, fun k hk => by rw [hc]; exact h.c2 k hk, fun k hk => by rw [hc]; exact h.c3 k hk, Nat.lt_of_lt_of_le h.lt hb.size⟩
theorem below1 (w : World) (o : Obj) : Below w.heap.size w (w.alloc o) := (Below.refl _ w).alloc (Nat.le_refl _) o

theorem shp_f0 (W : World) (a b c d : Value) : (Instr.field 60 (.agg #[a, b, c, d]) 0).run Tryd.prog W = .ok a W := by
  simp [Instr.field, go_sem, Tryd.underlying60, asAgg]
theorem shp_f1 (W : World) (a b c d : Value) : (Instr.field 60 (.agg #[a, b, c, d]) 1).run Tryd.prog W = .ok b W := by
  simp [Instr.field, go_sem, Tryd.underlying60, asAgg]
theorem shp_f2 (W : World) (a b c d : Value) : (Instr.field 60 (.agg #[a, b, c, d]) 2).run Tryd.prog W = .ok c W := by
  simp [Instr.field, go_sem, Tryd.underlying60, asAgg]
theorem shp_f3 (W : World) (a b c d : Value) : (Instr.field 60 (.agg #[a, b, c, d]) 3).run Tryd.prog W = .ok d W := by
  simp [Instr.field, go_sem, Tryd.underlying60, asAgg]

set_option maxHeartbeats 1000000 in
theorem shapeOf_any (op : Int) (w : World) (hs : Shp w) (h : I64 op) :
    Calls Tryd.prog 31 #[.int .i64 op] w fun e w' => e = .returned (shpV (shapeI op)) ∧ Below w.heap.size w w' := by
  obtain ⟨h1, h2⟩ := h
  unfold shapeI
  by_cases h0 : op < 0
  · rw [if_pos (Or.inl h0)]
    go_enter Tryd.func31, Tryd.ntmps31
    go_wp2
    refine bodyPost_ret (v := shpV noShape) (by simp [results, Tryd.results31, go_sem, shpV, noShape]) rfl ⟨rfl, ?_⟩
    repeat (first | exact below1 _ _ | refine Below.setCell ?_ (Nat.le_refl _) _)
  · by_cases h3 : 28 ≤ op
    · rw [if_pos (Or.inr h3)]
      go_enter Tryd.func31, Tryd.ntmps31
      go_wp2
      refine bodyPost_ret (v := shpV noShape) (by simp [results, Tryd.results31, go_sem, shpV, noShape]) rfl ⟨rfl, ?_⟩
      repeat (first | exact below1 _ _ | refine Below.setCell ?_ (Nat.le_refl _) _)
    · rw [if_neg (by omega)]
      obtain ⟨k, rfl⟩ : ∃ k : Nat, op = k := ⟨op.toNat, by omega⟩
      have hk : k < 28 := by omega
      have c0 := hs.c0 k hk; have c1 := hs.c1 k hk; have c2 := hs.c2 k hk; have c3 := hs.c3 k hk
      rw [Int.toNat_natCast]
      generalize shapesT.getD k noShape = s at *
      have hlt := hs.lt
      have lc : ∀ i o, (w.alloc o).cell? ⟨0, i, none⟩ = w.cell? ⟨0, i, none⟩ := fun i o => (below1 w o).cell (p := ⟨0, i, none⟩) hlt
      have d0 := (lc (k * 4) (.cells #[.string ⟨#[]⟩, .int .i64 0, .int .i64 0, .int .i64 0] 60)).trans c0
      have d1 := (lc (k * 4 + 1) (.cells #[.string ⟨#[]⟩, .int .i64 0, .int .i64 0, .int .i64 0] 60)).trans c1
      have d2 := (lc (k * 4 + 2) (.cells #[.string ⟨#[]⟩, .int .i64 0, .int .i64 0, .int .i64 0] 60)).trans c2
      have d3 := (lc (k * 4 + 3) (.cells #[.string ⟨#[]⟩, .int .i64 0, .int .i64 0, .int .i64 0] 60)).trans c3
      clear lc hs
      go_enter Tryd.func31, Tryd.ntmps31
      go_wp2
      refine bodyPost_ret (v := shpV s) (by simp [results, Tryd.results31, go_sem, shpV]) rfl ⟨rfl, ?_⟩
      repeat (first | exact below1 _ _ | refine Below.setCell ?_ (Nat.le_refl _) _)
set_option maxRecDepth 100000 in
theorem Name_any (op : Int) (w : World) (hs : Shp w) (h : I64 op) :
    Calls Tryd.prog 10 #[.int .i64 op] w fun e w' => e = .returned (strV (nameI op)) ∧ Below w.heap.size w w' := by
  have HS := shapeOf_any op w hs h
  unfold nameI
  generalize shapeI op = s at *
  unfold shpV at HS
  clear hs
  have f0 := fun W => shp_f0 W (strV s.1) (.int .i64 s.2.1) (.int .i64 s.2.2.1) (.int .i64 s.2.2.2)
  go_enter Tryd.func10, Tryd.ntmps10
  go_wp2_with (go_at_call 31; refine HS.mono ?_; rintro e w' ⟨rfl, hb⟩)
  go_ret
  exact ⟨rfl, hb⟩
set_option maxRecDepth 100000 in
theorem Op_any (s : ByteArray) (w : World) (hs : Shp w) :
    Calls Tryd.prog 11 #[.string s] w fun e w' => e = .returned (.int .i64 (opI s.toList)) ∧ w = w' := by
  go_enter Tryd.func11, Tryd.ntmps11
  go_wp2
  go_loop [4] (fun i => ∃ j : Nat, j ≤ 28 ∧ i = .int .i64 j ∧ Hid (opI s.toList = opFrom (shapesT.drop j) (0 + j) s.toList)) (fun i => 28 - (intOf i).toNat)
  case atStart => exact ⟨0, by omega, rfl, rfl⟩
  case round =>
    obtain ⟨j, hj, rfl, H⟩ := hrel
    by_cases hlt : j < 28
    · have hc := hs.c0 j hlt
      cases hq : ((shapesT.getD j noShape).1 == s.toList)
      · have HQ : Hid (opI s.toList = opFrom (shapesT.drop (j + 1)) (0 + (j + 1)) s.toList) := by
          have := opFrom_no j (0 + j) s.toList hlt hq
          exact H.out.trans this
        generalize (shapesT.getD j noShape).1 = nm at *
        go_wp2
        go_round
        case rel => exact ⟨j + 1, by omega, by go_num, HQ⟩
        case measure => simp [intOf]; omega
      · have HQ : Hid (opI s.toList = 0 + j) := H.out.trans (opFrom_yes j (0 + j) s.toList hlt hq)
        generalize (shapesT.getD j noShape).1 = nm at *
        go_wp2
        go_ret
        exact ⟨ret_int (by rw [HQ.out]; omega), rfl⟩
    · have : j = 28 := by omega
      subst this
      go_wp2
      go_ret
      exact ⟨ret_int (by rw [H.out]; rfl), rfl⟩
end Go.Proofs.YtijdcplffmdijaaDoor
