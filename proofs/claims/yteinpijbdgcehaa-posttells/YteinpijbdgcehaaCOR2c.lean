import Derived.Test.YteinpijbdgcehaaCOR2b
namespace Go.Proofs.Yteinpijbdgcehaa
open Go.RowKit Go.Shelf
set_option linter.unusedVariables false
set_option linter.unusedSimpArgs false

theorem wrapI {x : Int} (h : -9223372036854775808 ≤ x ∧ x ≤ 9223372036854775807) : IntKind.i64.wrap x = x := by
  simp [IntKind.wrap, IntKind.bits, IntKind.signed]
  omega
set_option maxRecDepth 100000 in
set_option maxHeartbeats 2000000 in
theorem recv6a {lp n : Nat} {Q : Exit → Act → World → Prop} (hno : ¬ LetsOut Q) (hpan : ∀ {c a w a'}, Q (.panic c) a w → Q (.panic c) a' w) {v0 v1 v2 v3 v4 v5 v7 v8 v9 v10 v11 v12 v13 v14 v15 v16 v17 v18 v19 v20 v21 v22 v23 v24 v25 v26 v27 v28 v29 v30 v31 v32 v33 v34 v35 v36 v37 v38 v39 v40 v41 v42 v43 v44 v45 v46 v47 v48 v49 v50 v51 v52 v53 v54 v55 v56 v57 : Value} {W : World} (hQ : Q .normal { tmps := #[v0, v1, v2, v3, v4, v5, .int .i64 0, v7, v8, v9, v10, v11, v12, v13, v14, v15, v16, v17, .int .i64 0, .bool true, .bool true, undef, undef, undef, undef, undef, undef, undef, undef, undef, .bool true, v31, v32, v33, v34, v35, v36, v37, v38, v39, v40, v41, v42, v43, v44, v45, v46, v47, v48, v49, v50, v51, v52, v53, v54, v55, v56, v57], defers := [] } W.drew) :
    (Code.region 6 #[{ dst := some 18, op := Op.move (Operand.tmp 6), type := 3, pos := "spot.go:62", after := #[], guard := none }, { dst := some 19, op := Op.binOp BinOp.eql 3 (Operand.tmp 18) (Operand.const (Value.int IntKind.i64 0)) 3, type := 4, pos := "spot.go:62", after := #[{ on := 0, ground := Ground.data }], guard := none }, { dst := some 20, op := Op.move (Operand.tmp 19), type := 4, pos := "spot.go:62", after := #[{ on := 1, ground := Ground.data }], guard := none }, { dst := some 21, op := Op.move (Operand.tmp 5), type := 66, pos := "spot.go:62", after := #[{ on := 2, ground := Ground.guard }], guard := some (2, false) }, { dst := some 22, op := Op.move (Operand.tmp 6), type := 3, pos := "spot.go:62", after := #[{ on := 2, ground := Ground.guard }], guard := some (2, false) }, { dst := some 23, op := Op.binOp BinOp.sub 3 (Operand.tmp 22) (Operand.const (Value.int IntKind.i64 1)) 3, type := 3, pos := "spot.go:62", after := #[{ on := 4, ground := Ground.data }, { on := 2, ground := Ground.guard }], guard := some (2, false) }, { dst := some 24, op := Op.indexAddr 66 (Operand.tmp 21) (Operand.tmp 23), type := 0, pos := "spot.go:62", after := #[{ on := 3, ground := Ground.data }, { on := 5, ground := Ground.data }, { on := 2, ground := Ground.guard }], guard := some (2, false) }, { dst := some 25, op := Op.fieldAddr 61 (Operand.tmp 24) 0, type := 0, pos := "spot.go:62", after := #[{ on := 6, ground := Ground.data }, { on := 2, ground := Ground.guard }], guard := some (2, false) }, { dst := some 26, op := Op.load 3 (Operand.tmp 25), type := 3, pos := "spot.go:62", after := #[{ on := 7, ground := Ground.data }, { on := 2, ground := Ground.guard }], guard := some (2, false) }, { dst := some 27, op := Op.fieldAddr 58 (Operand.tmp 4) 0, type := 0, pos := "spot.go:62", after := #[{ on := 2, ground := Ground.guard }], guard := some (2, false) }, { dst := some 28, op := Op.load 3 (Operand.tmp 27), type := 3, pos := "spot.go:62", after := #[{ on := 9, ground := Ground.data }, { on := 2, ground := Ground.guard }], guard := some (2, false) }, { dst := some 29, op := Op.binOp BinOp.neq 3 (Operand.tmp 26) (Operand.tmp 28) 3, type := 4, pos := "spot.go:62", after := #[{ on := 8, ground := Ground.data }, { on := 10, ground := Ground.data }, { on := 2, ground := Ground.guard }], guard := some (2, false) }, { dst := some 30, op := Op.pick (Operand.tmp 20) (Operand.const (Value.bool true)) (Operand.tmp 29), type := 4, pos := "spot.go:62", after := #[{ on := 2, ground := Ground.data }, { on := 11, ground := Ground.data }], guard := none }] true).wpIn (Fence.wide.inRound lp) n Try.prog Q { tmps := #[v0, v1, v2, v3, v4, v5, .int .i64 0, v7, v8, v9, v10, v11, v12, v13, v14, v15, v16, v17, v18, v19, v20, v21, v22, v23, v24, v25, v26, v27, v28, v29, v30, v31, v32, v33, v34, v35, v36, v37, v38, v39, v40, v41, v42, v43, v44, v45, v46, v47, v48, v49, v50, v51, v52, v53, v54, v55, v56, v57], defers := [] } W := by
  refine region_in (by kernel_rfl) (noDefer_all (by kernel_rfl)) hno ?_
  try simp only [List.size_toArray, List.length_cons, List.length_nil]
  refine wpAny_take (i := 0) (oi := { dst := some 18, op := Op.move (Operand.tmp 6), type := 3, pos := "spot.go:62", after := #[], guard := none }) (v := ?_) rfl (by kernel_rfl) (by kernel_rfl) (by kernel_rfl) (fun _ _ _ h => hpan h) (Or.inl ⟨by kernel_rfl, ?_⟩) ?_
  case refine_2 => intro w; go_simp; try (first | rfl | omega)
  try simp only [Act.put, List.setIfInBounds_toArray, List.set_cons_zero, List.set_cons_succ]
  refine wpAny_take (i := 1) (oi := { dst := some 19, op := Op.binOp BinOp.eql 3 (Operand.tmp 18) (Operand.const (Value.int IntKind.i64 0)) 3, type := 4, pos := "spot.go:62", after := #[{ on := 0, ground := Ground.data }], guard := none }) (v := ?_) rfl (by kernel_rfl) (by kernel_rfl) (by kernel_rfl) (fun _ _ _ h => hpan h) (Or.inl ⟨by kernel_rfl, ?_⟩) ?_
  case refine_2 => intro w; go_simp; try (first | rfl | omega)
  try simp only [Act.put, List.setIfInBounds_toArray, List.set_cons_zero, List.set_cons_succ]
  refine wpAny_take (i := 2) (oi := { dst := some 20, op := Op.move (Operand.tmp 19), type := 4, pos := "spot.go:62", after := #[{ on := 1, ground := Ground.data }], guard := none }) (v := ?_) rfl (by kernel_rfl) (by kernel_rfl) (by kernel_rfl) (fun _ _ _ h => hpan h) (Or.inl ⟨by kernel_rfl, ?_⟩) ?_
  case refine_2 => intro w; go_simp; try (first | rfl | omega)
  try simp only [Act.put, List.setIfInBounds_toArray, List.set_cons_zero, List.set_cons_succ]
  refine wpAny_take (i := 3) (oi := { dst := some 21, op := Op.move (Operand.tmp 5), type := 66, pos := "spot.go:62", after := #[{ on := 2, ground := Ground.guard }], guard := some (2, false) }) (v := undef) rfl (by kernel_rfl) (by kernel_rfl) (by kernel_rfl) (fun _ _ _ h => hpan h) (Or.inr ⟨by kernel_rfl, rfl⟩) ?_
  try simp only [Act.put, List.setIfInBounds_toArray, List.set_cons_zero, List.set_cons_succ]
  refine wpAny_take (i := 4) (oi := { dst := some 22, op := Op.move (Operand.tmp 6), type := 3, pos := "spot.go:62", after := #[{ on := 2, ground := Ground.guard }], guard := some (2, false) }) (v := undef) rfl (by kernel_rfl) (by kernel_rfl) (by kernel_rfl) (fun _ _ _ h => hpan h) (Or.inr ⟨by kernel_rfl, rfl⟩) ?_
  try simp only [Act.put, List.setIfInBounds_toArray, List.set_cons_zero, List.set_cons_succ]
  refine wpAny_take (i := 5) (oi := { dst := some 23, op := Op.binOp BinOp.sub 3 (Operand.tmp 22) (Operand.const (Value.int IntKind.i64 1)) 3, type := 3, pos := "spot.go:62", after := #[{ on := 4, ground := Ground.data }, { on := 2, ground := Ground.guard }], guard := some (2, false) }) (v := undef) rfl (by kernel_rfl) (by kernel_rfl) (by kernel_rfl) (fun _ _ _ h => hpan h) (Or.inr ⟨by kernel_rfl, rfl⟩) ?_
  try simp only [Act.put, List.setIfInBounds_toArray, List.set_cons_zero, List.set_cons_succ]
  refine wpAny_take (i := 6) (oi := { dst := some 24, op := Op.indexAddr 66 (Operand.tmp 21) (Operand.tmp 23), type := 0, pos := "spot.go:62", after := #[{ on := 3, ground := Ground.data }, { on := 5, ground := Ground.data }, { on := 2, ground := Ground.guard }], guard := some (2, false) }) (v := undef) rfl (by kernel_rfl) (by kernel_rfl) (by kernel_rfl) (fun _ _ _ h => hpan h) (Or.inr ⟨by kernel_rfl, rfl⟩) ?_
  try simp only [Act.put, List.setIfInBounds_toArray, List.set_cons_zero, List.set_cons_succ]
  refine wpAny_take (i := 7) (oi := { dst := some 25, op := Op.fieldAddr 61 (Operand.tmp 24) 0, type := 0, pos := "spot.go:62", after := #[{ on := 6, ground := Ground.data }, { on := 2, ground := Ground.guard }], guard := some (2, false) }) (v := undef) rfl (by kernel_rfl) (by kernel_rfl) (by kernel_rfl) (fun _ _ _ h => hpan h) (Or.inr ⟨by kernel_rfl, rfl⟩) ?_
  try simp only [Act.put, List.setIfInBounds_toArray, List.set_cons_zero, List.set_cons_succ]
  refine wpAny_take (i := 8) (oi := { dst := some 26, op := Op.load 3 (Operand.tmp 25), type := 3, pos := "spot.go:62", after := #[{ on := 7, ground := Ground.data }, { on := 2, ground := Ground.guard }], guard := some (2, false) }) (v := undef) rfl (by kernel_rfl) (by kernel_rfl) (by kernel_rfl) (fun _ _ _ h => hpan h) (Or.inr ⟨by kernel_rfl, rfl⟩) ?_
  try simp only [Act.put, List.setIfInBounds_toArray, List.set_cons_zero, List.set_cons_succ]
  refine wpAny_take (i := 9) (oi := { dst := some 27, op := Op.fieldAddr 58 (Operand.tmp 4) 0, type := 0, pos := "spot.go:62", after := #[{ on := 2, ground := Ground.guard }], guard := some (2, false) }) (v := undef) rfl (by kernel_rfl) (by kernel_rfl) (by kernel_rfl) (fun _ _ _ h => hpan h) (Or.inr ⟨by kernel_rfl, rfl⟩) ?_
  try simp only [Act.put, List.setIfInBounds_toArray, List.set_cons_zero, List.set_cons_succ]
  refine wpAny_take (i := 10) (oi := { dst := some 28, op := Op.load 3 (Operand.tmp 27), type := 3, pos := "spot.go:62", after := #[{ on := 9, ground := Ground.data }, { on := 2, ground := Ground.guard }], guard := some (2, false) }) (v := undef) rfl (by kernel_rfl) (by kernel_rfl) (by kernel_rfl) (fun _ _ _ h => hpan h) (Or.inr ⟨by kernel_rfl, rfl⟩) ?_
  try simp only [Act.put, List.setIfInBounds_toArray, List.set_cons_zero, List.set_cons_succ]
  refine wpAny_take (i := 11) (oi := { dst := some 29, op := Op.binOp BinOp.neq 3 (Operand.tmp 26) (Operand.tmp 28) 3, type := 4, pos := "spot.go:62", after := #[{ on := 8, ground := Ground.data }, { on := 10, ground := Ground.data }, { on := 2, ground := Ground.guard }], guard := some (2, false) }) (v := undef) rfl (by kernel_rfl) (by kernel_rfl) (by kernel_rfl) (fun _ _ _ h => hpan h) (Or.inr ⟨by kernel_rfl, rfl⟩) ?_
  try simp only [Act.put, List.setIfInBounds_toArray, List.set_cons_zero, List.set_cons_succ]
  refine wpAny_take (i := 12) (oi := { dst := some 30, op := Op.pick (Operand.tmp 20) (Operand.const (Value.bool true)) (Operand.tmp 29), type := 4, pos := "spot.go:62", after := #[{ on := 2, ground := Ground.data }, { on := 11, ground := Ground.data }], guard := none }) (v := .bool true) rfl (by kernel_rfl) (by kernel_rfl) (by kernel_rfl) (fun _ _ _ h => hpan h) (Or.inl ⟨by kernel_rfl, ?_⟩) ?_
  case refine_1 => intro w; go_simp; try (first | rfl | omega)
  try simp only [Act.put, List.setIfInBounds_toArray, List.set_cons_zero, List.set_cons_succ]
  refine wpAny_done (by kernel_rfl) ?_ _
  exact hQ
set_option maxRecDepth 100000 in
set_option maxHeartbeats 2000000 in
theorem recv6b {lp n : Nat} {Q : Exit → Act → World → Prop} (hno : ¬ LetsOut Q) (hpan : ∀ {c a w a'}, Q (.panic c) a w → Q (.panic c) a' w) {v0 v1 v2 v3 v7 v8 v9 v10 v11 v12 v13 v14 v15 v16 v17 v18 v19 v20 v21 v22 v23 v24 v25 v26 v27 v28 v29 v30 v31 v32 v33 v34 v35 v36 v37 v38 v39 v40 v41 v42 v43 v44 v45 v46 v47 v48 v49 v50 v51 v52 v53 v54 v55 v56 v57 : Value} {W : World} {tb gb m cap0 : Nat} {x y : Int} (hm : m ≤ 1000000) (h1 : m + 1 ≤ cap0) (h2 : cap0 ≤ maxLen) (c0 : W.drew.cell? ⟨gb, m * 2, none⟩ = some (.int .i64 x)) (c1 : W.drew.cell? ⟨tb, 0, none⟩ = some (.int .i64 y)) (hQ : Q .normal { tmps := #[v0, v1, v2, v3, .pointer (some ⟨tb, 0, none⟩), .slice (some ⟨gb, 0, none⟩) (m + 1) cap0, .int .i64 (m + 1 : Nat), v7, v8, v9, v10, v11, v12, v13, v14, v15, v16, v17, .int .i64 (m + 1 : Nat), .bool false, .bool false, .slice (some ⟨gb, 0, none⟩) (m + 1) cap0, .int .i64 (m + 1 : Nat), .int .i64 m, .pointer (some ⟨gb, m * 2, none⟩), .pointer (some ⟨gb, m * 2, none⟩), .int .i64 x, .pointer (some ⟨tb, 0, none⟩), .int .i64 y, .bool (x != y), .bool (x != y), v31, v32, v33, v34, v35, v36, v37, v38, v39, v40, v41, v42, v43, v44, v45, v46, v47, v48, v49, v50, v51, v52, v53, v54, v55, v56, v57], defers := [] } W.drew) :
    (Code.region 6 #[{ dst := some 18, op := Op.move (Operand.tmp 6), type := 3, pos := "spot.go:62", after := #[], guard := none }, { dst := some 19, op := Op.binOp BinOp.eql 3 (Operand.tmp 18) (Operand.const (Value.int IntKind.i64 0)) 3, type := 4, pos := "spot.go:62", after := #[{ on := 0, ground := Ground.data }], guard := none }, { dst := some 20, op := Op.move (Operand.tmp 19), type := 4, pos := "spot.go:62", after := #[{ on := 1, ground := Ground.data }], guard := none }, { dst := some 21, op := Op.move (Operand.tmp 5), type := 66, pos := "spot.go:62", after := #[{ on := 2, ground := Ground.guard }], guard := some (2, false) }, { dst := some 22, op := Op.move (Operand.tmp 6), type := 3, pos := "spot.go:62", after := #[{ on := 2, ground := Ground.guard }], guard := some (2, false) }, { dst := some 23, op := Op.binOp BinOp.sub 3 (Operand.tmp 22) (Operand.const (Value.int IntKind.i64 1)) 3, type := 3, pos := "spot.go:62", after := #[{ on := 4, ground := Ground.data }, { on := 2, ground := Ground.guard }], guard := some (2, false) }, { dst := some 24, op := Op.indexAddr 66 (Operand.tmp 21) (Operand.tmp 23), type := 0, pos := "spot.go:62", after := #[{ on := 3, ground := Ground.data }, { on := 5, ground := Ground.data }, { on := 2, ground := Ground.guard }], guard := some (2, false) }, { dst := some 25, op := Op.fieldAddr 61 (Operand.tmp 24) 0, type := 0, pos := "spot.go:62", after := #[{ on := 6, ground := Ground.data }, { on := 2, ground := Ground.guard }], guard := some (2, false) }, { dst := some 26, op := Op.load 3 (Operand.tmp 25), type := 3, pos := "spot.go:62", after := #[{ on := 7, ground := Ground.data }, { on := 2, ground := Ground.guard }], guard := some (2, false) }, { dst := some 27, op := Op.fieldAddr 58 (Operand.tmp 4) 0, type := 0, pos := "spot.go:62", after := #[{ on := 2, ground := Ground.guard }], guard := some (2, false) }, { dst := some 28, op := Op.load 3 (Operand.tmp 27), type := 3, pos := "spot.go:62", after := #[{ on := 9, ground := Ground.data }, { on := 2, ground := Ground.guard }], guard := some (2, false) }, { dst := some 29, op := Op.binOp BinOp.neq 3 (Operand.tmp 26) (Operand.tmp 28) 3, type := 4, pos := "spot.go:62", after := #[{ on := 8, ground := Ground.data }, { on := 10, ground := Ground.data }, { on := 2, ground := Ground.guard }], guard := some (2, false) }, { dst := some 30, op := Op.pick (Operand.tmp 20) (Operand.const (Value.bool true)) (Operand.tmp 29), type := 4, pos := "spot.go:62", after := #[{ on := 2, ground := Ground.data }, { on := 11, ground := Ground.data }], guard := none }] true).wpIn (Fence.wide.inRound lp) n Try.prog Q { tmps := #[v0, v1, v2, v3, .pointer (some ⟨tb, 0, none⟩), .slice (some ⟨gb, 0, none⟩) (m + 1) cap0, .int .i64 (m + 1 : Nat), v7, v8, v9, v10, v11, v12, v13, v14, v15, v16, v17, v18, v19, v20, v21, v22, v23, v24, v25, v26, v27, v28, v29, v30, v31, v32, v33, v34, v35, v36, v37, v38, v39, v40, v41, v42, v43, v44, v45, v46, v47, v48, v49, v50, v51, v52, v53, v54, v55, v56, v57], defers := [] } W := by
  have w1 : IntKind.i64.wrap (((m + 1 : Nat) : Int) - 1) = (m : Int) := by rw [show ((m + 1 : Nat) : Int) - 1 = m by omega]; exact wrapI (by omega)
  have w5 : IntKind.i64.wrap (m : Int) = (m : Int) := wrapI (by omega)
  have w2 : (((m + 1 : Nat) : Int) == 0) = false := by simp; omega
  have w3 : (0 : Int) ≤ m := by omega
  have w4 : (m : Int) < ((m + 1 : Nat) : Int) := by omega
  unfold maxLen at h2
  refine region_in (by kernel_rfl) (noDefer_all (by kernel_rfl)) hno ?_
  try simp only [List.size_toArray, List.length_cons, List.length_nil]
  refine wpAny_take (i := 0) (oi := { dst := some 18, op := Op.move (Operand.tmp 6), type := 3, pos := "spot.go:62", after := #[], guard := none }) (v := ?_) rfl (by kernel_rfl) (by kernel_rfl) (by kernel_rfl) (fun _ _ _ h => hpan h) (Or.inl ⟨by kernel_rfl, ?_⟩) ?_
  case refine_2 => intro w; go_simp; try (first | rfl | omega)
  try simp only [Act.put, List.setIfInBounds_toArray, List.set_cons_zero, List.set_cons_succ]
  refine wpAny_take (i := 1) (oi := { dst := some 19, op := Op.binOp BinOp.eql 3 (Operand.tmp 18) (Operand.const (Value.int IntKind.i64 0)) 3, type := 4, pos := "spot.go:62", after := #[{ on := 0, ground := Ground.data }], guard := none }) (v := .bool false) rfl (by kernel_rfl) (by kernel_rfl) (by kernel_rfl) (fun _ _ _ h => hpan h) (Or.inl ⟨by kernel_rfl, ?_⟩) ?_
  case refine_1 => intro w; go_simp; try (first | rfl | omega)
  try simp only [Act.put, List.setIfInBounds_toArray, List.set_cons_zero, List.set_cons_succ]
  refine wpAny_take (i := 2) (oi := { dst := some 20, op := Op.move (Operand.tmp 19), type := 4, pos := "spot.go:62", after := #[{ on := 1, ground := Ground.data }], guard := none }) (v := ?_) rfl (by kernel_rfl) (by kernel_rfl) (by kernel_rfl) (fun _ _ _ h => hpan h) (Or.inl ⟨by kernel_rfl, ?_⟩) ?_
  case refine_2 => intro w; go_simp; try (first | rfl | omega)
  try simp only [Act.put, List.setIfInBounds_toArray, List.set_cons_zero, List.set_cons_succ]
  refine wpAny_take (i := 3) (oi := { dst := some 21, op := Op.move (Operand.tmp 5), type := 66, pos := "spot.go:62", after := #[{ on := 2, ground := Ground.guard }], guard := some (2, false) }) (v := ?_) rfl (by kernel_rfl) (by kernel_rfl) (by kernel_rfl) (fun _ _ _ h => hpan h) (Or.inl ⟨by kernel_rfl, ?_⟩) ?_
  case refine_2 => intro w; go_simp; try (first | rfl | omega)
  try simp only [Act.put, List.setIfInBounds_toArray, List.set_cons_zero, List.set_cons_succ]
  refine wpAny_take (i := 4) (oi := { dst := some 22, op := Op.move (Operand.tmp 6), type := 3, pos := "spot.go:62", after := #[{ on := 2, ground := Ground.guard }], guard := some (2, false) }) (v := ?_) rfl (by kernel_rfl) (by kernel_rfl) (by kernel_rfl) (fun _ _ _ h => hpan h) (Or.inl ⟨by kernel_rfl, ?_⟩) ?_
  case refine_2 => intro w; go_simp; try (first | rfl | omega)
  try simp only [Act.put, List.setIfInBounds_toArray, List.set_cons_zero, List.set_cons_succ]
  refine wpAny_take (i := 5) (oi := { dst := some 23, op := Op.binOp BinOp.sub 3 (Operand.tmp 22) (Operand.const (Value.int IntKind.i64 1)) 3, type := 3, pos := "spot.go:62", after := #[{ on := 4, ground := Ground.data }, { on := 2, ground := Ground.guard }], guard := some (2, false) }) (v := .int .i64 m) rfl (by kernel_rfl) (by kernel_rfl) (by kernel_rfl) (fun _ _ _ h => hpan h) (Or.inl ⟨by kernel_rfl, ?_⟩) ?_
  case refine_1 => intro w; go_simp; try (first | rfl | omega)
  try simp only [Act.put, List.setIfInBounds_toArray, List.set_cons_zero, List.set_cons_succ]
  refine wpAny_take (i := 6) (oi := { dst := some 24, op := Op.indexAddr 66 (Operand.tmp 21) (Operand.tmp 23), type := 0, pos := "spot.go:62", after := #[{ on := 3, ground := Ground.data }, { on := 5, ground := Ground.data }, { on := 2, ground := Ground.guard }], guard := some (2, false) }) (v := .pointer (some ⟨gb, m * 2, none⟩)) rfl (by kernel_rfl) (by kernel_rfl) (by kernel_rfl) (fun _ _ _ h => hpan h) (Or.inl ⟨by kernel_rfl, ?_⟩) ?_
  case refine_1 => intro w; go_simp; try (first | rfl | omega)
  try simp only [Act.put, List.setIfInBounds_toArray, List.set_cons_zero, List.set_cons_succ]
  refine wpAny_take (i := 7) (oi := { dst := some 25, op := Op.fieldAddr 61 (Operand.tmp 24) 0, type := 0, pos := "spot.go:62", after := #[{ on := 6, ground := Ground.data }, { on := 2, ground := Ground.guard }], guard := some (2, false) }) (v := ?_) rfl (by kernel_rfl) (by kernel_rfl) (by kernel_rfl) (fun _ _ _ h => hpan h) (Or.inl ⟨by kernel_rfl, ?_⟩) ?_
  case refine_2 => intro w; go_simp; try (first | rfl | omega)
  try simp only [Act.put, List.setIfInBounds_toArray, List.set_cons_zero, List.set_cons_succ]
  refine wpAny_take (i := 9) (oi := { dst := some 27, op := Op.fieldAddr 58 (Operand.tmp 4) 0, type := 0, pos := "spot.go:62", after := #[{ on := 2, ground := Ground.guard }], guard := some (2, false) }) (v := ?_) rfl (by kernel_rfl) (by kernel_rfl) (by kernel_rfl) (fun _ _ _ h => hpan h) (Or.inl ⟨by kernel_rfl, ?_⟩) ?_
  case refine_2 => intro w; go_simp; try (first | rfl | omega)
  try simp only [Act.put, List.setIfInBounds_toArray, List.set_cons_zero, List.set_cons_succ]
  refine wpAny_ready (rs := [8, 10]) (by kernel_rfl) (by simp) ?_
  refine AllReady.cons (o := { dst := some 26, op := Op.load 3 (Operand.tmp 25), type := 3, pos := "spot.go:62", after := #[{ on := 7, ground := Ground.data }, { on := 2, ground := Ground.guard }], guard := some (2, false) }) rfl (fun KK hKK => ?_) (AllReady.cons (o := { dst := some 28, op := Op.load 3 (Operand.tmp 27), type := 3, pos := "spot.go:62", after := #[{ on := 9, ground := Ground.data }, { on := 2, ground := Ground.guard }], guard := some (2, false) }) rfl (fun KK hKK => ?_) (AllReady.nil))
  · go_simp
    refine hKK _ _ ?_
    clear hKK KK
    try simp only [Act.put, List.setIfInBounds_toArray, List.set_cons_zero, List.set_cons_succ]
    refine wpAny_ready (rs := [10]) (by kernel_rfl) (by simp) ?_
    refine AllReady.cons (o := { dst := some 28, op := Op.load 3 (Operand.tmp 27), type := 3, pos := "spot.go:62", after := #[{ on := 9, ground := Ground.data }, { on := 2, ground := Ground.guard }], guard := some (2, false) }) rfl (fun KK hKK => ?_) (AllReady.nil)
    go_simp
    refine hKK _ _ ?_
    clear hKK KK
    try simp only [Act.put, List.setIfInBounds_toArray, List.set_cons_zero, List.set_cons_succ]
    refine wpAny_take (i := 11) (oi := { dst := some 29, op := Op.binOp BinOp.neq 3 (Operand.tmp 26) (Operand.tmp 28) 3, type := 4, pos := "spot.go:62", after := #[{ on := 8, ground := Ground.data }, { on := 10, ground := Ground.data }, { on := 2, ground := Ground.guard }], guard := some (2, false) }) (v := .bool (x != y)) rfl (by kernel_rfl) (by kernel_rfl) (by kernel_rfl) (fun _ _ _ h => hpan h) (Or.inl ⟨by kernel_rfl, ?_⟩) ?_
    case refine_1 => intro w; go_simp; try (first | rfl | omega)
    try simp only [Act.put, List.setIfInBounds_toArray, List.set_cons_zero, List.set_cons_succ]
    refine wpAny_take (i := 12) (oi := { dst := some 30, op := Op.pick (Operand.tmp 20) (Operand.const (Value.bool true)) (Operand.tmp 29), type := 4, pos := "spot.go:62", after := #[{ on := 2, ground := Ground.data }, { on := 11, ground := Ground.data }], guard := none }) (v := .bool (x != y)) rfl (by kernel_rfl) (by kernel_rfl) (by kernel_rfl) (fun _ _ _ h => hpan h) (Or.inl ⟨by kernel_rfl, ?_⟩) ?_
    case refine_1 => intro w; go_simp; try (first | rfl | omega)
    try simp only [Act.put, List.setIfInBounds_toArray, List.set_cons_zero, List.set_cons_succ]
    refine wpAny_done (by kernel_rfl) ?_ _
    exact hQ
  · go_simp
    refine hKK _ _ ?_
    clear hKK KK
    try simp only [Act.put, List.setIfInBounds_toArray, List.set_cons_zero, List.set_cons_succ]
    refine wpAny_ready (rs := [8]) (by kernel_rfl) (by simp) ?_
    refine AllReady.cons (o := { dst := some 26, op := Op.load 3 (Operand.tmp 25), type := 3, pos := "spot.go:62", after := #[{ on := 7, ground := Ground.data }, { on := 2, ground := Ground.guard }], guard := some (2, false) }) rfl (fun KK hKK => ?_) (AllReady.nil)
    go_simp
    refine hKK _ _ ?_
    clear hKK KK
    try simp only [Act.put, List.setIfInBounds_toArray, List.set_cons_zero, List.set_cons_succ]
    refine wpAny_take (i := 11) (oi := { dst := some 29, op := Op.binOp BinOp.neq 3 (Operand.tmp 26) (Operand.tmp 28) 3, type := 4, pos := "spot.go:62", after := #[{ on := 8, ground := Ground.data }, { on := 10, ground := Ground.data }, { on := 2, ground := Ground.guard }], guard := some (2, false) }) (v := .bool (x != y)) rfl (by kernel_rfl) (by kernel_rfl) (by kernel_rfl) (fun _ _ _ h => hpan h) (Or.inl ⟨by kernel_rfl, ?_⟩) ?_
    case refine_1 => intro w; go_simp; try (first | rfl | omega)
    try simp only [Act.put, List.setIfInBounds_toArray, List.set_cons_zero, List.set_cons_succ]
    refine wpAny_take (i := 12) (oi := { dst := some 30, op := Op.pick (Operand.tmp 20) (Operand.const (Value.bool true)) (Operand.tmp 29), type := 4, pos := "spot.go:62", after := #[{ on := 2, ground := Ground.data }, { on := 11, ground := Ground.data }], guard := none }) (v := .bool (x != y)) rfl (by kernel_rfl) (by kernel_rfl) (by kernel_rfl) (fun _ _ _ h => hpan h) (Or.inl ⟨by kernel_rfl, ?_⟩) ?_
    case refine_1 => intro w; go_simp; try (first | rfl | omega)
    try simp only [Act.put, List.setIfInBounds_toArray, List.set_cons_zero, List.set_cons_succ]
    refine wpAny_done (by kernel_rfl) ?_ _
    exact hQ
set_option maxRecDepth 100000 in
set_option maxHeartbeats 2000000 in
theorem recv9 {lp n : Nat} {Q : Exit → Act → World → Prop} (hno : ¬ LetsOut Q) (hpan : ∀ {c a w a'}, Q (.panic c) a w → Q (.panic c) a' w) {v0 v1 v2 v3 v5 v6 v8 v9 v10 v11 v12 v13 v14 v15 v16 v17 v18 v19 v20 v21 v22 v23 v24 v25 v26 v27 v28 v29 v30 v31 v32 v33 v34 v35 v36 v37 v38 v39 v40 v41 v42 v43 v44 v45 v46 v47 v48 v49 v50 v51 v52 v53 v54 v55 v56 v57 : Value} {W : World} {tb gb o base qn qc : Nat} {qp : Option Addr} {y : Int} {pls : List Value} (c0 : W.drew.cell? ⟨tb, 1, none⟩ = some (.int .i64 y)) (c1 : W.drew.cell? ⟨gb, o + 1, none⟩ = some (.slice qp qn qc)) (c2 : (W.alloc (.cells #[.int .i64 y] 3)).drew.cell? ⟨gb, o + 1, none⟩ = some (.slice qp qn qc)) (hown : (W.alloc (.cells #[.int .i64 y] 3)).drew.ownsRow base 3 1 (.slice qp qn qc) qn pls) (hq : qn ≤ 1000000) (hbs : base ≤ (W.alloc (.cells #[.int .i64 y] 3)).drew.heap.size)
    (hK : ∀ hb cap w5, w5.ownsRow base 3 1 (.slice (some ⟨hb, 0, none⟩) (qn + 1) cap) (qn + 1) (pls ++ [.int .i64 y]) → (W.alloc (.cells #[.int .i64 y] 3)).drew.grownBy w5 (Value.slice qp qn qc).ownBlock → ((Value.slice qp qn qc).ownBlock = some hb ∨ hb = (W.alloc (.cells #[.int .i64 y] 3)).drew.heap.size) →
      (∃ v, w5.cell? ⟨gb, o + 1, none⟩ = some v ∧ v.oneCell' = true) ∧ w5.frozen? ⟨gb, o + 1, none⟩ = false ∧ Q .normal { tmps := #[v0, v1, v2, v3, .pointer (some ⟨tb, 0, none⟩), v5, v6, .pointer (some ⟨gb, o, none⟩), v8, v9, v10, v11, v12, v13, v14, v15, v16, v17, v18, v19, v20, v21, v22, v23, v24, v25, v26, v27, v28, v29, v30, v31, v32, v33, v34, v35, v36, v37, v38, v39, v40, v41, .pointer (some ⟨gb, o, none⟩), .pointer (some ⟨gb, o, none⟩), .pointer (some ⟨gb, o, none⟩), .pointer (some ⟨gb, o + 1, none⟩), .slice qp qn qc, .pointer (some ⟨tb, 1, none⟩), .int .i64 y, .slice (some ⟨W.heap.size, 0, none⟩) 1 1, .slice (some ⟨hb, 0, none⟩) (qn + 1) cap, .pointer (some ⟨gb, o, none⟩), .pointer (some ⟨gb, o + 1, none⟩), v53, v54, v55, v56, v57], defers := [] } (w5.setCell ⟨gb, o + 1, none⟩ (.slice (some ⟨hb, 0, none⟩) (qn + 1) cap))) :
    (Code.region 9 #[{ dst := some 42, op := Op.move (Operand.tmp 7), type := 68, pos := "spot.go:66", after := #[], guard := none }, { dst := some 43, op := Op.move (Operand.tmp 7), type := 68, pos := "spot.go:66", after := #[], guard := none }, { dst := some 44, op := Op.nilCheck (Operand.tmp 43), type := 0, pos := "spot.go:66", after := #[{ on := 1, ground := Ground.data }], guard := none }, { dst := some 45, op := Op.fieldAddr 61 (Operand.tmp 44) 1, type := 0, pos := "spot.go:66", after := #[{ on := 2, ground := Ground.data }], guard := none }, { dst := some 46, op := Op.load 59 (Operand.tmp 45), type := 59, pos := "spot.go:66", after := #[{ on := 3, ground := Ground.data }], guard := none }, { dst := some 47, op := Op.fieldAddr 58 (Operand.tmp 4) 1, type := 0, pos := "spot.go:66", after := #[], guard := none }, { dst := some 48, op := Op.load 3 (Operand.tmp 47), type := 3, pos := "spot.go:66", after := #[{ on := 5, ground := Ground.data }], guard := none }, { dst := some 49, op := Op.buildSlice 59 1 #[(0, Operand.tmp 48)], type := 59, pos := "spot.go:66", after := #[{ on := 6, ground := Ground.data }], guard := none }, { dst := some 50, op := Op.call { callee := Callee.builtin Builtin.append, args := #[Operand.tmp 46, Operand.tmp 49], argTypes := #[59, 59] }, type := 59, pos := "spot.go:66", after := #[{ on := 4, ground := Ground.data }, { on := 7, ground := Ground.data }], guard := none }, { dst := some 51, op := Op.nilCheck (Operand.tmp 42), type := 0, pos := "spot.go:66", after := #[{ on := 0, ground := Ground.data }, { on := 0, ground := Ground.phase }, { on := 1, ground := Ground.phase }, { on := 2, ground := Ground.phase }, { on := 3, ground := Ground.phase }, { on := 4, ground := Ground.phase }, { on := 5, ground := Ground.phase }, { on := 6, ground := Ground.phase }, { on := 7, ground := Ground.phase }, { on := 8, ground := Ground.phase }], guard := none }, { dst := some 52, op := Op.fieldAddr 61 (Operand.tmp 51) 1, type := 0, pos := "spot.go:66", after := #[{ on := 9, ground := Ground.data }, { on := 0, ground := Ground.phase }, { on := 1, ground := Ground.phase }, { on := 2, ground := Ground.phase }, { on := 3, ground := Ground.phase }, { on := 4, ground := Ground.phase }, { on := 5, ground := Ground.phase }, { on := 6, ground := Ground.phase }, { on := 7, ground := Ground.phase }, { on := 8, ground := Ground.phase }], guard := none }, { dst := none, op := Op.store 59 (Operand.tmp 52) (Operand.tmp 50), type := 0, pos := "spot.go:66", after := #[{ on := 10, ground := Ground.data }, { on := 8, ground := Ground.data }, { on := 8, ground := Ground.chain }, { on := 0, ground := Ground.phase }, { on := 1, ground := Ground.phase }, { on := 2, ground := Ground.phase }, { on := 3, ground := Ground.phase }, { on := 4, ground := Ground.phase }, { on := 5, ground := Ground.phase }, { on := 6, ground := Ground.phase }, { on := 7, ground := Ground.phase }, { on := 8, ground := Ground.phase }], guard := none }] true).wpIn (Fence.wide.inRound lp) n Try.prog Q { tmps := #[v0, v1, v2, v3, .pointer (some ⟨tb, 0, none⟩), v5, v6, .pointer (some ⟨gb, o, none⟩), v8, v9, v10, v11, v12, v13, v14, v15, v16, v17, v18, v19, v20, v21, v22, v23, v24, v25, v26, v27, v28, v29, v30, v31, v32, v33, v34, v35, v36, v37, v38, v39, v40, v41, v42, v43, v44, v45, v46, v47, v48, v49, v50, v51, v52, v53, v54, v55, v56, v57], defers := [] } W := by
  obtain ⟨j0, hj, jz0, jz1, jz2⟩ := info_parts infoI
  refine region_in (by kernel_rfl) (noDefer_all (by kernel_rfl)) hno ?_
  try simp only [List.size_toArray, List.length_cons, List.length_nil]
  refine wpAny_take (i := 0) (oi := { dst := some 42, op := Op.move (Operand.tmp 7), type := 68, pos := "spot.go:66", after := #[], guard := none }) (v := ?_) rfl (by kernel_rfl) (by kernel_rfl) (by kernel_rfl) (fun _ _ _ h => hpan h) (Or.inl ⟨by kernel_rfl, ?_⟩) ?_
  case refine_2 => intro w; go_simp; try (first | rfl | omega)
  try simp only [Act.put, List.setIfInBounds_toArray, List.set_cons_zero, List.set_cons_succ]
  refine wpAny_take (i := 1) (oi := { dst := some 43, op := Op.move (Operand.tmp 7), type := 68, pos := "spot.go:66", after := #[], guard := none }) (v := ?_) rfl (by kernel_rfl) (by kernel_rfl) (by kernel_rfl) (fun _ _ _ h => hpan h) (Or.inl ⟨by kernel_rfl, ?_⟩) ?_
  case refine_2 => intro w; go_simp; try (first | rfl | omega)
  try simp only [Act.put, List.setIfInBounds_toArray, List.set_cons_zero, List.set_cons_succ]
  refine wpAny_take (i := 2) (oi := { dst := some 44, op := Op.nilCheck (Operand.tmp 43), type := 0, pos := "spot.go:66", after := #[{ on := 1, ground := Ground.data }], guard := none }) (v := ?_) rfl (by kernel_rfl) (by kernel_rfl) (by kernel_rfl) (fun _ _ _ h => hpan h) (Or.inl ⟨by kernel_rfl, ?_⟩) ?_
  case refine_2 => intro w; go_simp; try (first | rfl | omega)
  try simp only [Act.put, List.setIfInBounds_toArray, List.set_cons_zero, List.set_cons_succ]
  refine wpAny_take (i := 3) (oi := { dst := some 45, op := Op.fieldAddr 61 (Operand.tmp 44) 1, type := 0, pos := "spot.go:66", after := #[{ on := 2, ground := Ground.data }], guard := none }) (v := ?_) rfl (by kernel_rfl) (by kernel_rfl) (by kernel_rfl) (fun _ _ _ h => hpan h) (Or.inl ⟨by kernel_rfl, ?_⟩) ?_
  case refine_2 => intro w; go_simp; try (first | rfl | omega)
  try simp only [Act.put, List.setIfInBounds_toArray, List.set_cons_zero, List.set_cons_succ]
  refine wpAny_take (i := 5) (oi := { dst := some 47, op := Op.fieldAddr 58 (Operand.tmp 4) 1, type := 0, pos := "spot.go:66", after := #[], guard := none }) (v := ?_) rfl (by kernel_rfl) (by kernel_rfl) (by kernel_rfl) (fun _ _ _ h => hpan h) (Or.inl ⟨by kernel_rfl, ?_⟩) ?_
  case refine_2 => intro w; go_simp; try (first | rfl | omega)
  try simp only [Act.put, List.setIfInBounds_toArray, List.set_cons_zero, List.set_cons_succ]
  refine wpAny_ready (rs := [4, 6]) (by kernel_rfl) (by simp) ?_
  refine AllReady.cons (o := { dst := some 46, op := Op.load 59 (Operand.tmp 45), type := 59, pos := "spot.go:66", after := #[{ on := 3, ground := Ground.data }], guard := none }) rfl (fun KK hKK => ?_) (AllReady.cons (o := { dst := some 48, op := Op.load 3 (Operand.tmp 47), type := 3, pos := "spot.go:66", after := #[{ on := 5, ground := Ground.data }], guard := none }) rfl (fun KK hKK => ?_) (AllReady.nil))
  · go_simp
    refine hKK _ _ ?_
    clear hKK KK
    try simp only [Act.put, List.setIfInBounds_toArray, List.set_cons_zero, List.set_cons_succ]
    refine wpAny_ready (rs := [6]) (by kernel_rfl) (by simp) ?_
    refine AllReady.cons (o := { dst := some 48, op := Op.load 3 (Operand.tmp 47), type := 3, pos := "spot.go:66", after := #[{ on := 5, ground := Ground.data }], guard := none }) rfl (fun KK hKK => ?_) (AllReady.nil)
    go_simp
    refine hKK _ _ ?_
    clear hKK KK
    try simp only [Act.put, List.setIfInBounds_toArray, List.set_cons_zero, List.set_cons_succ]
    refine wpAny_ready (rs := [7]) (by kernel_rfl) (by simp) ?_
    refine AllReady.cons (o := { dst := some 49, op := Op.buildSlice 59 1 #[(0, Operand.tmp 48)], type := 59, pos := "spot.go:66", after := #[{ on := 6, ground := Ground.data }], guard := none }) rfl (fun KK hKK => ?_) (AllReady.nil)
    go_simp
    refine hKK _ _ ?_
    clear hKK KK
    try simp only [Act.put, List.setIfInBounds_toArray, List.set_cons_zero, List.set_cons_succ]
    refine wpAny_ready (rs := [8]) (by kernel_rfl) (by simp) ?_
    refine AllReady.cons (o := { dst := some 50, op := Op.call { callee := Callee.builtin Builtin.append, args := #[Operand.tmp 46, Operand.tmp 49], argTypes := #[59, 59] }, type := 59, pos := "spot.go:66", after := #[{ on := 4, ground := Ground.data }, { on := 7, ground := Ground.data }], guard := none }) rfl (fun KK hKK => ?_) (AllReady.nil)
    refine step_append_lies _ rfl (.tmp 46) (.tmp 49) 59 rfl base 3 j0 (.int .i64 0) 1 8 Try.underlying59 hj jz0 jz1 jz2 rfl (by decide) (.slice qp qn qc) qn pls (by simp [Act.eval, Act.put]) hown ⟨W.heap.size, 0, none⟩ 1 1 [.int .i64 y] (by simp [Act.eval, Act.put]) rfl (block_cells _ _ #[.int .i64 y] 3 (World.alloc_heap_new W _)) (by simp [Value.oneCell']) (by decide) (by unfold maxLen; omega) (by omega) hbs _ rfl ?_
    intro hb cap w5 hown' hgrow hat hlt8
    obtain ⟨⟨v9, k0, k2⟩, k1, k3⟩ := hK hb cap w5 hown' hgrow hat
    refine hKK _ _ ?_
    clear hKK KK hK
    refine wpAny_take (i := 9) (oi := { dst := some 51, op := Op.nilCheck (Operand.tmp 42), type := 0, pos := "spot.go:66", after := #[{ on := 0, ground := Ground.data }, { on := 0, ground := Ground.phase }, { on := 1, ground := Ground.phase }, { on := 2, ground := Ground.phase }, { on := 3, ground := Ground.phase }, { on := 4, ground := Ground.phase }, { on := 5, ground := Ground.phase }, { on := 6, ground := Ground.phase }, { on := 7, ground := Ground.phase }, { on := 8, ground := Ground.phase }], guard := none }) (v := ?_) rfl (by kernel_rfl) (by kernel_rfl) (by kernel_rfl) (fun _ _ _ h => hpan h) (Or.inl ⟨by kernel_rfl, ?_⟩) ?_
    case refine_2 => intro w; go_simp; try (first | rfl | omega)
    try simp only [Act.put, List.setIfInBounds_toArray, List.set_cons_zero, List.set_cons_succ]
    refine wpAny_take (i := 10) (oi := { dst := some 52, op := Op.fieldAddr 61 (Operand.tmp 51) 1, type := 0, pos := "spot.go:66", after := #[{ on := 9, ground := Ground.data }, { on := 0, ground := Ground.phase }, { on := 1, ground := Ground.phase }, { on := 2, ground := Ground.phase }, { on := 3, ground := Ground.phase }, { on := 4, ground := Ground.phase }, { on := 5, ground := Ground.phase }, { on := 6, ground := Ground.phase }, { on := 7, ground := Ground.phase }, { on := 8, ground := Ground.phase }], guard := none }) (v := ?_) rfl (by kernel_rfl) (by kernel_rfl) (by kernel_rfl) (fun _ _ _ h => hpan h) (Or.inl ⟨by kernel_rfl, ?_⟩) ?_
    case refine_2 => intro w; go_simp; try (first | rfl | omega)
    try simp only [Act.put, List.setIfInBounds_toArray, List.set_cons_zero, List.set_cons_succ]
    refine wpAny_ready (rs := [11]) (by kernel_rfl) (by simp) ?_
    refine AllReady.cons (o := { dst := none, op := Op.store 59 (Operand.tmp 52) (Operand.tmp 50), type := 0, pos := "spot.go:66", after := #[{ on := 10, ground := Ground.data }, { on := 8, ground := Ground.data }, { on := 8, ground := Ground.chain }, { on := 0, ground := Ground.phase }, { on := 1, ground := Ground.phase }, { on := 2, ground := Ground.phase }, { on := 3, ground := Ground.phase }, { on := 4, ground := Ground.phase }, { on := 5, ground := Ground.phase }, { on := 6, ground := Ground.phase }, { on := 7, ground := Ground.phase }, { on := 8, ground := Ground.phase }], guard := none }) rfl (fun KK hKK => ?_) (AllReady.nil)
    go_simp
    refine hKK _ _ ?_
    clear hKK KK
    try simp only [Act.put, List.setIfInBounds_toArray, List.set_cons_zero, List.set_cons_succ]
    refine wpAny_done (by kernel_rfl) ?_ _
    exact k3
  · go_simp
    refine hKK _ _ ?_
    clear hKK KK
    try simp only [Act.put, List.setIfInBounds_toArray, List.set_cons_zero, List.set_cons_succ]
    refine wpAny_ready (rs := [4, 7]) (by kernel_rfl) (by simp) ?_
    refine AllReady.cons (o := { dst := some 46, op := Op.load 59 (Operand.tmp 45), type := 59, pos := "spot.go:66", after := #[{ on := 3, ground := Ground.data }], guard := none }) rfl (fun KK hKK => ?_) (AllReady.cons (o := { dst := some 49, op := Op.buildSlice 59 1 #[(0, Operand.tmp 48)], type := 59, pos := "spot.go:66", after := #[{ on := 6, ground := Ground.data }], guard := none }) rfl (fun KK hKK => ?_) (AllReady.nil))
    · go_simp
      refine hKK _ _ ?_
      clear hKK KK
      try simp only [Act.put, List.setIfInBounds_toArray, List.set_cons_zero, List.set_cons_succ]
      refine wpAny_ready (rs := [7]) (by kernel_rfl) (by simp) ?_
      refine AllReady.cons (o := { dst := some 49, op := Op.buildSlice 59 1 #[(0, Operand.tmp 48)], type := 59, pos := "spot.go:66", after := #[{ on := 6, ground := Ground.data }], guard := none }) rfl (fun KK hKK => ?_) (AllReady.nil)
      go_simp
      refine hKK _ _ ?_
      clear hKK KK
      try simp only [Act.put, List.setIfInBounds_toArray, List.set_cons_zero, List.set_cons_succ]
      refine wpAny_ready (rs := [8]) (by kernel_rfl) (by simp) ?_
      refine AllReady.cons (o := { dst := some 50, op := Op.call { callee := Callee.builtin Builtin.append, args := #[Operand.tmp 46, Operand.tmp 49], argTypes := #[59, 59] }, type := 59, pos := "spot.go:66", after := #[{ on := 4, ground := Ground.data }, { on := 7, ground := Ground.data }], guard := none }) rfl (fun KK hKK => ?_) (AllReady.nil)
      refine step_append_lies _ rfl (.tmp 46) (.tmp 49) 59 rfl base 3 j0 (.int .i64 0) 1 8 Try.underlying59 hj jz0 jz1 jz2 rfl (by decide) (.slice qp qn qc) qn pls (by simp [Act.eval, Act.put]) hown ⟨W.heap.size, 0, none⟩ 1 1 [.int .i64 y] (by simp [Act.eval, Act.put]) rfl (block_cells _ _ #[.int .i64 y] 3 (World.alloc_heap_new W _)) (by simp [Value.oneCell']) (by decide) (by unfold maxLen; omega) (by omega) hbs _ rfl ?_
      intro hb cap w5 hown' hgrow hat hlt8
      obtain ⟨⟨v9, k0, k2⟩, k1, k3⟩ := hK hb cap w5 hown' hgrow hat
      refine hKK _ _ ?_
      clear hKK KK hK
      refine wpAny_take (i := 9) (oi := { dst := some 51, op := Op.nilCheck (Operand.tmp 42), type := 0, pos := "spot.go:66", after := #[{ on := 0, ground := Ground.data }, { on := 0, ground := Ground.phase }, { on := 1, ground := Ground.phase }, { on := 2, ground := Ground.phase }, { on := 3, ground := Ground.phase }, { on := 4, ground := Ground.phase }, { on := 5, ground := Ground.phase }, { on := 6, ground := Ground.phase }, { on := 7, ground := Ground.phase }, { on := 8, ground := Ground.phase }], guard := none }) (v := ?_) rfl (by kernel_rfl) (by kernel_rfl) (by kernel_rfl) (fun _ _ _ h => hpan h) (Or.inl ⟨by kernel_rfl, ?_⟩) ?_
      case refine_2 => intro w; go_simp; try (first | rfl | omega)
      try simp only [Act.put, List.setIfInBounds_toArray, List.set_cons_zero, List.set_cons_succ]
      refine wpAny_take (i := 10) (oi := { dst := some 52, op := Op.fieldAddr 61 (Operand.tmp 51) 1, type := 0, pos := "spot.go:66", after := #[{ on := 9, ground := Ground.data }, { on := 0, ground := Ground.phase }, { on := 1, ground := Ground.phase }, { on := 2, ground := Ground.phase }, { on := 3, ground := Ground.phase }, { on := 4, ground := Ground.phase }, { on := 5, ground := Ground.phase }, { on := 6, ground := Ground.phase }, { on := 7, ground := Ground.phase }, { on := 8, ground := Ground.phase }], guard := none }) (v := ?_) rfl (by kernel_rfl) (by kernel_rfl) (by kernel_rfl) (fun _ _ _ h => hpan h) (Or.inl ⟨by kernel_rfl, ?_⟩) ?_
      case refine_2 => intro w; go_simp; try (first | rfl | omega)
      try simp only [Act.put, List.setIfInBounds_toArray, List.set_cons_zero, List.set_cons_succ]
      refine wpAny_ready (rs := [11]) (by kernel_rfl) (by simp) ?_
      refine AllReady.cons (o := { dst := none, op := Op.store 59 (Operand.tmp 52) (Operand.tmp 50), type := 0, pos := "spot.go:66", after := #[{ on := 10, ground := Ground.data }, { on := 8, ground := Ground.data }, { on := 8, ground := Ground.chain }, { on := 0, ground := Ground.phase }, { on := 1, ground := Ground.phase }, { on := 2, ground := Ground.phase }, { on := 3, ground := Ground.phase }, { on := 4, ground := Ground.phase }, { on := 5, ground := Ground.phase }, { on := 6, ground := Ground.phase }, { on := 7, ground := Ground.phase }, { on := 8, ground := Ground.phase }], guard := none }) rfl (fun KK hKK => ?_) (AllReady.nil)
      go_simp
      refine hKK _ _ ?_
      clear hKK KK
      try simp only [Act.put, List.setIfInBounds_toArray, List.set_cons_zero, List.set_cons_succ]
      refine wpAny_done (by kernel_rfl) ?_ _
      exact k3
    · go_simp
      refine hKK _ _ ?_
      clear hKK KK
      try simp only [Act.put, List.setIfInBounds_toArray, List.set_cons_zero, List.set_cons_succ]
      refine wpAny_ready (rs := [4]) (by kernel_rfl) (by simp) ?_
      refine AllReady.cons (o := { dst := some 46, op := Op.load 59 (Operand.tmp 45), type := 59, pos := "spot.go:66", after := #[{ on := 3, ground := Ground.data }], guard := none }) rfl (fun KK hKK => ?_) (AllReady.nil)
      go_simp
      refine hKK _ _ ?_
      clear hKK KK
      try simp only [Act.put, List.setIfInBounds_toArray, List.set_cons_zero, List.set_cons_succ]
      refine wpAny_ready (rs := [8]) (by kernel_rfl) (by simp) ?_
      refine AllReady.cons (o := { dst := some 50, op := Op.call { callee := Callee.builtin Builtin.append, args := #[Operand.tmp 46, Operand.tmp 49], argTypes := #[59, 59] }, type := 59, pos := "spot.go:66", after := #[{ on := 4, ground := Ground.data }, { on := 7, ground := Ground.data }], guard := none }) rfl (fun KK hKK => ?_) (AllReady.nil)
      refine step_append_lies _ rfl (.tmp 46) (.tmp 49) 59 rfl base 3 j0 (.int .i64 0) 1 8 Try.underlying59 hj jz0 jz1 jz2 rfl (by decide) (.slice qp qn qc) qn pls (by simp [Act.eval, Act.put]) hown ⟨W.heap.size, 0, none⟩ 1 1 [.int .i64 y] (by simp [Act.eval, Act.put]) rfl (block_cells _ _ #[.int .i64 y] 3 (World.alloc_heap_new W _)) (by simp [Value.oneCell']) (by decide) (by unfold maxLen; omega) (by omega) hbs _ rfl ?_
      intro hb cap w5 hown' hgrow hat hlt8
      obtain ⟨⟨v9, k0, k2⟩, k1, k3⟩ := hK hb cap w5 hown' hgrow hat
      refine hKK _ _ ?_
      clear hKK KK hK
      refine wpAny_take (i := 9) (oi := { dst := some 51, op := Op.nilCheck (Operand.tmp 42), type := 0, pos := "spot.go:66", after := #[{ on := 0, ground := Ground.data }, { on := 0, ground := Ground.phase }, { on := 1, ground := Ground.phase }, { on := 2, ground := Ground.phase }, { on := 3, ground := Ground.phase }, { on := 4, ground := Ground.phase }, { on := 5, ground := Ground.phase }, { on := 6, ground := Ground.phase }, { on := 7, ground := Ground.phase }, { on := 8, ground := Ground.phase }], guard := none }) (v := ?_) rfl (by kernel_rfl) (by kernel_rfl) (by kernel_rfl) (fun _ _ _ h => hpan h) (Or.inl ⟨by kernel_rfl, ?_⟩) ?_
      case refine_2 => intro w; go_simp; try (first | rfl | omega)
      try simp only [Act.put, List.setIfInBounds_toArray, List.set_cons_zero, List.set_cons_succ]
      refine wpAny_take (i := 10) (oi := { dst := some 52, op := Op.fieldAddr 61 (Operand.tmp 51) 1, type := 0, pos := "spot.go:66", after := #[{ on := 9, ground := Ground.data }, { on := 0, ground := Ground.phase }, { on := 1, ground := Ground.phase }, { on := 2, ground := Ground.phase }, { on := 3, ground := Ground.phase }, { on := 4, ground := Ground.phase }, { on := 5, ground := Ground.phase }, { on := 6, ground := Ground.phase }, { on := 7, ground := Ground.phase }, { on := 8, ground := Ground.phase }], guard := none }) (v := ?_) rfl (by kernel_rfl) (by kernel_rfl) (by kernel_rfl) (fun _ _ _ h => hpan h) (Or.inl ⟨by kernel_rfl, ?_⟩) ?_
      case refine_2 => intro w; go_simp; try (first | rfl | omega)
      try simp only [Act.put, List.setIfInBounds_toArray, List.set_cons_zero, List.set_cons_succ]
      refine wpAny_ready (rs := [11]) (by kernel_rfl) (by simp) ?_
      refine AllReady.cons (o := { dst := none, op := Op.store 59 (Operand.tmp 52) (Operand.tmp 50), type := 0, pos := "spot.go:66", after := #[{ on := 10, ground := Ground.data }, { on := 8, ground := Ground.data }, { on := 8, ground := Ground.chain }, { on := 0, ground := Ground.phase }, { on := 1, ground := Ground.phase }, { on := 2, ground := Ground.phase }, { on := 3, ground := Ground.phase }, { on := 4, ground := Ground.phase }, { on := 5, ground := Ground.phase }, { on := 6, ground := Ground.phase }, { on := 7, ground := Ground.phase }, { on := 8, ground := Ground.phase }], guard := none }) rfl (fun KK hKK => ?_) (AllReady.nil)
      go_simp
      refine hKK _ _ ?_
      clear hKK KK
      try simp only [Act.put, List.setIfInBounds_toArray, List.set_cons_zero, List.set_cons_succ]
      refine wpAny_done (by kernel_rfl) ?_ _
      exact k3
end Go.Proofs.Yteinpijbdgcehaa
