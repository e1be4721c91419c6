import Derived.Test.YtijdcplffmdijaaDoorCDGa
import Derived.Test.YtijdcplffmdijaaDoorCDC
import Derived.Test.YtijdcplffmdijaaDoorCDTe
import Derived.Test.YtijdcplffmdijaaDoorCDQ
namespace Go.Proofs.YtijdcplffmdijaaDoor
open Go.RowKit
set_option linter.unusedVariables false
set_option linter.unusedSimpArgs false

theorem hasA_tab : ∀ k, k < 28 → k ∉ [8, 9, 12, 13, 14, 25, 26, 27] → ((shapesT.getD k noShape).2.1 % 2 == 1) = !((shapesT.getD k noShape).1 == []) := by decide
theorem hasA_name {op : Int} (h : op ∉ ([8, 9, 12, 13, 14, 25, 26, 27] : List Int)) : hasAI op = !(nameI op == []) := by
  unfold hasAI nameI shapeI
  split
  · decide
  · rename_i h0
    refine hasA_tab op.toNat (by omega) ?_
    simp only [List.mem_cons, List.not_mem_nil, or_false, not_or] at h ⊢
    omega
theorem hasB_tab : ∀ k, k < 28 → ((shapesT.getD k noShape).2.1 / 2 % 2 == 1) = (k == 22 || k == 23) := by decide
theorem hasL_tab : ∀ k, k < 28 → ((shapesT.getD k noShape).2.1 / 4 % 2 == 1) = (k == 16 || k == 27) := by decide
theorem hasB_is (op : Int) : hasBI op = (op == 22 || op == 23) := by
  unfold hasBI shapeI
  split
  · rename_i h
    have h1 : (op == 22) = false := by simp; omega
    have h2 : (op == 23) = false := by simp; omega
    rw [h1, h2]
    decide
  · rename_i h0
    rw [hasB_tab op.toNat (by omega)]
    have e1 : (op.toNat == 22) = (op == 22) := by rw [Bool.eq_iff_iff]; simp; omega
    have e2 : (op.toNat == 23) = (op == 23) := by rw [Bool.eq_iff_iff]; simp; omega
    rw [e1, e2]
theorem hasL_is (op : Int) : hasLI op = (op == 16 || op == 27) := by
  unfold hasLI shapeI
  split
  · rename_i h
    have h1 : (op == 16) = false := by simp; omega
    have h2 : (op == 27) = false := by simp; omega
    rw [h1, h2]
    decide
  · rename_i h0
    rw [hasL_tab op.toNat (by omega)]
    have e1 : (op.toNat == 16) = (op == 16) := by rw [Bool.eq_iff_iff]; simp; omega
    have e2 : (op.toNat == 27) = (op == 27) := by rw [Bool.eq_iff_iff]; simp; omega
    rw [e1, e2]
set_option maxRecDepth 100000 in
set_option maxHeartbeats 2000000 in
theorem HasA_any (op : Int) (w : World) (h : I64 op) : Calls Tryd.prog 58 #[.int .i64 op] w fun e w' => e = .returned (.bool (hasAI op)) ∧ Below w.heap.size w w' := by
  by_cases hm : op ∈ ([8, 9, 12, 13, 14, 25, 26, 27] : List Int)
  · have e : hasAI op = false := by
      simp only [List.mem_cons, List.not_mem_nil, or_false] at hm
      rcases hm with rfl | rfl | rfl | rfl | rfl | rfl | rfl | rfl <;> decide
    rw [e]
    simp only [List.mem_cons, List.not_mem_nil, or_false] at hm
    rcases hm with rfl | rfl | rfl | rfl | rfl | rfl | rfl | rfl
    all_goals
      go_enter Tryd.func58, Tryd.ntmps58
      go_wp2
      go_ret
      exact ⟨rfl, Below.refl _ _⟩
  · rw [hasA_name hm]
    have HN := rName_any op w h
    simp only [List.mem_cons, List.not_mem_nil, or_false, not_or] at hm
    obtain ⟨m1, m2, m3, m4, m5, m6, m7, m8⟩ := hm
    generalize nameI op = nm at *
    go_enter Tryd.func58, Tryd.ntmps58
    go_wp2_with (first
      | (go_at_call 12; refine HN.mono ?_; rintro e w1 ⟨rfl, hb⟩))
    go_ret
    exact ⟨by cases nm <;> rfl, hb⟩
set_option maxRecDepth 100000 in
theorem HasB_any (op : Int) (w : World) : Calls Tryd.prog 59 #[.int .i64 op] w fun e w' => e = .returned (.bool (hasBI op)) ∧ w = w' := by
  rw [hasB_is]
  by_cases h1 : op = 22
  · subst h1
    go_enter Tryd.func59, Tryd.ntmps59
    go_wp2
    go_ret
    exact ⟨rfl, rfl⟩
  · have e1 : (op == 22) = false := by simpa using h1
    rw [e1]
    go_enter Tryd.func59, Tryd.ntmps59
    go_wp2
    go_ret
    exact ⟨by simp, rfl⟩
set_option maxRecDepth 100000 in
theorem HasL_any (op : Int) (w : World) : Calls Tryd.prog 60 #[.int .i64 op] w fun e w' => e = .returned (.bool (hasLI op)) ∧ w = w' := by
  rw [hasL_is]
  by_cases h1 : op = 16
  · subst h1
    go_enter Tryd.func60, Tryd.ntmps60
    go_wp2
    go_ret
    exact ⟨rfl, rfl⟩
  · have e1 : (op == 16) = false := by simpa using h1
    rw [e1]
    go_enter Tryd.func60, Tryd.ntmps60
    go_wp2
    go_ret
    exact ⟨by simp, rfl⟩
/-- numbers behind numbers, in a row of one's own -/
theorem app_row (W : World) (B : Nat) (v : Value) (xs : List Int) (ho : NRo W B v xs) (ka : Option Addr) (kc : Nat) (ks : List Int) (hi : IntsV W W.heap.size ka kc ks) (hB : B ≤ W.heap.size) (hl : xs.length + ks.length ≤ 17592186044414) :
    ∃ v' W3, (∀ ty, (Builtin.append_ #[26, 26] ty #[v, .slice ka ks.length kc]).run Tryd.prog W = .ok v' W3) ∧ NRo W3 B v' (xs ++ ks) ∧ W.grownBy W3 v.ownBlock := by
  obtain ⟨i0, hi0, hz0, hz1, hz2⟩ := info_parts infoInt
  by_cases h0 : 0 < ks.length
  · obtain ⟨b, o, rfl, hb, hc⟩ := hi.at_ h0
    obtain ⟨g, c, W3, r1, r2, r3, r4, r5⟩ := run_append_lies (P := Tryd.prog) W 26 3 B 3 i0 (.int .i64 0) 1 8 Tryd.underlying26 hi0 hz0 hz1 hz2 rfl (by decide) _ _ _ ho.own ⟨b, o, none⟩ ks.length kc (ks.map (Value.int .i64)) (by simp) (by
      intro j u hu
      have hj : j < ks.length := by
        rcases Nat.lt_or_ge j ks.length with e | e
        · exact e
        · rw [List.getElem?_eq_none (by simp; exact e)] at hu; cases hu
      rw [show (⟨b, o, none⟩ : Addr).add j = ⟨b, o + j, none⟩ by unfold Addr.add; split <;> simp_all, hc j hj]
      simpa [hj] using hu) (by
      intro u hu
      rw [List.mem_map] at hu
      obtain ⟨x, _, rfl⟩ := hu
      rfl) h0 (by unfold maxLen; omega) (by omega) (by omega) W.heap.size rfl
    refine ⟨_, W3, fun ty => r1, ?_, r3⟩
    unfold NRo
    rw [List.length_append, List.map_append]
    exact r2
  · have hx : ks = [] := List.eq_nil_of_length_eq_zero (by omega)
    subst hx
    refine ⟨v, W, fun ty => ?_, by rw [List.append_nil]; exact ho, ⟨rfl, rfl, rfl, Nat.le_refl _, fun _ _ _ => rfl⟩⟩
    have hu : (Tryd.prog.underlying 26) = some (.slice 3) := Tryd.underlying26
    rcases ho.own.2 with ⟨rfl, _⟩ | ⟨g, cap, cur, rfl, hgB, hg, _, _, _, _⟩
    · cases ka with
      | none => simp [Builtin.append_, run_underlying hu, sizeOf, typeInfo, hi0, Builtin.lenOf, Builtin.firstCells, storeCells]
      | some a => simp [Builtin.append_, run_underlying hu, sizeOf, typeInfo, hi0, Builtin.lenOf, Builtin.firstCells, storeCells, loadCells, loadCellsFrom]
    · cases ka with
      | none =>
        simp [Builtin.append_, run_underlying hu, sizeOf, typeInfo, hi0, Builtin.lenOf, Builtin.firstCells, storeCells]
        intro h
        omega
      | some a =>
        simp [Builtin.append_, run_underlying hu, sizeOf, typeInfo, hi0, Builtin.lenOf, Builtin.firstCells, storeCells, loadCells, loadCellsFrom]
        intro h
        omega
theorem NRo.mk0 (W : World) (H : Nat) (hH : W.heap.size = H) : NRo (W.alloc (.cells #[] 3)) H (.slice (some ⟨H, 0, none⟩) 0 0) [] := by
  subst hH
  exact ⟨rfl, .inr ⟨W.heap.size, 0, #[], rfl, Nat.le_refl _, heap_alloc_new W _, Nat.le_refl _, by simp [maxLen], rfl, rfl⟩⟩
theorem intsV_new (W : World) (H : Nat) (hH : W.heap.size = H) (x : Int) : IntsV (W.alloc (.cells #[.int .i64 x] 3)) (H + 1) (some ⟨H, 0, none⟩) 1 [x] := by
  subst hH
  refine ⟨by simp, by simp [maxLen], fun _ => ⟨W.heap.size, 0, rfl, by omega, fun i hi => ?_⟩⟩
  have : i = 0 := by simpa using hi
  subst this
  exact cell_blk (heap_alloc_new W _) rfl
theorem NRo.on {w w' : World} {B : Nat} {v : Value} {ks : List Int} (h : NRo w B v ks) (hb : Below w.heap.size w w') : NRo w' B v ks := h.below hb
/-- one number more, by the walk -/
theorem app_one (W : World) (B : Nat) (v : Value) (xs : List Int) (ho : NRo W B v xs) (x : Int) (hB : B ≤ W.heap.size) (hl : xs.length ≤ 17592186044413) :
    ∃ v' W3, (∀ ty, (Builtin.append_ #[26, 26] ty #[v, .slice (some ⟨W.heap.size, 0, none⟩) 1 1]).run Tryd.prog (W.alloc (.cells #[.int .i64 x] 3)) = .ok v' W3) ∧ NRo W3 B v' (xs ++ [x]) ∧ Below B W W3 := by
  have hb := below1 W (.cells #[.int .i64 x] 3)
  obtain ⟨v', W3, r, o, g⟩ := app_row (W.alloc (.cells #[.int .i64 x] 3)) B v xs (ho.below hb) (some ⟨W.heap.size, 0, none⟩) 1 [x] ((intsV_new W _ rfl x).up (by simp)) (by simp; omega) (by simp; omega)
  exact ⟨v', W3, r, o, (hb.mono hB).grown g (by simp; omega) fun k hk => (owns_block ho.own hk).1⟩
theorem app_lst (W : World) (B : Nat) (v : Value) (xs : List Int) (ho : NRo W B v xs) (ka : Option Addr) (kc : Nat) (ks : List Int) (hi : IntsV W W.heap.size ka kc ks) (hB : B ≤ W.heap.size) (hl : xs.length + ks.length ≤ 17592186044414) :
    ∃ v' W3, (∀ ty, (Builtin.append_ #[26, 26] ty #[v, .slice ka ks.length kc]).run Tryd.prog W = .ok v' W3) ∧ NRo W3 B v' (xs ++ ks) ∧ Below B W W3 := by
  obtain ⟨v', W3, r, o, g⟩ := app_row W B v xs ho ka kc ks hi hB hl
  exact ⟨v', W3, r, o, (Below.refl B W).grown g hB fun k hk => (owns_block ho.own hk).1⟩
set_option maxRecDepth 100000 in
set_option maxHeartbeats 4000000 in
/-- the numbers of an instruction's line -/
theorem rnumbers_any (w : World) (i : CIn) (a : Option Addr) (cap : Nat) (hw : i.Wf) (hi : IntsV w w.heap.size a cap i.list) (hl : i.list.length ≤ 1099511627776) :
    Calls Tryd.prog 45 #[.agg #[.int .i64 i.op, .int .i64 i.a, .int .i64 i.b, .slice a i.list.length cap]] w fun e w' => ∃ v', e = .returned v' ∧ Bx (NRo w' (w.heap.size + 1) v' (numsI i) ∧ Below w.heap.size w w') := by
  obtain ⟨H, hH⟩ : ∃ H, w.heap.size = H := ⟨_, rfl⟩
  obtain ⟨n, hn⟩ : ∃ n, i.list.length = n := ⟨_, rfl⟩
  obtain ⟨W1, hW1⟩ : ∃ X, w.alloc (.cells #[.int .i64 i.op, .int .i64 i.a, .int .i64 i.b, .slice a n cap] 28) = X := ⟨_, rfl⟩
  have b1 : Below H w W1 := by rw [← hW1, ← hH]; exact below1 w _
  have s1 : W1.heap.size = H + 1 := by rw [← hW1, ← hH]; simp
  have q1 : W1.heap[H]? = some (.cells #[.int .i64 i.op, .int .i64 i.a, .int .i64 i.b, .slice a n cap] 28 (0, 0)) := by rw [← hW1, ← hH]; exact heap_alloc_new w _
  obtain ⟨W2, hW2⟩ : ∃ X, W1.alloc (.cells #[] 3) = X := ⟨_, rfl⟩
  have b2 : Below (H + 1) W1 W2 := by rw [← hW2, ← s1]; exact below1 W1 _
  have o2 : NRo W2 (H + 1) (.slice (some ⟨H + 1, 0, none⟩) 0 0) [] := by rw [← hW2]; exact NRo.mk0 W1 _ s1
  -- whatever comes later: below H + 1 it is W1
  have HC : Bx (∀ X, Below (H + 1) W1 X → X.cell? ⟨H, 0, none⟩ = some (.int .i64 i.op) ∧ X.cell? ⟨H, 1, none⟩ = some (.int .i64 i.a) ∧ X.cell? ⟨H, 2, none⟩ = some (.int .i64 i.b) ∧ X.cell? ⟨H, 3, none⟩ = some (.slice a n cap) ∧ H < X.heap.size) := ⟨fun X hX => by
    have e := (hX.block H (by omega)).trans q1
    exact ⟨cell_blk e rfl, cell_blk e rfl, cell_blk e rfl, cell_blk e rfl, (Array.getElem?_eq_some_iff.1 e).1⟩⟩
  have HA : Bx (∀ X, Calls Tryd.prog 58 #[.int .i64 i.op] X fun e w' => e = .returned (.bool (hasAI i.op)) ∧ Bx (Below X.heap.size X w')) := ⟨fun X => (HasA_any i.op X hw.op).mono fun e w' h => ⟨h.1, ⟨h.2⟩⟩⟩
  have HB : Bx (∀ X, Calls Tryd.prog 59 #[.int .i64 i.op] X fun e w' => e = .returned (.bool (hasBI i.op)) ∧ X = w') := ⟨fun X => HasB_any i.op X⟩
  have HL : Bx (∀ X v xs, Below (H + 1) W1 X → NRo X (H + 1) v xs → xs.length ≤ 2 → ∃ v' W3, (∀ ty, (Builtin.append_ #[26, 26] ty #[v, .slice a n cap]).run Tryd.prog X = .ok v' W3) ∧ NRo W3 (H + 1) v' (xs ++ i.list) ∧ Below (H + 1) X W3) := ⟨fun X v xs hX ho hx => by
    have hbw : Below w.heap.size w X := by rw [hH]; exact b1.trans (hX.mono (by omega))
    rw [← hn]
    exact app_lst X (H + 1) v xs ho a cap i.list ((hi.below hbw).up hbw.size) (by have := hX.size; omega) (by omega)⟩
  have HO : Bx (∀ X v xs x, Below (H + 1) W1 X → NRo X (H + 1) v xs → xs.length ≤ 2 → ∃ v' W3, (∀ ty, (Builtin.append_ #[26, 26] ty #[v, .slice (some ⟨X.heap.size, 0, none⟩) 1 1]).run Tryd.prog (X.alloc (.cells #[.int .i64 x] 3)) = .ok v' W3) ∧ NRo W3 (H + 1) v' (xs ++ [x]) ∧ Below (H + 1) X W3) := ⟨fun X v xs x hX ho hx => app_one X (H + 1) v xs ho x (by have := hX.size; omega) (by omega)⟩
  have B2 : Bx _ := ⟨b2⟩
  have O2 : Bx _ := ⟨o2⟩
  have B1 : Bx _ := ⟨b1⟩
  have hc2 := HC.out W2 b2
  obtain ⟨c20, _, _, _, l2⟩ := hc2
  rw [hH, hn]
  unfold numsI
  clear hi hw hl b1 b2 o2 q1
  cases hA : hasAI i.op with
  | false =>
    have hB : hasBI i.op = false := by
      cases h : hasBI i.op with
      | false => rfl
      | true => rw [hasB_A h] at hA; cases hA
    rw [hA] at HA
    rw [hB] at HB ⊢
    clear hA hB HO
    go_enter Tryd.func45, Tryd.ntmps45
    go_wp2_with (first
      | (go_at_call 58; refine (HA.out _).mono ?_; rintro e w3 ⟨rfl, H3⟩
         have B3 : Bx (Below (H + 1) W1 w3) := ⟨B2.out.trans (H3.out.mono (by have := B2.out.size; omega))⟩
         have O3 : Bx _ := ⟨O2.out.below H3.out⟩
         have c3 := HC.out w3 B3.out
         obtain ⟨c30, c31, c32, c33, l3⟩ := c3
         obtain ⟨v4, w4, r4, o4, k4⟩ := HL.out w3 _ _ B3.out O3.out (by simp))
      | (go_at_call 59; refine (HB.out _).mono ?_; rintro e w3' ⟨rfl, rfl⟩)
      | (at_builtin; refine wpList_appI rfl (.tmp 21) (.tmp 23) 26 rfl rfl rfl r4 ?_))
    go_ret
    exact ⟨_, rfl, ⟨o4, B1.out.trans ((B3.out.trans k4).mono (by omega))⟩⟩
  | true =>
    rw [hA] at HA
    cases hB : hasBI i.op with
    | false =>
      rw [hB] at HB
      clear hA hB
      go_enter Tryd.func45, Tryd.ntmps45
      go_wp2_with (first
        | (go_at_call 58; refine (HA.out _).mono ?_; rintro e w3 ⟨rfl, H3⟩
           have B3 : Bx (Below (H + 1) W1 w3) := ⟨B2.out.trans (H3.out.mono (by have := B2.out.size; omega))⟩
           have O3 : Bx _ := ⟨O2.out.below H3.out⟩
           have c3 := HC.out w3 B3.out
           obtain ⟨c30, c31, c32, c33, l3⟩ := c3
           obtain ⟨v4, w4, r4, o4, k4⟩ := HO.out w3 _ _ i.a B3.out O3.out (by simp)
           have O4 : Bx _ := ⟨o4⟩
           have B4 : Bx (Below (H + 1) W1 w4) := ⟨B3.out.trans k4⟩
           have c4 := HC.out w4 B4.out
           obtain ⟨c40, c41, c42, c43, l4⟩ := c4
           clear o4 k4)
        | (at_builtin; refine wpList_appI rfl (.tmp 8) (.tmp 11) 26 rfl rfl rfl r4 ?_; clear r4)
        | (go_at_call 59; refine (HB.out _).mono ?_; rintro e w4' ⟨rfl, rfl⟩
           obtain ⟨v5, w5, r5, o5, k5⟩ := HL.out w4 _ _ B4.out O4.out (by simp))
        | (at_builtin; refine wpList_appI rfl (.tmp 21) (.tmp 23) 26 rfl rfl rfl r5 ?_))
      go_ret
      exact ⟨_, rfl, ⟨o5, B1.out.trans ((B4.out.trans k5).mono (by omega))⟩⟩
    | true =>
      rw [hB] at HB
      clear hA hB
      go_enter Tryd.func45, Tryd.ntmps45
      go_wp2_with (first
        | (go_at_call 58; refine (HA.out _).mono ?_; rintro e w3 ⟨rfl, H3⟩
           have B3 : Bx (Below (H + 1) W1 w3) := ⟨B2.out.trans (H3.out.mono (by have := B2.out.size; omega))⟩
           have O3 : Bx _ := ⟨O2.out.below H3.out⟩
           have c3 := HC.out w3 B3.out
           obtain ⟨c30, c31, c32, c33, l3⟩ := c3
           obtain ⟨v4, w4, r4, o4, k4⟩ := HO.out w3 _ _ i.a B3.out O3.out (by simp)
           have O4 : Bx _ := ⟨o4⟩
           have B4 : Bx (Below (H + 1) W1 w4) := ⟨B3.out.trans k4⟩
           have c4 := HC.out w4 B4.out
           obtain ⟨c40, c41, c42, c43, l4⟩ := c4
           clear o4 k4)
        | (at_builtin; refine wpList_appI rfl (.tmp 8) (.tmp 11) 26 rfl rfl rfl r4 ?_; clear r4)
        | (go_at_call 59; refine (HB.out _).mono ?_; rintro e w4' ⟨rfl, rfl⟩
           obtain ⟨v5, w5, r5, o5, k5⟩ := HO.out w4 _ _ i.b B4.out O4.out (by simp)
           have B5 : Bx (Below (H + 1) W1 w5) := ⟨B4.out.trans k5⟩
           have c5 := HC.out w5 B5.out
           obtain ⟨c50, c51, c52, c53, l5⟩ := c5
           obtain ⟨v6, w6, r6, o6, k6⟩ := HL.out w5 _ _ B5.out o5 (by simp))
        | (at_builtin; refine wpList_appI rfl (.tmp 16) (.tmp 19) 26 rfl rfl rfl r5 ?_; clear r5)
        | (at_builtin; refine wpList_appI rfl (.tmp 21) (.tmp 23) 26 rfl rfl rfl r6 ?_))
      go_ret
      exact ⟨_, rfl, ⟨o6, B1.out.trans ((B5.out.trans k6).mono (by omega))⟩⟩
theorem nat_z (n : Nat) : (((n : Int) == 0) : Bool) = (n == 0) := by rw [Bool.eq_iff_iff]; simp
/-- an instruction that has nothing too much -/
def cleanP (i : CIn) : Bool := !(nameI i.op == []) && ((hasAI i.op || i.a == 0) && ((hasBI i.op || i.b == 0) && (hasLI i.op || i.list.length == 0)))
theorem clean_fit (i : CIn) : cleanP i = fitI i := by
  unfold cleanP fitI
  cases hasAI i.op <;> cases hasBI i.op <;> cases hasLI i.op <;> cases h : (nameI i.op == []) <;> simp [bne, h]
set_option maxRecDepth 100000 in
set_option maxHeartbeats 4000000 in
theorem clean_any (w : World) (i : CIn) (a : Option Addr) (cap : Nat) (hw : i.Wf) :
    Calls Tryd.prog 44 #[.agg #[.int .i64 i.op, .int .i64 i.a, .int .i64 i.b, .slice a i.list.length cap]] w fun e w' => e = .returned (.bool (fitI i)) ∧ Below w.heap.size w w' := by
  rw [← clean_fit]
  unfold cleanP
  obtain ⟨H, hH⟩ : ∃ H, w.heap.size = H := ⟨_, rfl⟩
  obtain ⟨n, hn⟩ : ∃ n, i.list.length = n := ⟨_, rfl⟩
  rw [hn]
  obtain ⟨W1, hW1⟩ : ∃ X, w.alloc (.cells #[.int .i64 i.op, .int .i64 i.a, .int .i64 i.b, .slice a n cap] 28) = X := ⟨_, rfl⟩
  have b1 : Below H w W1 := by rw [← hW1, ← hH]; exact below1 w _
  have s1 : W1.heap.size = H + 1 := by rw [← hW1, ← hH]; simp
  have q1 : W1.heap[H]? = some (.cells #[.int .i64 i.op, .int .i64 i.a, .int .i64 i.b, .slice a n cap] 28 (0, 0)) := by rw [← hW1, ← hH]; exact heap_alloc_new w _
  have HC : Bx (∀ X, Below (H + 1) W1 X → X.cell? ⟨H, 0, none⟩ = some (.int .i64 i.op) ∧ X.cell? ⟨H, 1, none⟩ = some (.int .i64 i.a) ∧ X.cell? ⟨H, 2, none⟩ = some (.int .i64 i.b) ∧ X.cell? ⟨H, 3, none⟩ = some (.slice a n cap) ∧ H < X.heap.size) := ⟨fun X hX => by
    have e := (hX.block H (by omega)).trans q1
    exact ⟨cell_blk e rfl, cell_blk e rfl, cell_blk e rfl, cell_blk e rfl, (Array.getElem?_eq_some_iff.1 e).1⟩⟩
  have HN : Bx (∀ X, Below (H + 1) W1 X → Calls Tryd.prog 12 #[.int .i64 i.op] X fun e w' => e = .returned (strV (nameI i.op)) ∧ Bx (Below (H + 1) W1 w')) := ⟨fun X hX => (rName_any i.op X hw.op).mono fun e w' h => ⟨h.1, ⟨hX.trans (h.2.mono (by have := hX.size; omega))⟩⟩⟩
  have HA : Bx (∀ X, Below (H + 1) W1 X → Calls Tryd.prog 58 #[.int .i64 i.op] X fun e w' => e = .returned (.bool (hasAI i.op)) ∧ Bx (Below (H + 1) W1 w')) := ⟨fun X hX => (HasA_any i.op X hw.op).mono fun e w' h => ⟨h.1, ⟨hX.trans (h.2.mono (by have := hX.size; omega))⟩⟩⟩
  have HB : Bx (∀ X, Calls Tryd.prog 59 #[.int .i64 i.op] X fun e w' => e = .returned (.bool (hasBI i.op)) ∧ X = w') := ⟨fun X => HasB_any i.op X⟩
  have HL : Bx (∀ X, Calls Tryd.prog 60 #[.int .i64 i.op] X fun e w' => e = .returned (.bool (hasLI i.op)) ∧ X = w') := ⟨fun X => HasL_any i.op X⟩
  have B1 : Bx _ := ⟨b1⟩
  obtain ⟨c0, c1, c2, c3, l1⟩ := HC.out W1 (Below.refl _ _)
  have ez : (((n : Int) == 0) : Bool) = (n == 0) := by rw [Bool.eq_iff_iff]; simp
  rw [hH]
  clear hw b1 q1
  generalize hasAI i.op = hA at *
  generalize hasBI i.op = hB at *
  generalize hasLI i.op = hL at *
  generalize nameI i.op = nm at *
  by_cases hnm : nm = []
  · subst hnm
    go_enter Tryd.func44, Tryd.ntmps44
    go_wp2_with (first
      | (go_at_call 12; refine (HN.out _ (Below.refl _ _)).mono ?_; rintro e w2 ⟨rfl, H2⟩))
    go_ret
    exact ⟨rfl, B1.out.trans (H2.out.mono (by omega))⟩
  · have en : (nm == []) = false := by simpa using hnm
    have en2 : nm.isEmpty = false := by simpa using hnm
    rw [en]
    clear ez en
    generalize i.op = op at *
    generalize i.a = x at *
    generalize i.b = y at *
    have hx : (hA = true) ∨ (hA = false ∧ x = 0) ∨ (hA = false ∧ ¬ x = 0) := by cases hA <;> simp <;> omega
    have hy : (hB = true) ∨ (hB = false ∧ y = 0) ∨ (hB = false ∧ ¬ y = 0) := by cases hB <;> simp <;> omega
    have hz : (hL = true) ∨ (hL = false ∧ n = 0) ∨ (hL = false ∧ ¬ (n : Int) = 0) := by cases hL <;> simp <;> omega
    rcases hx with rfl | ⟨rfl, rfl⟩ | ⟨rfl, hx⟩
    case inr.inr =>
      have hx2 : (x == 0) = false := by simpa using hx
      clear hy hz
      (go_enter Tryd.func44, Tryd.ntmps44
       go_wp2_with (first
         | (go_at_call 12; refine (HN.out _ (Below.refl _ _)).mono ?_; rintro e w2 ⟨rfl, H2⟩; obtain ⟨d0, d1, d2, d3, l2⟩ := HC.out w2 H2.out)
         | (go_at_call 58; refine (HA.out _ H2.out).mono ?_; rintro e w3 ⟨rfl, H3⟩; obtain ⟨e0, e1, e2, e3, l3⟩ := HC.out w3 H3.out)
         | (go_at_call 59; refine (HB.out _).mono ?_; rintro e w4 ⟨rfl, rfl⟩)
         | (go_at_call 60; refine (HL.out _).mono ?_; rintro e w5 ⟨rfl, rfl⟩))
       go_ret
       exact ⟨by first | rfl | (simp [*]; done) | (simp [*]; exact nat_z _), B1.out.trans (H3.out.mono (by omega))⟩)
    all_goals
      rcases hy with rfl | ⟨rfl, rfl⟩ | ⟨rfl, hy⟩
      case inr.inr =>
        have hy2 : (y == 0) = false := by simpa using hy
        clear hz
        (go_enter Tryd.func44, Tryd.ntmps44
         go_wp2_with (first
           | (go_at_call 12; refine (HN.out _ (Below.refl _ _)).mono ?_; rintro e w2 ⟨rfl, H2⟩; obtain ⟨d0, d1, d2, d3, l2⟩ := HC.out w2 H2.out)
           | (go_at_call 58; refine (HA.out _ H2.out).mono ?_; rintro e w3 ⟨rfl, H3⟩; obtain ⟨e0, e1, e2, e3, l3⟩ := HC.out w3 H3.out)
           | (go_at_call 59; refine (HB.out _).mono ?_; rintro e w4 ⟨rfl, rfl⟩)
           | (go_at_call 60; refine (HL.out _).mono ?_; rintro e w5 ⟨rfl, rfl⟩))
         go_ret
         exact ⟨by first | rfl | (simp [*]; done) | (simp [*]; exact nat_z _), B1.out.trans (H3.out.mono (by omega))⟩)
      all_goals
        rcases hz with rfl | ⟨rfl, rfl⟩ | ⟨rfl, hz⟩
        all_goals
          (go_enter Tryd.func44, Tryd.ntmps44
           go_wp2_with (first
             | (go_at_call 12; refine (HN.out _ (Below.refl _ _)).mono ?_; rintro e w2 ⟨rfl, H2⟩; obtain ⟨d0, d1, d2, d3, l2⟩ := HC.out w2 H2.out)
             | (go_at_call 58; refine (HA.out _ H2.out).mono ?_; rintro e w3 ⟨rfl, H3⟩; obtain ⟨e0, e1, e2, e3, l3⟩ := HC.out w3 H3.out)
             | (go_at_call 59; refine (HB.out _).mono ?_; rintro e w4 ⟨rfl, rfl⟩)
             | (go_at_call 60; refine (HL.out _).mono ?_; rintro e w5 ⟨rfl, rfl⟩))
           go_ret
           exact ⟨by first | rfl | (simp [*]; done) | (simp [*]; exact nat_z _), B1.out.trans (H3.out.mono (by omega))⟩)
end Go.Proofs.YtijdcplffmdijaaDoor
