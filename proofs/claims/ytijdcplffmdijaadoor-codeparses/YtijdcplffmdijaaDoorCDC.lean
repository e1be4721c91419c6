import Derived.Test.YtijdcplffmdijaaDoorCDX
namespace Go.Proofs.YtijdcplffmdijaaDoor
open Go.RowKit
set_option linter.unusedVariables false
set_option linter.unusedSimpArgs false

/-- the reference's names -/
def names27 : List (List UInt8) := (shapesT.drop 1).map (·.1)
theorem names_len : names27.length = 27 := rfl
set_option maxRecDepth 100000 in
set_option maxHeartbeats 2000000 in
theorem names_any (w : World) : Calls Tryd.prog 32 #[] w fun e w' => e = .returned (.slice (some ⟨w.heap.size, 0, none⟩) 27 27) ∧ w'.heap[w.heap.size]? = some (.cells (names27.map strV).toArray 9 (0, 0)) ∧ Below w.heap.size w w' := by
  go_enter Tryd.func32, Tryd.ntmps32
  go_wp2
  go_ret
  exact ⟨rfl, heap_new w _, below1 w _⟩
theorem names_cell {w : World} {b j : Nat} (h : w.heap[b]? = some (.cells (names27.map strV).toArray 9 (0, 0))) (hj : j < 27) : w.cell? ⟨b, j, none⟩ = some (strV (names27.getD j [])) := by
  refine cell_blk h ?_
  have hl : j < names27.length := hj
  simp [List.getD_eq_getElem?_getD, List.getElem?_eq_getElem hl]
theorem names_name : ∀ k, k < 27 → names27.getD k [] = nameI ((k + 1 : Nat) : Int) := by decide
set_option maxRecDepth 100000 in
set_option maxHeartbeats 2000000 in
theorem rName_any (op : Int) (w : World) (h : I64 op) :
    Calls Tryd.prog 12 #[.int .i64 op] w fun e w' => e = .returned (strV (nameI op)) ∧ Below w.heap.size w w' := by
  obtain ⟨h1, h2⟩ := h
  by_cases h0 : op < 1
  · have e : nameI op = [] := by
      by_cases hz : op = 0
      · subst hz; decide
      · unfold nameI shapeI; rw [if_pos (by omega)]; rfl
    rw [e]
    go_enter Tryd.func12, Tryd.ntmps12
    go_wp2
    go_ret
    exact ⟨rfl, Below.refl _ _⟩
  · by_cases h3 : 27 < op
    · have e : nameI op = [] := by unfold nameI shapeI; rw [if_pos (by omega)]; rfl
      rw [e]
      go_enter Tryd.func12, Tryd.ntmps12
      go_wp2
      go_ret
      exact ⟨rfl, Below.refl _ _⟩
    · obtain ⟨k, rfl⟩ : ∃ k : Nat, op = (k : Int) + 1 := ⟨(op - 1).toNat, by omega⟩
      have hk : k < 27 := by omega
      have hnk : nameI ((k : Int) + 1) = names27.getD k [] := (names_name k hk).symm
      rw [hnk]
      clear hnk
      have HN := names_any w
      have HC : Bx (∀ w' : World, w'.heap[w.heap.size]? = some (.cells (names27.map strV).toArray 9 (0, 0)) → w'.cell? ⟨w.heap.size, k, none⟩ = some (strV (names27.getD k []))) := ⟨fun w' h => names_cell h hk⟩
      generalize names27.getD k [] = nm at *
      go_enter Tryd.func12, Tryd.ntmps12
      go_wp2_with (go_at_call 32; refine HN.mono ?_; rintro e w1 ⟨rfl, hh, hb⟩; have hc := HC.out _ hh; clear hh)
      go_ret
      exact ⟨rfl, hb⟩
/-- the first of the names that a text is -/
def opR : List (List UInt8) → Nat → List UInt8 → Nat
  | [], _, _ => 0
  | x :: r, n, t => if x == t then n + 1 else opR r (n + 1) t
theorem opR_op (t : List UInt8) : ∀ (T : List (List UInt8 × Int × Int × Int)) (n : Nat), opR (T.map (·.1)) n t = opFrom T (n + 1) t
  | [], n => rfl
  | x :: r, n => by
    rw [List.map_cons, opR, opFrom, opR_op t r (n + 1)]
theorem opR_I (t : List UInt8) : opR names27 0 t = opI t := by
  unfold names27
  rw [opR_op]
  have e : opI t = if ([] : List UInt8) == t then 0 else opFrom (shapesT.drop 1) 1 t := rfl
  rw [e]
  split
  · rename_i h
    have ht : t = [] := by simpa using h
    subst ht
    decide
  · rfl
theorem opR_yes (j n : Nat) (t : List UInt8) (h : j < names27.length) (hq : (names27.getD j [] == t) = true) : opR (names27.drop j) n t = n + 1 := by
  rw [List.drop_eq_getElem_cons h]
  rw [List.getD_eq_getElem?_getD, List.getElem?_eq_getElem h, Option.getD_some] at hq
  simp only [opR, hq, if_true]
theorem opR_no (j n : Nat) (t : List UInt8) (h : j < names27.length) (hq : (names27.getD j [] == t) = false) : opR (names27.drop j) n t = opR (names27.drop (j + 1)) (n + 1) t := by
  rw [List.drop_eq_getElem_cons h]
  rw [List.getD_eq_getElem?_getD, List.getElem?_eq_getElem h, Option.getD_some] at hq
  simp only [opR, hq, Bool.false_eq_true, if_false]
set_option maxRecDepth 100000 in
set_option maxHeartbeats 2000000 in
theorem rOp_any (s : ByteArray) (w : World) :
    Calls Tryd.prog 13 #[.string s] w fun e w' => e = .returned (.int .i64 (opI s.toList)) ∧ Below w.heap.size w w' := by
  rw [← opR_I]
  have HN := names_any w
  go_enter Tryd.func13, Tryd.ntmps13
  go_wp2_with (go_at_call 32; refine HN.mono ?_; rintro e w1 ⟨rfl, hh, hb⟩; have HH : Bx _ := ⟨hh⟩; have HB : Bx _ := ⟨hb⟩; clear hh hb)
  go_loop [4] (fun i => ∃ j : Nat, j ≤ 27 ∧ i = .int .i64 j ∧ Hid (opR names27 0 s.toList = opR (names27.drop j) (0 + j) s.toList)) (fun i => 27 - (intOf i).toNat)
  case atStart => exact ⟨0, by omega, rfl, rfl⟩
  case round =>
    obtain ⟨j, hj, rfl, H⟩ := hrel
    by_cases hlt : j < 27
    · have hc := names_cell HH.out hlt
      cases hq : (names27.getD j [] == s.toList)
      · have HQ : Hid (opR names27 0 s.toList = opR (names27.drop (j + 1)) (0 + (j + 1)) s.toList) := H.out.trans (opR_no j (0 + j) s.toList hlt hq)
        generalize names27.getD j [] = nm at *
        go_wp2
        go_round
        case rel => exact ⟨j + 1, by omega, by go_num, HQ⟩
        case measure => simp [intOf]; omega
      · have HQ : Hid (opR names27 0 s.toList = 0 + j + 1) := H.out.trans (opR_yes j (0 + j) s.toList hlt hq)
        generalize names27.getD j [] = nm at *
        go_wp2
        go_ret
        exact ⟨ret_int (by rw [HQ.out]; omega), HB.out⟩
    · have : j = 27 := by omega
      subst this
      go_wp2
      go_ret
      exact ⟨ret_int (by rw [H.out]; rfl), HB.out⟩
set_option maxRecDepth 100000 in
set_option maxHeartbeats 2000000 in
theorem words_walk (w : World) (op : Int) (ho : I64 op) (s : ByteArray) (_hs : s.size ≤ maxLen) (hL : LW w) : Calls Tryd.prog 3 #[.int .i64 op, .string s] w fun e w' => e = .returned (.bool true) ∧ Below w.heap.size w w' := by
  have HS := shown_any w hL
  have HN : Bx (∀ X, Below w.heap.size w X → Calls Tryd.prog 10 #[.int .i64 op] X fun e w' => e = .returned (strV (nameI op)) ∧ Below w.heap.size w w') := ⟨fun X hb => (Name_any op X (hL.below hb).shp ho).mono fun e w' h => ⟨h.1, hb.trans (h.2.mono hb.size)⟩⟩
  have HO : Bx (∀ X, Below w.heap.size w X → Calls Tryd.prog 11 #[.string s] X fun e w' => e = .returned (.int .i64 (opI s.toList : Nat)) ∧ X = w') := ⟨fun X hb => Op_any s X (hL.below hb).shp⟩
  have RN : Bx (∀ X, Below w.heap.size w X → Calls Tryd.prog 12 #[.int .i64 op] X fun e w' => e = .returned (strV (nameI op)) ∧ Below w.heap.size w w') := ⟨fun X hb => (rName_any op X ho).mono fun e w' h => ⟨h.1, hb.trans (h.2.mono hb.size)⟩⟩
  have RO : Bx (∀ X, Below w.heap.size w X → Calls Tryd.prog 13 #[.string s] X fun e w' => e = .returned (.int .i64 (opI s.toList : Nat)) ∧ Below w.heap.size w w') := ⟨fun X hb => (rOp_any s X).mono fun e w' h => ⟨h.1, hb.trans (h.2.mono hb.size)⟩⟩
  generalize nameI op = nm at *
  generalize opI s.toList = oi at *
  clear hL
  go_enter Tryd.func3, Tryd.ntmps3
  go_wp2_with (first
    | (go_at_call 9; refine HS.mono ?_; rintro e w1 ⟨rfl, hb1⟩; have HB1 : Bx _ := ⟨hb1⟩; clear hb1)
    | (go_at_call 10; refine (HN.out _ HB1.out).mono ?_; rintro e w2 ⟨rfl, hb2⟩; have HB2 : Bx _ := ⟨hb2⟩; clear hb2)
    | (go_at_call 11; refine (HO.out _ HB2.out).mono ?_; rintro e w3 ⟨rfl, rfl⟩)
    | (go_at_call 12; refine (RN.out _ HB2.out).mono ?_; rintro e w4 ⟨rfl, hb4⟩; have HB4 : Bx _ := ⟨hb4⟩; clear hb4)
    | (go_at_call 13; refine (RO.out _ HB4.out).mono ?_; rintro e w5 ⟨rfl, hb5⟩; have HB5 : Bx _ := ⟨hb5⟩; clear hb5))
  go_ret
  exact ⟨rfl, HB5.out⟩
end Go.Proofs.YtijdcplffmdijaaDoor
