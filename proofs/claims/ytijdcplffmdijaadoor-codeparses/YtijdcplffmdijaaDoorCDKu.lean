import Derived.Test.YtijdcplffmdijaaDoorCDKt
namespace Go.Proofs.YtijdcplffmdijaaDoor
open Go.RowKit
set_option linter.unusedVariables false
set_option linter.unusedSimpArgs false

/-- what adds answers, and leaves -/
def AR (w : World) (B ub : Nat) (u : CUn) (r : Option CUn) (e : Ending) (w2 : World) : Prop := ∃ b : Bool, e = .returned (.bool b) ∧ Bx (match r with
  | none => b = false ∧ Below B w w2
  | some u' => b = true ∧ Below B w w2 ∧ UR w2 B ub u')
theorem in_one {N : Nat} {w : World} {a : Option Addr} {cap : Nat} {l : List Int} (h : IN N w a cap l) (h0 : 0 < l.length) {k : Nat} (hk : k < l.length) : ∃ lb LC, a = some ⟨lb, 0, none⟩ ∧ w.heap[lb]? = some (.cells LC 3 (0, 0)) ∧ w.cell? ⟨lb, k, none⟩ = some (.int .i64 (l.getD k 0)) := by
  rcases h.2 with ⟨hv, h1⟩ | ⟨g, c, cur, hv, q1, q2, _⟩
  · omega
  · injection hv with hv _ hc
    subst hv hc
    refine ⟨g, cur, rfl, q2, owns_cell h ?_⟩
    rw [List.getElem?_map, List.getElem?_eq_getElem hk, List.getD_eq_getElem?_getD, List.getElem?_eq_getElem hk]
    rfl
theorem in_from {N : Nat} {w : World} {a : Option Addr} {cap : Nat} {l : List Int} (h : IN N w a cap l) (h0 : 0 < l.length) : ∃ lb, a = some ⟨lb, 0, none⟩ ∧ N ≤ lb := by
  rcases h.2 with ⟨hv, h1⟩ | ⟨g, c, cur, hv, q1, q2, _⟩
  · omega
  · injection hv with hv _ hc
    exact ⟨g, hv, q1⟩
set_option maxRecDepth 100000 in
set_option maxHeartbeats 4000000 in
theorem radds_tn1 (w : World) (ub : Nat) (line : List UInt8) (l : List Int) (h : l.length < 2)
    (HS : Calls Tryd.prog 67 #[strV line] w fun e w' => ∃ a cap, e = .returned (.tuple #[strV typeW, .slice a l.length cap, .bool true]) ∧ Bx (IN w.heap.size w' a cap l ∧ Below w.heap.size w w')) :
    Calls Tryd.prog 51 #[.pointer (some ⟨ub, 0, none⟩), strV line] w fun e w' => e = .returned (.bool false) ∧ Below w.heap.size w w' := by
  have q1 : (l.length : Int) < 2 := by omega
  generalize hln : l.length = ln at *
  clear h
  unfold typeW at HS
  go_enter Tryd.func51, Tryd.ntmps51
  go_wp2_with (first
    | (go_at_call 67; refine HS.mono ?_; clear HS; rintro e w1 ⟨a, cap, rfl, HX⟩
       have HB : Bx _ := ⟨HX.out.2⟩
       clear HX))
  go_ret
  exact ⟨rfl, HB.out⟩
set_option maxRecDepth 100000 in
set_option maxHeartbeats 4000000 in
theorem radds_tn2 (w : World) (ub : Nat) (line : List UInt8) (l : List Int) (h : ¬ l.length < 2) (d : Int) (hd : l.getD 1 0 = d) (h0 : (d != 0) = true) (h1 : (d != 1) = true)
    (HS : Calls Tryd.prog 67 #[strV line] w fun e w' => ∃ a cap, e = .returned (.tuple #[strV typeW, .slice a l.length cap, .bool true]) ∧ Bx (IN w.heap.size w' a cap l ∧ Below w.heap.size w w')) :
    Calls Tryd.prog 51 #[.pointer (some ⟨ub, 0, none⟩), strV line] w fun e w' => e = .returned (.bool false) ∧ Below w.heap.size w w' := by
  have q1 : ¬ (l.length : Int) < 2 := by omega
  have q2 : (1 : Int) < (l.length : Int) := by omega
  have q3 : 1 < l.length := by omega
  unfold typeW at HS
  go_enter Tryd.func51, Tryd.ntmps51
  go_wp2_with (first
    | (go_at_call 67; refine HS.mono ?_; clear HS; rintro e w1 ⟨a, cap, rfl, HX⟩
       obtain ⟨lb, LC, rfl, hl0, hl1⟩ := in_one HX.out.1 (by omega) (show 1 < l.length by omega)
       have hlb : lb < w1.heap.size := (Array.getElem?_eq_some_iff.1 hl0).1
       have hcp : l.length ≤ cap := HX.out.1.ik.cap
       rw [hd] at hl1
       have HB : Bx _ := ⟨HX.out.2⟩
       clear HX))
  go_ret
  exact ⟨rfl, HB.out⟩
set_option maxRecDepth 100000 in
set_option maxHeartbeats 4000000 in
theorem radds_tn30 (w : World) (ub : Nat) (line : List UInt8) (l : List Int) (h : ¬ l.length < 2) (hd : l.getD 1 0 = 0) (np : Nat) (hnp : 0 < np) (pa : Option Addr) (pc : Nat) (HU : Bx (∀ X, Below w.heap.size w X → X.cell? ⟨ub, 0, none⟩ = some (.slice pa np pc) ∧ ub < X.heap.size))
    (HS : Calls Tryd.prog 67 #[strV line] w fun e w' => ∃ a cap, e = .returned (.tuple #[strV typeW, .slice a l.length cap, .bool true]) ∧ Bx (IN w.heap.size w' a cap l ∧ Below w.heap.size w w')) :
    Calls Tryd.prog 51 #[.pointer (some ⟨ub, 0, none⟩), strV line] w fun e w' => e = .returned (.bool false) ∧ Below w.heap.size w w' := by
  have q1 : ¬ (l.length : Int) < 2 := by omega
  have q2 : (1 : Int) < (l.length : Int) := by omega
  have q3 : 1 < l.length := by omega
  have q4 : (0 : Int) < (np : Int) := by omega
  unfold typeW at HS
  go_enter Tryd.func51, Tryd.ntmps51
  go_wp2_with (first
    | (go_at_call 67; refine HS.mono ?_; clear HS; rintro e w1 ⟨a, cap, rfl, HX⟩
       obtain ⟨lb, LC, rfl, hl0, hl1⟩ := in_one HX.out.1 (by omega) (show 1 < l.length by omega)
       have hlb : lb < w1.heap.size := (Array.getElem?_eq_some_iff.1 hl0).1
       have hcp : l.length ≤ cap := HX.out.1.ik.cap
       rw [hd] at hl1
       obtain ⟨z1, z2⟩ := HU.out w1 HX.out.2
       have HB : Bx _ := ⟨HX.out.2⟩
       clear HX))
  go_ret
  exact ⟨rfl, HB.out⟩
set_option maxRecDepth 100000 in
set_option maxHeartbeats 4000000 in
theorem radds_tn31 (w : World) (ub : Nat) (line : List UInt8) (l : List Int) (h : ¬ l.length < 2) (hd : l.getD 1 0 = 1) (np : Nat) (hnp : 0 < np) (pa : Option Addr) (pc : Nat) (HU : Bx (∀ X, Below w.heap.size w X → X.cell? ⟨ub, 0, none⟩ = some (.slice pa np pc) ∧ ub < X.heap.size))
    (HS : Calls Tryd.prog 67 #[strV line] w fun e w' => ∃ a cap, e = .returned (.tuple #[strV typeW, .slice a l.length cap, .bool true]) ∧ Bx (IN w.heap.size w' a cap l ∧ Below w.heap.size w w')) :
    Calls Tryd.prog 51 #[.pointer (some ⟨ub, 0, none⟩), strV line] w fun e w' => e = .returned (.bool false) ∧ Below w.heap.size w w' := by
  have q1 : ¬ (l.length : Int) < 2 := by omega
  have q2 : (1 : Int) < (l.length : Int) := by omega
  have q3 : 1 < l.length := by omega
  have q4 : (0 : Int) < (np : Int) := by omega
  unfold typeW at HS
  go_enter Tryd.func51, Tryd.ntmps51
  go_wp2_with (first
    | (go_at_call 67; refine HS.mono ?_; clear HS; rintro e w1 ⟨a, cap, rfl, HX⟩
       obtain ⟨lb, LC, rfl, hl0, hl1⟩ := in_one HX.out.1 (by omega) (show 1 < l.length by omega)
       have hlb : lb < w1.heap.size := (Array.getElem?_eq_some_iff.1 hl0).1
       have hcp : l.length ≤ cap := HX.out.1.ik.cap
       rw [hd] at hl1
       obtain ⟨z1, z2⟩ := HU.out w1 HX.out.2
       have HB : Bx _ := ⟨HX.out.2⟩
       clear HX))
  go_ret
  exact ⟨rfl, HB.out⟩
set_option maxRecDepth 100000 in
set_option maxHeartbeats 4000000 in
theorem radds_pn (w : World) (ub : Nat) (line : List UInt8) (l : List Int) (h4 : l.length = 4) (d : Int) (hd : l.getD 3 0 = d) (h0 : (d != 0) = true) (h1 : (d != 1) = true)
    (HS : Calls Tryd.prog 67 #[strV line] w fun e w' => ∃ a cap, e = .returned (.tuple #[strV progW, .slice a l.length cap, .bool true]) ∧ Bx (IN w.heap.size w' a cap l ∧ Below w.heap.size w w')) :
    Calls Tryd.prog 51 #[.pointer (some ⟨ub, 0, none⟩), strV line] w fun e w' => e = .returned (.bool false) ∧ Below w.heap.size w w' := by
  unfold progW at HS
  rw [h4] at HS
  go_enter Tryd.func51, Tryd.ntmps51
  go_wp2_with (first
    | (go_at_call 67; refine HS.mono ?_; clear HS; rintro e w1 ⟨a, cap, rfl, HX⟩
       obtain ⟨lb, LC, rfl, hl0, hl1⟩ := in_one HX.out.1 (by omega) (show 3 < l.length by omega)
       have hlb : lb < w1.heap.size := (Array.getElem?_eq_some_iff.1 hl0).1
       have hcp : 4 ≤ cap := (by have := HX.out.1.ik.cap; omega)
       rw [hd] at hl1
       have HB : Bx _ := ⟨HX.out.2⟩
       clear HX))
  go_ret
  exact ⟨rfl, HB.out⟩
set_option maxRecDepth 100000 in
set_option maxHeartbeats 4000000 in
theorem radds_inA (w : World) (ub : Nat) (line : List UInt8) (word : List UInt8) (l : List Int) (hx1 : (word == [116, 121, 112, 101]) = false) (hx3 : (word == [112, 114, 111, 103]) = false) (hins : insOf (opI word) l = none) (hl : l.length ≤ 1099511627776)
    (HS : Calls Tryd.prog 67 #[strV line] w fun e w' => ∃ a cap, e = .returned (.tuple #[strV word, .slice a l.length cap, .bool true]) ∧ Bx (IN w.heap.size w' a cap l ∧ Below w.heap.size w w')) :
    Calls Tryd.prog 51 #[.pointer (some ⟨ub, 0, none⟩), strV line] w fun e w' => e = .returned (.bool false) ∧ Below w.heap.size w w' := by
  have HI : Bx (∀ w1 a cap, IN w.heap.size w1 a cap l ∧ Below w.heap.size w w1 → Calls Tryd.prog 68 #[strV word, .slice a l.length cap] w1 fun e w2 => e = .returned (.tuple #[.agg #[.int .i64 0, .int .i64 0, .int .i64 0, .slice none 0 0], .bool false]) ∧ Bx (Below w.heap.size w w2)) := ⟨fun w1 a cap h => by
    have := rinstr_any w1 word a cap l h.1.ik.ints (by omega)
    refine Calls.mono this ?_
    intro e w2 hx
    unfold riPost at hx
    rw [hins] at hx
    exact ⟨hx.1, ⟨h.2.trans (hx.2.mono h.2.size)⟩⟩⟩
  clear hins hl
  generalize l.length = kn at *
  go_enter Tryd.func51, Tryd.ntmps51
  go_wp2_with (first
    | (go_at_call 67; refine HS.mono ?_; clear HS; rintro e w1 ⟨a, cap, rfl, H1⟩)
    | (go_at_call 68; refine (HI.out _ _ _ H1.out).mono ?_; clear HI; rintro e w2 ⟨rfl, HX⟩))
  go_ret
  exact ⟨rfl, HX.out.alloc HX.out.size _⟩
set_option maxRecDepth 100000 in
set_option maxHeartbeats 4000000 in
theorem radds_izA (w : World) (ub : Nat) (line : List UInt8) (word : List UInt8) (l : List Int) (hx1 : (word == [116, 121, 112, 101]) = false) (hx3 : (word == [112, 114, 111, 103]) = false) (i : CIn) (hins : insOf (opI word) l = some i) (hl : l.length ≤ 1099511627776) (pa : Option Addr) (pc : Nat) (HU : Bx (∀ X, Below w.heap.size w X → X.cell? ⟨ub, 0, none⟩ = some (.slice pa 0 pc) ∧ ub < X.heap.size))
    (HS : Calls Tryd.prog 67 #[strV line] w fun e w' => ∃ a cap, e = .returned (.tuple #[strV word, .slice a l.length cap, .bool true]) ∧ Bx (IN w.heap.size w' a cap l ∧ Below w.heap.size w w')) :
    Calls Tryd.prog 51 #[.pointer (some ⟨ub, 0, none⟩), strV line] w fun e w' => e = .returned (.bool false) ∧ Below w.heap.size w w' := by
  have HI : Bx (∀ w1 a cap, IN w.heap.size w1 a cap l ∧ Below w.heap.size w w1 → Calls Tryd.prog 68 #[strV word, .slice a l.length cap] w1 fun e w2 => ∃ ka kc, e = .returned (.tuple #[.agg #[.int .i64 i.op, .int .i64 i.a, .int .i64 i.b, .slice ka i.list.length kc], .bool true]) ∧ Bx (Below w.heap.size w w2)) := ⟨fun w1 a cap h => by
    have := rinstr_any w1 word a cap l h.1.ik.ints (by omega)
    refine Calls.mono this ?_
    intro e w2 hx
    unfold riPost at hx
    rw [hins] at hx
    obtain ⟨a', cap', rfl, hy⟩ := hx
    exact ⟨a', cap', rfl, ⟨h.2.trans (hy.out.2.mono h.2.size)⟩⟩⟩
  clear hins hl
  generalize l.length = kn at *
  go_enter Tryd.func51, Tryd.ntmps51
  go_wp2_with (first
    | (go_at_call 67; refine HS.mono ?_; clear HS; rintro e w1 ⟨a, cap, rfl, H1⟩)
    | (go_at_call 68; refine (HI.out _ _ _ H1.out).mono ?_; clear HI; rintro e w2 ⟨ka, kc, rfl, HX⟩
       obtain ⟨z1, z2⟩ := HU.out (w2.alloc (.cells #[.int .i64 i.op, .int .i64 i.a, .int .i64 i.b, .slice ka i.list.length kc] 28)) (HX.out.alloc HX.out.size _)))
  go_ret
  exact ⟨rfl, HX.out.alloc HX.out.size _⟩
set_option maxRecDepth 100000 in
set_option maxHeartbeats 4000000 in
theorem radds_inB (w : World) (ub : Nat) (line : List UInt8) (l : List Int) (hl4 : ¬ l.length = 4) (hins : insOf (opI progW) l = none) (hl : l.length ≤ 1099511627776)
    (HS : Calls Tryd.prog 67 #[strV line] w fun e w' => ∃ a cap, e = .returned (.tuple #[strV progW, .slice a l.length cap, .bool true]) ∧ Bx (IN w.heap.size w' a cap l ∧ Below w.heap.size w w')) :
    Calls Tryd.prog 51 #[.pointer (some ⟨ub, 0, none⟩), strV line] w fun e w' => e = .returned (.bool false) ∧ Below w.heap.size w w' := by
  have HI : Bx (∀ w1 a cap, IN w.heap.size w1 a cap l ∧ Below w.heap.size w w1 → Calls Tryd.prog 68 #[strV progW, .slice a l.length cap] w1 fun e w2 => e = .returned (.tuple #[.agg #[.int .i64 0, .int .i64 0, .int .i64 0, .slice none 0 0], .bool false]) ∧ Bx (Below w.heap.size w w2)) := ⟨fun w1 a cap h => by
    have := rinstr_any w1 progW a cap l h.1.ik.ints (by omega)
    refine Calls.mono this ?_
    intro e w2 hx
    unfold riPost at hx
    rw [hins] at hx
    exact ⟨hx.1, ⟨h.2.trans (hx.2.mono h.2.size)⟩⟩⟩
  have hl5 : ((l.length : Int) == 4) = false := by simp; omega
  have hl6 : ¬ (l.length : Int) = 4 := by omega
  clear hins hl
  unfold progW at HS HI
  generalize l.length = kn at *
  go_enter Tryd.func51, Tryd.ntmps51
  go_wp2_with (first
    | (go_at_call 67; refine HS.mono ?_; clear HS; rintro e w1 ⟨a, cap, rfl, H1⟩)
    | (go_at_call 68; refine (HI.out _ _ _ H1.out).mono ?_; clear HI; rintro e w2 ⟨rfl, HX⟩))
  go_ret
  exact ⟨rfl, HX.out.alloc HX.out.size _⟩
set_option maxRecDepth 100000 in
set_option maxHeartbeats 4000000 in
theorem radds_izB (w : World) (ub : Nat) (line : List UInt8) (l : List Int) (hl4 : ¬ l.length = 4) (i : CIn) (hins : insOf (opI progW) l = some i) (hl : l.length ≤ 1099511627776) (pa : Option Addr) (pc : Nat) (HU : Bx (∀ X, Below w.heap.size w X → X.cell? ⟨ub, 0, none⟩ = some (.slice pa 0 pc) ∧ ub < X.heap.size))
    (HS : Calls Tryd.prog 67 #[strV line] w fun e w' => ∃ a cap, e = .returned (.tuple #[strV progW, .slice a l.length cap, .bool true]) ∧ Bx (IN w.heap.size w' a cap l ∧ Below w.heap.size w w')) :
    Calls Tryd.prog 51 #[.pointer (some ⟨ub, 0, none⟩), strV line] w fun e w' => e = .returned (.bool false) ∧ Below w.heap.size w w' := by
  have HI : Bx (∀ w1 a cap, IN w.heap.size w1 a cap l ∧ Below w.heap.size w w1 → Calls Tryd.prog 68 #[strV progW, .slice a l.length cap] w1 fun e w2 => ∃ ka kc, e = .returned (.tuple #[.agg #[.int .i64 i.op, .int .i64 i.a, .int .i64 i.b, .slice ka i.list.length kc], .bool true]) ∧ Bx (Below w.heap.size w w2)) := ⟨fun w1 a cap h => by
    have := rinstr_any w1 progW a cap l h.1.ik.ints (by omega)
    refine Calls.mono this ?_
    intro e w2 hx
    unfold riPost at hx
    rw [hins] at hx
    obtain ⟨a', cap', rfl, hy⟩ := hx
    exact ⟨a', cap', rfl, ⟨h.2.trans (hy.out.2.mono h.2.size)⟩⟩⟩
  have hl5 : ((l.length : Int) == 4) = false := by simp; omega
  have hl6 : ¬ (l.length : Int) = 4 := by omega
  clear hins hl
  unfold progW at HS HI
  generalize l.length = kn at *
  go_enter Tryd.func51, Tryd.ntmps51
  go_wp2_with (first
    | (go_at_call 67; refine HS.mono ?_; clear HS; rintro e w1 ⟨a, cap, rfl, H1⟩)
    | (go_at_call 68; refine (HI.out _ _ _ H1.out).mono ?_; clear HI; rintro e w2 ⟨ka, kc, rfl, HX⟩
       obtain ⟨z1, z2⟩ := HU.out (w2.alloc (.cells #[.int .i64 i.op, .int .i64 i.a, .int .i64 i.b, .slice ka i.list.length kc] 28)) (HX.out.alloc HX.out.size _)))
  go_ret
  exact ⟨rfl, HX.out.alloc HX.out.size _⟩
set_option maxRecDepth 100000 in
set_option maxHeartbeats 4000000 in
theorem radds_s (w : World) (ub : Nat) (line : List UInt8) (HS : Calls Tryd.prog 67 #[strV line] w fun e w' => e = .returned (.tuple #[strV [], .slice none 0 0, .bool false]) ∧ Below w.heap.size w w') :
    Calls Tryd.prog 51 #[.pointer (some ⟨ub, 0, none⟩), strV line] w fun e w' => e = .returned (.bool false) ∧ Below w.heap.size w w' := by
  go_enter Tryd.func51, Tryd.ntmps51
  go_wp2_with (first
    | (go_at_call 67; refine HS.mono ?_; clear HS; rintro e w1 ⟨rfl, HB⟩))
  go_ret
  exact ⟨rfl, HB⟩
theorem radds_any (w : World) (B ub : Nat) (u : CUn) (hu : UR w B ub u) (hBu : B ≤ ub) (line : List UInt8) (hln : line.length ≤ 1099511627776) (hz : szU u ≤ 1099511627776) :
    Calls Tryd.prog 51 #[.pointer (some ⟨ub, 0, none⟩), strV line] w (AR w B ub u (addL u line)) := by
  obtain ⟨pv, tv, pcs, cut, u1, u2, u3, u4, u5, u6⟩ := hu.ex
  have hub : ub < w.heap.size := (Array.getElem?_eq_some_iff.1 u1).1
  have hBw : B ≤ w.heap.size := by omega
  have hpv : ∃ pa pc, pv = .slice pa u.progs.length pc := owns_slice u3
  obtain ⟨pa, pc, hpv⟩ := hpv
  have HU : Bx (∀ X, Below w.heap.size w X → X.cell? ⟨ub, 0, none⟩ = some (.slice pa u.progs.length pc) ∧ ub < X.heap.size) := ⟨fun X hb => ⟨by rw [← hpv]; exact cell_blk (below_heap hb u1) rfl, Nat.lt_of_lt_of_le hub hb.size⟩⟩
  clear u1 u2 u3 u4 u5 u6
  have hno : ∀ r : Option CUn, r = none → (Calls Tryd.prog 51 #[.pointer (some ⟨ub, 0, none⟩), strV line] w fun e w' => e = .returned (.bool false) ∧ Below w.heap.size w w') → Calls Tryd.prog 51 #[.pointer (some ⟨ub, 0, none⟩), strV line] w (AR w B ub u r) := fun r hr h => by
    subst hr
    refine h.mono ?_
    rintro e w' ⟨rfl, hb⟩
    exact ⟨false, rfl, ⟨rfl, hb.mono hBw⟩⟩
  have hyes : ∀ (r : Option CUn) (u' : CUn), r = some u' → (Calls Tryd.prog 51 #[.pointer (some ⟨ub, 0, none⟩), strV line] w fun e w' => e = .returned (.bool true) ∧ Bx (Below B w w' ∧ UR w' B ub u')) → Calls Tryd.prog 51 #[.pointer (some ⟨ub, 0, none⟩), strV line] w (AR w B ub u r) := fun r u' hr h => by
    subst hr
    refine h.mono ?_
    rintro e w' ⟨rfl, hb⟩
    exact ⟨true, rfl, ⟨rfl, hb.out.1, hb.out.2⟩⟩
  have HS := rsplit_any line w hln
  have hpl := pieces_len 32 line
  unfold SplitA at HS
  unfold addL
  cases hn : numsOf (pieces 32 line).2 with
  | none =>
    rw [hn] at HS
    exact hno _ rfl (radds_s w ub line HS)
  | some l =>
    rw [hn] at HS
    simp only [] at HS ⊢
    have hll : l.length ≤ 1099511627776 := by
      have := congrArg List.length (numsOf_some hn).1
      rw [List.length_map] at this
      omega
    have HS2 : Calls Tryd.prog 67 #[strV line] w fun e w' => ∃ a cap, e = .returned (.tuple #[strV (pieces 32 line).1, .slice a l.length cap, .bool true]) ∧ Bx (IN w.heap.size w' a cap l ∧ Below w.heap.size w w') := HS.mono fun e w' h => by
      obtain ⟨v, h1, h2, h3⟩ := h
      have ho := h2.own
      obtain ⟨a, cap, rfl, hk⟩ := IK.of_own ho
      exact ⟨a, cap, h1, ⟨ho, h3⟩⟩
    generalize (pieces 32 line).1 = word at *
    clear HS hpl hn hln
    by_cases hw1 : word = typeW
    · rw [if_pos hw1]
      subst hw1
      by_cases hl2 : l.length < 2
      · exact hno _ (if_pos (.inr (.inl hl2))) (radds_tn1 w ub line l hl2 HS2)
      by_cases hbt : isBitI (l.getD 1 0) = false
      · have hb2 : (l.getD 1 0 != 0) = true ∧ (l.getD 1 0 != 1) = true := by
          unfold isBitI at hbt
          simp at hbt ⊢
          exact hbt
        exact hno _ (if_pos (.inr (.inr hbt))) (radds_tn2 w ub line l hl2 _ rfl hb2.1 hb2.2 HS2)
      have hd : l.getD 1 0 = 0 ∨ l.getD 1 0 = 1 := by unfold isBitI at hbt; simp at hbt ⊢; omega
      by_cases hp0 : 0 < u.progs.length
      · rcases hd with hd | hd
        · exact hno _ (if_pos (.inl hp0)) (radds_tn30 w ub line l hl2 hd _ hp0 pa pc HU HS2)
        · exact hno _ (if_pos (.inl hp0)) (radds_tn31 w ub line l hl2 hd _ hp0 pa pc HU HS2)
      rw [if_neg (by rw [not_or, not_or]; exact ⟨hp0, hl2, hbt⟩)]
      have h00 : u.progs = [] := List.eq_nil_of_length_eq_zero (by omega)
      have hty := szU_types u
      match l, hl2, hd, HS2, hll with
      | x :: d :: kd, _, hd, HS2, hll =>
        simp only [List.getD_cons_succ, List.getD_cons_zero] at hd ⊢
        simp only [List.length_cons] at hll
        have HS3 : Calls Tryd.prog 67 #[strV line] w fun e w' => ∃ lb cap, e = .returned (.tuple #[strV typeW, .slice (some ⟨lb, 0, none⟩) (kd.length + 2) cap, .bool true]) ∧ Bx (IK w' (some ⟨lb, 0, none⟩) cap (x :: d :: kd) ∧ w.heap.size ≤ lb ∧ Below w.heap.size w w') := HS2.mono fun e w' h => by
          obtain ⟨a, cap, rfl, hx⟩ := h
          obtain ⟨lb, rfl, hlb⟩ := in_from hx.out.1 (by simp)
          exact ⟨lb, cap, by simp, ⟨hx.out.1.ik, hlb, hx.out.2⟩⟩
        rcases hd with rfl | rfl
        · cases kd with
          | nil => exact hyes _ _ rfl (radds_t0e w B ub u hu h00 x hBu (by omega) (by simp) _ rfl line HS3)
          | cons y kd => exact hyes _ _ rfl (radds_t0n w B ub u hu h00 x (y :: kd) (by simp) hBu (by omega) (by omega) _ rfl line HS3)
        · cases kd with
          | nil => exact hyes _ _ rfl (radds_t1e w B ub u hu h00 x hBu (by omega) (by simp) _ rfl line HS3)
          | cons y kd => exact hyes _ _ rfl (radds_t1n w B ub u hu h00 x (y :: kd) (by simp) hBu (by omega) (by omega) _ rfl line HS3)
      | [], h, _, _, _ => exact absurd (by simp) h
      | [_], h, _, _, _ => exact absurd (by simp) h
    · rw [if_neg hw1]
      by_cases hw2 : word = progW ∧ l.length = 4
      · rw [if_pos hw2]
        obtain ⟨rfl, h4⟩ := hw2
        by_cases hbt : isBitI (l.getD 3 0) = false
        · have hb2 : (l.getD 3 0 != 0) = true ∧ (l.getD 3 0 != 1) = true := by
            unfold isBitI at hbt
            simp at hbt ⊢
            exact hbt
          exact hno _ (if_pos hbt) (radds_pn w ub line l h4 _ rfl hb2.1 hb2.2 HS2)
        · rw [if_neg hbt]
          have hd : l.getD 3 0 = 0 ∨ l.getD 3 0 = 1 := by unfold isBitI at hbt; simp at hbt ⊢; omega
          have hsp := szU_progs u
          match l, h4, hd, HS2 with
          | [x0, x1, x2, d], _, hd, HS2 =>
            simp only [List.getD_cons_succ, List.getD_cons_zero] at hd ⊢
            have HS3 : Calls Tryd.prog 67 #[strV line] w fun e w' => ∃ lb cap, e = .returned (.tuple #[strV progW, .slice (some ⟨lb, 0, none⟩) 4 cap, .bool true]) ∧ Bx (IK w' (some ⟨lb, 0, none⟩) cap [x0, x1, x2, d] ∧ w.heap.size ≤ lb ∧ Below w.heap.size w w') := HS2.mono fun e w' h => by
              obtain ⟨a, cap, rfl, hx⟩ := h
              obtain ⟨lb, rfl, hlb⟩ := in_from hx.out.1 (by simp)
              exact ⟨lb, cap, by simp, ⟨hx.out.1.ik, hlb, hx.out.2⟩⟩
            rcases hd with rfl | rfl
            · exact hyes _ _ rfl (radds_p0 w B ub u hu x0 x1 x2 hBu (by omega) line HS3)
            · exact hyes _ _ rfl (radds_p1 w B ub u hu x0 x1 x2 hBu (by omega) line HS3)
      · rw [if_neg hw2]
        have hsp := szU_progs u
        by_cases hw3 : word = progW
        · subst hw3
          have hl4 : ¬ l.length = 4 := fun h => hw2 ⟨rfl, h⟩
          cases hins : insOf (opI progW) l with
          | none => exact hno _ rfl (radds_inB w ub line l hl4 hins hll HS2)
          | some i =>
            simp only []
            by_cases h0 : u.progs.length = 0
            · rw [if_pos h0]
              rw [h0] at HU
              exact hno _ rfl (radds_izB w ub line l hl4 i hins hll pa pc HU HS2)
            · rw [if_neg h0]
              obtain ⟨ps, ts⟩ := u
              obtain ⟨qs, p, rfl⟩ := last_of (ps := ps) (by rintro rfl; exact h0 rfl)
              rw [szU_p] at hz
              have hq := sumF_len (fun p : CPg => 1 + p.code.length) (fun x => by omega) qs
              exact hyes _ _ (by rw [addIns_last]) (radds_iB w B ub qs p ts hu l hl4 i hins hBu (by omega) (by omega) hll line HS2)
        · have hx1 : (word == [116, 121, 112, 101]) = false := by unfold typeW at hw1; simpa using hw1
          have hx3 : (word == [112, 114, 111, 103]) = false := by unfold progW at hw3; simpa using hw3
          cases hins : insOf (opI word) l with
          | none => exact hno _ rfl (radds_inA w ub line word l hx1 hx3 hins hll HS2)
          | some i =>
            simp only []
            by_cases h0 : u.progs.length = 0
            · rw [if_pos h0]
              rw [h0] at HU
              exact hno _ rfl (radds_izA w ub line word l hx1 hx3 i hins hll pa pc HU HS2)
            · rw [if_neg h0]
              obtain ⟨ps, ts⟩ := u
              obtain ⟨qs, p, rfl⟩ := last_of (ps := ps) (by rintro rfl; exact h0 rfl)
              rw [szU_p] at hz
              have hq := sumF_len (fun p : CPg => 1 + p.code.length) (fun x => by omega) qs
              exact hyes _ _ (by rw [addIns_last]) (radds_iA w B ub qs p ts hu word l hx1 hx3 i hins hBu (by omega) (by omega) hll line HS2)
end Go.Proofs.YtijdcplffmdijaaDoor
