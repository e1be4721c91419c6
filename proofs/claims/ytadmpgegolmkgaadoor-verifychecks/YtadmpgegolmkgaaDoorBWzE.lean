import Derived.Test.YtadmpgegolmkgaaDoorBWzB
import Derived.Test.YtadmpgegolmkgaaDoorBWzTd
import Derived.Test.YtadmpgegolmkgaaDoorBWmE
import Derived.Test.YtadmpgegolmkgaaDoorBWkE
set_option linter.unusedVariables false
set_option linter.unusedSimpArgs false
set_option maxHeartbeats 4000000
set_option maxRecDepth 100000
namespace Go.Proofs.YtadmpgegolmkgaaDoor
open Go.RowKit
theorem qN (w : World) (u : CUn) (pa ta : Option Addr) (pc tc : Nat) (hu : dL w w.heap.size pa pc ta tc u) (x : CIn) (ka : Option Addr) (kc : Nat) (hk : aF w w.heap.size ka kc x.list) (hll : x.list.length <= 281474976710656) (ho : x.op < 1 ∨ 27 < x.op) : Calls Tryd.prog 37 #[unV u pa pc ta tc, aR x ka kc] w fun e w' => e = .returned (.bool true) /\ Bx (Below w.heap.size w w') := by
 obtain ⟨H, hH⟩ : ∃ H, w.heap.size = H := ⟨_, rfl⟩
 obtain ⟨w1, hw1⟩ : ∃ w1, w.alloc (.cells #[.slice pa u.ae.length pc, .slice ta u.types.length tc] 25) = w1 := ⟨_, rfl⟩
 obtain ⟨w2, hw2⟩ : ∃ w2, w1.alloc (.cells (aW x ka kc) 43) = w2 := ⟨_, rfl⟩
 have bb1 : Below w.heap.size w w1 := by rw [← hw1]; exact ak w _
 have bb2 : Below w1.heap.size w1 w2 := by rw [← hw2]; exact ak w1 _
 have e1 : w1.heap.size = H + 1 := by rw [← hw1]; simp [hH]
 have q1 : w2.heap[H]? = some (.cells #[.slice pa u.ae.length pc, .slice ta u.types.length tc] 25 (0, 0)) := (bb2.block H (by omega)).trans (by rw [← hw1]; exact aj _ _ _ hH)
 have q2 : w2.heap[H + 1]? = some (.cells (aW x ka kc) 43 (0, 0)) := by rw [← hw2]; exact aj _ _ _ e1
 have bb12 : Below w.heap.size w w2 := bb1.trans (bb2.mono bb1.size)
 have HX : Bx (∀ X, Below w2.heap.size w2 X -> Below w.heap.size w X /\ (X.cell? ⟨H, 0, none⟩ = some (.slice pa u.ae.length pc) /\ X.cell? ⟨H, 1, none⟩ = some (.slice ta u.types.length tc) /\ H < X.heap.size) /\ (X.cell? ⟨H + 1, 0, none⟩ = some (.int .i64 x.op) /\ X.cell? ⟨H + 1, 1, none⟩ = some (.int .i64 x.a) /\ X.cell? ⟨H + 1, 2, none⟩ = some (.int .i64 x.b) /\ X.cell? ⟨H + 1, 3, none⟩ = some (.slice ka x.list.length kc) /\ H + 1 < X.heap.size)) := ⟨fun X hX => by
  have z1 := (hX.block H (ah q1)).trans q1
  have z2 := (hX.block (H + 1) (ah q2)).trans q2
  exact ⟨bb12.trans (hX.mono bb12.size), ⟨aa z1 rfl, aa z1 rfl, ah z1⟩, ⟨aa z2 rfl, aa z2 rfl, aa z2 rfl, aa z2 rfl, ah z2⟩⟩⟩
 obtain ⟨x00, ⟨u0, u1, u2⟩, ⟨i0, i1, i2, i3, i4⟩⟩ := HX.out w2 (Below.refl _ _)
 have HB2 : Bx (Below w.heap.size w w2) := ⟨bb12⟩
 have HWI : Bx (∀ n l m X, _) := ⟨fun n l m X => aA n l m X⟩
 have hlm := hk.max
 have hlc := hk.cap
 have htm := hu.types.max
 have htc := hu.types.cap
 have hpm := hu.ae.max
 have hpc := hu.ae.cap
 unfold maxLen at hlm htm hpm
 unfold unV aR
 unfold aW at hw2
 have HI : Bx (∀ X, Calls Tryd.prog 23 #[.int .i64 x.op, .int .i64 1, .int .i64 27] X fun e w' => e = .returned (.bool false) /\ X = w') := ⟨fun X => by
  have := aA x.op 1 27 X
  rw [show (decide (1 <= x.op) && decide (x.op <= 27)) = false by simp; omega] at this
  exact this⟩
 clear hu hk HX HWI bb1 bb2 q1 q2 bb12 x00 ho
 go_enter Tryd.func37, Tryd.ntmps37
 go_wp2_with (first
  | (go_at_call 23; refine (HI.out _).mono ?_; rintro e z1 ⟨rfl, rfl⟩; clear HI)
  | fail)
 go_ret
 exact ⟨rfl, HB2⟩
theorem qO (w : World) (u : CUn) (pa ta : Option Addr) (pc tc : Nat) (hu : dL w w.heap.size pa pc ta tc u) (x : CIn) (ka : Option Addr) (kc : Nat) (hk : aF w w.heap.size ka kc x.list) (hll : x.list.length <= 281474976710656) (h1 : 1 <= x.op) (h2 : x.op <= 27) (ho : (rfa x.op = false /\ x.a ≠ 0) ∨ (rfb x.op = false /\ x.b ≠ 0) ∨ (dC x.op = false /\ x.list.length ≠ 0)) : Calls Tryd.prog 37 #[unV u pa pc ta tc, aR x ka kc] w fun e w' => e = .returned (.bool true) /\ Bx (Below w.heap.size w w') := by
 obtain ⟨H, hH⟩ : ∃ H, w.heap.size = H := ⟨_, rfl⟩
 obtain ⟨w1, hw1⟩ : ∃ w1, w.alloc (.cells #[.slice pa u.ae.length pc, .slice ta u.types.length tc] 25) = w1 := ⟨_, rfl⟩
 obtain ⟨w2, hw2⟩ : ∃ w2, w1.alloc (.cells (aW x ka kc) 43) = w2 := ⟨_, rfl⟩
 have bb1 : Below w.heap.size w w1 := by rw [← hw1]; exact ak w _
 have bb2 : Below w1.heap.size w1 w2 := by rw [← hw2]; exact ak w1 _
 have e1 : w1.heap.size = H + 1 := by rw [← hw1]; simp [hH]
 have q1 : w2.heap[H]? = some (.cells #[.slice pa u.ae.length pc, .slice ta u.types.length tc] 25 (0, 0)) := (bb2.block H (by omega)).trans (by rw [← hw1]; exact aj _ _ _ hH)
 have q2 : w2.heap[H + 1]? = some (.cells (aW x ka kc) 43 (0, 0)) := by rw [← hw2]; exact aj _ _ _ e1
 have bb12 : Below w.heap.size w w2 := bb1.trans (bb2.mono bb1.size)
 have HX : Bx (∀ X, Below w2.heap.size w2 X -> Below w.heap.size w X /\ (X.cell? ⟨H, 0, none⟩ = some (.slice pa u.ae.length pc) /\ X.cell? ⟨H, 1, none⟩ = some (.slice ta u.types.length tc) /\ H < X.heap.size) /\ (X.cell? ⟨H + 1, 0, none⟩ = some (.int .i64 x.op) /\ X.cell? ⟨H + 1, 1, none⟩ = some (.int .i64 x.a) /\ X.cell? ⟨H + 1, 2, none⟩ = some (.int .i64 x.b) /\ X.cell? ⟨H + 1, 3, none⟩ = some (.slice ka x.list.length kc) /\ H + 1 < X.heap.size)) := ⟨fun X hX => by
  have z1 := (hX.block H (ah q1)).trans q1
  have z2 := (hX.block (H + 1) (ah q2)).trans q2
  exact ⟨bb12.trans (hX.mono bb12.size), ⟨aa z1 rfl, aa z1 rfl, ah z1⟩, ⟨aa z2 rfl, aa z2 rfl, aa z2 rfl, aa z2 rfl, ah z2⟩⟩⟩
 obtain ⟨x00, ⟨u0, u1, u2⟩, ⟨i0, i1, i2, i3, i4⟩⟩ := HX.out w2 (Below.refl _ _)
 have HB2 : Bx (Below w.heap.size w w2) := ⟨bb12⟩
 have HWI : Bx (∀ n l m X, _) := ⟨fun n l m X => aA n l m X⟩
 have hlm := hk.max
 have hlc := hk.cap
 have htm := hu.types.max
 have htc := hu.types.cap
 have hpm := hu.ae.max
 have hpc := hu.ae.cap
 unfold maxLen at hlm htm hpm
 unfold unV aR
 unfold aW at hw2
 have HF : Bx (∀ X, Calls Tryd.prog 53 #[.int .i64 x.op] X fun e w' => e = .returned (.tuple #[.bool (rfa x.op), .bool (rfb x.op), .bool (dC x.op)]) /\ X = w') := ⟨fun X => bu x.op X h1 h2⟩
 have HI : Bx (∀ X, Calls Tryd.prog 23 #[.int .i64 x.op, .int .i64 1, .int .i64 27] X fun e w' => e = .returned (.bool true) /\ X = w') := ⟨fun X => by
  have := aA x.op 1 27 X
  rw [decide_eq_true h1, decide_eq_true h2] at this
  exact this⟩
 have na : (x.a != 0) = decide (x.a ≠ 0) := by by_cases e : x.a = 0 <;> simp [e]
 have nb : (x.b != 0) = decide (x.b ≠ 0) := by by_cases e : x.b = 0 <;> simp [e]
 have nl : ((x.list.length : Int) != 0) = decide (x.list.length ≠ 0) := by
  by_cases e : x.list.length = 0
  ·rw [decide_eq_false (by omega), e]; rfl
  ·rw [decide_eq_true e]; exact bne_iff_ne.2 (by omega)
 have hor : ((!rfa x.op && (x.a != 0)) || (!rfb x.op && (x.b != 0)) || (!dC x.op && ((x.list.length : Int) != 0))) = true := by
  rw [na, nb, nl]
  rcases ho with ⟨q1, q2⟩ | ⟨q1, q2⟩ | ⟨q1, q2⟩ <;> simp [q1, q2]
 clear na nb nl ho h1 h2
 generalize rfa x.op = fa at *
 generalize rfb x.op = fb at *
 generalize dC x.op = fl at *
 generalize hva : (x.a != 0) = va at *
 generalize hvb : (x.b != 0) = vb at *
 generalize hvl : ((x.list.length : Int) != 0) = vl at *
 clear hu hk HX HWI bb1 bb2 q1 q2 bb12 x00
 cases fa with
 | false =>
  cases va with
  | false =>
   cases fb with
   | false =>
    cases vb with
    | false =>
     cases fl with
     | false =>
      cases vl with
      | false =>
       simp at hor
      | true =>
       clear hor
       go_enter Tryd.func37, Tryd.ntmps37
       go_wp2_with (first
        | (go_at_call 23; refine (HI.out _).mono ?_; rintro e z1 ⟨rfl, rfl⟩; clear HI)
        | (go_at_call 53; refine (HF.out _).mono ?_; rintro e z2 ⟨rfl, rfl⟩; clear HF)
        | fail)
       go_ret
       exact ⟨rfl, HB2⟩
     | true =>
      simp at hor
    | true =>
     clear hor
     go_enter Tryd.func37, Tryd.ntmps37
     go_wp2_with (first
      | (go_at_call 23; refine (HI.out _).mono ?_; rintro e z1 ⟨rfl, rfl⟩; clear HI)
      | (go_at_call 53; refine (HF.out _).mono ?_; rintro e z2 ⟨rfl, rfl⟩; clear HF)
      | fail)
     go_ret
     exact ⟨rfl, HB2⟩
   | true =>
    cases fl with
    | false =>
     cases vl with
     | false =>
      simp at hor
     | true =>
      clear hor
      go_enter Tryd.func37, Tryd.ntmps37
      go_wp2_with (first
       | (go_at_call 23; refine (HI.out _).mono ?_; rintro e z1 ⟨rfl, rfl⟩; clear HI)
       | (go_at_call 53; refine (HF.out _).mono ?_; rintro e z2 ⟨rfl, rfl⟩; clear HF)
       | fail)
      go_ret
      exact ⟨rfl, HB2⟩
    | true =>
     simp at hor
  | true =>
   clear hor
   go_enter Tryd.func37, Tryd.ntmps37
   go_wp2_with (first
    | (go_at_call 23; refine (HI.out _).mono ?_; rintro e z1 ⟨rfl, rfl⟩; clear HI)
    | (go_at_call 53; refine (HF.out _).mono ?_; rintro e z2 ⟨rfl, rfl⟩; clear HF)
    | fail)
   go_ret
   exact ⟨rfl, HB2⟩
 | true =>
  cases fb with
  | false =>
   cases vb with
   | false =>
    cases fl with
    | false =>
     cases vl with
     | false =>
      simp at hor
     | true =>
      clear hor
      go_enter Tryd.func37, Tryd.ntmps37
      go_wp2_with (first
       | (go_at_call 23; refine (HI.out _).mono ?_; rintro e z1 ⟨rfl, rfl⟩; clear HI)
       | (go_at_call 53; refine (HF.out _).mono ?_; rintro e z2 ⟨rfl, rfl⟩; clear HF)
       | fail)
      go_ret
      exact ⟨rfl, HB2⟩
    | true =>
     simp at hor
   | true =>
    clear hor
    go_enter Tryd.func37, Tryd.ntmps37
    go_wp2_with (first
     | (go_at_call 23; refine (HI.out _).mono ?_; rintro e z1 ⟨rfl, rfl⟩; clear HI)
     | (go_at_call 53; refine (HF.out _).mono ?_; rintro e z2 ⟨rfl, rfl⟩; clear HF)
     | fail)
    go_ret
    exact ⟨rfl, HB2⟩
  | true =>
   cases fl with
   | false =>
    cases vl with
    | false =>
     simp at hor
    | true =>
     clear hor
     go_enter Tryd.func37, Tryd.ntmps37
     go_wp2_with (first
      | (go_at_call 23; refine (HI.out _).mono ?_; rintro e z1 ⟨rfl, rfl⟩; clear HI)
      | (go_at_call 53; refine (HF.out _).mono ?_; rintro e z2 ⟨rfl, rfl⟩; clear HF)
      | fail)
     go_ret
     exact ⟨rfl, HB2⟩
   | true =>
    simp at hor
theorem xU (w : World) (u : CUn) (pa ta : Option Addr) (pc tc : Nat) (hu : dL w w.heap.size pa pc ta tc u) (x : CIn) (ka : Option Addr) (kc : Nat) (hk : aF w w.heap.size ka kc x.list) (hll : x.list.length <= 281474976710656) (h1 : 1 <= x.op) (h2 : x.op <= 27) (hop : x.op ≠ 2 /\ x.op ≠ 3 /\ x.op ≠ 10 /\ x.op ≠ 11 /\ x.op ≠ 15 /\ x.op ≠ 24 /\ x.op ≠ 23 /\ x.op ≠ 16 /\ x.op ≠ 17 /\ x.op ≠ 18 /\ x.op ≠ 22 /\ x.op ≠ 27) (hfb : rfb x.op = false) (hfl : dC x.op = false) (ha : rfa x.op = false -> x.a = 0) (hb : x.b = 0) (hl : x.list.length = 0) : Calls Tryd.prog 37 #[unV u pa pc ta tc, aR x ka kc] w fun e w' => e = .returned (.bool false) /\ Bx (Below w.heap.size w w') := by
 obtain ⟨H, hH⟩ : ∃ H, w.heap.size = H := ⟨_, rfl⟩
 obtain ⟨w1, hw1⟩ : ∃ w1, w.alloc (.cells #[.slice pa u.ae.length pc, .slice ta u.types.length tc] 25) = w1 := ⟨_, rfl⟩
 obtain ⟨w2, hw2⟩ : ∃ w2, w1.alloc (.cells (aW x ka kc) 43) = w2 := ⟨_, rfl⟩
 have bb1 : Below w.heap.size w w1 := by rw [← hw1]; exact ak w _
 have bb2 : Below w1.heap.size w1 w2 := by rw [← hw2]; exact ak w1 _
 have e1 : w1.heap.size = H + 1 := by rw [← hw1]; simp [hH]
 have q1 : w2.heap[H]? = some (.cells #[.slice pa u.ae.length pc, .slice ta u.types.length tc] 25 (0, 0)) := (bb2.block H (by omega)).trans (by rw [← hw1]; exact aj _ _ _ hH)
 have q2 : w2.heap[H + 1]? = some (.cells (aW x ka kc) 43 (0, 0)) := by rw [← hw2]; exact aj _ _ _ e1
 have bb12 : Below w.heap.size w w2 := bb1.trans (bb2.mono bb1.size)
 have HX : Bx (∀ X, Below w2.heap.size w2 X -> Below w.heap.size w X /\ (X.cell? ⟨H, 0, none⟩ = some (.slice pa u.ae.length pc) /\ X.cell? ⟨H, 1, none⟩ = some (.slice ta u.types.length tc) /\ H < X.heap.size) /\ (X.cell? ⟨H + 1, 0, none⟩ = some (.int .i64 x.op) /\ X.cell? ⟨H + 1, 1, none⟩ = some (.int .i64 x.a) /\ X.cell? ⟨H + 1, 2, none⟩ = some (.int .i64 x.b) /\ X.cell? ⟨H + 1, 3, none⟩ = some (.slice ka x.list.length kc) /\ H + 1 < X.heap.size)) := ⟨fun X hX => by
  have z1 := (hX.block H (ah q1)).trans q1
  have z2 := (hX.block (H + 1) (ah q2)).trans q2
  exact ⟨bb12.trans (hX.mono bb12.size), ⟨aa z1 rfl, aa z1 rfl, ah z1⟩, ⟨aa z2 rfl, aa z2 rfl, aa z2 rfl, aa z2 rfl, ah z2⟩⟩⟩
 obtain ⟨x00, ⟨u0, u1, u2⟩, ⟨i0, i1, i2, i3, i4⟩⟩ := HX.out w2 (Below.refl _ _)
 have HB2 : Bx (Below w.heap.size w w2) := ⟨bb12⟩
 have HWI : Bx (∀ n l m X, _) := ⟨fun n l m X => aA n l m X⟩
 have hlm := hk.max
 have hlc := hk.cap
 have htm := hu.types.max
 have htc := hu.types.cap
 have hpm := hu.ae.max
 have hpc := hu.ae.cap
 unfold maxLen at hlm htm hpm
 unfold unV aR
 unfold aW at hw2
 have HF : Bx (∀ X, Calls Tryd.prog 53 #[.int .i64 x.op] X fun e w' => e = .returned (.tuple #[.bool (rfa x.op), .bool (rfb x.op), .bool (dC x.op)]) /\ X = w') := ⟨fun X => bu x.op X h1 h2⟩
 have HI : Bx (∀ X, Calls Tryd.prog 23 #[.int .i64 x.op, .int .i64 1, .int .i64 27] X fun e w' => e = .returned (.bool true) /\ X = w') := ⟨fun X => by
  have := aA x.op 1 27 X
  rw [decide_eq_true h1, decide_eq_true h2] at this
  exact this⟩
 have b2 : (x.op == 2) = false := by simp; omega
 have b3 : (x.op == 3) = false := by simp; omega
 have b10 : (x.op == 10) = false := by simp; omega
 have b11 : (x.op == 11) = false := by simp; omega
 have b15 : (x.op == 15) = false := by simp; omega
 have b24 : (x.op == 24) = false := by simp; omega
 have b23 : (x.op == 23) = false := by simp; omega
 have b16 : (x.op == 16) = false := by simp; omega
 have b17 : (x.op == 17) = false := by simp; omega
 have b18 : (x.op == 18) = false := by simp; omega
 have b22 : (x.op == 22) = false := by simp; omega
 have b27 : (x.op == 27) = false := by simp; omega
 have nb : (x.b != 0) = false := by simp [hb]
 have nl : ((x.list.length : Int) != 0) = false := by rw [hl]; rfl
 rw [hfb, hfl] at HF
 clear hu hk HX HWI bb1 bb2 q1 q2 bb12 x00 hop hb hl hfb hfl h1 h2
 cases hfa : rfa x.op with
 | true =>
  rw [hfa] at HF
  clear ha hfa
  go_enter Tryd.func37, Tryd.ntmps37
  go_wp2_with (first
   | (go_at_call 23; refine (HI.out _).mono ?_; rintro e z1 ⟨rfl, rfl⟩; clear HI)
   | (go_at_call 53; refine (HF.out _).mono ?_; rintro e z2 ⟨rfl, rfl⟩; clear HF)
   | fail)
  go_ret
  exact ⟨rfl, HB2⟩
 | false =>
  rw [hfa] at HF
  have na : (x.a != 0) = false := by simp [ha hfa]
  clear ha hfa
  go_enter Tryd.func37, Tryd.ntmps37
  go_wp2_with (first
   | (go_at_call 23; refine (HI.out _).mono ?_; rintro e z1 ⟨rfl, rfl⟩; clear HI)
   | (go_at_call 53; refine (HF.out _).mono ?_; rintro e z2 ⟨rfl, rfl⟩; clear HF)
   | fail)
  go_ret
  exact ⟨rfl, HB2⟩
theorem xV (w : World) (u : CUn) (pa ta : Option Addr) (pc tc : Nat) (hu : dL w w.heap.size pa pc ta tc u) (x : CIn) (ka : Option Addr) (kc : Nat) (hk : aF w w.heap.size ka kc x.list) (hll : x.list.length <= 281474976710656) (hop : x.op = 2) (hb : x.b = 0) (hl : x.list.length = 0) : Calls Tryd.prog 37 #[unV u pa pc ta tc, aR x ka kc] w fun e w' => e = .returned (.bool (!inI x.a 1)) /\ Bx (Below w.heap.size w w') := by
 have h1 : 1 <= x.op := by omega
 have h2 : x.op <= 27 := by omega
 obtain ⟨H, hH⟩ : ∃ H, w.heap.size = H := ⟨_, rfl⟩
 obtain ⟨w1, hw1⟩ : ∃ w1, w.alloc (.cells #[.slice pa u.ae.length pc, .slice ta u.types.length tc] 25) = w1 := ⟨_, rfl⟩
 obtain ⟨w2, hw2⟩ : ∃ w2, w1.alloc (.cells (aW x ka kc) 43) = w2 := ⟨_, rfl⟩
 have bb1 : Below w.heap.size w w1 := by rw [← hw1]; exact ak w _
 have bb2 : Below w1.heap.size w1 w2 := by rw [← hw2]; exact ak w1 _
 have e1 : w1.heap.size = H + 1 := by rw [← hw1]; simp [hH]
 have q1 : w2.heap[H]? = some (.cells #[.slice pa u.ae.length pc, .slice ta u.types.length tc] 25 (0, 0)) := (bb2.block H (by omega)).trans (by rw [← hw1]; exact aj _ _ _ hH)
 have q2 : w2.heap[H + 1]? = some (.cells (aW x ka kc) 43 (0, 0)) := by rw [← hw2]; exact aj _ _ _ e1
 have bb12 : Below w.heap.size w w2 := bb1.trans (bb2.mono bb1.size)
 have HX : Bx (∀ X, Below w2.heap.size w2 X -> Below w.heap.size w X /\ (X.cell? ⟨H, 0, none⟩ = some (.slice pa u.ae.length pc) /\ X.cell? ⟨H, 1, none⟩ = some (.slice ta u.types.length tc) /\ H < X.heap.size) /\ (X.cell? ⟨H + 1, 0, none⟩ = some (.int .i64 x.op) /\ X.cell? ⟨H + 1, 1, none⟩ = some (.int .i64 x.a) /\ X.cell? ⟨H + 1, 2, none⟩ = some (.int .i64 x.b) /\ X.cell? ⟨H + 1, 3, none⟩ = some (.slice ka x.list.length kc) /\ H + 1 < X.heap.size)) := ⟨fun X hX => by
  have z1 := (hX.block H (ah q1)).trans q1
  have z2 := (hX.block (H + 1) (ah q2)).trans q2
  exact ⟨bb12.trans (hX.mono bb12.size), ⟨aa z1 rfl, aa z1 rfl, ah z1⟩, ⟨aa z2 rfl, aa z2 rfl, aa z2 rfl, aa z2 rfl, ah z2⟩⟩⟩
 obtain ⟨x00, ⟨u0, u1, u2⟩, ⟨i0, i1, i2, i3, i4⟩⟩ := HX.out w2 (Below.refl _ _)
 have HB2 : Bx (Below w.heap.size w w2) := ⟨bb12⟩
 have HWI : Bx (∀ n l m X, _) := ⟨fun n l m X => aA n l m X⟩
 have hlm := hk.max
 have hlc := hk.cap
 have htm := hu.types.max
 have htc := hu.types.cap
 have hpm := hu.ae.max
 have hpc := hu.ae.cap
 unfold maxLen at hlm htm hpm
 unfold unV aR
 unfold aW at hw2
 have HF : Bx (∀ X, Calls Tryd.prog 53 #[.int .i64 x.op] X fun e w' => e = .returned (.tuple #[.bool (rfa x.op), .bool (rfb x.op), .bool (dC x.op)]) /\ X = w') := ⟨fun X => bu x.op X h1 h2⟩
 have HI : Bx (∀ X, Calls Tryd.prog 23 #[.int .i64 x.op, .int .i64 1, .int .i64 27] X fun e w' => e = .returned (.bool true) /\ X = w') := ⟨fun X => by
  have := aA x.op 1 27 X
  rw [decide_eq_true h1, decide_eq_true h2] at this
  exact this⟩
 have b2 : (x.op == 2) = true := by simpa using hop
 have erfa : rfa x.op = true := by rw [hop]; rfl
 have erfb : rfb x.op = false := by rw [hop]; rfl
 have erfl_ : dC x.op = false := by rw [hop]; rfl
 rw [erfa, erfb, erfl_] at HF
 have nb : (x.b != 0) = false := by simp [hb]
 have nl : ((x.list.length : Int) != 0) = false := by rw [hl]; rfl
 clear hu hk HX bb1 bb2 q1 q2 bb12 x00 hop h1 h2 erfa erfb erfl_ hb hl
 go_enter Tryd.func37, Tryd.ntmps37
 go_wp2_with (first
  | (go_at_call 23; refine (HI.out _).mono ?_; rintro e z1 ⟨rfl, rfl⟩; clear HI)
  | (go_at_call 53; refine (HF.out _).mono ?_; rintro e z2 ⟨rfl, rfl⟩; clear HF)
  | (go_at_call 23; refine (HWI.out _ _ _ _).mono ?_; rintro e z3 ⟨rfl, rfl⟩)
  | fail)
 go_ret
 exact ⟨aG (by unfold inI; first | rfl | simp), HB2⟩
theorem uA (w : World) (u : CUn) (pa ta : Option Addr) (pc tc : Nat) (hu : dL w w.heap.size pa pc ta tc u) (x : CIn) (ka : Option Addr) (kc : Nat) (hk : aF w w.heap.size ka kc x.list) (hll : x.list.length <= 281474976710656) (hop : x.op = 10) (hb : x.b = 0) (hl : x.list.length = 0) : Calls Tryd.prog 37 #[unV u pa pc ta tc, aR x ka kc] w fun e w' => e = .returned (.bool (!decide (2 <= x.a))) /\ Bx (Below w.heap.size w w') := by
 have h1 : 1 <= x.op := by omega
 have h2 : x.op <= 27 := by omega
 obtain ⟨H, hH⟩ : ∃ H, w.heap.size = H := ⟨_, rfl⟩
 obtain ⟨w1, hw1⟩ : ∃ w1, w.alloc (.cells #[.slice pa u.ae.length pc, .slice ta u.types.length tc] 25) = w1 := ⟨_, rfl⟩
 obtain ⟨w2, hw2⟩ : ∃ w2, w1.alloc (.cells (aW x ka kc) 43) = w2 := ⟨_, rfl⟩
 have bb1 : Below w.heap.size w w1 := by rw [← hw1]; exact ak w _
 have bb2 : Below w1.heap.size w1 w2 := by rw [← hw2]; exact ak w1 _
 have e1 : w1.heap.size = H + 1 := by rw [← hw1]; simp [hH]
 have q1 : w2.heap[H]? = some (.cells #[.slice pa u.ae.length pc, .slice ta u.types.length tc] 25 (0, 0)) := (bb2.block H (by omega)).trans (by rw [← hw1]; exact aj _ _ _ hH)
 have q2 : w2.heap[H + 1]? = some (.cells (aW x ka kc) 43 (0, 0)) := by rw [← hw2]; exact aj _ _ _ e1
 have bb12 : Below w.heap.size w w2 := bb1.trans (bb2.mono bb1.size)
 have HX : Bx (∀ X, Below w2.heap.size w2 X -> Below w.heap.size w X /\ (X.cell? ⟨H, 0, none⟩ = some (.slice pa u.ae.length pc) /\ X.cell? ⟨H, 1, none⟩ = some (.slice ta u.types.length tc) /\ H < X.heap.size) /\ (X.cell? ⟨H + 1, 0, none⟩ = some (.int .i64 x.op) /\ X.cell? ⟨H + 1, 1, none⟩ = some (.int .i64 x.a) /\ X.cell? ⟨H + 1, 2, none⟩ = some (.int .i64 x.b) /\ X.cell? ⟨H + 1, 3, none⟩ = some (.slice ka x.list.length kc) /\ H + 1 < X.heap.size)) := ⟨fun X hX => by
  have z1 := (hX.block H (ah q1)).trans q1
  have z2 := (hX.block (H + 1) (ah q2)).trans q2
  exact ⟨bb12.trans (hX.mono bb12.size), ⟨aa z1 rfl, aa z1 rfl, ah z1⟩, ⟨aa z2 rfl, aa z2 rfl, aa z2 rfl, aa z2 rfl, ah z2⟩⟩⟩
 obtain ⟨x00, ⟨u0, u1, u2⟩, ⟨i0, i1, i2, i3, i4⟩⟩ := HX.out w2 (Below.refl _ _)
 have HB2 : Bx (Below w.heap.size w w2) := ⟨bb12⟩
 have HWI : Bx (∀ n l m X, _) := ⟨fun n l m X => aA n l m X⟩
 have hlm := hk.max
 have hlc := hk.cap
 have htm := hu.types.max
 have htc := hu.types.cap
 have hpm := hu.ae.max
 have hpc := hu.ae.cap
 unfold maxLen at hlm htm hpm
 unfold unV aR
 unfold aW at hw2
 have HF : Bx (∀ X, Calls Tryd.prog 53 #[.int .i64 x.op] X fun e w' => e = .returned (.tuple #[.bool (rfa x.op), .bool (rfb x.op), .bool (dC x.op)]) /\ X = w') := ⟨fun X => bu x.op X h1 h2⟩
 have HI : Bx (∀ X, Calls Tryd.prog 23 #[.int .i64 x.op, .int .i64 1, .int .i64 27] X fun e w' => e = .returned (.bool true) /\ X = w') := ⟨fun X => by
  have := aA x.op 1 27 X
  rw [decide_eq_true h1, decide_eq_true h2] at this
  exact this⟩
 have b2 : (x.op == 2) = false := by simp; omega
 have b3 : (x.op == 3) = false := by simp; omega
 have b10 : (x.op == 10) = true := by simpa using hop
 have erfa : rfa x.op = true := by rw [hop]; rfl
 have erfb : rfb x.op = false := by rw [hop]; rfl
 have erfl_ : dC x.op = false := by rw [hop]; rfl
 rw [erfa, erfb, erfl_] at HF
 have nb : (x.b != 0) = false := by simp [hb]
 have nl : ((x.list.length : Int) != 0) = false := by rw [hl]; rfl
 clear hu hk HX bb1 bb2 q1 q2 bb12 x00 hop h1 h2 erfa erfb erfl_ hb hl
 go_enter Tryd.func37, Tryd.ntmps37
 go_wp2_with (first
  | (go_at_call 23; refine (HI.out _).mono ?_; rintro e z1 ⟨rfl, rfl⟩; clear HI)
  | (go_at_call 53; refine (HF.out _).mono ?_; rintro e z2 ⟨rfl, rfl⟩; clear HF)
  | fail)
 go_ret
 exact ⟨aG (by by_cases q : 2 <= x.a <;> simp [q] <;> omega), HB2⟩
theorem uB (w : World) (u : CUn) (pa ta : Option Addr) (pc tc : Nat) (hu : dL w w.heap.size pa pc ta tc u) (x : CIn) (ka : Option Addr) (kc : Nat) (hk : aF w w.heap.size ka kc x.list) (hll : x.list.length <= 281474976710656) (hop : x.op = 11) (hb : x.b = 0) (hl : x.list.length = 0) : Calls Tryd.prog 37 #[unV u pa pc ta tc, aR x ka kc] w fun e w' => e = .returned (.bool (!decide (0 <= x.a))) /\ Bx (Below w.heap.size w w') := by
 have h1 : 1 <= x.op := by omega
 have h2 : x.op <= 27 := by omega
 obtain ⟨H, hH⟩ : ∃ H, w.heap.size = H := ⟨_, rfl⟩
 obtain ⟨w1, hw1⟩ : ∃ w1, w.alloc (.cells #[.slice pa u.ae.length pc, .slice ta u.types.length tc] 25) = w1 := ⟨_, rfl⟩
 obtain ⟨w2, hw2⟩ : ∃ w2, w1.alloc (.cells (aW x ka kc) 43) = w2 := ⟨_, rfl⟩
 have bb1 : Below w.heap.size w w1 := by rw [← hw1]; exact ak w _
 have bb2 : Below w1.heap.size w1 w2 := by rw [← hw2]; exact ak w1 _
 have e1 : w1.heap.size = H + 1 := by rw [← hw1]; simp [hH]
 have q1 : w2.heap[H]? = some (.cells #[.slice pa u.ae.length pc, .slice ta u.types.length tc] 25 (0, 0)) := (bb2.block H (by omega)).trans (by rw [← hw1]; exact aj _ _ _ hH)
 have q2 : w2.heap[H + 1]? = some (.cells (aW x ka kc) 43 (0, 0)) := by rw [← hw2]; exact aj _ _ _ e1
 have bb12 : Below w.heap.size w w2 := bb1.trans (bb2.mono bb1.size)
 have HX : Bx (∀ X, Below w2.heap.size w2 X -> Below w.heap.size w X /\ (X.cell? ⟨H, 0, none⟩ = some (.slice pa u.ae.length pc) /\ X.cell? ⟨H, 1, none⟩ = some (.slice ta u.types.length tc) /\ H < X.heap.size) /\ (X.cell? ⟨H + 1, 0, none⟩ = some (.int .i64 x.op) /\ X.cell? ⟨H + 1, 1, none⟩ = some (.int .i64 x.a) /\ X.cell? ⟨H + 1, 2, none⟩ = some (.int .i64 x.b) /\ X.cell? ⟨H + 1, 3, none⟩ = some (.slice ka x.list.length kc) /\ H + 1 < X.heap.size)) := ⟨fun X hX => by
  have z1 := (hX.block H (ah q1)).trans q1
  have z2 := (hX.block (H + 1) (ah q2)).trans q2
  exact ⟨bb12.trans (hX.mono bb12.size), ⟨aa z1 rfl, aa z1 rfl, ah z1⟩, ⟨aa z2 rfl, aa z2 rfl, aa z2 rfl, aa z2 rfl, ah z2⟩⟩⟩
 obtain ⟨x00, ⟨u0, u1, u2⟩, ⟨i0, i1, i2, i3, i4⟩⟩ := HX.out w2 (Below.refl _ _)
 have HB2 : Bx (Below w.heap.size w w2) := ⟨bb12⟩
 have HWI : Bx (∀ n l m X, _) := ⟨fun n l m X => aA n l m X⟩
 have hlm := hk.max
 have hlc := hk.cap
 have htm := hu.types.max
 have htc := hu.types.cap
 have hpm := hu.ae.max
 have hpc := hu.ae.cap
 unfold maxLen at hlm htm hpm
 unfold unV aR
 unfold aW at hw2
 have HF : Bx (∀ X, Calls Tryd.prog 53 #[.int .i64 x.op] X fun e w' => e = .returned (.tuple #[.bool (rfa x.op), .bool (rfb x.op), .bool (dC x.op)]) /\ X = w') := ⟨fun X => bu x.op X h1 h2⟩
 have HI : Bx (∀ X, Calls Tryd.prog 23 #[.int .i64 x.op, .int .i64 1, .int .i64 27] X fun e w' => e = .returned (.bool true) /\ X = w') := ⟨fun X => by
  have := aA x.op 1 27 X
  rw [decide_eq_true h1, decide_eq_true h2] at this
  exact this⟩
 have b2 : (x.op == 2) = false := by simp; omega
 have b3 : (x.op == 3) = false := by simp; omega
 have b10 : (x.op == 10) = false := by simp; omega
 have b11 : (x.op == 11) = true := by simpa using hop
 have erfa : rfa x.op = true := by rw [hop]; rfl
 have erfb : rfb x.op = false := by rw [hop]; rfl
 have erfl_ : dC x.op = false := by rw [hop]; rfl
 rw [erfa, erfb, erfl_] at HF
 have nb : (x.b != 0) = false := by simp [hb]
 have nl : ((x.list.length : Int) != 0) = false := by rw [hl]; rfl
 clear hu hk HX bb1 bb2 q1 q2 bb12 x00 hop h1 h2 erfa erfb erfl_ hb hl
 go_enter Tryd.func37, Tryd.ntmps37
 go_wp2_with (first
  | (go_at_call 23; refine (HI.out _).mono ?_; rintro e z1 ⟨rfl, rfl⟩; clear HI)
  | (go_at_call 53; refine (HF.out _).mono ?_; rintro e z2 ⟨rfl, rfl⟩; clear HF)
  | fail)
 go_ret
 exact ⟨aG (by by_cases q : 0 <= x.a <;> simp [q] <;> omega), HB2⟩
theorem uC (w : World) (u : CUn) (pa ta : Option Addr) (pc tc : Nat) (hu : dL w w.heap.size pa pc ta tc u) (x : CIn) (ka : Option Addr) (kc : Nat) (hk : aF w w.heap.size ka kc x.list) (hll : x.list.length <= 281474976710656) (hop : x.op = 15) (hb : x.b = 0) (hl : x.list.length = 0) : Calls Tryd.prog 37 #[unV u pa pc ta tc, aR x ka kc] w fun e w' => e = .returned (.bool (!decide (0 <= x.a))) /\ Bx (Below w.heap.size w w') := by
 have h1 : 1 <= x.op := by omega
 have h2 : x.op <= 27 := by omega
 obtain ⟨H, hH⟩ : ∃ H, w.heap.size = H := ⟨_, rfl⟩
 obtain ⟨w1, hw1⟩ : ∃ w1, w.alloc (.cells #[.slice pa u.ae.length pc, .slice ta u.types.length tc] 25) = w1 := ⟨_, rfl⟩
 obtain ⟨w2, hw2⟩ : ∃ w2, w1.alloc (.cells (aW x ka kc) 43) = w2 := ⟨_, rfl⟩
 have bb1 : Below w.heap.size w w1 := by rw [← hw1]; exact ak w _
 have bb2 : Below w1.heap.size w1 w2 := by rw [← hw2]; exact ak w1 _
 have e1 : w1.heap.size = H + 1 := by rw [← hw1]; simp [hH]
 have q1 : w2.heap[H]? = some (.cells #[.slice pa u.ae.length pc, .slice ta u.types.length tc] 25 (0, 0)) := (bb2.block H (by omega)).trans (by rw [← hw1]; exact aj _ _ _ hH)
 have q2 : w2.heap[H + 1]? = some (.cells (aW x ka kc) 43 (0, 0)) := by rw [← hw2]; exact aj _ _ _ e1
 have bb12 : Below w.heap.size w w2 := bb1.trans (bb2.mono bb1.size)
 have HX : Bx (∀ X, Below w2.heap.size w2 X -> Below w.heap.size w X /\ (X.cell? ⟨H, 0, none⟩ = some (.slice pa u.ae.length pc) /\ X.cell? ⟨H, 1, none⟩ = some (.slice ta u.types.length tc) /\ H < X.heap.size) /\ (X.cell? ⟨H + 1, 0, none⟩ = some (.int .i64 x.op) /\ X.cell? ⟨H + 1, 1, none⟩ = some (.int .i64 x.a) /\ X.cell? ⟨H + 1, 2, none⟩ = some (.int .i64 x.b) /\ X.cell? ⟨H + 1, 3, none⟩ = some (.slice ka x.list.length kc) /\ H + 1 < X.heap.size)) := ⟨fun X hX => by
  have z1 := (hX.block H (ah q1)).trans q1
  have z2 := (hX.block (H + 1) (ah q2)).trans q2
  exact ⟨bb12.trans (hX.mono bb12.size), ⟨aa z1 rfl, aa z1 rfl, ah z1⟩, ⟨aa z2 rfl, aa z2 rfl, aa z2 rfl, aa z2 rfl, ah z2⟩⟩⟩
 obtain ⟨x00, ⟨u0, u1, u2⟩, ⟨i0, i1, i2, i3, i4⟩⟩ := HX.out w2 (Below.refl _ _)
 have HB2 : Bx (Below w.heap.size w w2) := ⟨bb12⟩
 have HWI : Bx (∀ n l m X, _) := ⟨fun n l m X => aA n l m X⟩
 have hlm := hk.max
 have hlc := hk.cap
 have htm := hu.types.max
 have htc := hu.types.cap
 have hpm := hu.ae.max
 have hpc := hu.ae.cap
 unfold maxLen at hlm htm hpm
 unfold unV aR
 unfold aW at hw2
 have HF : Bx (∀ X, Calls Tryd.prog 53 #[.int .i64 x.op] X fun e w' => e = .returned (.tuple #[.bool (rfa x.op), .bool (rfb x.op), .bool (dC x.op)]) /\ X = w') := ⟨fun X => bu x.op X h1 h2⟩
 have HI : Bx (∀ X, Calls Tryd.prog 23 #[.int .i64 x.op, .int .i64 1, .int .i64 27] X fun e w' => e = .returned (.bool true) /\ X = w') := ⟨fun X => by
  have := aA x.op 1 27 X
  rw [decide_eq_true h1, decide_eq_true h2] at this
  exact this⟩
 have b2 : (x.op == 2) = false := by simp; omega
 have b3 : (x.op == 3) = false := by simp; omega
 have b10 : (x.op == 10) = false := by simp; omega
 have b11 : (x.op == 11) = false := by simp; omega
 have b15 : (x.op == 15) = true := by simpa using hop
 have erfa : rfa x.op = true := by rw [hop]; rfl
 have erfb : rfb x.op = false := by rw [hop]; rfl
 have erfl_ : dC x.op = false := by rw [hop]; rfl
 rw [erfa, erfb, erfl_] at HF
 have nb : (x.b != 0) = false := by simp [hb]
 have nl : ((x.list.length : Int) != 0) = false := by rw [hl]; rfl
 clear hu hk HX bb1 bb2 q1 q2 bb12 x00 hop h1 h2 erfa erfb erfl_ hb hl
 go_enter Tryd.func37, Tryd.ntmps37
 go_wp2_with (first
  | (go_at_call 23; refine (HI.out _).mono ?_; rintro e z1 ⟨rfl, rfl⟩; clear HI)
  | (go_at_call 53; refine (HF.out _).mono ?_; rintro e z2 ⟨rfl, rfl⟩; clear HF)
  | fail)
 go_ret
 exact ⟨aG (by by_cases q : 0 <= x.a <;> simp [q] <;> omega), HB2⟩
theorem uD (w : World) (u : CUn) (pa ta : Option Addr) (pc tc : Nat) (hu : dL w w.heap.size pa pc ta tc u) (x : CIn) (ka : Option Addr) (kc : Nat) (hk : aF w w.heap.size ka kc x.list) (hll : x.list.length <= 281474976710656) (hop : x.op = 24) (hb : x.b = 0) (hl : x.list.length = 0) : Calls Tryd.prog 37 #[unV u pa pc ta tc, aR x ka kc] w fun e w' => e = .returned (.bool (!decide (0 <= x.a))) /\ Bx (Below w.heap.size w w') := by
 have h1 : 1 <= x.op := by omega
 have h2 : x.op <= 27 := by omega
 obtain ⟨H, hH⟩ : ∃ H, w.heap.size = H := ⟨_, rfl⟩
 obtain ⟨w1, hw1⟩ : ∃ w1, w.alloc (.cells #[.slice pa u.ae.length pc, .slice ta u.types.length tc] 25) = w1 := ⟨_, rfl⟩
 obtain ⟨w2, hw2⟩ : ∃ w2, w1.alloc (.cells (aW x ka kc) 43) = w2 := ⟨_, rfl⟩
 have bb1 : Below w.heap.size w w1 := by rw [← hw1]; exact ak w _
 have bb2 : Below w1.heap.size w1 w2 := by rw [← hw2]; exact ak w1 _
 have e1 : w1.heap.size = H + 1 := by rw [← hw1]; simp [hH]
 have q1 : w2.heap[H]? = some (.cells #[.slice pa u.ae.length pc, .slice ta u.types.length tc] 25 (0, 0)) := (bb2.block H (by omega)).trans (by rw [← hw1]; exact aj _ _ _ hH)
 have q2 : w2.heap[H + 1]? = some (.cells (aW x ka kc) 43 (0, 0)) := by rw [← hw2]; exact aj _ _ _ e1
 have bb12 : Below w.heap.size w w2 := bb1.trans (bb2.mono bb1.size)
 have HX : Bx (∀ X, Below w2.heap.size w2 X -> Below w.heap.size w X /\ (X.cell? ⟨H, 0, none⟩ = some (.slice pa u.ae.length pc) /\ X.cell? ⟨H, 1, none⟩ = some (.slice ta u.types.length tc) /\ H < X.heap.size) /\ (X.cell? ⟨H + 1, 0, none⟩ = some (.int .i64 x.op) /\ X.cell? ⟨H + 1, 1, none⟩ = some (.int .i64 x.a) /\ X.cell? ⟨H + 1, 2, none⟩ = some (.int .i64 x.b) /\ X.cell? ⟨H + 1, 3, none⟩ = some (.slice ka x.list.length kc) /\ H + 1 < X.heap.size)) := ⟨fun X hX => by
  have z1 := (hX.block H (ah q1)).trans q1
  have z2 := (hX.block (H + 1) (ah q2)).trans q2
  exact ⟨bb12.trans (hX.mono bb12.size), ⟨aa z1 rfl, aa z1 rfl, ah z1⟩, ⟨aa z2 rfl, aa z2 rfl, aa z2 rfl, aa z2 rfl, ah z2⟩⟩⟩
 obtain ⟨x00, ⟨u0, u1, u2⟩, ⟨i0, i1, i2, i3, i4⟩⟩ := HX.out w2 (Below.refl _ _)
 have HB2 : Bx (Below w.heap.size w w2) := ⟨bb12⟩
 have HWI : Bx (∀ n l m X, _) := ⟨fun n l m X => aA n l m X⟩
 have hlm := hk.max
 have hlc := hk.cap
 have htm := hu.types.max
 have htc := hu.types.cap
 have hpm := hu.ae.max
 have hpc := hu.ae.cap
 unfold maxLen at hlm htm hpm
 unfold unV aR
 unfold aW at hw2
 have HF : Bx (∀ X, Calls Tryd.prog 53 #[.int .i64 x.op] X fun e w' => e = .returned (.tuple #[.bool (rfa x.op), .bool (rfb x.op), .bool (dC x.op)]) /\ X = w') := ⟨fun X => bu x.op X h1 h2⟩
 have HI : Bx (∀ X, Calls Tryd.prog 23 #[.int .i64 x.op, .int .i64 1, .int .i64 27] X fun e w' => e = .returned (.bool true) /\ X = w') := ⟨fun X => by
  have := aA x.op 1 27 X
  rw [decide_eq_true h1, decide_eq_true h2] at this
  exact this⟩
 have b2 : (x.op == 2) = false := by simp; omega
 have b3 : (x.op == 3) = false := by simp; omega
 have b10 : (x.op == 10) = false := by simp; omega
 have b11 : (x.op == 11) = false := by simp; omega
 have b15 : (x.op == 15) = false := by simp; omega
 have b24 : (x.op == 24) = true := by simpa using hop
 have erfa : rfa x.op = true := by rw [hop]; rfl
 have erfb : rfb x.op = false := by rw [hop]; rfl
 have erfl_ : dC x.op = false := by rw [hop]; rfl
 rw [erfa, erfb, erfl_] at HF
 have nb : (x.b != 0) = false := by simp [hb]
 have nl : ((x.list.length : Int) != 0) = false := by rw [hl]; rfl
 clear hu hk HX bb1 bb2 q1 q2 bb12 x00 hop h1 h2 erfa erfb erfl_ hb hl
 go_enter Tryd.func37, Tryd.ntmps37
 go_wp2_with (first
  | (go_at_call 23; refine (HI.out _).mono ?_; rintro e z1 ⟨rfl, rfl⟩; clear HI)
  | (go_at_call 53; refine (HF.out _).mono ?_; rintro e z2 ⟨rfl, rfl⟩; clear HF)
  | fail)
 go_ret
 exact ⟨aG (by by_cases q : 0 <= x.a <;> simp [q] <;> omega), HB2⟩
theorem uE (w : World) (u : CUn) (pa ta : Option Addr) (pc tc : Nat) (hu : dL w w.heap.size pa pc ta tc u) (x : CIn) (ka : Option Addr) (kc : Nat) (hk : aF w w.heap.size ka kc x.list) (hll : x.list.length <= 281474976710656) (hop : x.op = 23) (hl : x.list.length = 0) : Calls Tryd.prog 37 #[unV u pa pc ta tc, aR x ka kc] w fun e w' => e = .returned (.bool (!(decide (0 <= x.a) && inI x.b 1))) /\ Bx (Below w.heap.size w w') := by
 have h1 : 1 <= x.op := by omega
 have h2 : x.op <= 27 := by omega
 obtain ⟨H, hH⟩ : ∃ H, w.heap.size = H := ⟨_, rfl⟩
 obtain ⟨w1, hw1⟩ : ∃ w1, w.alloc (.cells #[.slice pa u.ae.length pc, .slice ta u.types.length tc] 25) = w1 := ⟨_, rfl⟩
 obtain ⟨w2, hw2⟩ : ∃ w2, w1.alloc (.cells (aW x ka kc) 43) = w2 := ⟨_, rfl⟩
 have bb1 : Below w.heap.size w w1 := by rw [← hw1]; exact ak w _
 have bb2 : Below w1.heap.size w1 w2 := by rw [← hw2]; exact ak w1 _
 have e1 : w1.heap.size = H + 1 := by rw [← hw1]; simp [hH]
 have q1 : w2.heap[H]? = some (.cells #[.slice pa u.ae.length pc, .slice ta u.types.length tc] 25 (0, 0)) := (bb2.block H (by omega)).trans (by rw [← hw1]; exact aj _ _ _ hH)
 have q2 : w2.heap[H + 1]? = some (.cells (aW x ka kc) 43 (0, 0)) := by rw [← hw2]; exact aj _ _ _ e1
 have bb12 : Below w.heap.size w w2 := bb1.trans (bb2.mono bb1.size)
 have HX : Bx (∀ X, Below w2.heap.size w2 X -> Below w.heap.size w X /\ (X.cell? ⟨H, 0, none⟩ = some (.slice pa u.ae.length pc) /\ X.cell? ⟨H, 1, none⟩ = some (.slice ta u.types.length tc) /\ H < X.heap.size) /\ (X.cell? ⟨H + 1, 0, none⟩ = some (.int .i64 x.op) /\ X.cell? ⟨H + 1, 1, none⟩ = some (.int .i64 x.a) /\ X.cell? ⟨H + 1, 2, none⟩ = some (.int .i64 x.b) /\ X.cell? ⟨H + 1, 3, none⟩ = some (.slice ka x.list.length kc) /\ H + 1 < X.heap.size)) := ⟨fun X hX => by
  have z1 := (hX.block H (ah q1)).trans q1
  have z2 := (hX.block (H + 1) (ah q2)).trans q2
  exact ⟨bb12.trans (hX.mono bb12.size), ⟨aa z1 rfl, aa z1 rfl, ah z1⟩, ⟨aa z2 rfl, aa z2 rfl, aa z2 rfl, aa z2 rfl, ah z2⟩⟩⟩
 obtain ⟨x00, ⟨u0, u1, u2⟩, ⟨i0, i1, i2, i3, i4⟩⟩ := HX.out w2 (Below.refl _ _)
 have HB2 : Bx (Below w.heap.size w w2) := ⟨bb12⟩
 have HWI : Bx (∀ n l m X, _) := ⟨fun n l m X => aA n l m X⟩
 have hlm := hk.max
 have hlc := hk.cap
 have htm := hu.types.max
 have htc := hu.types.cap
 have hpm := hu.ae.max
 have hpc := hu.ae.cap
 unfold maxLen at hlm htm hpm
 unfold unV aR
 unfold aW at hw2
 have HF : Bx (∀ X, Calls Tryd.prog 53 #[.int .i64 x.op] X fun e w' => e = .returned (.tuple #[.bool (rfa x.op), .bool (rfb x.op), .bool (dC x.op)]) /\ X = w') := ⟨fun X => bu x.op X h1 h2⟩
 have HI : Bx (∀ X, Calls Tryd.prog 23 #[.int .i64 x.op, .int .i64 1, .int .i64 27] X fun e w' => e = .returned (.bool true) /\ X = w') := ⟨fun X => by
  have := aA x.op 1 27 X
  rw [decide_eq_true h1, decide_eq_true h2] at this
  exact this⟩
 have b2 : (x.op == 2) = false := by simp; omega
 have b3 : (x.op == 3) = false := by simp; omega
 have b10 : (x.op == 10) = false := by simp; omega
 have b11 : (x.op == 11) = false := by simp; omega
 have b15 : (x.op == 15) = false := by simp; omega
 have b24 : (x.op == 24) = false := by simp; omega
 have b23 : (x.op == 23) = true := by simpa using hop
 have erfa : rfa x.op = true := by rw [hop]; rfl
 have erfb : rfb x.op = true := by rw [hop]; rfl
 have erfl_ : dC x.op = false := by rw [hop]; rfl
 rw [erfa, erfb, erfl_] at HF
 have nl : ((x.list.length : Int) != 0) = false := by rw [hl]; rfl
 clear hu hk HX bb1 bb2 q1 q2 bb12 x00 hop h1 h2 erfa erfb erfl_ hl
 by_cases q : 0 <= x.a
 ·have hq : decide (x.a < 0) = false := decide_eq_false (by omega)
  rw [decide_eq_true q]
  clear q
  go_enter Tryd.func37, Tryd.ntmps37
  go_wp2_with (first
   | (go_at_call 23; refine (HI.out _).mono ?_; rintro e z1 ⟨rfl, rfl⟩; clear HI)
   | (go_at_call 53; refine (HF.out _).mono ?_; rintro e z2 ⟨rfl, rfl⟩; clear HF)
   | (go_at_call 23; refine (HWI.out _ _ _ _).mono ?_; rintro e z3 ⟨rfl, rfl⟩)
   | fail)
  go_ret
  exact ⟨aG (by unfold inI; simp), HB2⟩
 ·have hq : decide (x.a < 0) = true := decide_eq_true (by omega)
  rw [decide_eq_false q]
  clear q
  go_enter Tryd.func37, Tryd.ntmps37
  go_wp2_with (first
   | (go_at_call 23; refine (HI.out _).mono ?_; rintro e z1 ⟨rfl, rfl⟩; clear HI)
   | (go_at_call 53; refine (HF.out _).mono ?_; rintro e z2 ⟨rfl, rfl⟩; clear HF)
   | fail)
  go_ret
  exact ⟨aG (by simp), HB2⟩
theorem uF (w : World) (u : CUn) (pa ta : Option Addr) (pc tc : Nat) (hu : dL w w.heap.size pa pc ta tc u) (x : CIn) (ka : Option Addr) (kc : Nat) (hk : aF w w.heap.size ka kc x.list) (hll : x.list.length <= 281474976710656) (hop : x.op = 17) (hb : x.b = 0) (hl : x.list.length = 0) : Calls Tryd.prog 37 #[unV u pa pc ta tc, aR x ka kc] w fun e w' => e = .returned (.bool (!(x.a == 1 || x.a == 2))) /\ Bx (Below w.heap.size w w') := by
 have h1 : 1 <= x.op := by omega
 have h2 : x.op <= 27 := by omega
 obtain ⟨H, hH⟩ : ∃ H, w.heap.size = H := ⟨_, rfl⟩
 obtain ⟨w1, hw1⟩ : ∃ w1, w.alloc (.cells #[.slice pa u.ae.length pc, .slice ta u.types.length tc] 25) = w1 := ⟨_, rfl⟩
 obtain ⟨w2, hw2⟩ : ∃ w2, w1.alloc (.cells (aW x ka kc) 43) = w2 := ⟨_, rfl⟩
 have bb1 : Below w.heap.size w w1 := by rw [← hw1]; exact ak w _
 have bb2 : Below w1.heap.size w1 w2 := by rw [← hw2]; exact ak w1 _
 have e1 : w1.heap.size = H + 1 := by rw [← hw1]; simp [hH]
 have q1 : w2.heap[H]? = some (.cells #[.slice pa u.ae.length pc, .slice ta u.types.length tc] 25 (0, 0)) := (bb2.block H (by omega)).trans (by rw [← hw1]; exact aj _ _ _ hH)
 have q2 : w2.heap[H + 1]? = some (.cells (aW x ka kc) 43 (0, 0)) := by rw [← hw2]; exact aj _ _ _ e1
 have bb12 : Below w.heap.size w w2 := bb1.trans (bb2.mono bb1.size)
 have HX : Bx (∀ X, Below w2.heap.size w2 X -> Below w.heap.size w X /\ (X.cell? ⟨H, 0, none⟩ = some (.slice pa u.ae.length pc) /\ X.cell? ⟨H, 1, none⟩ = some (.slice ta u.types.length tc) /\ H < X.heap.size) /\ (X.cell? ⟨H + 1, 0, none⟩ = some (.int .i64 x.op) /\ X.cell? ⟨H + 1, 1, none⟩ = some (.int .i64 x.a) /\ X.cell? ⟨H + 1, 2, none⟩ = some (.int .i64 x.b) /\ X.cell? ⟨H + 1, 3, none⟩ = some (.slice ka x.list.length kc) /\ H + 1 < X.heap.size)) := ⟨fun X hX => by
  have z1 := (hX.block H (ah q1)).trans q1
  have z2 := (hX.block (H + 1) (ah q2)).trans q2
  exact ⟨bb12.trans (hX.mono bb12.size), ⟨aa z1 rfl, aa z1 rfl, ah z1⟩, ⟨aa z2 rfl, aa z2 rfl, aa z2 rfl, aa z2 rfl, ah z2⟩⟩⟩
 obtain ⟨x00, ⟨u0, u1, u2⟩, ⟨i0, i1, i2, i3, i4⟩⟩ := HX.out w2 (Below.refl _ _)
 have HB2 : Bx (Below w.heap.size w w2) := ⟨bb12⟩
 have HWI : Bx (∀ n l m X, _) := ⟨fun n l m X => aA n l m X⟩
 have hlm := hk.max
 have hlc := hk.cap
 have htm := hu.types.max
 have htc := hu.types.cap
 have hpm := hu.ae.max
 have hpc := hu.ae.cap
 unfold maxLen at hlm htm hpm
 unfold unV aR
 unfold aW at hw2
 have HF : Bx (∀ X, Calls Tryd.prog 53 #[.int .i64 x.op] X fun e w' => e = .returned (.tuple #[.bool (rfa x.op), .bool (rfb x.op), .bool (dC x.op)]) /\ X = w') := ⟨fun X => bu x.op X h1 h2⟩
 have HI : Bx (∀ X, Calls Tryd.prog 23 #[.int .i64 x.op, .int .i64 1, .int .i64 27] X fun e w' => e = .returned (.bool true) /\ X = w') := ⟨fun X => by
  have := aA x.op 1 27 X
  rw [decide_eq_true h1, decide_eq_true h2] at this
  exact this⟩
 have b2 : (x.op == 2) = false := by simp; omega
 have b3 : (x.op == 3) = false := by simp; omega
 have b10 : (x.op == 10) = false := by simp; omega
 have b11 : (x.op == 11) = false := by simp; omega
 have b15 : (x.op == 15) = false := by simp; omega
 have b24 : (x.op == 24) = false := by simp; omega
 have b23 : (x.op == 23) = false := by simp; omega
 have b16 : (x.op == 16) = false := by simp; omega
 have b17 : (x.op == 17) = true := by simpa using hop
 have erfa : rfa x.op = true := by rw [hop]; rfl
 have erfb : rfb x.op = false := by rw [hop]; rfl
 have erfl_ : dC x.op = false := by rw [hop]; rfl
 rw [erfa, erfb, erfl_] at HF
 have nb : (x.b != 0) = false := by simp [hb]
 have nl : ((x.list.length : Int) != 0) = false := by rw [hl]; rfl
 clear hu hk HX bb1 bb2 q1 q2 bb12 x00 hop h1 h2 erfa erfb erfl_ hb hl
 go_enter Tryd.func37, Tryd.ntmps37
 go_wp2_with (first
  | (go_at_call 23; refine (HI.out _).mono ?_; rintro e z1 ⟨rfl, rfl⟩; clear HI)
  | (go_at_call 53; refine (HF.out _).mono ?_; rintro e z2 ⟨rfl, rfl⟩; clear HF)
  | (go_at_call 23; refine (HWI.out _ _ _ _).mono ?_; rintro e z3 ⟨rfl, rfl⟩)
  | fail)
 go_ret
 exact ⟨aG (by rw [Bool.eq_iff_iff]; simp; omega), HB2⟩
theorem uG (w : World) (u : CUn) (pa ta : Option Addr) (pc tc : Nat) (hu : dL w w.heap.size pa pc ta tc u) (x : CIn) (ka : Option Addr) (kc : Nat) (hk : aF w w.heap.size ka kc x.list) (hll : x.list.length <= 281474976710656) (hop : x.op = 18) (hb : x.b = 0) (hl : x.list.length = 0) : Calls Tryd.prog 37 #[unV u pa pc ta tc, aR x ka kc] w fun e w' => e = .returned (.bool (!qi x.a)) /\ Bx (Below w.heap.size w w') := by
 have h1 : 1 <= x.op := by omega
 have h2 : x.op <= 27 := by omega
 obtain ⟨H, hH⟩ : ∃ H, w.heap.size = H := ⟨_, rfl⟩
 obtain ⟨w1, hw1⟩ : ∃ w1, w.alloc (.cells #[.slice pa u.ae.length pc, .slice ta u.types.length tc] 25) = w1 := ⟨_, rfl⟩
 obtain ⟨w2, hw2⟩ : ∃ w2, w1.alloc (.cells (aW x ka kc) 43) = w2 := ⟨_, rfl⟩
 have bb1 : Below w.heap.size w w1 := by rw [← hw1]; exact ak w _
 have bb2 : Below w1.heap.size w1 w2 := by rw [← hw2]; exact ak w1 _
 have e1 : w1.heap.size = H + 1 := by rw [← hw1]; simp [hH]
 have q1 : w2.heap[H]? = some (.cells #[.slice pa u.ae.length pc, .slice ta u.types.length tc] 25 (0, 0)) := (bb2.block H (by omega)).trans (by rw [← hw1]; exact aj _ _ _ hH)
 have q2 : w2.heap[H + 1]? = some (.cells (aW x ka kc) 43 (0, 0)) := by rw [← hw2]; exact aj _ _ _ e1
 have bb12 : Below w.heap.size w w2 := bb1.trans (bb2.mono bb1.size)
 have HX : Bx (∀ X, Below w2.heap.size w2 X -> Below w.heap.size w X /\ (X.cell? ⟨H, 0, none⟩ = some (.slice pa u.ae.length pc) /\ X.cell? ⟨H, 1, none⟩ = some (.slice ta u.types.length tc) /\ H < X.heap.size) /\ (X.cell? ⟨H + 1, 0, none⟩ = some (.int .i64 x.op) /\ X.cell? ⟨H + 1, 1, none⟩ = some (.int .i64 x.a) /\ X.cell? ⟨H + 1, 2, none⟩ = some (.int .i64 x.b) /\ X.cell? ⟨H + 1, 3, none⟩ = some (.slice ka x.list.length kc) /\ H + 1 < X.heap.size)) := ⟨fun X hX => by
  have z1 := (hX.block H (ah q1)).trans q1
  have z2 := (hX.block (H + 1) (ah q2)).trans q2
  exact ⟨bb12.trans (hX.mono bb12.size), ⟨aa z1 rfl, aa z1 rfl, ah z1⟩, ⟨aa z2 rfl, aa z2 rfl, aa z2 rfl, aa z2 rfl, ah z2⟩⟩⟩
 obtain ⟨x00, ⟨u0, u1, u2⟩, ⟨i0, i1, i2, i3, i4⟩⟩ := HX.out w2 (Below.refl _ _)
 have HB2 : Bx (Below w.heap.size w w2) := ⟨bb12⟩
 have HWI : Bx (∀ n l m X, _) := ⟨fun n l m X => aA n l m X⟩
 have hlm := hk.max
 have hlc := hk.cap
 have htm := hu.types.max
 have htc := hu.types.cap
 have hpm := hu.ae.max
 have hpc := hu.ae.cap
 unfold maxLen at hlm htm hpm
 unfold unV aR
 unfold aW at hw2
 have HF : Bx (∀ X, Calls Tryd.prog 53 #[.int .i64 x.op] X fun e w' => e = .returned (.tuple #[.bool (rfa x.op), .bool (rfb x.op), .bool (dC x.op)]) /\ X = w') := ⟨fun X => bu x.op X h1 h2⟩
 have HI : Bx (∀ X, Calls Tryd.prog 23 #[.int .i64 x.op, .int .i64 1, .int .i64 27] X fun e w' => e = .returned (.bool true) /\ X = w') := ⟨fun X => by
  have := aA x.op 1 27 X
  rw [decide_eq_true h1, decide_eq_true h2] at this
  exact this⟩
 have b2 : (x.op == 2) = false := by simp; omega
 have b3 : (x.op == 3) = false := by simp; omega
 have b10 : (x.op == 10) = false := by simp; omega
 have b11 : (x.op == 11) = false := by simp; omega
 have b15 : (x.op == 15) = false := by simp; omega
 have b24 : (x.op == 24) = false := by simp; omega
 have b23 : (x.op == 23) = false := by simp; omega
 have b16 : (x.op == 16) = false := by simp; omega
 have b17 : (x.op == 17) = false := by simp; omega
 have b18 : (x.op == 18) = true := by simpa using hop
 have erfa : rfa x.op = true := by rw [hop]; rfl
 have erfb : rfb x.op = false := by rw [hop]; rfl
 have erfl_ : dC x.op = false := by rw [hop]; rfl
 rw [erfa, erfb, erfl_] at HF
 have nb : (x.b != 0) = false := by simp [hb]
 have nl : ((x.list.length : Int) != 0) = false := by rw [hl]; rfl
 have HWA : Bx (∀ X, Calls Tryd.prog 23 #[.int .i64 x.a, .int .i64 21, .int .i64 26] X fun e w' => e = .returned (.bool (decide ((21 : Int) <= x.a) && decide (x.a <= 26))) /\ X = w') := ⟨fun X => aA x.a 21 26 X⟩
 have HWB : Bx (∀ X, Calls Tryd.prog 23 #[.int .i64 x.a, .int .i64 31, .int .i64 32] X fun e w' => e = .returned (.bool (decide ((31 : Int) <= x.a) && decide (x.a <= 32))) /\ X = w') := ⟨fun X => aA x.a 31 32 X⟩
 have HWC : Bx (∀ X, Calls Tryd.prog 23 #[.int .i64 x.a, .int .i64 41, .int .i64 43] X fun e w' => e = .returned (.bool (decide ((41 : Int) <= x.a) && decide (x.a <= 43))) /\ X = w') := ⟨fun X => aA x.a 41 43 X⟩
 have hbi : qi x.a = ((decide ((21 : Int) <= x.a) && decide (x.a <= 26)) || (decide ((31 : Int) <= x.a) && decide (x.a <= 32)) || (decide ((41 : Int) <= x.a) && decide (x.a <= 43))) := by
  rw [Bool.eq_iff_iff]
  unfold qi
  simp
  omega
 rw [hbi]
 generalize (decide ((21 : Int) <= x.a) && decide (x.a <= 26)) = wa at *
 generalize (decide ((31 : Int) <= x.a) && decide (x.a <= 32)) = wb at *
 generalize (decide ((41 : Int) <= x.a) && decide (x.a <= 43)) = wc at *
 clear hbi HWI
 clear hu hk HX bb1 bb2 q1 q2 bb12 x00 hop h1 h2 erfa erfb erfl_ hb hl
 cases wa with
 | true =>
  go_enter Tryd.func37, Tryd.ntmps37
  go_wp2_with (first
   | (go_at_call 23; refine (HI.out _).mono ?_; rintro e z1 ⟨rfl, rfl⟩; clear HI)
   | (go_at_call 53; refine (HF.out _).mono ?_; rintro e z2 ⟨rfl, rfl⟩; clear HF)
   | (go_at_call 23; refine (HWA.out _).mono ?_; rintro e z3 ⟨rfl, rfl⟩; clear HWA)
   | (go_at_call 23; refine (HWB.out _).mono ?_; rintro e z3 ⟨rfl, rfl⟩; clear HWB)
   | (go_at_call 23; refine (HWC.out _).mono ?_; rintro e z3 ⟨rfl, rfl⟩; clear HWC)
   | fail)
  go_ret
  exact ⟨aG (by simp), HB2⟩
 | false =>
  cases wb with
  | true =>
   go_enter Tryd.func37, Tryd.ntmps37
   go_wp2_with (first
    | (go_at_call 23; refine (HI.out _).mono ?_; rintro e z1 ⟨rfl, rfl⟩; clear HI)
    | (go_at_call 53; refine (HF.out _).mono ?_; rintro e z2 ⟨rfl, rfl⟩; clear HF)
    | (go_at_call 23; refine (HWA.out _).mono ?_; rintro e z3 ⟨rfl, rfl⟩; clear HWA)
    | (go_at_call 23; refine (HWB.out _).mono ?_; rintro e z3 ⟨rfl, rfl⟩; clear HWB)
    | (go_at_call 23; refine (HWC.out _).mono ?_; rintro e z3 ⟨rfl, rfl⟩; clear HWC)
    | fail)
   go_ret
   exact ⟨aG (by simp), HB2⟩
  | false =>
   go_enter Tryd.func37, Tryd.ntmps37
   go_wp2_with (first
    | (go_at_call 23; refine (HI.out _).mono ?_; rintro e z1 ⟨rfl, rfl⟩; clear HI)
    | (go_at_call 53; refine (HF.out _).mono ?_; rintro e z2 ⟨rfl, rfl⟩; clear HF)
    | (go_at_call 23; refine (HWA.out _).mono ?_; rintro e z3 ⟨rfl, rfl⟩; clear HWA)
    | (go_at_call 23; refine (HWB.out _).mono ?_; rintro e z3 ⟨rfl, rfl⟩; clear HWB)
    | (go_at_call 23; refine (HWC.out _).mono ?_; rintro e z3 ⟨rfl, rfl⟩; clear HWC)
    | fail)
   go_ret
   exact ⟨aG (by simp), HB2⟩
theorem uH (w : World) (u : CUn) (pa ta : Option Addr) (pc tc : Nat) (hu : dL w w.heap.size pa pc ta tc u) (x : CIn) (ka : Option Addr) (kc : Nat) (hk : aF w w.heap.size ka kc x.list) (hll : x.list.length <= 281474976710656) (hop : x.op = 16) (hb : x.b = 0) : Calls Tryd.prog 37 #[unV u pa pc ta tc, aR x ka kc] w fun e w' => e = .returned (.bool (!(dN x.list && decide (0 < x.list.length)))) /\ Bx (Below w.heap.size w w') := by
 have h1 : 1 <= x.op := by omega
 have h2 : x.op <= 27 := by omega
 obtain ⟨H, hH⟩ : ∃ H, w.heap.size = H := ⟨_, rfl⟩
 obtain ⟨w1, hw1⟩ : ∃ w1, w.alloc (.cells #[.slice pa u.ae.length pc, .slice ta u.types.length tc] 25) = w1 := ⟨_, rfl⟩
 obtain ⟨w2, hw2⟩ : ∃ w2, w1.alloc (.cells (aW x ka kc) 43) = w2 := ⟨_, rfl⟩
 have bb1 : Below w.heap.size w w1 := by rw [← hw1]; exact ak w _
 have bb2 : Below w1.heap.size w1 w2 := by rw [← hw2]; exact ak w1 _
 have e1 : w1.heap.size = H + 1 := by rw [← hw1]; simp [hH]
 have q1 : w2.heap[H]? = some (.cells #[.slice pa u.ae.length pc, .slice ta u.types.length tc] 25 (0, 0)) := (bb2.block H (by omega)).trans (by rw [← hw1]; exact aj _ _ _ hH)
 have q2 : w2.heap[H + 1]? = some (.cells (aW x ka kc) 43 (0, 0)) := by rw [← hw2]; exact aj _ _ _ e1
 have bb12 : Below w.heap.size w w2 := bb1.trans (bb2.mono bb1.size)
 have HX : Bx (∀ X, Below w2.heap.size w2 X -> Below w.heap.size w X /\ (X.cell? ⟨H, 0, none⟩ = some (.slice pa u.ae.length pc) /\ X.cell? ⟨H, 1, none⟩ = some (.slice ta u.types.length tc) /\ H < X.heap.size) /\ (X.cell? ⟨H + 1, 0, none⟩ = some (.int .i64 x.op) /\ X.cell? ⟨H + 1, 1, none⟩ = some (.int .i64 x.a) /\ X.cell? ⟨H + 1, 2, none⟩ = some (.int .i64 x.b) /\ X.cell? ⟨H + 1, 3, none⟩ = some (.slice ka x.list.length kc) /\ H + 1 < X.heap.size)) := ⟨fun X hX => by
  have z1 := (hX.block H (ah q1)).trans q1
  have z2 := (hX.block (H + 1) (ah q2)).trans q2
  exact ⟨bb12.trans (hX.mono bb12.size), ⟨aa z1 rfl, aa z1 rfl, ah z1⟩, ⟨aa z2 rfl, aa z2 rfl, aa z2 rfl, aa z2 rfl, ah z2⟩⟩⟩
 obtain ⟨x00, ⟨u0, u1, u2⟩, ⟨i0, i1, i2, i3, i4⟩⟩ := HX.out w2 (Below.refl _ _)
 have HB2 : Bx (Below w.heap.size w w2) := ⟨bb12⟩
 have HWI : Bx (∀ n l m X, _) := ⟨fun n l m X => aA n l m X⟩
 have hlm := hk.max
 have hlc := hk.cap
 have htm := hu.types.max
 have htc := hu.types.cap
 have hpm := hu.ae.max
 have hpc := hu.ae.cap
 unfold maxLen at hlm htm hpm
 unfold unV aR
 unfold aW at hw2
 have HF : Bx (∀ X, Calls Tryd.prog 53 #[.int .i64 x.op] X fun e w' => e = .returned (.tuple #[.bool (rfa x.op), .bool (rfb x.op), .bool (dC x.op)]) /\ X = w') := ⟨fun X => bu x.op X h1 h2⟩
 have HI : Bx (∀ X, Calls Tryd.prog 23 #[.int .i64 x.op, .int .i64 1, .int .i64 27] X fun e w' => e = .returned (.bool true) /\ X = w') := ⟨fun X => by
  have := aA x.op 1 27 X
  rw [decide_eq_true h1, decide_eq_true h2] at this
  exact this⟩
 have b2 : (x.op == 2) = false := by simp; omega
 have b3 : (x.op == 3) = false := by simp; omega
 have b10 : (x.op == 10) = false := by simp; omega
 have b11 : (x.op == 11) = false := by simp; omega
 have b15 : (x.op == 15) = false := by simp; omega
 have b24 : (x.op == 24) = false := by simp; omega
 have b23 : (x.op == 23) = false := by simp; omega
 have b16 : (x.op == 16) = true := by simpa using hop
 have erfa : rfa x.op = true := by rw [hop]; rfl
 have erfb : rfb x.op = false := by rw [hop]; rfl
 have erfl_ : dC x.op = true := by rw [hop]; rfl
 rw [erfa, erfb, erfl_] at HF
 have nb : (x.b != 0) = false := by simp [hb]
 have b12' := bb12
 have HG : Bx (dN (x.list.drop 0) = dN x.list) := ⟨by rw [List.drop_zero]⟩
 have HK : Bx (∀ X, Below w2.heap.size w2 X -> aF X w.heap.size ka kc x.list) := ⟨fun X hX => hk.below (b12'.trans (hX.mono b12'.size))⟩
 generalize dN x.list = r at *
 clear HWI b12'
 clear hu hk HX bb1 bb2 q1 q2 bb12 x00 hop h1 h2 erfa erfb erfl_ hb
 go_enter Tryd.func37, Tryd.ntmps37
 go_wp2_with (first
  | (go_at_call 23; refine (HI.out _).mono ?_; rintro e z1 ⟨rfl, rfl⟩; clear HI)
  | (go_at_call 53; refine (HF.out _).mono ?_; rintro e z2 ⟨rfl, rfl⟩; clear HF)
  | fail)
 go_loopg [103] (x.list.length + 1) (fun f v103 wr => ∃ k : Nat, f = x.list.length + 1 - k /\ k <= x.list.length /\ v103 = .int .i64 k /\ Bx (dN (x.list.drop k) = r) /\ wr = w2)
 case atStart => exact ⟨0, by simp, Nat.zero_le _, rfl, HG, rfl⟩
 case round =>
  obtain ⟨k, hf, hkl, rfl, HR, rfl⟩ := hrel
  obtain ⟨wD, rfl⟩ : ∃ X, X = wr := ⟨_, rfl⟩
  by_cases hlt : k < x.list.length
  ·obtain ⟨b, o, rfl, hb, hc⟩ := (HK.out wD (Below.refl _ _)).at_ (by omega)
   have c0 := hc k hlt
   have hbl : b < wD.heap.size := by have := HB2.out.size; omega
   have HR2 : Bx _ := ⟨(lY hlt).symm.trans HR.out⟩
   have hkI : (k : Int) < (x.list.length : Int) := by omega
   clear hc HR HK HG
   generalize x.list[k] = y at *
   by_cases hy : -1 <= y
   ·have hyb : decide (y < -1) = false := decide_eq_false (by omega)
    have hr := HR2.out
    rw [decide_eq_true hy, Bool.true_and] at hr
    have HR3 : Bx _ := ⟨hr⟩
    clear hr HR2
    go_wp2
    go_roundg (x.list.length + 1 - (k + 1))
    case measure => omega
    case rel => exact ⟨k + 1, rfl, by omega, by simp, HR3, rfl⟩
   ·have hyb : decide (y < -1) = true := decide_eq_true (by omega)
    have hr := HR2.out
    rw [decide_eq_false hy, Bool.false_and] at hr
    subst hr
    clear HR2
    go_wp2
    go_ret
    exact ⟨rfl, by first | exact HB2 | (rw [← hH]; exact HB2)⟩
  ·obtain rfl : k = x.list.length := by omega
   have hr := HR.out
   rw [List.drop_length] at hr
   subst hr
   clear HR HK HG
   go_wp2
   go_ret
   exact ⟨aG (by rw [Bool.eq_iff_iff]; simp [dN]), by first | exact HB2 | (rw [← hH]; exact HB2)⟩
theorem xW (w : World) (u : CUn) (pa ta : Option Addr) (pc tc : Nat) (hu : dL w w.heap.size pa pc ta tc u) (x : CIn) (ka : Option Addr) (kc : Nat) (hk : aF w w.heap.size ka kc x.list) (hll : x.list.length <= 281474976710656) (hop : x.op = 3) (hb : x.b = 0) (hl : x.list.length = 0) (hE : ∀ X, Below w.heap.size w X -> ∀ r : Nat, r < u.types.length -> Calls Tryd.prog 54 #[.slice ta u.types.length tc, .int .i64 r] X fun e w' => ∃ b : Bool, e = .returned (.bool b) /\ Bx ((b = true ↔ Gr u.types r) /\ Below X.heap.size X w')) (htl : u.types.length <= 2147483648) : Calls Tryd.prog 37 #[unV u pa pc ta tc, aR x ka kc] w fun e w' => ∃ b : Bool, e = .returned (.bool (!b)) /\ Bx ((b = true ↔ (0 <= x.a /\ x.a < (u.types.length : Int) /\ Gr u.types x.a.toNat)) /\ Below w.heap.size w w') := by
 have h1 : 1 <= x.op := by omega
 have h2 : x.op <= 27 := by omega
 obtain ⟨H, hH⟩ : ∃ H, w.heap.size = H := ⟨_, rfl⟩
 obtain ⟨w1, hw1⟩ : ∃ w1, w.alloc (.cells #[.slice pa u.ae.length pc, .slice ta u.types.length tc] 25) = w1 := ⟨_, rfl⟩
 obtain ⟨w2, hw2⟩ : ∃ w2, w1.alloc (.cells (aW x ka kc) 43) = w2 := ⟨_, rfl⟩
 have bb1 : Below w.heap.size w w1 := by rw [← hw1]; exact ak w _
 have bb2 : Below w1.heap.size w1 w2 := by rw [← hw2]; exact ak w1 _
 have e1 : w1.heap.size = H + 1 := by rw [← hw1]; simp [hH]
 have q1 : w2.heap[H]? = some (.cells #[.slice pa u.ae.length pc, .slice ta u.types.length tc] 25 (0, 0)) := (bb2.block H (by omega)).trans (by rw [← hw1]; exact aj _ _ _ hH)
 have q2 : w2.heap[H + 1]? = some (.cells (aW x ka kc) 43 (0, 0)) := by rw [← hw2]; exact aj _ _ _ e1
 have bb12 : Below w.heap.size w w2 := bb1.trans (bb2.mono bb1.size)
 have HX : Bx (∀ X, Below w2.heap.size w2 X -> Below w.heap.size w X /\ (X.cell? ⟨H, 0, none⟩ = some (.slice pa u.ae.length pc) /\ X.cell? ⟨H, 1, none⟩ = some (.slice ta u.types.length tc) /\ H < X.heap.size) /\ (X.cell? ⟨H + 1, 0, none⟩ = some (.int .i64 x.op) /\ X.cell? ⟨H + 1, 1, none⟩ = some (.int .i64 x.a) /\ X.cell? ⟨H + 1, 2, none⟩ = some (.int .i64 x.b) /\ X.cell? ⟨H + 1, 3, none⟩ = some (.slice ka x.list.length kc) /\ H + 1 < X.heap.size)) := ⟨fun X hX => by
  have z1 := (hX.block H (ah q1)).trans q1
  have z2 := (hX.block (H + 1) (ah q2)).trans q2
  exact ⟨bb12.trans (hX.mono bb12.size), ⟨aa z1 rfl, aa z1 rfl, ah z1⟩, ⟨aa z2 rfl, aa z2 rfl, aa z2 rfl, aa z2 rfl, ah z2⟩⟩⟩
 obtain ⟨x00, ⟨u0, u1, u2⟩, ⟨i0, i1, i2, i3, i4⟩⟩ := HX.out w2 (Below.refl _ _)
 have HB2 : Bx (Below w.heap.size w w2) := ⟨bb12⟩
 have HWI : Bx (∀ n l m X, _) := ⟨fun n l m X => aA n l m X⟩
 have hlm := hk.max
 have hlc := hk.cap
 have htm := hu.types.max
 have htc := hu.types.cap
 have hpm := hu.ae.max
 have hpc := hu.ae.cap
 unfold maxLen at hlm htm hpm
 unfold unV aR
 unfold aW at hw2
 have HF : Bx (∀ X, Calls Tryd.prog 53 #[.int .i64 x.op] X fun e w' => e = .returned (.tuple #[.bool (rfa x.op), .bool (rfb x.op), .bool (dC x.op)]) /\ X = w') := ⟨fun X => bu x.op X h1 h2⟩
 have HI : Bx (∀ X, Calls Tryd.prog 23 #[.int .i64 x.op, .int .i64 1, .int .i64 27] X fun e w' => e = .returned (.bool true) /\ X = w') := ⟨fun X => by
  have := aA x.op 1 27 X
  rw [decide_eq_true h1, decide_eq_true h2] at this
  exact this⟩
 have b2 : (x.op == 2) = false := by simp; omega
 have b3 : (x.op == 3) = true := by simpa using hop
 have erfa : rfa x.op = true := by rw [hop]; rfl
 have erfb : rfb x.op = false := by rw [hop]; rfl
 have erfl_ : dC x.op = false := by rw [hop]; rfl
 rw [erfa, erfb, erfl_] at HF
 have nb : (x.b != 0) = false := by simp [hb]
 have nl : ((x.list.length : Int) != 0) = false := by rw [hl]; rfl
 have hwr : IntKind.i64.wrap ((u.types.length : Int) - 1) = (u.types.length : Int) - 1 := by rw [IntKind.wrap_i64]; omega
 have HWA : Bx (∀ X, Calls Tryd.prog 23 #[.int .i64 x.a, .int .i64 0, .int .i64 ((u.types.length : Int) - 1)] X fun e w' => e = .returned (.bool (decide ((0 : Int) <= x.a) && decide (x.a <= (u.types.length : Int) - 1))) /\ X = w') := ⟨fun X => aA x.a 0 _ X⟩
 by_cases hin : 0 <= x.a /\ x.a < (u.types.length : Int)
 ·have hwb : (decide ((0 : Int) <= x.a) && decide (x.a <= (u.types.length : Int) - 1)) = true := by simp; omega
  rw [hwb] at HWA
  have HEC : Bx _ := ⟨hE w2 bb12 x.a.toNat (by omega)⟩
  rw [show ((x.a.toNat : Nat) : Int) = x.a by omega] at HEC
  have HIN : Bx (0 <= x.a /\ x.a < (u.types.length : Int)) := ⟨hin⟩
  clear hu hk HX hE HWI hwb hin bb1 bb2 q1 q2 bb12 x00 hop h1 h2 erfa erfb erfl_ hb hl
  go_enter Tryd.func37, Tryd.ntmps37
  go_wp2_with (first
   | (go_at_call 23; refine (HI.out _).mono ?_; rintro e z1 ⟨rfl, rfl⟩; clear HI)
   | (go_at_call 53; refine (HF.out _).mono ?_; rintro e z2 ⟨rfl, rfl⟩; clear HF)
   | (go_at_call 23; refine (HWA.out _).mono ?_; rintro e z3 ⟨rfl, rfl⟩; clear HWA)
   | (go_at_call 54; refine HEC.out.mono ?_; rintro e z4 ⟨b, rfl, HX4⟩)
   | fail)
  go_ret
  refine ⟨b, rfl, ⟨?_, HB2.out.trans (HX4.out.2.mono HB2.out.size)⟩⟩
  have := HX4.out.1
  have h3 := HIN.out
  rw [this]
  exact ⟨fun q => ⟨h3.1, h3.2, q⟩, fun q => q.2.2⟩
 ·have hwb : (decide ((0 : Int) <= x.a) && decide (x.a <= (u.types.length : Int) - 1)) = false := by
   rw [Bool.eq_false_iff]
   intro q
   simp at q
   omega
  rw [hwb] at HWA
  have HIN : Bx (¬ (0 <= x.a /\ x.a < (u.types.length : Int))) := ⟨hin⟩
  clear hu hk HX hE HWI hwb hin bb1 bb2 q1 q2 bb12 x00 hop h1 h2 erfa erfb erfl_ hb hl
  go_enter Tryd.func37, Tryd.ntmps37
  go_wp2_with (first
   | (go_at_call 23; refine (HI.out _).mono ?_; rintro e z1 ⟨rfl, rfl⟩; clear HI)
   | (go_at_call 53; refine (HF.out _).mono ?_; rintro e z2 ⟨rfl, rfl⟩; clear HF)
   | (go_at_call 23; refine (HWA.out _).mono ?_; rintro e z3 ⟨rfl, rfl⟩; clear HWA)
   | fail)
  go_ret
  exact ⟨false, rfl, ⟨⟨fun q => (by cases q), fun q => absurd ⟨q.1, q.2.1⟩ HIN.out⟩, HB2.out⟩⟩
theorem uI (w : World) (u : CUn) (pa ta : Option Addr) (pc tc : Nat) (hu : dL w w.heap.size pa pc ta tc u) (x : CIn) (ka : Option Addr) (kc : Nat) (hk : aF w w.heap.size ka kc x.list) (hll : x.list.length <= 281474976710656) (hop : x.op = 27) (ha : x.a = 0) (hb : x.b = 0) : Calls Tryd.prog 37 #[unV u pa pc ta tc, aR x ka kc] w fun e w' => e = .returned (.bool (!(bC x.list && x.list.length % 2 == 0))) /\ Bx (Below w.heap.size w w') := by
 have h1 : 1 <= x.op := by omega
 have h2 : x.op <= 27 := by omega
 obtain ⟨H, hH⟩ : ∃ H, w.heap.size = H := ⟨_, rfl⟩
 obtain ⟨w1, hw1⟩ : ∃ w1, w.alloc (.cells #[.slice pa u.ae.length pc, .slice ta u.types.length tc] 25) = w1 := ⟨_, rfl⟩
 obtain ⟨w2, hw2⟩ : ∃ w2, w1.alloc (.cells (aW x ka kc) 43) = w2 := ⟨_, rfl⟩
 have bb1 : Below w.heap.size w w1 := by rw [← hw1]; exact ak w _
 have bb2 : Below w1.heap.size w1 w2 := by rw [← hw2]; exact ak w1 _
 have e1 : w1.heap.size = H + 1 := by rw [← hw1]; simp [hH]
 have q1 : w2.heap[H]? = some (.cells #[.slice pa u.ae.length pc, .slice ta u.types.length tc] 25 (0, 0)) := (bb2.block H (by omega)).trans (by rw [← hw1]; exact aj _ _ _ hH)
 have q2 : w2.heap[H + 1]? = some (.cells (aW x ka kc) 43 (0, 0)) := by rw [← hw2]; exact aj _ _ _ e1
 have bb12 : Below w.heap.size w w2 := bb1.trans (bb2.mono bb1.size)
 have HX : Bx (∀ X, Below w2.heap.size w2 X -> Below w.heap.size w X /\ (X.cell? ⟨H, 0, none⟩ = some (.slice pa u.ae.length pc) /\ X.cell? ⟨H, 1, none⟩ = some (.slice ta u.types.length tc) /\ H < X.heap.size) /\ (X.cell? ⟨H + 1, 0, none⟩ = some (.int .i64 x.op) /\ X.cell? ⟨H + 1, 1, none⟩ = some (.int .i64 x.a) /\ X.cell? ⟨H + 1, 2, none⟩ = some (.int .i64 x.b) /\ X.cell? ⟨H + 1, 3, none⟩ = some (.slice ka x.list.length kc) /\ H + 1 < X.heap.size)) := ⟨fun X hX => by
  have z1 := (hX.block H (ah q1)).trans q1
  have z2 := (hX.block (H + 1) (ah q2)).trans q2
  exact ⟨bb12.trans (hX.mono bb12.size), ⟨aa z1 rfl, aa z1 rfl, ah z1⟩, ⟨aa z2 rfl, aa z2 rfl, aa z2 rfl, aa z2 rfl, ah z2⟩⟩⟩
 obtain ⟨x00, ⟨u0, u1, u2⟩, ⟨i0, i1, i2, i3, i4⟩⟩ := HX.out w2 (Below.refl _ _)
 have HB2 : Bx (Below w.heap.size w w2) := ⟨bb12⟩
 have HWI : Bx (∀ n l m X, _) := ⟨fun n l m X => aA n l m X⟩
 have hlm := hk.max
 have hlc := hk.cap
 have htm := hu.types.max
 have htc := hu.types.cap
 have hpm := hu.ae.max
 have hpc := hu.ae.cap
 unfold maxLen at hlm htm hpm
 unfold unV aR
 unfold aW at hw2
 have HF : Bx (∀ X, Calls Tryd.prog 53 #[.int .i64 x.op] X fun e w' => e = .returned (.tuple #[.bool (rfa x.op), .bool (rfb x.op), .bool (dC x.op)]) /\ X = w') := ⟨fun X => bu x.op X h1 h2⟩
 have HI : Bx (∀ X, Calls Tryd.prog 23 #[.int .i64 x.op, .int .i64 1, .int .i64 27] X fun e w' => e = .returned (.bool true) /\ X = w') := ⟨fun X => by
  have := aA x.op 1 27 X
  rw [decide_eq_true h1, decide_eq_true h2] at this
  exact this⟩
 have b2 : (x.op == 2) = false := by simp; omega
 have b3 : (x.op == 3) = false := by simp; omega
 have b10 : (x.op == 10) = false := by simp; omega
 have b11 : (x.op == 11) = false := by simp; omega
 have b15 : (x.op == 15) = false := by simp; omega
 have b24 : (x.op == 24) = false := by simp; omega
 have b23 : (x.op == 23) = false := by simp; omega
 have b16 : (x.op == 16) = false := by simp; omega
 have b17 : (x.op == 17) = false := by simp; omega
 have b18 : (x.op == 18) = false := by simp; omega
 have b22 : (x.op == 22) = false := by simp; omega
 have b27 : (x.op == 27) = true := by simpa using hop
 have erfa : rfa x.op = false := by rw [hop]; rfl
 have erfb : rfb x.op = false := by rw [hop]; rfl
 have erfl_ : dC x.op = true := by rw [hop]; rfl
 rw [erfa, erfb, erfl_] at HF
 have na : (x.a != 0) = false := by simp [ha]
 have nb : (x.b != 0) = false := by simp [hb]
 have b12' := bb12
 have HG : Bx (bC (x.list.drop 0) = bC x.list) := ⟨by rw [List.drop_zero]⟩
 have HK : Bx (∀ X, Below w2.heap.size w2 X -> aF X w.heap.size ka kc x.list) := ⟨fun X hX => hk.below (b12'.trans (hX.mono b12'.size))⟩
 generalize bC x.list = r at *
 clear b12'
 clear hu hk HX bb1 bb2 q1 q2 bb12 x00 hop h1 h2 erfa erfb erfl_ ha hb
 go_enter Tryd.func37, Tryd.ntmps37
 go_wp2_with (first
  | (go_at_call 23; refine (HI.out _).mono ?_; rintro e z1 ⟨rfl, rfl⟩; clear HI)
  | (go_at_call 53; refine (HF.out _).mono ?_; rintro e z2 ⟨rfl, rfl⟩; clear HF)
  | fail)
 go_loopg [165] (x.list.length + 1) (fun f v165 wr => ∃ k : Nat, f = x.list.length + 1 - k /\ k <= x.list.length /\ v165 = .int .i64 k /\ Bx ((k % 2 = 0 -> bC (x.list.drop k) = r) /\ (k % 2 = 1 -> bC (x.list.drop (k + 1)) = r)) /\ wr = w2)
 case atStart => exact ⟨0, by simp, Nat.zero_le _, rfl, ⟨fun _ => HG.out, fun e => by omega⟩, rfl⟩
 case round =>
  obtain ⟨k, hf, hkl, rfl, HR, rfl⟩ := hrel
  obtain ⟨wD, rfl⟩ : ∃ X, X = wr := ⟨_, rfl⟩
  by_cases hlt : k < x.list.length
  ·obtain ⟨b, o, rfl, hb, hc⟩ := (HK.out wD (Below.refl _ _)).at_ (by omega)
   have c0 := hc k hlt
   have hbl : b < wD.heap.size := by have := HB2.out.size; omega
   have hkI : (k : Int) < (x.list.length : Int) := by omega
   by_cases hev : k % 2 = 0
   ·have hm : ((k : Int) % 2 == 0) = true := by simp; omega
    have hg := HR.out.1 hev
    rw [jC hlt] at hg
    have HWA : Bx (∀ X, Calls Tryd.prog 23 #[.int .i64 x.list[k], .int .i64 0, .int .i64 1] X fun e w' => e = .returned (.bool (inI x.list[k] 1)) /\ X = w') := ⟨fun X => aA _ 0 1 X⟩
    cases hin : inI x.list[k] 1 with
    | true =>
     rw [hin] at HWA hg
     have HR3 : Bx (((k + 1) % 2 = 0 -> bC (x.list.drop (k + 1)) = r) /\ ((k + 1) % 2 = 1 -> bC (x.list.drop (k + 1 + 1)) = r)) := ⟨fun e => by omega, fun _ => by simpa using hg⟩
     clear hin hg hc HR HK HG HWI
     generalize x.list[k] = y at *
     go_wp2_with (first
      | (go_at_call 23; refine (HWA.out _).mono ?_; rintro e z3 ⟨rfl, rfl⟩; clear HWA)
      | fail)
     go_roundg (x.list.length + 1 - (k + 1))
     case measure => omega
     case rel => exact ⟨k + 1, rfl, by omega, by simp, HR3, rfl⟩
    | false =>
     rw [hin] at HWA hg
     have hr : r = false := by simpa using hg.symm
     subst hr
     clear hin hg hc HR HK HG HWI
     generalize x.list[k] = y at *
     go_wp2_with (first
      | (go_at_call 23; refine (HWA.out _).mono ?_; rintro e z3 ⟨rfl, rfl⟩; clear HWA)
      | fail)
     go_ret
     exact ⟨rfl, by first | exact HB2 | (rw [← hH]; exact HB2)⟩
   ·have hm : ((k : Int) % 2 == 0) = false := by simp; omega
    have HR3 : Bx (((k + 1) % 2 = 0 -> bC (x.list.drop (k + 1)) = r) /\ ((k + 1) % 2 = 1 -> bC (x.list.drop (k + 1 + 1)) = r)) := ⟨fun e => HR.out.2 (by omega), fun e => by omega⟩
    clear hc HR HK HG HWI hev
    generalize x.list[k] = y at *
    go_wp2
    go_roundg (x.list.length + 1 - (k + 1))
    case measure => omega
    case rel => exact ⟨k + 1, rfl, by omega, by simp, HR3, rfl⟩
  ·obtain rfl : k = x.list.length := by omega
   have hr : r = true := by
    by_cases e : x.list.length % 2 = 0
    ·have := HR.out.1 e
     rw [List.drop_length] at this
     exact this.symm
    ·have := HR.out.2 (by omega)
     rw [List.drop_eq_nil_of_le (by omega)] at this
     exact this.symm
   subst hr
   clear HR HK HG HWI
   go_wp2
   go_ret
   exact ⟨aG (by rw [Bool.eq_iff_iff]; simp; omega), by first | exact HB2 | (rw [← hH]; exact HB2)⟩
end Go.Proofs.YtadmpgegolmkgaaDoor
