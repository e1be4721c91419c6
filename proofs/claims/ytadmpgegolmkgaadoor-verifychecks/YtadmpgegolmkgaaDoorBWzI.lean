import Derived.Test.YtadmpgegolmkgaaDoorBWzG
set_option linter.unusedVariables false
set_option linter.unusedSimpArgs false
set_option maxHeartbeats 4000000
set_option maxRecDepth 100000
namespace Go.Proofs.YtadmpgegolmkgaaDoor
open Go.RowKit
theorem uK (w : World) (u : CUn) (pa ta : Option Addr) (pc tc : Nat) (pg : CPg) (ca : Option Addr) (cc : Nat) (hc : Row (cu w w.heap.size) w.heap.size 4 ca cc pg.code) (hcl : pg.code.length <= 268435456) (hs1 : 0 <= pg.slots /\ pg.slots <= 65536) (hs2 : 0 <= pg.caps /\ pg.caps <= 65536) (i : Nat) (hi : i < pg.code.length) (x : CIn) (hx : pg.code[i] = x) (hll : x.list.length <= 281474976710656) (wb : Bool) (hW : ∀ X ka kc, Below w.heap.size w X -> aF X w.heap.size ka kc x.list -> Calls Tryd.prog 37 #[unV u pa pc ta tc, aR x ka kc] X fun e w' => e = .returned (.bool wb) /\ Bx (Below X.heap.size X w')) (hb : wb = true) : Calls Tryd.prog 24 #[unV u pa pc ta tc, .agg (pgC pg ca cc), .int .i64 (i : Nat)] w fun e w' => e = .returned (.int .i64 91) /\ Bx (Below w.heap.size w w') := by
 subst hb
 subst hx
 obtain ⟨cb, co, ka, kc, rfl, hcb, hks, HC⟩ := bF hc hi
 have hcc := hc.cap
 generalize hxx : pg.code[i] = x at *
 obtain ⟨H, hH⟩ : ∃ H, w.heap.size = H := ⟨_, rfl⟩
 obtain ⟨w1, hw1⟩ : ∃ w1, w.alloc (.cells #[.slice pa u.ae.length pc, .slice ta u.types.length tc] 25) = w1 := ⟨_, rfl⟩
 obtain ⟨w2, hw2⟩ : ∃ w2, w1.alloc (.cells (pgC pg (some ⟨cb, co, none⟩) cc) 40) = w2 := ⟨_, rfl⟩
 obtain ⟨w3, hw3⟩ : ∃ w3, w2.alloc (.cells (aW x ka kc) 43) = w3 := ⟨_, rfl⟩
 have bb1 : Below w.heap.size w w1 := by rw [← hw1]; exact ak w _
 have bb2 : Below w1.heap.size w1 w2 := by rw [← hw2]; exact ak w1 _
 have bb3 : Below w2.heap.size w2 w3 := by rw [← hw3]; exact ak w2 _
 have e1 : w1.heap.size = H + 1 := by rw [← hw1]; simp [hH]
 have e2 : w2.heap.size = H + 1 + 1 := by rw [← hw2]; simp [e1]
 have q1 : w2.heap[H]? = some (.cells #[.slice pa u.ae.length pc, .slice ta u.types.length tc] 25 (0, 0)) := (bb2.block H (by omega)).trans (by rw [← hw1]; exact aj _ _ _ hH)
 have q2 : w2.heap[H + 1]? = some (.cells (pgC pg (some ⟨cb, co, none⟩) cc) 40 (0, 0)) := by rw [← hw2]; exact aj _ _ _ e1
 have q3 : w3.heap[H + 1 + 1]? = some (.cells (aW x ka kc) 43 (0, 0)) := by rw [← hw3]; exact aj _ _ _ e2
 have bb12 : Below w.heap.size w w2 := bb1.trans (bb2.mono bb1.size)
 have bb13 : Below w.heap.size w w3 := bb12.trans (bb3.mono bb12.size)
 have m0 := aa (i := 4) q2 rfl
 have hm1 : H + 1 < w2.heap.size := ah q2
 obtain ⟨c0, c1, c2, c3⟩ := HC.out w2 bb12
 have hcb2 : cb < w2.heap.size := by omega
 have hiI : (i : Int) < (pg.code.length : Int) := by omega
 have HX : Bx (∀ X, Below w3.heap.size w3 X -> Below w.heap.size w X /\ (X.cell? ⟨H, 0, none⟩ = some (.slice pa u.ae.length pc) /\ X.cell? ⟨H, 1, none⟩ = some (.slice ta u.types.length tc) /\ H < X.heap.size) /\ (X.cell? ⟨H + 1, 1, none⟩ = some (.int .i64 pg.slots) /\ X.cell? ⟨H + 1, 2, none⟩ = some (.int .i64 pg.caps) /\ X.cell? ⟨H + 1, 4, none⟩ = some (.slice (some ⟨cb, co, none⟩) pg.code.length cc) /\ H + 1 < X.heap.size) /\ (X.cell? ⟨H + 1 + 1, 0, none⟩ = some (.int .i64 x.op) /\ X.cell? ⟨H + 1 + 1, 1, none⟩ = some (.int .i64 x.a) /\ X.cell? ⟨H + 1 + 1, 2, none⟩ = some (.int .i64 x.b) /\ X.cell? ⟨H + 1 + 1, 3, none⟩ = some (.slice ka x.list.length kc) /\ H + 1 + 1 < X.heap.size)) := ⟨fun X hX => by
  have z1 := (hX.block H (by have := ah q1; have := bb3.size; omega)).trans ((bb3.block H (ah q1)).trans q1)
  have z2 := (hX.block (H + 1) (by have := ah q2; have := bb3.size; omega)).trans ((bb3.block (H + 1) (ah q2)).trans q2)
  have z3 := (hX.block (H + 1 + 1) (ah q3)).trans q3
  exact ⟨bb13.trans (hX.mono bb13.size), ⟨aa z1 rfl, aa z1 rfl, ah z1⟩, ⟨aa z2 rfl, aa z2 rfl, aa z2 rfl, ah z2⟩, ⟨aa z3 rfl, aa z3 rfl, aa z3 rfl, aa z3 rfl, ah z3⟩⟩⟩
 obtain ⟨x00, ⟨u0, u1, u2⟩, ⟨g0, g1, g2, g3⟩, ⟨i0, i1, i2, i3, i4⟩⟩ := HX.out w3 (Below.refl _ _)
 have HWR : Bx _ := ⟨hW w3 ka kc bb13 (hks.below bb13)⟩
 have HB3 : Bx (Below w.heap.size w w3) := ⟨bb13⟩
 have hlm := hks.max
 have hlc := hks.cap
 unfold maxLen at hlm
 have HKL : Bx (∀ X, Below w3.heap.size w3 X -> aF X w.heap.size ka kc x.list) := ⟨fun X hX => hks.below (bb13.trans (hX.mono bb13.size))⟩
 have hwl : IntKind.i64.wrap ((pg.code.length : Int) - 1) = (pg.code.length : Int) - 1 := by rw [IntKind.wrap_i64]; omega
 have hws : IntKind.i64.wrap (pg.slots - 1) = pg.slots - 1 := by rw [IntKind.wrap_i64]; omega
 have hwc : IntKind.i64.wrap (pg.caps - 1) = pg.caps - 1 := by rw [IntKind.wrap_i64]; omega
 have hwi : IntKind.i64.wrap ((i : Int) + 1) = (i : Int) + 1 := by rw [IntKind.wrap_i64]; omega
 have hcp0 : w2.cell? ⟨H + 1, 4, none⟩ = some (.slice (some ⟨cb, co, none⟩) pg.code.length cc) := m0
 unfold unV aR pgC at *
 unfold aW at hw3
 clear hc hW hks HC bb1 bb2 bb3 q1 q2 q3 bb12 bb13 x00 m0 hxx
 go_enter Tryd.func24, Tryd.ntmps24
 go_wp2_with (first
  | (go_at_call 37; refine HWR.out.mono ?_; rintro e w4 ⟨rfl, hb4⟩; clear HWR; obtain ⟨_, ⟨v0, v1, v2⟩, ⟨h0, h1, h2, h3⟩, ⟨j0, j1, j2, j3, j4⟩⟩ := HX.out w4 hb4.out)
  | fail)
 go_ret
 exact ⟨rfl, ⟨by first | exact HB3.out.trans (hb4.out.mono HB3.out.size) | (rw [← hH]; exact HB3.out.trans (hb4.out.mono HB3.out.size))⟩⟩
theorem yc (w : World) (u : CUn) (pa ta : Option Addr) (pc tc : Nat) (pg : CPg) (ca : Option Addr) (cc : Nat) (hc : Row (cu w w.heap.size) w.heap.size 4 ca cc pg.code) (hcl : pg.code.length <= 268435456) (hs1 : 0 <= pg.slots /\ pg.slots <= 65536) (hs2 : 0 <= pg.caps /\ pg.caps <= 65536) (i : Nat) (hi : i < pg.code.length) (x : CIn) (hx : pg.code[i] = x) (hll : x.list.length <= 281474976710656) (wb : Bool) (hW : ∀ X ka kc, Below w.heap.size w X -> aF X w.heap.size ka kc x.list -> Calls Tryd.prog 37 #[unV u pa pc ta tc, aR x ka kc] X fun e w' => e = .returned (.bool wb) /\ Bx (Below X.heap.size X w')) (hb : wb = false) (hop : x.op = 4) : Calls Tryd.prog 24 #[unV u pa pc ta tc, .agg (pgC pg ca cc), .int .i64 (i : Nat)] w fun e w' => e = .returned (.int .i64 (if (decide ((0 : Int) <= x.a) && decide (x.a <= (pg.slots - 1))) = true then 0 else 93)) /\ Bx (Below w.heap.size w w') := by
 subst hb
 subst hx
 obtain ⟨cb, co, ka, kc, rfl, hcb, hks, HC⟩ := bF hc hi
 have hcc := hc.cap
 generalize hxx : pg.code[i] = x at *
 obtain ⟨H, hH⟩ : ∃ H, w.heap.size = H := ⟨_, rfl⟩
 obtain ⟨w1, hw1⟩ : ∃ w1, w.alloc (.cells #[.slice pa u.ae.length pc, .slice ta u.types.length tc] 25) = w1 := ⟨_, rfl⟩
 obtain ⟨w2, hw2⟩ : ∃ w2, w1.alloc (.cells (pgC pg (some ⟨cb, co, none⟩) cc) 40) = w2 := ⟨_, rfl⟩
 obtain ⟨w3, hw3⟩ : ∃ w3, w2.alloc (.cells (aW x ka kc) 43) = w3 := ⟨_, rfl⟩
 have bb1 : Below w.heap.size w w1 := by rw [← hw1]; exact ak w _
 have bb2 : Below w1.heap.size w1 w2 := by rw [← hw2]; exact ak w1 _
 have bb3 : Below w2.heap.size w2 w3 := by rw [← hw3]; exact ak w2 _
 have e1 : w1.heap.size = H + 1 := by rw [← hw1]; simp [hH]
 have e2 : w2.heap.size = H + 1 + 1 := by rw [← hw2]; simp [e1]
 have q1 : w2.heap[H]? = some (.cells #[.slice pa u.ae.length pc, .slice ta u.types.length tc] 25 (0, 0)) := (bb2.block H (by omega)).trans (by rw [← hw1]; exact aj _ _ _ hH)
 have q2 : w2.heap[H + 1]? = some (.cells (pgC pg (some ⟨cb, co, none⟩) cc) 40 (0, 0)) := by rw [← hw2]; exact aj _ _ _ e1
 have q3 : w3.heap[H + 1 + 1]? = some (.cells (aW x ka kc) 43 (0, 0)) := by rw [← hw3]; exact aj _ _ _ e2
 have bb12 : Below w.heap.size w w2 := bb1.trans (bb2.mono bb1.size)
 have bb13 : Below w.heap.size w w3 := bb12.trans (bb3.mono bb12.size)
 have m0 := aa (i := 4) q2 rfl
 have hm1 : H + 1 < w2.heap.size := ah q2
 obtain ⟨c0, c1, c2, c3⟩ := HC.out w2 bb12
 have hcb2 : cb < w2.heap.size := by omega
 have hiI : (i : Int) < (pg.code.length : Int) := by omega
 have HX : Bx (∀ X, Below w3.heap.size w3 X -> Below w.heap.size w X /\ (X.cell? ⟨H, 0, none⟩ = some (.slice pa u.ae.length pc) /\ X.cell? ⟨H, 1, none⟩ = some (.slice ta u.types.length tc) /\ H < X.heap.size) /\ (X.cell? ⟨H + 1, 1, none⟩ = some (.int .i64 pg.slots) /\ X.cell? ⟨H + 1, 2, none⟩ = some (.int .i64 pg.caps) /\ X.cell? ⟨H + 1, 4, none⟩ = some (.slice (some ⟨cb, co, none⟩) pg.code.length cc) /\ H + 1 < X.heap.size) /\ (X.cell? ⟨H + 1 + 1, 0, none⟩ = some (.int .i64 x.op) /\ X.cell? ⟨H + 1 + 1, 1, none⟩ = some (.int .i64 x.a) /\ X.cell? ⟨H + 1 + 1, 2, none⟩ = some (.int .i64 x.b) /\ X.cell? ⟨H + 1 + 1, 3, none⟩ = some (.slice ka x.list.length kc) /\ H + 1 + 1 < X.heap.size)) := ⟨fun X hX => by
  have z1 := (hX.block H (by have := ah q1; have := bb3.size; omega)).trans ((bb3.block H (ah q1)).trans q1)
  have z2 := (hX.block (H + 1) (by have := ah q2; have := bb3.size; omega)).trans ((bb3.block (H + 1) (ah q2)).trans q2)
  have z3 := (hX.block (H + 1 + 1) (ah q3)).trans q3
  exact ⟨bb13.trans (hX.mono bb13.size), ⟨aa z1 rfl, aa z1 rfl, ah z1⟩, ⟨aa z2 rfl, aa z2 rfl, aa z2 rfl, ah z2⟩, ⟨aa z3 rfl, aa z3 rfl, aa z3 rfl, aa z3 rfl, ah z3⟩⟩⟩
 obtain ⟨x00, ⟨u0, u1, u2⟩, ⟨g0, g1, g2, g3⟩, ⟨i0, i1, i2, i3, i4⟩⟩ := HX.out w3 (Below.refl _ _)
 have HWR : Bx _ := ⟨hW w3 ka kc bb13 (hks.below bb13)⟩
 have HB3 : Bx (Below w.heap.size w w3) := ⟨bb13⟩
 have hlm := hks.max
 have hlc := hks.cap
 unfold maxLen at hlm
 have HKL : Bx (∀ X, Below w3.heap.size w3 X -> aF X w.heap.size ka kc x.list) := ⟨fun X hX => hks.below (bb13.trans (hX.mono bb13.size))⟩
 have hwl : IntKind.i64.wrap ((pg.code.length : Int) - 1) = (pg.code.length : Int) - 1 := by rw [IntKind.wrap_i64]; omega
 have hws : IntKind.i64.wrap (pg.slots - 1) = pg.slots - 1 := by rw [IntKind.wrap_i64]; omega
 have hwc : IntKind.i64.wrap (pg.caps - 1) = pg.caps - 1 := by rw [IntKind.wrap_i64]; omega
 have hwi : IntKind.i64.wrap ((i : Int) + 1) = (i : Int) + 1 := by rw [IntKind.wrap_i64]; omega
 have hcp0 : w2.cell? ⟨H + 1, 4, none⟩ = some (.slice (some ⟨cb, co, none⟩) pg.code.length cc) := m0
 unfold unV aR pgC at *
 unfold aW at hw3
 have b4 : (x.op == 4) = true := by simpa using hop
 have HWA : Bx (∀ X, Calls Tryd.prog 23 #[.int .i64 x.a, .int .i64 (0 : Int), .int .i64 (pg.slots - 1)] X fun e w' => e = .returned (.bool (decide ((0 : Int) <= x.a) && decide (x.a <= (pg.slots - 1)))) /\ X = w') := ⟨fun X => aA x.a _ _ X⟩
 obtain ⟨wv, hwv⟩ : ∃ wv, (decide ((0 : Int) <= x.a) && decide (x.a <= (pg.slots - 1))) = wv := ⟨_, rfl⟩
 rw [hwv] at HWA ⊢
 clear hwv
 clear hc hW hks HC bb1 bb2 bb3 q1 q2 q3 bb12 bb13 x00 m0 hxx hop
 cases wv with
 | true =>
  go_enter Tryd.func24, Tryd.ntmps24
  go_wp2_with (first
   | (go_at_call 37; refine HWR.out.mono ?_; rintro e w4 ⟨rfl, hb4⟩; clear HWR; obtain ⟨_, ⟨v0, v1, v2⟩, ⟨h0, h1, h2, h3⟩, ⟨j0, j1, j2, j3, j4⟩⟩ := HX.out w4 hb4.out)
   | (go_at_call 23; refine (HWA.out _).mono ?_; rintro e z3 ⟨rfl, rfl⟩; clear HWA)
   | fail)
  go_ret
  exact ⟨rfl, ⟨by first | exact HB3.out.trans (hb4.out.mono HB3.out.size) | (rw [← hH]; exact HB3.out.trans (hb4.out.mono HB3.out.size))⟩⟩
 | false =>
  go_enter Tryd.func24, Tryd.ntmps24
  go_wp2_with (first
   | (go_at_call 37; refine HWR.out.mono ?_; rintro e w4 ⟨rfl, hb4⟩; clear HWR; obtain ⟨_, ⟨v0, v1, v2⟩, ⟨h0, h1, h2, h3⟩, ⟨j0, j1, j2, j3, j4⟩⟩ := HX.out w4 hb4.out)
   | (go_at_call 23; refine (HWA.out _).mono ?_; rintro e z3 ⟨rfl, rfl⟩; clear HWA)
   | fail)
  go_ret
  exact ⟨rfl, ⟨by first | exact HB3.out.trans (hb4.out.mono HB3.out.size) | (rw [← hH]; exact HB3.out.trans (hb4.out.mono HB3.out.size))⟩⟩
theorem yg (w : World) (u : CUn) (pa ta : Option Addr) (pc tc : Nat) (pg : CPg) (ca : Option Addr) (cc : Nat) (hc : Row (cu w w.heap.size) w.heap.size 4 ca cc pg.code) (hcl : pg.code.length <= 268435456) (hs1 : 0 <= pg.slots /\ pg.slots <= 65536) (hs2 : 0 <= pg.caps /\ pg.caps <= 65536) (i : Nat) (hi : i < pg.code.length) (x : CIn) (hx : pg.code[i] = x) (hll : x.list.length <= 281474976710656) (wb : Bool) (hW : ∀ X ka kc, Below w.heap.size w X -> aF X w.heap.size ka kc x.list -> Calls Tryd.prog 37 #[unV u pa pc ta tc, aR x ka kc] X fun e w' => e = .returned (.bool wb) /\ Bx (Below X.heap.size X w')) (hb : wb = false) (hop : x.op = 5) : Calls Tryd.prog 24 #[unV u pa pc ta tc, .agg (pgC pg ca cc), .int .i64 (i : Nat)] w fun e w' => e = .returned (.int .i64 (if (decide ((0 : Int) <= x.a) && decide (x.a <= (pg.slots - 1))) = true then 0 else 93)) /\ Bx (Below w.heap.size w w') := by
 subst hb
 subst hx
 obtain ⟨cb, co, ka, kc, rfl, hcb, hks, HC⟩ := bF hc hi
 have hcc := hc.cap
 generalize hxx : pg.code[i] = x at *
 obtain ⟨H, hH⟩ : ∃ H, w.heap.size = H := ⟨_, rfl⟩
 obtain ⟨w1, hw1⟩ : ∃ w1, w.alloc (.cells #[.slice pa u.ae.length pc, .slice ta u.types.length tc] 25) = w1 := ⟨_, rfl⟩
 obtain ⟨w2, hw2⟩ : ∃ w2, w1.alloc (.cells (pgC pg (some ⟨cb, co, none⟩) cc) 40) = w2 := ⟨_, rfl⟩
 obtain ⟨w3, hw3⟩ : ∃ w3, w2.alloc (.cells (aW x ka kc) 43) = w3 := ⟨_, rfl⟩
 have bb1 : Below w.heap.size w w1 := by rw [← hw1]; exact ak w _
 have bb2 : Below w1.heap.size w1 w2 := by rw [← hw2]; exact ak w1 _
 have bb3 : Below w2.heap.size w2 w3 := by rw [← hw3]; exact ak w2 _
 have e1 : w1.heap.size = H + 1 := by rw [← hw1]; simp [hH]
 have e2 : w2.heap.size = H + 1 + 1 := by rw [← hw2]; simp [e1]
 have q1 : w2.heap[H]? = some (.cells #[.slice pa u.ae.length pc, .slice ta u.types.length tc] 25 (0, 0)) := (bb2.block H (by omega)).trans (by rw [← hw1]; exact aj _ _ _ hH)
 have q2 : w2.heap[H + 1]? = some (.cells (pgC pg (some ⟨cb, co, none⟩) cc) 40 (0, 0)) := by rw [← hw2]; exact aj _ _ _ e1
 have q3 : w3.heap[H + 1 + 1]? = some (.cells (aW x ka kc) 43 (0, 0)) := by rw [← hw3]; exact aj _ _ _ e2
 have bb12 : Below w.heap.size w w2 := bb1.trans (bb2.mono bb1.size)
 have bb13 : Below w.heap.size w w3 := bb12.trans (bb3.mono bb12.size)
 have m0 := aa (i := 4) q2 rfl
 have hm1 : H + 1 < w2.heap.size := ah q2
 obtain ⟨c0, c1, c2, c3⟩ := HC.out w2 bb12
 have hcb2 : cb < w2.heap.size := by omega
 have hiI : (i : Int) < (pg.code.length : Int) := by omega
 have HX : Bx (∀ X, Below w3.heap.size w3 X -> Below w.heap.size w X /\ (X.cell? ⟨H, 0, none⟩ = some (.slice pa u.ae.length pc) /\ X.cell? ⟨H, 1, none⟩ = some (.slice ta u.types.length tc) /\ H < X.heap.size) /\ (X.cell? ⟨H + 1, 1, none⟩ = some (.int .i64 pg.slots) /\ X.cell? ⟨H + 1, 2, none⟩ = some (.int .i64 pg.caps) /\ X.cell? ⟨H + 1, 4, none⟩ = some (.slice (some ⟨cb, co, none⟩) pg.code.length cc) /\ H + 1 < X.heap.size) /\ (X.cell? ⟨H + 1 + 1, 0, none⟩ = some (.int .i64 x.op) /\ X.cell? ⟨H + 1 + 1, 1, none⟩ = some (.int .i64 x.a) /\ X.cell? ⟨H + 1 + 1, 2, none⟩ = some (.int .i64 x.b) /\ X.cell? ⟨H + 1 + 1, 3, none⟩ = some (.slice ka x.list.length kc) /\ H + 1 + 1 < X.heap.size)) := ⟨fun X hX => by
  have z1 := (hX.block H (by have := ah q1; have := bb3.size; omega)).trans ((bb3.block H (ah q1)).trans q1)
  have z2 := (hX.block (H + 1) (by have := ah q2; have := bb3.size; omega)).trans ((bb3.block (H + 1) (ah q2)).trans q2)
  have z3 := (hX.block (H + 1 + 1) (ah q3)).trans q3
  exact ⟨bb13.trans (hX.mono bb13.size), ⟨aa z1 rfl, aa z1 rfl, ah z1⟩, ⟨aa z2 rfl, aa z2 rfl, aa z2 rfl, ah z2⟩, ⟨aa z3 rfl, aa z3 rfl, aa z3 rfl, aa z3 rfl, ah z3⟩⟩⟩
 obtain ⟨x00, ⟨u0, u1, u2⟩, ⟨g0, g1, g2, g3⟩, ⟨i0, i1, i2, i3, i4⟩⟩ := HX.out w3 (Below.refl _ _)
 have HWR : Bx _ := ⟨hW w3 ka kc bb13 (hks.below bb13)⟩
 have HB3 : Bx (Below w.heap.size w w3) := ⟨bb13⟩
 have hlm := hks.max
 have hlc := hks.cap
 unfold maxLen at hlm
 have HKL : Bx (∀ X, Below w3.heap.size w3 X -> aF X w.heap.size ka kc x.list) := ⟨fun X hX => hks.below (bb13.trans (hX.mono bb13.size))⟩
 have hwl : IntKind.i64.wrap ((pg.code.length : Int) - 1) = (pg.code.length : Int) - 1 := by rw [IntKind.wrap_i64]; omega
 have hws : IntKind.i64.wrap (pg.slots - 1) = pg.slots - 1 := by rw [IntKind.wrap_i64]; omega
 have hwc : IntKind.i64.wrap (pg.caps - 1) = pg.caps - 1 := by rw [IntKind.wrap_i64]; omega
 have hwi : IntKind.i64.wrap ((i : Int) + 1) = (i : Int) + 1 := by rw [IntKind.wrap_i64]; omega
 have hcp0 : w2.cell? ⟨H + 1, 4, none⟩ = some (.slice (some ⟨cb, co, none⟩) pg.code.length cc) := m0
 unfold unV aR pgC at *
 unfold aW at hw3
 have b4 : (x.op == 4) = false := by simp; omega
 have b5 : (x.op == 5) = true := by simpa using hop
 have HWA : Bx (∀ X, Calls Tryd.prog 23 #[.int .i64 x.a, .int .i64 (0 : Int), .int .i64 (pg.slots - 1)] X fun e w' => e = .returned (.bool (decide ((0 : Int) <= x.a) && decide (x.a <= (pg.slots - 1)))) /\ X = w') := ⟨fun X => aA x.a _ _ X⟩
 obtain ⟨wv, hwv⟩ : ∃ wv, (decide ((0 : Int) <= x.a) && decide (x.a <= (pg.slots - 1))) = wv := ⟨_, rfl⟩
 rw [hwv] at HWA ⊢
 clear hwv
 clear hc hW hks HC bb1 bb2 bb3 q1 q2 q3 bb12 bb13 x00 m0 hxx hop
 cases wv with
 | true =>
  go_enter Tryd.func24, Tryd.ntmps24
  go_wp2_with (first
   | (go_at_call 37; refine HWR.out.mono ?_; rintro e w4 ⟨rfl, hb4⟩; clear HWR; obtain ⟨_, ⟨v0, v1, v2⟩, ⟨h0, h1, h2, h3⟩, ⟨j0, j1, j2, j3, j4⟩⟩ := HX.out w4 hb4.out)
   | (go_at_call 23; refine (HWA.out _).mono ?_; rintro e z3 ⟨rfl, rfl⟩; clear HWA)
   | fail)
  go_ret
  exact ⟨rfl, ⟨by first | exact HB3.out.trans (hb4.out.mono HB3.out.size) | (rw [← hH]; exact HB3.out.trans (hb4.out.mono HB3.out.size))⟩⟩
 | false =>
  go_enter Tryd.func24, Tryd.ntmps24
  go_wp2_with (first
   | (go_at_call 37; refine HWR.out.mono ?_; rintro e w4 ⟨rfl, hb4⟩; clear HWR; obtain ⟨_, ⟨v0, v1, v2⟩, ⟨h0, h1, h2, h3⟩, ⟨j0, j1, j2, j3, j4⟩⟩ := HX.out w4 hb4.out)
   | (go_at_call 23; refine (HWA.out _).mono ?_; rintro e z3 ⟨rfl, rfl⟩; clear HWA)
   | fail)
  go_ret
  exact ⟨rfl, ⟨by first | exact HB3.out.trans (hb4.out.mono HB3.out.size) | (rw [← hH]; exact HB3.out.trans (hb4.out.mono HB3.out.size))⟩⟩
theorem yj (w : World) (u : CUn) (pa ta : Option Addr) (pc tc : Nat) (pg : CPg) (ca : Option Addr) (cc : Nat) (hc : Row (cu w w.heap.size) w.heap.size 4 ca cc pg.code) (hcl : pg.code.length <= 268435456) (hs1 : 0 <= pg.slots /\ pg.slots <= 65536) (hs2 : 0 <= pg.caps /\ pg.caps <= 65536) (i : Nat) (hi : i < pg.code.length) (x : CIn) (hx : pg.code[i] = x) (hll : x.list.length <= 281474976710656) (wb : Bool) (hW : ∀ X ka kc, Below w.heap.size w X -> aF X w.heap.size ka kc x.list -> Calls Tryd.prog 37 #[unV u pa pc ta tc, aR x ka kc] X fun e w' => e = .returned (.bool wb) /\ Bx (Below X.heap.size X w')) (hb : wb = false) (hop : x.op = 6) : Calls Tryd.prog 24 #[unV u pa pc ta tc, .agg (pgC pg ca cc), .int .i64 (i : Nat)] w fun e w' => e = .returned (.int .i64 (if (decide ((0 : Int) <= x.a) && decide (x.a <= (pg.slots - 1))) = true then 0 else 93)) /\ Bx (Below w.heap.size w w') := by
 subst hb
 subst hx
 obtain ⟨cb, co, ka, kc, rfl, hcb, hks, HC⟩ := bF hc hi
 have hcc := hc.cap
 generalize hxx : pg.code[i] = x at *
 obtain ⟨H, hH⟩ : ∃ H, w.heap.size = H := ⟨_, rfl⟩
 obtain ⟨w1, hw1⟩ : ∃ w1, w.alloc (.cells #[.slice pa u.ae.length pc, .slice ta u.types.length tc] 25) = w1 := ⟨_, rfl⟩
 obtain ⟨w2, hw2⟩ : ∃ w2, w1.alloc (.cells (pgC pg (some ⟨cb, co, none⟩) cc) 40) = w2 := ⟨_, rfl⟩
 obtain ⟨w3, hw3⟩ : ∃ w3, w2.alloc (.cells (aW x ka kc) 43) = w3 := ⟨_, rfl⟩
 have bb1 : Below w.heap.size w w1 := by rw [← hw1]; exact ak w _
 have bb2 : Below w1.heap.size w1 w2 := by rw [← hw2]; exact ak w1 _
 have bb3 : Below w2.heap.size w2 w3 := by rw [← hw3]; exact ak w2 _
 have e1 : w1.heap.size = H + 1 := by rw [← hw1]; simp [hH]
 have e2 : w2.heap.size = H + 1 + 1 := by rw [← hw2]; simp [e1]
 have q1 : w2.heap[H]? = some (.cells #[.slice pa u.ae.length pc, .slice ta u.types.length tc] 25 (0, 0)) := (bb2.block H (by omega)).trans (by rw [← hw1]; exact aj _ _ _ hH)
 have q2 : w2.heap[H + 1]? = some (.cells (pgC pg (some ⟨cb, co, none⟩) cc) 40 (0, 0)) := by rw [← hw2]; exact aj _ _ _ e1
 have q3 : w3.heap[H + 1 + 1]? = some (.cells (aW x ka kc) 43 (0, 0)) := by rw [← hw3]; exact aj _ _ _ e2
 have bb12 : Below w.heap.size w w2 := bb1.trans (bb2.mono bb1.size)
 have bb13 : Below w.heap.size w w3 := bb12.trans (bb3.mono bb12.size)
 have m0 := aa (i := 4) q2 rfl
 have hm1 : H + 1 < w2.heap.size := ah q2
 obtain ⟨c0, c1, c2, c3⟩ := HC.out w2 bb12
 have hcb2 : cb < w2.heap.size := by omega
 have hiI : (i : Int) < (pg.code.length : Int) := by omega
 have HX : Bx (∀ X, Below w3.heap.size w3 X -> Below w.heap.size w X /\ (X.cell? ⟨H, 0, none⟩ = some (.slice pa u.ae.length pc) /\ X.cell? ⟨H, 1, none⟩ = some (.slice ta u.types.length tc) /\ H < X.heap.size) /\ (X.cell? ⟨H + 1, 1, none⟩ = some (.int .i64 pg.slots) /\ X.cell? ⟨H + 1, 2, none⟩ = some (.int .i64 pg.caps) /\ X.cell? ⟨H + 1, 4, none⟩ = some (.slice (some ⟨cb, co, none⟩) pg.code.length cc) /\ H + 1 < X.heap.size) /\ (X.cell? ⟨H + 1 + 1, 0, none⟩ = some (.int .i64 x.op) /\ X.cell? ⟨H + 1 + 1, 1, none⟩ = some (.int .i64 x.a) /\ X.cell? ⟨H + 1 + 1, 2, none⟩ = some (.int .i64 x.b) /\ X.cell? ⟨H + 1 + 1, 3, none⟩ = some (.slice ka x.list.length kc) /\ H + 1 + 1 < X.heap.size)) := ⟨fun X hX => by
  have z1 := (hX.block H (by have := ah q1; have := bb3.size; omega)).trans ((bb3.block H (ah q1)).trans q1)
  have z2 := (hX.block (H + 1) (by have := ah q2; have := bb3.size; omega)).trans ((bb3.block (H + 1) (ah q2)).trans q2)
  have z3 := (hX.block (H + 1 + 1) (ah q3)).trans q3
  exact ⟨bb13.trans (hX.mono bb13.size), ⟨aa z1 rfl, aa z1 rfl, ah z1⟩, ⟨aa z2 rfl, aa z2 rfl, aa z2 rfl, ah z2⟩, ⟨aa z3 rfl, aa z3 rfl, aa z3 rfl, aa z3 rfl, ah z3⟩⟩⟩
 obtain ⟨x00, ⟨u0, u1, u2⟩, ⟨g0, g1, g2, g3⟩, ⟨i0, i1, i2, i3, i4⟩⟩ := HX.out w3 (Below.refl _ _)
 have HWR : Bx _ := ⟨hW w3 ka kc bb13 (hks.below bb13)⟩
 have HB3 : Bx (Below w.heap.size w w3) := ⟨bb13⟩
 have hlm := hks.max
 have hlc := hks.cap
 unfold maxLen at hlm
 have HKL : Bx (∀ X, Below w3.heap.size w3 X -> aF X w.heap.size ka kc x.list) := ⟨fun X hX => hks.below (bb13.trans (hX.mono bb13.size))⟩
 have hwl : IntKind.i64.wrap ((pg.code.length : Int) - 1) = (pg.code.length : Int) - 1 := by rw [IntKind.wrap_i64]; omega
 have hws : IntKind.i64.wrap (pg.slots - 1) = pg.slots - 1 := by rw [IntKind.wrap_i64]; omega
 have hwc : IntKind.i64.wrap (pg.caps - 1) = pg.caps - 1 := by rw [IntKind.wrap_i64]; omega
 have hwi : IntKind.i64.wrap ((i : Int) + 1) = (i : Int) + 1 := by rw [IntKind.wrap_i64]; omega
 have hcp0 : w2.cell? ⟨H + 1, 4, none⟩ = some (.slice (some ⟨cb, co, none⟩) pg.code.length cc) := m0
 unfold unV aR pgC at *
 unfold aW at hw3
 have b4 : (x.op == 4) = false := by simp; omega
 have b5 : (x.op == 5) = false := by simp; omega
 have b6 : (x.op == 6) = true := by simpa using hop
 have HWA : Bx (∀ X, Calls Tryd.prog 23 #[.int .i64 x.a, .int .i64 (0 : Int), .int .i64 (pg.slots - 1)] X fun e w' => e = .returned (.bool (decide ((0 : Int) <= x.a) && decide (x.a <= (pg.slots - 1)))) /\ X = w') := ⟨fun X => aA x.a _ _ X⟩
 obtain ⟨wv, hwv⟩ : ∃ wv, (decide ((0 : Int) <= x.a) && decide (x.a <= (pg.slots - 1))) = wv := ⟨_, rfl⟩
 rw [hwv] at HWA ⊢
 clear hwv
 clear hc hW hks HC bb1 bb2 bb3 q1 q2 q3 bb12 bb13 x00 m0 hxx hop
 cases wv with
 | true =>
  go_enter Tryd.func24, Tryd.ntmps24
  go_wp2_with (first
   | (go_at_call 37; refine HWR.out.mono ?_; rintro e w4 ⟨rfl, hb4⟩; clear HWR; obtain ⟨_, ⟨v0, v1, v2⟩, ⟨h0, h1, h2, h3⟩, ⟨j0, j1, j2, j3, j4⟩⟩ := HX.out w4 hb4.out)
   | (go_at_call 23; refine (HWA.out _).mono ?_; rintro e z3 ⟨rfl, rfl⟩; clear HWA)
   | fail)
  go_ret
  exact ⟨rfl, ⟨by first | exact HB3.out.trans (hb4.out.mono HB3.out.size) | (rw [← hH]; exact HB3.out.trans (hb4.out.mono HB3.out.size))⟩⟩
 | false =>
  go_enter Tryd.func24, Tryd.ntmps24
  go_wp2_with (first
   | (go_at_call 37; refine HWR.out.mono ?_; rintro e w4 ⟨rfl, hb4⟩; clear HWR; obtain ⟨_, ⟨v0, v1, v2⟩, ⟨h0, h1, h2, h3⟩, ⟨j0, j1, j2, j3, j4⟩⟩ := HX.out w4 hb4.out)
   | (go_at_call 23; refine (HWA.out _).mono ?_; rintro e z3 ⟨rfl, rfl⟩; clear HWA)
   | fail)
  go_ret
  exact ⟨rfl, ⟨by first | exact HB3.out.trans (hb4.out.mono HB3.out.size) | (rw [← hH]; exact HB3.out.trans (hb4.out.mono HB3.out.size))⟩⟩
theorem uL (w : World) (u : CUn) (pa ta : Option Addr) (pc tc : Nat) (pg : CPg) (ca : Option Addr) (cc : Nat) (hc : Row (cu w w.heap.size) w.heap.size 4 ca cc pg.code) (hcl : pg.code.length <= 268435456) (hs1 : 0 <= pg.slots /\ pg.slots <= 65536) (hs2 : 0 <= pg.caps /\ pg.caps <= 65536) (i : Nat) (hi : i < pg.code.length) (x : CIn) (hx : pg.code[i] = x) (hll : x.list.length <= 281474976710656) (wb : Bool) (hW : ∀ X ka kc, Below w.heap.size w X -> aF X w.heap.size ka kc x.list -> Calls Tryd.prog 37 #[unV u pa pc ta tc, aR x ka kc] X fun e w' => e = .returned (.bool wb) /\ Bx (Below X.heap.size X w')) (hb : wb = false) (hop : x.op = 16) : Calls Tryd.prog 24 #[unV u pa pc ta tc, .agg (pgC pg ca cc), .int .i64 (i : Nat)] w fun e w' => e = .returned (.int .i64 (if (decide ((0 : Int) <= x.a) && decide (x.a <= (pg.slots - 1))) = true then 0 else 93)) /\ Bx (Below w.heap.size w w') := by
 subst hb
 subst hx
 obtain ⟨cb, co, ka, kc, rfl, hcb, hks, HC⟩ := bF hc hi
 have hcc := hc.cap
 generalize hxx : pg.code[i] = x at *
 obtain ⟨H, hH⟩ : ∃ H, w.heap.size = H := ⟨_, rfl⟩
 obtain ⟨w1, hw1⟩ : ∃ w1, w.alloc (.cells #[.slice pa u.ae.length pc, .slice ta u.types.length tc] 25) = w1 := ⟨_, rfl⟩
 obtain ⟨w2, hw2⟩ : ∃ w2, w1.alloc (.cells (pgC pg (some ⟨cb, co, none⟩) cc) 40) = w2 := ⟨_, rfl⟩
 obtain ⟨w3, hw3⟩ : ∃ w3, w2.alloc (.cells (aW x ka kc) 43) = w3 := ⟨_, rfl⟩
 have bb1 : Below w.heap.size w w1 := by rw [← hw1]; exact ak w _
 have bb2 : Below w1.heap.size w1 w2 := by rw [← hw2]; exact ak w1 _
 have bb3 : Below w2.heap.size w2 w3 := by rw [← hw3]; exact ak w2 _
 have e1 : w1.heap.size = H + 1 := by rw [← hw1]; simp [hH]
 have e2 : w2.heap.size = H + 1 + 1 := by rw [← hw2]; simp [e1]
 have q1 : w2.heap[H]? = some (.cells #[.slice pa u.ae.length pc, .slice ta u.types.length tc] 25 (0, 0)) := (bb2.block H (by omega)).trans (by rw [← hw1]; exact aj _ _ _ hH)
 have q2 : w2.heap[H + 1]? = some (.cells (pgC pg (some ⟨cb, co, none⟩) cc) 40 (0, 0)) := by rw [← hw2]; exact aj _ _ _ e1
 have q3 : w3.heap[H + 1 + 1]? = some (.cells (aW x ka kc) 43 (0, 0)) := by rw [← hw3]; exact aj _ _ _ e2
 have bb12 : Below w.heap.size w w2 := bb1.trans (bb2.mono bb1.size)
 have bb13 : Below w.heap.size w w3 := bb12.trans (bb3.mono bb12.size)
 have m0 := aa (i := 4) q2 rfl
 have hm1 : H + 1 < w2.heap.size := ah q2
 obtain ⟨c0, c1, c2, c3⟩ := HC.out w2 bb12
 have hcb2 : cb < w2.heap.size := by omega
 have hiI : (i : Int) < (pg.code.length : Int) := by omega
 have HX : Bx (∀ X, Below w3.heap.size w3 X -> Below w.heap.size w X /\ (X.cell? ⟨H, 0, none⟩ = some (.slice pa u.ae.length pc) /\ X.cell? ⟨H, 1, none⟩ = some (.slice ta u.types.length tc) /\ H < X.heap.size) /\ (X.cell? ⟨H + 1, 1, none⟩ = some (.int .i64 pg.slots) /\ X.cell? ⟨H + 1, 2, none⟩ = some (.int .i64 pg.caps) /\ X.cell? ⟨H + 1, 4, none⟩ = some (.slice (some ⟨cb, co, none⟩) pg.code.length cc) /\ H + 1 < X.heap.size) /\ (X.cell? ⟨H + 1 + 1, 0, none⟩ = some (.int .i64 x.op) /\ X.cell? ⟨H + 1 + 1, 1, none⟩ = some (.int .i64 x.a) /\ X.cell? ⟨H + 1 + 1, 2, none⟩ = some (.int .i64 x.b) /\ X.cell? ⟨H + 1 + 1, 3, none⟩ = some (.slice ka x.list.length kc) /\ H + 1 + 1 < X.heap.size)) := ⟨fun X hX => by
  have z1 := (hX.block H (by have := ah q1; have := bb3.size; omega)).trans ((bb3.block H (ah q1)).trans q1)
  have z2 := (hX.block (H + 1) (by have := ah q2; have := bb3.size; omega)).trans ((bb3.block (H + 1) (ah q2)).trans q2)
  have z3 := (hX.block (H + 1 + 1) (ah q3)).trans q3
  exact ⟨bb13.trans (hX.mono bb13.size), ⟨aa z1 rfl, aa z1 rfl, ah z1⟩, ⟨aa z2 rfl, aa z2 rfl, aa z2 rfl, ah z2⟩, ⟨aa z3 rfl, aa z3 rfl, aa z3 rfl, aa z3 rfl, ah z3⟩⟩⟩
 obtain ⟨x00, ⟨u0, u1, u2⟩, ⟨g0, g1, g2, g3⟩, ⟨i0, i1, i2, i3, i4⟩⟩ := HX.out w3 (Below.refl _ _)
 have HWR : Bx _ := ⟨hW w3 ka kc bb13 (hks.below bb13)⟩
 have HB3 : Bx (Below w.heap.size w w3) := ⟨bb13⟩
 have hlm := hks.max
 have hlc := hks.cap
 unfold maxLen at hlm
 have HKL : Bx (∀ X, Below w3.heap.size w3 X -> aF X w.heap.size ka kc x.list) := ⟨fun X hX => hks.below (bb13.trans (hX.mono bb13.size))⟩
 have hwl : IntKind.i64.wrap ((pg.code.length : Int) - 1) = (pg.code.length : Int) - 1 := by rw [IntKind.wrap_i64]; omega
 have hws : IntKind.i64.wrap (pg.slots - 1) = pg.slots - 1 := by rw [IntKind.wrap_i64]; omega
 have hwc : IntKind.i64.wrap (pg.caps - 1) = pg.caps - 1 := by rw [IntKind.wrap_i64]; omega
 have hwi : IntKind.i64.wrap ((i : Int) + 1) = (i : Int) + 1 := by rw [IntKind.wrap_i64]; omega
 have hcp0 : w2.cell? ⟨H + 1, 4, none⟩ = some (.slice (some ⟨cb, co, none⟩) pg.code.length cc) := m0
 unfold unV aR pgC at *
 unfold aW at hw3
 have b4 : (x.op == 4) = false := by simp; omega
 have b5 : (x.op == 5) = false := by simp; omega
 have b6 : (x.op == 6) = false := by simp; omega
 have b16 : (x.op == 16) = true := by simpa using hop
 have HWA : Bx (∀ X, Calls Tryd.prog 23 #[.int .i64 x.a, .int .i64 (0 : Int), .int .i64 (pg.slots - 1)] X fun e w' => e = .returned (.bool (decide ((0 : Int) <= x.a) && decide (x.a <= (pg.slots - 1)))) /\ X = w') := ⟨fun X => aA x.a _ _ X⟩
 obtain ⟨wv, hwv⟩ : ∃ wv, (decide ((0 : Int) <= x.a) && decide (x.a <= (pg.slots - 1))) = wv := ⟨_, rfl⟩
 rw [hwv] at HWA ⊢
 clear hwv
 clear hc hW hks HC bb1 bb2 bb3 q1 q2 q3 bb12 bb13 x00 m0 hxx hop
 cases wv with
 | true =>
  go_enter Tryd.func24, Tryd.ntmps24
  go_wp2_with (first
   | (go_at_call 37; refine HWR.out.mono ?_; rintro e w4 ⟨rfl, hb4⟩; clear HWR; obtain ⟨_, ⟨v0, v1, v2⟩, ⟨h0, h1, h2, h3⟩, ⟨j0, j1, j2, j3, j4⟩⟩ := HX.out w4 hb4.out)
   | (go_at_call 23; refine (HWA.out _).mono ?_; rintro e z3 ⟨rfl, rfl⟩; clear HWA)
   | fail)
  go_ret
  exact ⟨rfl, ⟨by first | exact HB3.out.trans (hb4.out.mono HB3.out.size) | (rw [← hH]; exact HB3.out.trans (hb4.out.mono HB3.out.size))⟩⟩
 | false =>
  go_enter Tryd.func24, Tryd.ntmps24
  go_wp2_with (first
   | (go_at_call 37; refine HWR.out.mono ?_; rintro e w4 ⟨rfl, hb4⟩; clear HWR; obtain ⟨_, ⟨v0, v1, v2⟩, ⟨h0, h1, h2, h3⟩, ⟨j0, j1, j2, j3, j4⟩⟩ := HX.out w4 hb4.out)
   | (go_at_call 23; refine (HWA.out _).mono ?_; rintro e z3 ⟨rfl, rfl⟩; clear HWA)
   | fail)
  go_ret
  exact ⟨rfl, ⟨by first | exact HB3.out.trans (hb4.out.mono HB3.out.size) | (rw [← hH]; exact HB3.out.trans (hb4.out.mono HB3.out.size))⟩⟩
theorem yl (w : World) (u : CUn) (pa ta : Option Addr) (pc tc : Nat) (pg : CPg) (ca : Option Addr) (cc : Nat) (hc : Row (cu w w.heap.size) w.heap.size 4 ca cc pg.code) (hcl : pg.code.length <= 268435456) (hs1 : 0 <= pg.slots /\ pg.slots <= 65536) (hs2 : 0 <= pg.caps /\ pg.caps <= 65536) (i : Nat) (hi : i < pg.code.length) (x : CIn) (hx : pg.code[i] = x) (hll : x.list.length <= 281474976710656) (wb : Bool) (hW : ∀ X ka kc, Below w.heap.size w X -> aF X w.heap.size ka kc x.list -> Calls Tryd.prog 37 #[unV u pa pc ta tc, aR x ka kc] X fun e w' => e = .returned (.bool wb) /\ Bx (Below X.heap.size X w')) (hb : wb = false) (hop : x.op = 7) : Calls Tryd.prog 24 #[unV u pa pc ta tc, .agg (pgC pg ca cc), .int .i64 (i : Nat)] w fun e w' => e = .returned (.int .i64 (if (decide ((0 : Int) <= x.a) && decide (x.a <= (pg.caps - 1))) = true then 0 else 93)) /\ Bx (Below w.heap.size w w') := by
 subst hb
 subst hx
 obtain ⟨cb, co, ka, kc, rfl, hcb, hks, HC⟩ := bF hc hi
 have hcc := hc.cap
 generalize hxx : pg.code[i] = x at *
 obtain ⟨H, hH⟩ : ∃ H, w.heap.size = H := ⟨_, rfl⟩
 obtain ⟨w1, hw1⟩ : ∃ w1, w.alloc (.cells #[.slice pa u.ae.length pc, .slice ta u.types.length tc] 25) = w1 := ⟨_, rfl⟩
 obtain ⟨w2, hw2⟩ : ∃ w2, w1.alloc (.cells (pgC pg (some ⟨cb, co, none⟩) cc) 40) = w2 := ⟨_, rfl⟩
 obtain ⟨w3, hw3⟩ : ∃ w3, w2.alloc (.cells (aW x ka kc) 43) = w3 := ⟨_, rfl⟩
 have bb1 : Below w.heap.size w w1 := by rw [← hw1]; exact ak w _
 have bb2 : Below w1.heap.size w1 w2 := by rw [← hw2]; exact ak w1 _
 have bb3 : Below w2.heap.size w2 w3 := by rw [← hw3]; exact ak w2 _
 have e1 : w1.heap.size = H + 1 := by rw [← hw1]; simp [hH]
 have e2 : w2.heap.size = H + 1 + 1 := by rw [← hw2]; simp [e1]
 have q1 : w2.heap[H]? = some (.cells #[.slice pa u.ae.length pc, .slice ta u.types.length tc] 25 (0, 0)) := (bb2.block H (by omega)).trans (by rw [← hw1]; exact aj _ _ _ hH)
 have q2 : w2.heap[H + 1]? = some (.cells (pgC pg (some ⟨cb, co, none⟩) cc) 40 (0, 0)) := by rw [← hw2]; exact aj _ _ _ e1
 have q3 : w3.heap[H + 1 + 1]? = some (.cells (aW x ka kc) 43 (0, 0)) := by rw [← hw3]; exact aj _ _ _ e2
 have bb12 : Below w.heap.size w w2 := bb1.trans (bb2.mono bb1.size)
 have bb13 : Below w.heap.size w w3 := bb12.trans (bb3.mono bb12.size)
 have m0 := aa (i := 4) q2 rfl
 have hm1 : H + 1 < w2.heap.size := ah q2
 obtain ⟨c0, c1, c2, c3⟩ := HC.out w2 bb12
 have hcb2 : cb < w2.heap.size := by omega
 have hiI : (i : Int) < (pg.code.length : Int) := by omega
 have HX : Bx (∀ X, Below w3.heap.size w3 X -> Below w.heap.size w X /\ (X.cell? ⟨H, 0, none⟩ = some (.slice pa u.ae.length pc) /\ X.cell? ⟨H, 1, none⟩ = some (.slice ta u.types.length tc) /\ H < X.heap.size) /\ (X.cell? ⟨H + 1, 1, none⟩ = some (.int .i64 pg.slots) /\ X.cell? ⟨H + 1, 2, none⟩ = some (.int .i64 pg.caps) /\ X.cell? ⟨H + 1, 4, none⟩ = some (.slice (some ⟨cb, co, none⟩) pg.code.length cc) /\ H + 1 < X.heap.size) /\ (X.cell? ⟨H + 1 + 1, 0, none⟩ = some (.int .i64 x.op) /\ X.cell? ⟨H + 1 + 1, 1, none⟩ = some (.int .i64 x.a) /\ X.cell? ⟨H + 1 + 1, 2, none⟩ = some (.int .i64 x.b) /\ X.cell? ⟨H + 1 + 1, 3, none⟩ = some (.slice ka x.list.length kc) /\ H + 1 + 1 < X.heap.size)) := ⟨fun X hX => by
  have z1 := (hX.block H (by have := ah q1; have := bb3.size; omega)).trans ((bb3.block H (ah q1)).trans q1)
  have z2 := (hX.block (H + 1) (by have := ah q2; have := bb3.size; omega)).trans ((bb3.block (H + 1) (ah q2)).trans q2)
  have z3 := (hX.block (H + 1 + 1) (ah q3)).trans q3
  exact ⟨bb13.trans (hX.mono bb13.size), ⟨aa z1 rfl, aa z1 rfl, ah z1⟩, ⟨aa z2 rfl, aa z2 rfl, aa z2 rfl, ah z2⟩, ⟨aa z3 rfl, aa z3 rfl, aa z3 rfl, aa z3 rfl, ah z3⟩⟩⟩
 obtain ⟨x00, ⟨u0, u1, u2⟩, ⟨g0, g1, g2, g3⟩, ⟨i0, i1, i2, i3, i4⟩⟩ := HX.out w3 (Below.refl _ _)
 have HWR : Bx _ := ⟨hW w3 ka kc bb13 (hks.below bb13)⟩
 have HB3 : Bx (Below w.heap.size w w3) := ⟨bb13⟩
 have hlm := hks.max
 have hlc := hks.cap
 unfold maxLen at hlm
 have HKL : Bx (∀ X, Below w3.heap.size w3 X -> aF X w.heap.size ka kc x.list) := ⟨fun X hX => hks.below (bb13.trans (hX.mono bb13.size))⟩
 have hwl : IntKind.i64.wrap ((pg.code.length : Int) - 1) = (pg.code.length : Int) - 1 := by rw [IntKind.wrap_i64]; omega
 have hws : IntKind.i64.wrap (pg.slots - 1) = pg.slots - 1 := by rw [IntKind.wrap_i64]; omega
 have hwc : IntKind.i64.wrap (pg.caps - 1) = pg.caps - 1 := by rw [IntKind.wrap_i64]; omega
 have hwi : IntKind.i64.wrap ((i : Int) + 1) = (i : Int) + 1 := by rw [IntKind.wrap_i64]; omega
 have hcp0 : w2.cell? ⟨H + 1, 4, none⟩ = some (.slice (some ⟨cb, co, none⟩) pg.code.length cc) := m0
 unfold unV aR pgC at *
 unfold aW at hw3
 have b4 : (x.op == 4) = false := by simp; omega
 have b5 : (x.op == 5) = false := by simp; omega
 have b6 : (x.op == 6) = false := by simp; omega
 have b16 : (x.op == 16) = false := by simp; omega
 have b7 : (x.op == 7) = true := by simpa using hop
 have HWA : Bx (∀ X, Calls Tryd.prog 23 #[.int .i64 x.a, .int .i64 (0 : Int), .int .i64 (pg.caps - 1)] X fun e w' => e = .returned (.bool (decide ((0 : Int) <= x.a) && decide (x.a <= (pg.caps - 1)))) /\ X = w') := ⟨fun X => aA x.a _ _ X⟩
 obtain ⟨wv, hwv⟩ : ∃ wv, (decide ((0 : Int) <= x.a) && decide (x.a <= (pg.caps - 1))) = wv := ⟨_, rfl⟩
 rw [hwv] at HWA ⊢
 clear hwv
 clear hc hW hks HC bb1 bb2 bb3 q1 q2 q3 bb12 bb13 x00 m0 hxx hop
 cases wv with
 | true =>
  go_enter Tryd.func24, Tryd.ntmps24
  go_wp2_with (first
   | (go_at_call 37; refine HWR.out.mono ?_; rintro e w4 ⟨rfl, hb4⟩; clear HWR; obtain ⟨_, ⟨v0, v1, v2⟩, ⟨h0, h1, h2, h3⟩, ⟨j0, j1, j2, j3, j4⟩⟩ := HX.out w4 hb4.out)
   | (go_at_call 23; refine (HWA.out _).mono ?_; rintro e z3 ⟨rfl, rfl⟩; clear HWA)
   | fail)
  go_ret
  exact ⟨rfl, ⟨by first | exact HB3.out.trans (hb4.out.mono HB3.out.size) | (rw [← hH]; exact HB3.out.trans (hb4.out.mono HB3.out.size))⟩⟩
 | false =>
  go_enter Tryd.func24, Tryd.ntmps24
  go_wp2_with (first
   | (go_at_call 37; refine HWR.out.mono ?_; rintro e w4 ⟨rfl, hb4⟩; clear HWR; obtain ⟨_, ⟨v0, v1, v2⟩, ⟨h0, h1, h2, h3⟩, ⟨j0, j1, j2, j3, j4⟩⟩ := HX.out w4 hb4.out)
   | (go_at_call 23; refine (HWA.out _).mono ?_; rintro e z3 ⟨rfl, rfl⟩; clear HWA)
   | fail)
  go_ret
  exact ⟨rfl, ⟨by first | exact HB3.out.trans (hb4.out.mono HB3.out.size) | (rw [← hH]; exact HB3.out.trans (hb4.out.mono HB3.out.size))⟩⟩
theorem uM (w : World) (u : CUn) (pa ta : Option Addr) (pc tc : Nat) (pg : CPg) (ca : Option Addr) (cc : Nat) (hc : Row (cu w w.heap.size) w.heap.size 4 ca cc pg.code) (hcl : pg.code.length <= 268435456) (hs1 : 0 <= pg.slots /\ pg.slots <= 65536) (hs2 : 0 <= pg.caps /\ pg.caps <= 65536) (i : Nat) (hi : i < pg.code.length) (x : CIn) (hx : pg.code[i] = x) (hll : x.list.length <= 281474976710656) (wb : Bool) (hW : ∀ X ka kc, Below w.heap.size w X -> aF X w.heap.size ka kc x.list -> Calls Tryd.prog 37 #[unV u pa pc ta tc, aR x ka kc] X fun e w' => e = .returned (.bool wb) /\ Bx (Below X.heap.size X w')) (hb : wb = false) (hop : x.op = 19) : Calls Tryd.prog 24 #[unV u pa pc ta tc, .agg (pgC pg ca cc), .int .i64 (i : Nat)] w fun e w' => e = .returned (.int .i64 (if (decide (((i : Int) + 1) <= x.a) && decide (x.a <= ((pg.code.length : Int) - 1))) = true then 0 else 92)) /\ Bx (Below w.heap.size w w') := by
 subst hb
 subst hx
 obtain ⟨cb, co, ka, kc, rfl, hcb, hks, HC⟩ := bF hc hi
 have hcc := hc.cap
 generalize hxx : pg.code[i] = x at *
 obtain ⟨H, hH⟩ : ∃ H, w.heap.size = H := ⟨_, rfl⟩
 obtain ⟨w1, hw1⟩ : ∃ w1, w.alloc (.cells #[.slice pa u.ae.length pc, .slice ta u.types.length tc] 25) = w1 := ⟨_, rfl⟩
 obtain ⟨w2, hw2⟩ : ∃ w2, w1.alloc (.cells (pgC pg (some ⟨cb, co, none⟩) cc) 40) = w2 := ⟨_, rfl⟩
 obtain ⟨w3, hw3⟩ : ∃ w3, w2.alloc (.cells (aW x ka kc) 43) = w3 := ⟨_, rfl⟩
 have bb1 : Below w.heap.size w w1 := by rw [← hw1]; exact ak w _
 have bb2 : Below w1.heap.size w1 w2 := by rw [← hw2]; exact ak w1 _
 have bb3 : Below w2.heap.size w2 w3 := by rw [← hw3]; exact ak w2 _
 have e1 : w1.heap.size = H + 1 := by rw [← hw1]; simp [hH]
 have e2 : w2.heap.size = H + 1 + 1 := by rw [← hw2]; simp [e1]
 have q1 : w2.heap[H]? = some (.cells #[.slice pa u.ae.length pc, .slice ta u.types.length tc] 25 (0, 0)) := (bb2.block H (by omega)).trans (by rw [← hw1]; exact aj _ _ _ hH)
 have q2 : w2.heap[H + 1]? = some (.cells (pgC pg (some ⟨cb, co, none⟩) cc) 40 (0, 0)) := by rw [← hw2]; exact aj _ _ _ e1
 have q3 : w3.heap[H + 1 + 1]? = some (.cells (aW x ka kc) 43 (0, 0)) := by rw [← hw3]; exact aj _ _ _ e2
 have bb12 : Below w.heap.size w w2 := bb1.trans (bb2.mono bb1.size)
 have bb13 : Below w.heap.size w w3 := bb12.trans (bb3.mono bb12.size)
 have m0 := aa (i := 4) q2 rfl
 have hm1 : H + 1 < w2.heap.size := ah q2
 obtain ⟨c0, c1, c2, c3⟩ := HC.out w2 bb12
 have hcb2 : cb < w2.heap.size := by omega
 have hiI : (i : Int) < (pg.code.length : Int) := by omega
 have HX : Bx (∀ X, Below w3.heap.size w3 X -> Below w.heap.size w X /\ (X.cell? ⟨H, 0, none⟩ = some (.slice pa u.ae.length pc) /\ X.cell? ⟨H, 1, none⟩ = some (.slice ta u.types.length tc) /\ H < X.heap.size) /\ (X.cell? ⟨H + 1, 1, none⟩ = some (.int .i64 pg.slots) /\ X.cell? ⟨H + 1, 2, none⟩ = some (.int .i64 pg.caps) /\ X.cell? ⟨H + 1, 4, none⟩ = some (.slice (some ⟨cb, co, none⟩) pg.code.length cc) /\ H + 1 < X.heap.size) /\ (X.cell? ⟨H + 1 + 1, 0, none⟩ = some (.int .i64 x.op) /\ X.cell? ⟨H + 1 + 1, 1, none⟩ = some (.int .i64 x.a) /\ X.cell? ⟨H + 1 + 1, 2, none⟩ = some (.int .i64 x.b) /\ X.cell? ⟨H + 1 + 1, 3, none⟩ = some (.slice ka x.list.length kc) /\ H + 1 + 1 < X.heap.size)) := ⟨fun X hX => by
  have z1 := (hX.block H (by have := ah q1; have := bb3.size; omega)).trans ((bb3.block H (ah q1)).trans q1)
  have z2 := (hX.block (H + 1) (by have := ah q2; have := bb3.size; omega)).trans ((bb3.block (H + 1) (ah q2)).trans q2)
  have z3 := (hX.block (H + 1 + 1) (ah q3)).trans q3
  exact ⟨bb13.trans (hX.mono bb13.size), ⟨aa z1 rfl, aa z1 rfl, ah z1⟩, ⟨aa z2 rfl, aa z2 rfl, aa z2 rfl, ah z2⟩, ⟨aa z3 rfl, aa z3 rfl, aa z3 rfl, aa z3 rfl, ah z3⟩⟩⟩
 obtain ⟨x00, ⟨u0, u1, u2⟩, ⟨g0, g1, g2, g3⟩, ⟨i0, i1, i2, i3, i4⟩⟩ := HX.out w3 (Below.refl _ _)
 have HWR : Bx _ := ⟨hW w3 ka kc bb13 (hks.below bb13)⟩
 have HB3 : Bx (Below w.heap.size w w3) := ⟨bb13⟩
 have hlm := hks.max
 have hlc := hks.cap
 unfold maxLen at hlm
 have HKL : Bx (∀ X, Below w3.heap.size w3 X -> aF X w.heap.size ka kc x.list) := ⟨fun X hX => hks.below (bb13.trans (hX.mono bb13.size))⟩
 have hwl : IntKind.i64.wrap ((pg.code.length : Int) - 1) = (pg.code.length : Int) - 1 := by rw [IntKind.wrap_i64]; omega
 have hws : IntKind.i64.wrap (pg.slots - 1) = pg.slots - 1 := by rw [IntKind.wrap_i64]; omega
 have hwc : IntKind.i64.wrap (pg.caps - 1) = pg.caps - 1 := by rw [IntKind.wrap_i64]; omega
 have hwi : IntKind.i64.wrap ((i : Int) + 1) = (i : Int) + 1 := by rw [IntKind.wrap_i64]; omega
 have hcp0 : w2.cell? ⟨H + 1, 4, none⟩ = some (.slice (some ⟨cb, co, none⟩) pg.code.length cc) := m0
 unfold unV aR pgC at *
 unfold aW at hw3
 have b4 : (x.op == 4) = false := by simp; omega
 have b5 : (x.op == 5) = false := by simp; omega
 have b6 : (x.op == 6) = false := by simp; omega
 have b16 : (x.op == 16) = false := by simp; omega
 have b7 : (x.op == 7) = false := by simp; omega
 have b19 : (x.op == 19) = true := by simpa using hop
 have HWA : Bx (∀ X, Calls Tryd.prog 23 #[.int .i64 x.a, .int .i64 ((i : Int) + 1), .int .i64 ((pg.code.length : Int) - 1)] X fun e w' => e = .returned (.bool (decide (((i : Int) + 1) <= x.a) && decide (x.a <= ((pg.code.length : Int) - 1)))) /\ X = w') := ⟨fun X => aA x.a _ _ X⟩
 obtain ⟨wv, hwv⟩ : ∃ wv, (decide (((i : Int) + 1) <= x.a) && decide (x.a <= ((pg.code.length : Int) - 1))) = wv := ⟨_, rfl⟩
 rw [hwv] at HWA ⊢
 clear hwv
 clear hc hW hks HC bb1 bb2 bb3 q1 q2 q3 bb12 bb13 x00 m0 hxx hop
 cases wv with
 | true =>
  go_enter Tryd.func24, Tryd.ntmps24
  go_wp2_with (first
   | (go_at_call 37; refine HWR.out.mono ?_; rintro e w4 ⟨rfl, hb4⟩; clear HWR; obtain ⟨_, ⟨v0, v1, v2⟩, ⟨h0, h1, h2, h3⟩, ⟨j0, j1, j2, j3, j4⟩⟩ := HX.out w4 hb4.out)
   | (go_at_call 23; refine (HWA.out _).mono ?_; rintro e z3 ⟨rfl, rfl⟩; clear HWA)
   | fail)
  go_ret
  exact ⟨rfl, ⟨by first | exact HB3.out.trans (hb4.out.mono HB3.out.size) | (rw [← hH]; exact HB3.out.trans (hb4.out.mono HB3.out.size))⟩⟩
 | false =>
  go_enter Tryd.func24, Tryd.ntmps24
  go_wp2_with (first
   | (go_at_call 37; refine HWR.out.mono ?_; rintro e w4 ⟨rfl, hb4⟩; clear HWR; obtain ⟨_, ⟨v0, v1, v2⟩, ⟨h0, h1, h2, h3⟩, ⟨j0, j1, j2, j3, j4⟩⟩ := HX.out w4 hb4.out)
   | (go_at_call 23; refine (HWA.out _).mono ?_; rintro e z3 ⟨rfl, rfl⟩; clear HWA)
   | fail)
  go_ret
  exact ⟨rfl, ⟨by first | exact HB3.out.trans (hb4.out.mono HB3.out.size) | (rw [← hH]; exact HB3.out.trans (hb4.out.mono HB3.out.size))⟩⟩
theorem uN (w : World) (u : CUn) (pa ta : Option Addr) (pc tc : Nat) (pg : CPg) (ca : Option Addr) (cc : Nat) (hc : Row (cu w w.heap.size) w.heap.size 4 ca cc pg.code) (hcl : pg.code.length <= 268435456) (hs1 : 0 <= pg.slots /\ pg.slots <= 65536) (hs2 : 0 <= pg.caps /\ pg.caps <= 65536) (i : Nat) (hi : i < pg.code.length) (x : CIn) (hx : pg.code[i] = x) (hll : x.list.length <= 281474976710656) (wb : Bool) (hW : ∀ X ka kc, Below w.heap.size w X -> aF X w.heap.size ka kc x.list -> Calls Tryd.prog 37 #[unV u pa pc ta tc, aR x ka kc] X fun e w' => e = .returned (.bool wb) /\ Bx (Below X.heap.size X w')) (hb : wb = false) (hop : x.op = 20) : Calls Tryd.prog 24 #[unV u pa pc ta tc, .agg (pgC pg ca cc), .int .i64 (i : Nat)] w fun e w' => e = .returned (.int .i64 (if (decide (((i : Int) + 1) <= x.a) && decide (x.a <= ((pg.code.length : Int) - 1))) = true then 0 else 92)) /\ Bx (Below w.heap.size w w') := by
 subst hb
 subst hx
 obtain ⟨cb, co, ka, kc, rfl, hcb, hks, HC⟩ := bF hc hi
 have hcc := hc.cap
 generalize hxx : pg.code[i] = x at *
 obtain ⟨H, hH⟩ : ∃ H, w.heap.size = H := ⟨_, rfl⟩
 obtain ⟨w1, hw1⟩ : ∃ w1, w.alloc (.cells #[.slice pa u.ae.length pc, .slice ta u.types.length tc] 25) = w1 := ⟨_, rfl⟩
 obtain ⟨w2, hw2⟩ : ∃ w2, w1.alloc (.cells (pgC pg (some ⟨cb, co, none⟩) cc) 40) = w2 := ⟨_, rfl⟩
 obtain ⟨w3, hw3⟩ : ∃ w3, w2.alloc (.cells (aW x ka kc) 43) = w3 := ⟨_, rfl⟩
 have bb1 : Below w.heap.size w w1 := by rw [← hw1]; exact ak w _
 have bb2 : Below w1.heap.size w1 w2 := by rw [← hw2]; exact ak w1 _
 have bb3 : Below w2.heap.size w2 w3 := by rw [← hw3]; exact ak w2 _
 have e1 : w1.heap.size = H + 1 := by rw [← hw1]; simp [hH]
 have e2 : w2.heap.size = H + 1 + 1 := by rw [← hw2]; simp [e1]
 have q1 : w2.heap[H]? = some (.cells #[.slice pa u.ae.length pc, .slice ta u.types.length tc] 25 (0, 0)) := (bb2.block H (by omega)).trans (by rw [← hw1]; exact aj _ _ _ hH)
 have q2 : w2.heap[H + 1]? = some (.cells (pgC pg (some ⟨cb, co, none⟩) cc) 40 (0, 0)) := by rw [← hw2]; exact aj _ _ _ e1
 have q3 : w3.heap[H + 1 + 1]? = some (.cells (aW x ka kc) 43 (0, 0)) := by rw [← hw3]; exact aj _ _ _ e2
 have bb12 : Below w.heap.size w w2 := bb1.trans (bb2.mono bb1.size)
 have bb13 : Below w.heap.size w w3 := bb12.trans (bb3.mono bb12.size)
 have m0 := aa (i := 4) q2 rfl
 have hm1 : H + 1 < w2.heap.size := ah q2
 obtain ⟨c0, c1, c2, c3⟩ := HC.out w2 bb12
 have hcb2 : cb < w2.heap.size := by omega
 have hiI : (i : Int) < (pg.code.length : Int) := by omega
 have HX : Bx (∀ X, Below w3.heap.size w3 X -> Below w.heap.size w X /\ (X.cell? ⟨H, 0, none⟩ = some (.slice pa u.ae.length pc) /\ X.cell? ⟨H, 1, none⟩ = some (.slice ta u.types.length tc) /\ H < X.heap.size) /\ (X.cell? ⟨H + 1, 1, none⟩ = some (.int .i64 pg.slots) /\ X.cell? ⟨H + 1, 2, none⟩ = some (.int .i64 pg.caps) /\ X.cell? ⟨H + 1, 4, none⟩ = some (.slice (some ⟨cb, co, none⟩) pg.code.length cc) /\ H + 1 < X.heap.size) /\ (X.cell? ⟨H + 1 + 1, 0, none⟩ = some (.int .i64 x.op) /\ X.cell? ⟨H + 1 + 1, 1, none⟩ = some (.int .i64 x.a) /\ X.cell? ⟨H + 1 + 1, 2, none⟩ = some (.int .i64 x.b) /\ X.cell? ⟨H + 1 + 1, 3, none⟩ = some (.slice ka x.list.length kc) /\ H + 1 + 1 < X.heap.size)) := ⟨fun X hX => by
  have z1 := (hX.block H (by have := ah q1; have := bb3.size; omega)).trans ((bb3.block H (ah q1)).trans q1)
  have z2 := (hX.block (H + 1) (by have := ah q2; have := bb3.size; omega)).trans ((bb3.block (H + 1) (ah q2)).trans q2)
  have z3 := (hX.block (H + 1 + 1) (ah q3)).trans q3
  exact ⟨bb13.trans (hX.mono bb13.size), ⟨aa z1 rfl, aa z1 rfl, ah z1⟩, ⟨aa z2 rfl, aa z2 rfl, aa z2 rfl, ah z2⟩, ⟨aa z3 rfl, aa z3 rfl, aa z3 rfl, aa z3 rfl, ah z3⟩⟩⟩
 obtain ⟨x00, ⟨u0, u1, u2⟩, ⟨g0, g1, g2, g3⟩, ⟨i0, i1, i2, i3, i4⟩⟩ := HX.out w3 (Below.refl _ _)
 have HWR : Bx _ := ⟨hW w3 ka kc bb13 (hks.below bb13)⟩
 have HB3 : Bx (Below w.heap.size w w3) := ⟨bb13⟩
 have hlm := hks.max
 have hlc := hks.cap
 unfold maxLen at hlm
 have HKL : Bx (∀ X, Below w3.heap.size w3 X -> aF X w.heap.size ka kc x.list) := ⟨fun X hX => hks.below (bb13.trans (hX.mono bb13.size))⟩
 have hwl : IntKind.i64.wrap ((pg.code.length : Int) - 1) = (pg.code.length : Int) - 1 := by rw [IntKind.wrap_i64]; omega
 have hws : IntKind.i64.wrap (pg.slots - 1) = pg.slots - 1 := by rw [IntKind.wrap_i64]; omega
 have hwc : IntKind.i64.wrap (pg.caps - 1) = pg.caps - 1 := by rw [IntKind.wrap_i64]; omega
 have hwi : IntKind.i64.wrap ((i : Int) + 1) = (i : Int) + 1 := by rw [IntKind.wrap_i64]; omega
 have hcp0 : w2.cell? ⟨H + 1, 4, none⟩ = some (.slice (some ⟨cb, co, none⟩) pg.code.length cc) := m0
 unfold unV aR pgC at *
 unfold aW at hw3
 have b4 : (x.op == 4) = false := by simp; omega
 have b5 : (x.op == 5) = false := by simp; omega
 have b6 : (x.op == 6) = false := by simp; omega
 have b16 : (x.op == 16) = false := by simp; omega
 have b7 : (x.op == 7) = false := by simp; omega
 have b19 : (x.op == 19) = false := by simp; omega
 have b20 : (x.op == 20) = true := by simpa using hop
 have HWA : Bx (∀ X, Calls Tryd.prog 23 #[.int .i64 x.a, .int .i64 ((i : Int) + 1), .int .i64 ((pg.code.length : Int) - 1)] X fun e w' => e = .returned (.bool (decide (((i : Int) + 1) <= x.a) && decide (x.a <= ((pg.code.length : Int) - 1)))) /\ X = w') := ⟨fun X => aA x.a _ _ X⟩
 obtain ⟨wv, hwv⟩ : ∃ wv, (decide (((i : Int) + 1) <= x.a) && decide (x.a <= ((pg.code.length : Int) - 1))) = wv := ⟨_, rfl⟩
 rw [hwv] at HWA ⊢
 clear hwv
 clear hc hW hks HC bb1 bb2 bb3 q1 q2 q3 bb12 bb13 x00 m0 hxx hop
 cases wv with
 | true =>
  go_enter Tryd.func24, Tryd.ntmps24
  go_wp2_with (first
   | (go_at_call 37; refine HWR.out.mono ?_; rintro e w4 ⟨rfl, hb4⟩; clear HWR; obtain ⟨_, ⟨v0, v1, v2⟩, ⟨h0, h1, h2, h3⟩, ⟨j0, j1, j2, j3, j4⟩⟩ := HX.out w4 hb4.out)
   | (go_at_call 23; refine (HWA.out _).mono ?_; rintro e z3 ⟨rfl, rfl⟩; clear HWA)
   | fail)
  go_ret
  exact ⟨rfl, ⟨by first | exact HB3.out.trans (hb4.out.mono HB3.out.size) | (rw [← hH]; exact HB3.out.trans (hb4.out.mono HB3.out.size))⟩⟩
 | false =>
  go_enter Tryd.func24, Tryd.ntmps24
  go_wp2_with (first
   | (go_at_call 37; refine HWR.out.mono ?_; rintro e w4 ⟨rfl, hb4⟩; clear HWR; obtain ⟨_, ⟨v0, v1, v2⟩, ⟨h0, h1, h2, h3⟩, ⟨j0, j1, j2, j3, j4⟩⟩ := HX.out w4 hb4.out)
   | (go_at_call 23; refine (HWA.out _).mono ?_; rintro e z3 ⟨rfl, rfl⟩; clear HWA)
   | fail)
  go_ret
  exact ⟨rfl, ⟨by first | exact HB3.out.trans (hb4.out.mono HB3.out.size) | (rw [← hH]; exact HB3.out.trans (hb4.out.mono HB3.out.size))⟩⟩
theorem uO (w : World) (u : CUn) (pa ta : Option Addr) (pc tc : Nat) (pg : CPg) (ca : Option Addr) (cc : Nat) (hc : Row (cu w w.heap.size) w.heap.size 4 ca cc pg.code) (hcl : pg.code.length <= 268435456) (hs1 : 0 <= pg.slots /\ pg.slots <= 65536) (hs2 : 0 <= pg.caps /\ pg.caps <= 65536) (i : Nat) (hi : i < pg.code.length) (x : CIn) (hx : pg.code[i] = x) (hll : x.list.length <= 281474976710656) (wb : Bool) (hW : ∀ X ka kc, Below w.heap.size w X -> aF X w.heap.size ka kc x.list -> Calls Tryd.prog 37 #[unV u pa pc ta tc, aR x ka kc] X fun e w' => e = .returned (.bool wb) /\ Bx (Below X.heap.size X w')) (hb : wb = false) (hop : x.op = 21) : Calls Tryd.prog 24 #[unV u pa pc ta tc, .agg (pgC pg ca cc), .int .i64 (i : Nat)] w fun e w' => e = .returned (.int .i64 (if (decide ((0 : Int) <= x.a) && decide (x.a <= (i : Int))) = true then 0 else 92)) /\ Bx (Below w.heap.size w w') := by
 subst hb
 subst hx
 obtain ⟨cb, co, ka, kc, rfl, hcb, hks, HC⟩ := bF hc hi
 have hcc := hc.cap
 generalize hxx : pg.code[i] = x at *
 obtain ⟨H, hH⟩ : ∃ H, w.heap.size = H := ⟨_, rfl⟩
 obtain ⟨w1, hw1⟩ : ∃ w1, w.alloc (.cells #[.slice pa u.ae.length pc, .slice ta u.types.length tc] 25) = w1 := ⟨_, rfl⟩
 obtain ⟨w2, hw2⟩ : ∃ w2, w1.alloc (.cells (pgC pg (some ⟨cb, co, none⟩) cc) 40) = w2 := ⟨_, rfl⟩
 obtain ⟨w3, hw3⟩ : ∃ w3, w2.alloc (.cells (aW x ka kc) 43) = w3 := ⟨_, rfl⟩
 have bb1 : Below w.heap.size w w1 := by rw [← hw1]; exact ak w _
 have bb2 : Below w1.heap.size w1 w2 := by rw [← hw2]; exact ak w1 _
 have bb3 : Below w2.heap.size w2 w3 := by rw [← hw3]; exact ak w2 _
 have e1 : w1.heap.size = H + 1 := by rw [← hw1]; simp [hH]
 have e2 : w2.heap.size = H + 1 + 1 := by rw [← hw2]; simp [e1]
 have q1 : w2.heap[H]? = some (.cells #[.slice pa u.ae.length pc, .slice ta u.types.length tc] 25 (0, 0)) := (bb2.block H (by omega)).trans (by rw [← hw1]; exact aj _ _ _ hH)
 have q2 : w2.heap[H + 1]? = some (.cells (pgC pg (some ⟨cb, co, none⟩) cc) 40 (0, 0)) := by rw [← hw2]; exact aj _ _ _ e1
 have q3 : w3.heap[H + 1 + 1]? = some (.cells (aW x ka kc) 43 (0, 0)) := by rw [← hw3]; exact aj _ _ _ e2
 have bb12 : Below w.heap.size w w2 := bb1.trans (bb2.mono bb1.size)
 have bb13 : Below w.heap.size w w3 := bb12.trans (bb3.mono bb12.size)
 have m0 := aa (i := 4) q2 rfl
 have hm1 : H + 1 < w2.heap.size := ah q2
 obtain ⟨c0, c1, c2, c3⟩ := HC.out w2 bb12
 have hcb2 : cb < w2.heap.size := by omega
 have hiI : (i : Int) < (pg.code.length : Int) := by omega
 have HX : Bx (∀ X, Below w3.heap.size w3 X -> Below w.heap.size w X /\ (X.cell? ⟨H, 0, none⟩ = some (.slice pa u.ae.length pc) /\ X.cell? ⟨H, 1, none⟩ = some (.slice ta u.types.length tc) /\ H < X.heap.size) /\ (X.cell? ⟨H + 1, 1, none⟩ = some (.int .i64 pg.slots) /\ X.cell? ⟨H + 1, 2, none⟩ = some (.int .i64 pg.caps) /\ X.cell? ⟨H + 1, 4, none⟩ = some (.slice (some ⟨cb, co, none⟩) pg.code.length cc) /\ H + 1 < X.heap.size) /\ (X.cell? ⟨H + 1 + 1, 0, none⟩ = some (.int .i64 x.op) /\ X.cell? ⟨H + 1 + 1, 1, none⟩ = some (.int .i64 x.a) /\ X.cell? ⟨H + 1 + 1, 2, none⟩ = some (.int .i64 x.b) /\ X.cell? ⟨H + 1 + 1, 3, none⟩ = some (.slice ka x.list.length kc) /\ H + 1 + 1 < X.heap.size)) := ⟨fun X hX => by
  have z1 := (hX.block H (by have := ah q1; have := bb3.size; omega)).trans ((bb3.block H (ah q1)).trans q1)
  have z2 := (hX.block (H + 1) (by have := ah q2; have := bb3.size; omega)).trans ((bb3.block (H + 1) (ah q2)).trans q2)
  have z3 := (hX.block (H + 1 + 1) (ah q3)).trans q3
  exact ⟨bb13.trans (hX.mono bb13.size), ⟨aa z1 rfl, aa z1 rfl, ah z1⟩, ⟨aa z2 rfl, aa z2 rfl, aa z2 rfl, ah z2⟩, ⟨aa z3 rfl, aa z3 rfl, aa z3 rfl, aa z3 rfl, ah z3⟩⟩⟩
 obtain ⟨x00, ⟨u0, u1, u2⟩, ⟨g0, g1, g2, g3⟩, ⟨i0, i1, i2, i3, i4⟩⟩ := HX.out w3 (Below.refl _ _)
 have HWR : Bx _ := ⟨hW w3 ka kc bb13 (hks.below bb13)⟩
 have HB3 : Bx (Below w.heap.size w w3) := ⟨bb13⟩
 have hlm := hks.max
 have hlc := hks.cap
 unfold maxLen at hlm
 have HKL : Bx (∀ X, Below w3.heap.size w3 X -> aF X w.heap.size ka kc x.list) := ⟨fun X hX => hks.below (bb13.trans (hX.mono bb13.size))⟩
 have hwl : IntKind.i64.wrap ((pg.code.length : Int) - 1) = (pg.code.length : Int) - 1 := by rw [IntKind.wrap_i64]; omega
 have hws : IntKind.i64.wrap (pg.slots - 1) = pg.slots - 1 := by rw [IntKind.wrap_i64]; omega
 have hwc : IntKind.i64.wrap (pg.caps - 1) = pg.caps - 1 := by rw [IntKind.wrap_i64]; omega
 have hwi : IntKind.i64.wrap ((i : Int) + 1) = (i : Int) + 1 := by rw [IntKind.wrap_i64]; omega
 have hcp0 : w2.cell? ⟨H + 1, 4, none⟩ = some (.slice (some ⟨cb, co, none⟩) pg.code.length cc) := m0
 unfold unV aR pgC at *
 unfold aW at hw3
 have b4 : (x.op == 4) = false := by simp; omega
 have b5 : (x.op == 5) = false := by simp; omega
 have b6 : (x.op == 6) = false := by simp; omega
 have b16 : (x.op == 16) = false := by simp; omega
 have b7 : (x.op == 7) = false := by simp; omega
 have b19 : (x.op == 19) = false := by simp; omega
 have b20 : (x.op == 20) = false := by simp; omega
 have b21 : (x.op == 21) = true := by simpa using hop
 have HWA : Bx (∀ X, Calls Tryd.prog 23 #[.int .i64 x.a, .int .i64 (0 : Int), .int .i64 (i : Int)] X fun e w' => e = .returned (.bool (decide ((0 : Int) <= x.a) && decide (x.a <= (i : Int)))) /\ X = w') := ⟨fun X => aA x.a _ _ X⟩
 obtain ⟨wv, hwv⟩ : ∃ wv, (decide ((0 : Int) <= x.a) && decide (x.a <= (i : Int))) = wv := ⟨_, rfl⟩
 rw [hwv] at HWA ⊢
 clear hwv
 clear hc hW hks HC bb1 bb2 bb3 q1 q2 q3 bb12 bb13 x00 m0 hxx hop
 cases wv with
 | true =>
  go_enter Tryd.func24, Tryd.ntmps24
  go_wp2_with (first
   | (go_at_call 37; refine HWR.out.mono ?_; rintro e w4 ⟨rfl, hb4⟩; clear HWR; obtain ⟨_, ⟨v0, v1, v2⟩, ⟨h0, h1, h2, h3⟩, ⟨j0, j1, j2, j3, j4⟩⟩ := HX.out w4 hb4.out)
   | (go_at_call 23; refine (HWA.out _).mono ?_; rintro e z3 ⟨rfl, rfl⟩; clear HWA)
   | fail)
  go_ret
  exact ⟨rfl, ⟨by first | exact HB3.out.trans (hb4.out.mono HB3.out.size) | (rw [← hH]; exact HB3.out.trans (hb4.out.mono HB3.out.size))⟩⟩
 | false =>
  go_enter Tryd.func24, Tryd.ntmps24
  go_wp2_with (first
   | (go_at_call 37; refine HWR.out.mono ?_; rintro e w4 ⟨rfl, hb4⟩; clear HWR; obtain ⟨_, ⟨v0, v1, v2⟩, ⟨h0, h1, h2, h3⟩, ⟨j0, j1, j2, j3, j4⟩⟩ := HX.out w4 hb4.out)
   | (go_at_call 23; refine (HWA.out _).mono ?_; rintro e z3 ⟨rfl, rfl⟩; clear HWA)
   | fail)
  go_ret
  exact ⟨rfl, ⟨by first | exact HB3.out.trans (hb4.out.mono HB3.out.size) | (rw [← hH]; exact HB3.out.trans (hb4.out.mono HB3.out.size))⟩⟩
theorem ym (w : World) (u : CUn) (pa ta : Option Addr) (pc tc : Nat) (pg : CPg) (ca : Option Addr) (cc : Nat) (hc : Row (cu w w.heap.size) w.heap.size 4 ca cc pg.code) (hcl : pg.code.length <= 268435456) (hs1 : 0 <= pg.slots /\ pg.slots <= 65536) (hs2 : 0 <= pg.caps /\ pg.caps <= 65536) (i : Nat) (hi : i < pg.code.length) (x : CIn) (hx : pg.code[i] = x) (hll : x.list.length <= 281474976710656) (wb : Bool) (hW : ∀ X ka kc, Below w.heap.size w X -> aF X w.heap.size ka kc x.list -> Calls Tryd.prog 37 #[unV u pa pc ta tc, aR x ka kc] X fun e w' => e = .returned (.bool wb) /\ Bx (Below X.heap.size X w')) (hb : wb = false) (hop : x.op ≠ 4 /\ x.op ≠ 5 /\ x.op ≠ 6 /\ x.op ≠ 16 /\ x.op ≠ 7 /\ x.op ≠ 19 /\ x.op ≠ 20 /\ x.op ≠ 21 /\ x.op ≠ 27) : Calls Tryd.prog 24 #[unV u pa pc ta tc, .agg (pgC pg ca cc), .int .i64 (i : Nat)] w fun e w' => e = .returned (.int .i64 0) /\ Bx (Below w.heap.size w w') := by
 subst hb
 subst hx
 obtain ⟨cb, co, ka, kc, rfl, hcb, hks, HC⟩ := bF hc hi
 have hcc := hc.cap
 generalize hxx : pg.code[i] = x at *
 obtain ⟨H, hH⟩ : ∃ H, w.heap.size = H := ⟨_, rfl⟩
 obtain ⟨w1, hw1⟩ : ∃ w1, w.alloc (.cells #[.slice pa u.ae.length pc, .slice ta u.types.length tc] 25) = w1 := ⟨_, rfl⟩
 obtain ⟨w2, hw2⟩ : ∃ w2, w1.alloc (.cells (pgC pg (some ⟨cb, co, none⟩) cc) 40) = w2 := ⟨_, rfl⟩
 obtain ⟨w3, hw3⟩ : ∃ w3, w2.alloc (.cells (aW x ka kc) 43) = w3 := ⟨_, rfl⟩
 have bb1 : Below w.heap.size w w1 := by rw [← hw1]; exact ak w _
 have bb2 : Below w1.heap.size w1 w2 := by rw [← hw2]; exact ak w1 _
 have bb3 : Below w2.heap.size w2 w3 := by rw [← hw3]; exact ak w2 _
 have e1 : w1.heap.size = H + 1 := by rw [← hw1]; simp [hH]
 have e2 : w2.heap.size = H + 1 + 1 := by rw [← hw2]; simp [e1]
 have q1 : w2.heap[H]? = some (.cells #[.slice pa u.ae.length pc, .slice ta u.types.length tc] 25 (0, 0)) := (bb2.block H (by omega)).trans (by rw [← hw1]; exact aj _ _ _ hH)
 have q2 : w2.heap[H + 1]? = some (.cells (pgC pg (some ⟨cb, co, none⟩) cc) 40 (0, 0)) := by rw [← hw2]; exact aj _ _ _ e1
 have q3 : w3.heap[H + 1 + 1]? = some (.cells (aW x ka kc) 43 (0, 0)) := by rw [← hw3]; exact aj _ _ _ e2
 have bb12 : Below w.heap.size w w2 := bb1.trans (bb2.mono bb1.size)
 have bb13 : Below w.heap.size w w3 := bb12.trans (bb3.mono bb12.size)
 have m0 := aa (i := 4) q2 rfl
 have hm1 : H + 1 < w2.heap.size := ah q2
 obtain ⟨c0, c1, c2, c3⟩ := HC.out w2 bb12
 have hcb2 : cb < w2.heap.size := by omega
 have hiI : (i : Int) < (pg.code.length : Int) := by omega
 have HX : Bx (∀ X, Below w3.heap.size w3 X -> Below w.heap.size w X /\ (X.cell? ⟨H, 0, none⟩ = some (.slice pa u.ae.length pc) /\ X.cell? ⟨H, 1, none⟩ = some (.slice ta u.types.length tc) /\ H < X.heap.size) /\ (X.cell? ⟨H + 1, 1, none⟩ = some (.int .i64 pg.slots) /\ X.cell? ⟨H + 1, 2, none⟩ = some (.int .i64 pg.caps) /\ X.cell? ⟨H + 1, 4, none⟩ = some (.slice (some ⟨cb, co, none⟩) pg.code.length cc) /\ H + 1 < X.heap.size) /\ (X.cell? ⟨H + 1 + 1, 0, none⟩ = some (.int .i64 x.op) /\ X.cell? ⟨H + 1 + 1, 1, none⟩ = some (.int .i64 x.a) /\ X.cell? ⟨H + 1 + 1, 2, none⟩ = some (.int .i64 x.b) /\ X.cell? ⟨H + 1 + 1, 3, none⟩ = some (.slice ka x.list.length kc) /\ H + 1 + 1 < X.heap.size)) := ⟨fun X hX => by
  have z1 := (hX.block H (by have := ah q1; have := bb3.size; omega)).trans ((bb3.block H (ah q1)).trans q1)
  have z2 := (hX.block (H + 1) (by have := ah q2; have := bb3.size; omega)).trans ((bb3.block (H + 1) (ah q2)).trans q2)
  have z3 := (hX.block (H + 1 + 1) (ah q3)).trans q3
  exact ⟨bb13.trans (hX.mono bb13.size), ⟨aa z1 rfl, aa z1 rfl, ah z1⟩, ⟨aa z2 rfl, aa z2 rfl, aa z2 rfl, ah z2⟩, ⟨aa z3 rfl, aa z3 rfl, aa z3 rfl, aa z3 rfl, ah z3⟩⟩⟩
 obtain ⟨x00, ⟨u0, u1, u2⟩, ⟨g0, g1, g2, g3⟩, ⟨i0, i1, i2, i3, i4⟩⟩ := HX.out w3 (Below.refl _ _)
 have HWR : Bx _ := ⟨hW w3 ka kc bb13 (hks.below bb13)⟩
 have HB3 : Bx (Below w.heap.size w w3) := ⟨bb13⟩
 have hlm := hks.max
 have hlc := hks.cap
 unfold maxLen at hlm
 have HKL : Bx (∀ X, Below w3.heap.size w3 X -> aF X w.heap.size ka kc x.list) := ⟨fun X hX => hks.below (bb13.trans (hX.mono bb13.size))⟩
 have hwl : IntKind.i64.wrap ((pg.code.length : Int) - 1) = (pg.code.length : Int) - 1 := by rw [IntKind.wrap_i64]; omega
 have hws : IntKind.i64.wrap (pg.slots - 1) = pg.slots - 1 := by rw [IntKind.wrap_i64]; omega
 have hwc : IntKind.i64.wrap (pg.caps - 1) = pg.caps - 1 := by rw [IntKind.wrap_i64]; omega
 have hwi : IntKind.i64.wrap ((i : Int) + 1) = (i : Int) + 1 := by rw [IntKind.wrap_i64]; omega
 have hcp0 : w2.cell? ⟨H + 1, 4, none⟩ = some (.slice (some ⟨cb, co, none⟩) pg.code.length cc) := m0
 unfold unV aR pgC at *
 unfold aW at hw3
 have b4 : (x.op == 4) = false := by simp; omega
 have b5 : (x.op == 5) = false := by simp; omega
 have b6 : (x.op == 6) = false := by simp; omega
 have b16 : (x.op == 16) = false := by simp; omega
 have b7 : (x.op == 7) = false := by simp; omega
 have b19 : (x.op == 19) = false := by simp; omega
 have b20 : (x.op == 20) = false := by simp; omega
 have b21 : (x.op == 21) = false := by simp; omega
 have b27 : (x.op == 27) = false := by simp; omega
 clear hc hW hks HC bb1 bb2 bb3 q1 q2 q3 bb12 bb13 x00 m0 hxx hop
 go_enter Tryd.func24, Tryd.ntmps24
 go_wp2_with (first
  | (go_at_call 37; refine HWR.out.mono ?_; rintro e w4 ⟨rfl, hb4⟩; clear HWR; obtain ⟨_, ⟨v0, v1, v2⟩, ⟨h0, h1, h2, h3⟩, ⟨j0, j1, j2, j3, j4⟩⟩ := HX.out w4 hb4.out)
  | fail)
 go_ret
 exact ⟨rfl, ⟨by first | exact HB3.out.trans (hb4.out.mono HB3.out.size) | (rw [← hH]; exact HB3.out.trans (hb4.out.mono HB3.out.size))⟩⟩
theorem uP (w : World) (u : CUn) (pa ta : Option Addr) (pc tc : Nat) (pg : CPg) (ca : Option Addr) (cc : Nat) (hc : Row (cu w w.heap.size) w.heap.size 4 ca cc pg.code) (hcl : pg.code.length <= 268435456) (hs1 : 0 <= pg.slots /\ pg.slots <= 65536) (hs2 : 0 <= pg.caps /\ pg.caps <= 65536) (i : Nat) (hi : i < pg.code.length) (x : CIn) (hx : pg.code[i] = x) (hll : x.list.length <= 281474976710656) (wb : Bool) (hW : ∀ X ka kc, Below w.heap.size w X -> aF X w.heap.size ka kc x.list -> Calls Tryd.prog 37 #[unV u pa pc ta tc, aR x ka kc] X fun e w' => e = .returned (.bool wb) /\ Bx (Below X.heap.size X w')) (hb : wb = false) (hop : x.op = 27) : Calls Tryd.prog 24 #[unV u pa pc ta tc, .agg (pgC pg ca cc), .int .i64 (i : Nat)] w fun e w' => e = .returned (.int .i64 (if fT pg.code.length i x.list = true then 0 else 92)) /\ Bx (Below w.heap.size w w') := by
 subst hb
 subst hx
 obtain ⟨cb, co, ka, kc, rfl, hcb, hks, HC⟩ := bF hc hi
 have hcc := hc.cap
 generalize hxx : pg.code[i] = x at *
 obtain ⟨H, hH⟩ : ∃ H, w.heap.size = H := ⟨_, rfl⟩
 obtain ⟨w1, hw1⟩ : ∃ w1, w.alloc (.cells #[.slice pa u.ae.length pc, .slice ta u.types.length tc] 25) = w1 := ⟨_, rfl⟩
 obtain ⟨w2, hw2⟩ : ∃ w2, w1.alloc (.cells (pgC pg (some ⟨cb, co, none⟩) cc) 40) = w2 := ⟨_, rfl⟩
 obtain ⟨w3, hw3⟩ : ∃ w3, w2.alloc (.cells (aW x ka kc) 43) = w3 := ⟨_, rfl⟩
 have bb1 : Below w.heap.size w w1 := by rw [← hw1]; exact ak w _
 have bb2 : Below w1.heap.size w1 w2 := by rw [← hw2]; exact ak w1 _
 have bb3 : Below w2.heap.size w2 w3 := by rw [← hw3]; exact ak w2 _
 have e1 : w1.heap.size = H + 1 := by rw [← hw1]; simp [hH]
 have e2 : w2.heap.size = H + 1 + 1 := by rw [← hw2]; simp [e1]
 have q1 : w2.heap[H]? = some (.cells #[.slice pa u.ae.length pc, .slice ta u.types.length tc] 25 (0, 0)) := (bb2.block H (by omega)).trans (by rw [← hw1]; exact aj _ _ _ hH)
 have q2 : w2.heap[H + 1]? = some (.cells (pgC pg (some ⟨cb, co, none⟩) cc) 40 (0, 0)) := by rw [← hw2]; exact aj _ _ _ e1
 have q3 : w3.heap[H + 1 + 1]? = some (.cells (aW x ka kc) 43 (0, 0)) := by rw [← hw3]; exact aj _ _ _ e2
 have bb12 : Below w.heap.size w w2 := bb1.trans (bb2.mono bb1.size)
 have bb13 : Below w.heap.size w w3 := bb12.trans (bb3.mono bb12.size)
 have m0 := aa (i := 4) q2 rfl
 have hm1 : H + 1 < w2.heap.size := ah q2
 obtain ⟨c0, c1, c2, c3⟩ := HC.out w2 bb12
 have hcb2 : cb < w2.heap.size := by omega
 have hiI : (i : Int) < (pg.code.length : Int) := by omega
 have HX : Bx (∀ X, Below w3.heap.size w3 X -> Below w.heap.size w X /\ (X.cell? ⟨H, 0, none⟩ = some (.slice pa u.ae.length pc) /\ X.cell? ⟨H, 1, none⟩ = some (.slice ta u.types.length tc) /\ H < X.heap.size) /\ (X.cell? ⟨H + 1, 1, none⟩ = some (.int .i64 pg.slots) /\ X.cell? ⟨H + 1, 2, none⟩ = some (.int .i64 pg.caps) /\ X.cell? ⟨H + 1, 4, none⟩ = some (.slice (some ⟨cb, co, none⟩) pg.code.length cc) /\ H + 1 < X.heap.size) /\ (X.cell? ⟨H + 1 + 1, 0, none⟩ = some (.int .i64 x.op) /\ X.cell? ⟨H + 1 + 1, 1, none⟩ = some (.int .i64 x.a) /\ X.cell? ⟨H + 1 + 1, 2, none⟩ = some (.int .i64 x.b) /\ X.cell? ⟨H + 1 + 1, 3, none⟩ = some (.slice ka x.list.length kc) /\ H + 1 + 1 < X.heap.size)) := ⟨fun X hX => by
  have z1 := (hX.block H (by have := ah q1; have := bb3.size; omega)).trans ((bb3.block H (ah q1)).trans q1)
  have z2 := (hX.block (H + 1) (by have := ah q2; have := bb3.size; omega)).trans ((bb3.block (H + 1) (ah q2)).trans q2)
  have z3 := (hX.block (H + 1 + 1) (ah q3)).trans q3
  exact ⟨bb13.trans (hX.mono bb13.size), ⟨aa z1 rfl, aa z1 rfl, ah z1⟩, ⟨aa z2 rfl, aa z2 rfl, aa z2 rfl, ah z2⟩, ⟨aa z3 rfl, aa z3 rfl, aa z3 rfl, aa z3 rfl, ah z3⟩⟩⟩
 obtain ⟨x00, ⟨u0, u1, u2⟩, ⟨g0, g1, g2, g3⟩, ⟨i0, i1, i2, i3, i4⟩⟩ := HX.out w3 (Below.refl _ _)
 have HWR : Bx _ := ⟨hW w3 ka kc bb13 (hks.below bb13)⟩
 have HB3 : Bx (Below w.heap.size w w3) := ⟨bb13⟩
 have hlm := hks.max
 have hlc := hks.cap
 unfold maxLen at hlm
 have HKL : Bx (∀ X, Below w3.heap.size w3 X -> aF X w.heap.size ka kc x.list) := ⟨fun X hX => hks.below (bb13.trans (hX.mono bb13.size))⟩
 have hwl : IntKind.i64.wrap ((pg.code.length : Int) - 1) = (pg.code.length : Int) - 1 := by rw [IntKind.wrap_i64]; omega
 have hws : IntKind.i64.wrap (pg.slots - 1) = pg.slots - 1 := by rw [IntKind.wrap_i64]; omega
 have hwc : IntKind.i64.wrap (pg.caps - 1) = pg.caps - 1 := by rw [IntKind.wrap_i64]; omega
 have hwi : IntKind.i64.wrap ((i : Int) + 1) = (i : Int) + 1 := by rw [IntKind.wrap_i64]; omega
 have hcp0 : w2.cell? ⟨H + 1, 4, none⟩ = some (.slice (some ⟨cb, co, none⟩) pg.code.length cc) := m0
 unfold unV aR pgC at *
 unfold aW at hw3
 have b4 : (x.op == 4) = false := by simp; omega
 have b5 : (x.op == 5) = false := by simp; omega
 have b6 : (x.op == 6) = false := by simp; omega
 have b16 : (x.op == 16) = false := by simp; omega
 have b7 : (x.op == 7) = false := by simp; omega
 have b19 : (x.op == 19) = false := by simp; omega
 have b20 : (x.op == 20) = false := by simp; omega
 have b21 : (x.op == 21) = false := by simp; omega
 have b27 : (x.op == 27) = true := by simpa using hop
 have HG : Bx (fT pg.code.length i (x.list.drop 0) = fT pg.code.length i x.list) := ⟨by rw [List.drop_zero]⟩
 generalize fT pg.code.length i x.list = r at *
 clear hc hW hks HC bb1 bb2 bb3 q1 q2 q3 bb12 bb13 x00 m0 hxx hop
 go_enter Tryd.func24, Tryd.ntmps24
 go_wp2_with (first
  | (go_at_call 37; refine HWR.out.mono ?_; rintro e w4 ⟨rfl, hb4⟩; clear HWR; obtain ⟨_, ⟨v0, v1, v2⟩, ⟨h0, h1, h2, h3⟩, ⟨j0, j1, j2, j3, j4⟩⟩ := HX.out w4 hb4.out)
  | fail)
 have HB4 : Bx (Below w.heap.size w w4) := ⟨HB3.out.trans (hb4.out.mono HB3.out.size)⟩
 have HKL4 : Bx (aF w4 w.heap.size ka kc x.list) := ⟨HKL.out w4 hb4.out⟩
 go_loopg [9] (x.list.length + 2) (fun f v9 wr => ∃ k : Nat, f = x.list.length + 2 - k /\ k <= x.list.length + 1 /\ v9 = .int .i64 ((k : Int) + 1) /\ Bx (fT pg.code.length i (x.list.drop k) = r) /\ wr = w4)
 case atStart => exact ⟨0, by simp, by omega, rfl, HG, rfl⟩
 case round =>
  obtain ⟨k, hf, hkl, rfl, HR, rfl⟩ := hrel
  obtain ⟨wD, rfl⟩ : ∃ X, X = wr := ⟨_, rfl⟩
  by_cases hlt : k + 1 < x.list.length
  ·obtain ⟨b, o, rfl, hb, hcell⟩ := HKL4.out.at_ (by omega)
   have k0 := hcell (k + 1) hlt
   have hbl : b < wD.heap.size := by have := HB4.out.size; omega
   have hg := HR.out
   rw [rG hlt] at hg
   have hkI : ((k : Int) + 1) < (x.list.length : Int) := by omega
   have hw9 : IntKind.i64.wrap ((k : Int) + 1 + 2) = (k : Int) + 1 + 2 := by rw [IntKind.wrap_i64]; omega
   have hah : ek pg.code.length i x.list[k + 1] = (decide ((i : Int) + 1 <= x.list[k + 1]) && decide (x.list[k + 1] <= (pg.code.length : Int) - 1)) := by
    unfold ek
    rw [Bool.eq_iff_iff]
    simp
    omega
   rw [hah] at hg
   have HWA : Bx (∀ X, Calls Tryd.prog 23 #[.int .i64 x.list[k + 1], .int .i64 ((i : Int) + 1), .int .i64 ((pg.code.length : Int) - 1)] X fun e w' => e = .returned (.bool (decide ((i : Int) + 1 <= x.list[k + 1]) && decide (x.list[k + 1] <= (pg.code.length : Int) - 1))) /\ X = w') := ⟨fun X => aA _ _ _ X⟩
   generalize (decide ((i : Int) + 1 <= x.list[k + 1]) && decide (x.list[k + 1] <= (pg.code.length : Int) - 1)) = wv at *
   generalize x.list[k + 1] = y at *
   cases wv with
   | true =>
    rw [Bool.true_and] at hg
    have HR3 : Bx _ := ⟨hg⟩
    clear hg hcell HR HG HKL4 HKL HX hah
    go_wp2_with (first
     | (go_at_call 23; refine (HWA.out _).mono ?_; rintro e z3 ⟨rfl, rfl⟩; clear HWA)
     | fail)
    go_roundg (x.list.length + 2 - (k + 2))
    case measure => omega
    case rel => exact ⟨k + 2, rfl, by omega, by congr 1 <;> omega, HR3, rfl⟩
   | false =>
    rw [Bool.false_and] at hg
    subst hg
    clear hcell HR HG HKL4 HKL HX hah
    go_wp2_with (first
     | (go_at_call 23; refine (HWA.out _).mono ?_; rintro e z3 ⟨rfl, rfl⟩; clear HWA)
     | fail)
    go_ret
    exact ⟨rfl, by first | exact HB4 | (rw [← hH]; exact HB4)⟩
  ·have hg := HR.out
   rw [oz hlt] at hg
   subst hg
   have hge : decide (((k : Int) + 1) < (x.list.length : Int)) = false := decide_eq_false (by omega)
   clear HR HG HKL4 HKL HX
   go_wp2
   go_ret
   exact ⟨rfl, by first | exact HB4 | (rw [← hH]; exact HB4)⟩
theorem Ab {pg : CPg} {v n : Int} (h1 : v ≠ 12) (h2 : v ≠ 13) : eF pg v n = true := by unfold eF; rw [if_neg h1, if_neg h2]
theorem qU (w : World) (u : CUn) (pa ta : Option Addr) (pc tc : Nat) (pg : CPg) (ca : Option Addr) (cc : Nat) (hc : Row (cu w w.heap.size) w.heap.size 4 ca cc pg.code) (hcl : pg.code.length <= 268435456) (hs1 : 0 <= pg.slots /\ pg.slots <= 65536) (hs2 : 0 <= pg.caps /\ pg.caps <= 65536) (i : Nat) (hi : i < pg.code.length) (x : CIn) (hx : pg.code[i] = x) (hll : x.list.length <= 281474976710656) (dfs : List Bool) (hW : ∀ X ka kc, Below w.heap.size w X -> aF X w.heap.size ka kc x.list -> Calls Tryd.prog 37 #[unV u pa pc ta tc, aR x ka kc] X fun e w' => e = .returned (.bool (wrB u dfs x)) /\ Bx (Below X.heap.size X w')) : Calls Tryd.prog 24 #[unV u pa pc ta tc, .agg (pgC pg ca cc), .int .i64 (i : Nat)] w fun e w' => e = .returned (.int .i64 (dI u dfs pg i x)) /\ Bx (Below w.heap.size w w') := by
 have hw0 : dI u dfs pg i x = if wrB u dfs x = true then 91 else if eF pg (vsI x.op).1 x.a = false then 93 else if bq pg.code.length (vsI x.op) i x = false then 92 else 0 := by
  unfold dI
  by_cases ho : x.op < 1 ∨ 27 < x.op
  ·rw [if_pos ho, if_pos (nN ho)]
  ·rw [if_neg ho, xY (by omega) (by omega)]
   cases aO u dfs (vsI x.op) x <;> rfl
 rw [hw0]
 cases hwb : wrB u dfs x with
 | true =>
  rw [if_pos rfl]
  exact uK w u pa ta pc tc pg ca cc hc hcl hs1 hs2 i hi x hx hll _ hW hwb
 | false =>
  rw [if_neg (by decide)]
  have A := fun (k : Nat) (q : x.op = (k : Int)) => dW k q
  by_cases o4 : x.op = 4
  ·have hv : vsI x.op = (12, 0, 0) := dW 4 o4
   rw [hv]
   have hR := yc w u pa ta pc tc pg ca cc hc hcl hs1 hs2 i hi x hx hll _ hW hwb o4
   have e : eF pg 12 x.a = (decide ((0 : Int) <= x.a) && decide (x.a <= pg.slots - 1)) := rfl
   have e2 : bq pg.code.length (12, 0, 0) i x = true := rfl
   simp only [e, e2]
   revert hR
   cases (decide ((0 : Int) <= x.a) && decide (x.a <= pg.slots - 1)) <;> exact fun hR => hR
  by_cases o5 : x.op = 5
  ·have hv : vsI x.op = (12, 0, 0) := dW 5 o5
   rw [hv]
   have hR := yg w u pa ta pc tc pg ca cc hc hcl hs1 hs2 i hi x hx hll _ hW hwb o5
   have e : eF pg 12 x.a = (decide ((0 : Int) <= x.a) && decide (x.a <= pg.slots - 1)) := rfl
   have e2 : bq pg.code.length (12, 0, 0) i x = true := rfl
   simp only [e, e2]
   revert hR
   cases (decide ((0 : Int) <= x.a) && decide (x.a <= pg.slots - 1)) <;> exact fun hR => hR
  by_cases o6 : x.op = 6
  ·have hv : vsI x.op = (12, 0, 0) := dW 6 o6
   rw [hv]
   have hR := yj w u pa ta pc tc pg ca cc hc hcl hs1 hs2 i hi x hx hll _ hW hwb o6
   have e : eF pg 12 x.a = (decide ((0 : Int) <= x.a) && decide (x.a <= pg.slots - 1)) := rfl
   have e2 : bq pg.code.length (12, 0, 0) i x = true := rfl
   simp only [e, e2]
   revert hR
   cases (decide ((0 : Int) <= x.a) && decide (x.a <= pg.slots - 1)) <;> exact fun hR => hR
  by_cases o16 : x.op = 16
  ·have hv : vsI x.op = (12, 0, 10) := dW 16 o16
   rw [hv]
   have hR := uL w u pa ta pc tc pg ca cc hc hcl hs1 hs2 i hi x hx hll _ hW hwb o16
   have e : eF pg 12 x.a = (decide ((0 : Int) <= x.a) && decide (x.a <= pg.slots - 1)) := rfl
   have e2 : bq pg.code.length (12, 0, 10) i x = true := rfl
   simp only [e, e2]
   revert hR
   cases (decide ((0 : Int) <= x.a) && decide (x.a <= pg.slots - 1)) <;> exact fun hR => hR
  by_cases o7 : x.op = 7
  ·have hv : vsI x.op = (13, 0, 0) := dW 7 o7
   rw [hv]
   have hR := yl w u pa ta pc tc pg ca cc hc hcl hs1 hs2 i hi x hx hll _ hW hwb o7
   have e : eF pg 13 x.a = (decide ((0 : Int) <= x.a) && decide (x.a <= pg.caps - 1)) := rfl
   have e2 : bq pg.code.length (13, 0, 0) i x = true := rfl
   simp only [e, e2]
   revert hR
   cases (decide ((0 : Int) <= x.a) && decide (x.a <= pg.caps - 1)) <;> exact fun hR => hR
  by_cases o19 : x.op = 19
  ·have hv : vsI x.op = (14, 0, 0) := dW 19 o19
   rw [hv]
   have hR := uM w u pa ta pc tc pg ca cc hc hcl hs1 hs2 i hi x hx hll _ hW hwb o19
   have e : eF pg 14 x.a = true := rfl
   have e2 : bq pg.code.length (14, 0, 0) i x = (decide ((i : Int) + 1 <= x.a) && decide (x.a <= (pg.code.length : Int) - 1)) := by
    show ek pg.code.length i x.a = _
    unfold ek
    rw [Bool.eq_iff_iff]
    simp
    omega
   simp only [e, e2]
   revert hR
   cases (decide ((i : Int) + 1 <= x.a) && decide (x.a <= (pg.code.length : Int) - 1)) <;> exact fun hR => hR
  by_cases o20 : x.op = 20
  ·have hv : vsI x.op = (14, 0, 0) := dW 20 o20
   rw [hv]
   have hR := uN w u pa ta pc tc pg ca cc hc hcl hs1 hs2 i hi x hx hll _ hW hwb o20
   have e : eF pg 14 x.a = true := rfl
   have e2 : bq pg.code.length (14, 0, 0) i x = (decide ((i : Int) + 1 <= x.a) && decide (x.a <= (pg.code.length : Int) - 1)) := by
    show ek pg.code.length i x.a = _
    unfold ek
    rw [Bool.eq_iff_iff]
    simp
    omega
   simp only [e, e2]
   revert hR
   cases (decide ((i : Int) + 1 <= x.a) && decide (x.a <= (pg.code.length : Int) - 1)) <;> exact fun hR => hR
  by_cases o21 : x.op = 21
  ·have hv : vsI x.op = (15, 0, 0) := dW 21 o21
   rw [hv]
   have hR := uO w u pa ta pc tc pg ca cc hc hcl hs1 hs2 i hi x hx hll _ hW hwb o21
   have e : eF pg 15 x.a = true := rfl
   have e2 : bq pg.code.length (15, 0, 0) i x = (decide ((0 : Int) <= x.a) && decide (x.a <= (i : Int))) := rfl
   simp only [e, e2]
   revert hR
   cases (decide ((0 : Int) <= x.a) && decide (x.a <= (i : Int))) <;> exact fun hR => hR
  by_cases o27 : x.op = 27
  ·have hv : vsI x.op = (0, 0, 11) := dW 27 o27
   rw [hv]
   have hR := uP w u pa ta pc tc pg ca cc hc hcl hs1 hs2 i hi x hx hll _ hW hwb o27
   have e : eF pg 0 x.a = true := rfl
   have e2 : bq pg.code.length (0, 0, 11) i x = fT pg.code.length i x.list := rfl
   simp only [e, e2]
   revert hR
   cases fT pg.code.length i x.list <;> exact fun hR => hR
  have hR := ym w u pa ta pc tc pg ca cc hc hcl hs1 hs2 i hi x hx hll _ hW hwb ⟨o4, o5, o6, o16, o7, o19, o20, o21, o27⟩
  have ho : 1 <= x.op /\ x.op <= 27 := by
   rcases Decidable.em (x.op < 1 ∨ 27 < x.op) with q | q
   ·rw [nN q] at hwb; cases hwb
   ·omega
  have key : ∀ k, k < 28 -> (k == 4 || k == 5 || k == 6 || k == 16 || k == 7 || k == 19 || k == 20 || k == 21 || k == 27 || ((vsT.getD k (0, 0, 0)).1 != 12 && (vsT.getD k (0, 0, 0)).1 != 13 && (vsT.getD k (0, 0, 0)).1 != 14 && (vsT.getD k (0, 0, 0)).1 != 15 && (vsT.getD k (0, 0, 0)).2.2 != 11)) = true := by decide
  have hkk := key x.op.toNat (by omega)
  have e : ∀ n : Nat, x.op ≠ (n : Int) -> (x.op.toNat == n) = false := fun n h => by
   have : x.op.toNat ≠ n := by omega
   simpa using this
  rw [e 4 (by omega), e 5 (by omega), e 6 (by omega), e 16 (by omega), e 7 (by omega), e 19 (by omega), e 20 (by omega), e 21 (by omega), e 27 (by omega)] at hkk
  simp only [Bool.false_or] at hkk
  have hkv : ((vsI x.op).1 != 12 && (vsI x.op).1 != 13 && (vsI x.op).1 != 14 && (vsI x.op).1 != 15 && (vsI x.op).2.2 != 11) = true := hkk
  simp only [Bool.and_eq_true, bne_iff_ne, ne_eq] at hkv
  obtain ⟨⟨⟨⟨v1, v2⟩, v3⟩, v4⟩, v5⟩ := hkv
  have e1 : eF pg (vsI x.op).1 x.a = true := Ab v1 v2
  have e2 : bq pg.code.length (vsI x.op) i x = true := by unfold bq; rw [if_neg v3, if_neg v4, if_neg v5]
  rw [e1, e2]
  exact hR
end Go.Proofs.YtadmpgegolmkgaaDoor
