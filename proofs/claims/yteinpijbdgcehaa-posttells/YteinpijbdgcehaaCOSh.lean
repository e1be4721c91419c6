import Derived.Test.YteinpijbdgcehaaCOQb
import Derived.Test.YteinpijbdgcehaaCOIc
namespace Go.Proofs.Yteinpijbdgcehaa
open Go.RowKit Go.Shelf
set_option linter.unusedVariables false
set_option linter.unusedSimpArgs false

theorem Pairs_any (w : World) (Pr : Nat → Prop) (hPr : ∀ b, Pr b → ∃ o : Obj, w.heap[b]? = some o ∧ o.isCells = true) (p : Option Addr) (c : Nat) (l : List OWt) (hl : WsIn w Pr p c l) (hsm : (opairs l).length ≤ 20000000) (hsr : (spotsP prR l).length ≤ 1000000) :
    Calls Try.prog 10 #[.slice p l.length c] w (PrPost w (opairs l)) := (callsIn_wide (n := 12)).1 (Pairs_in 12 (by omega) w Pr hPr p c l hl hsm hsr)
theorem Ins_any (w : World) (Pr : Nat → Prop) (hPr : ∀ b, Pr b → ∃ o : Obj, w.heap[b]? = some o ∧ o.isCells = true) (p : Option Addr) (c : Nat) (l : List OWt) (hl : WsIn w Pr p c l) (hsm : (oins l).length ≤ 20000000) :
    Calls Try.prog 12 #[.slice p l.length c] w (PrPost w (oins l)) := (callsIn_wide (n := 8)).1 (Ins_in 8 (by omega) w Pr hPr p c l hl hsm)
theorem Outs_any (w : World) (Pr : Nat → Prop) (hPr : ∀ b, Pr b → ∃ o : Obj, w.heap[b]? = some o ∧ o.isCells = true) (p : Option Addr) (c : Nat) (l : List OWt) (hl : WsIn w Pr p c l) (hsm : (oouts l).length ≤ 20000000) :
    Calls Try.prog 14 #[.slice p l.length c] w (PrPost w (oouts l)) := (callsIn_wide (n := 8)).1 (Outs_in 8 (by omega) w Pr hPr p c l hl hsm)
theorem own_some {W : World} {base : Nat} {e : TypeId} {s n : Nat} {v : Value} {xs : List Value} (h : W.ownsRow base e s v n xs) (hn : 0 < n) : ∃ g cap, v = .slice (some ⟨g, 0, none⟩) n cap ∧ n ≤ cap ∧ cap ≤ maxLen ∧ base ≤ g ∧ g < W.heap.size := by
  rcases h.2 with ⟨_, h2⟩ | ⟨g, cap, cur, h1, h2, h3, h4, h5, _⟩
  · omega
  · exact ⟨g, cap, h1, h4, h5, h2, (Array.getElem?_eq_some_iff.1 h3).1⟩
def aS (ch : Int) (s : Bool) : OArm := ⟨ch, s, 0, 0, none, 0, 0⟩
def shL : List OWt := [⟨2, [aS 5 true]⟩, ⟨4, [aS 5 false, aS 1 true]⟩, ⟨7, [aS 1 false, aS 2 true]⟩]
theorem shP : opairs shL = [⟨2, 0, 4, 0, 5⟩, ⟨4, 1, 7, 0, 1⟩] := by kernel_rfl
theorem shI : oins shL = [⟨-1, 0, 7, 0, 1⟩] := by kernel_rfl
theorem shO : oouts shL = [⟨7, 1, -1, 0, 2⟩] := by kernel_rfl
theorem shR : (spotsP prR shL).length = 2 := by kernel_rfl
/-- the example in memory -/
theorem sh_in {W : World} {H : Nat}
    (h0 : W.heap[H]? = some (.cells #[.int .i64 5, .bool true, .int .i64 0, .int .i64 0, .slice none 0 0] 43))
    (h1 : W.heap[H + 1]? = some (.cells #[.int .i64 5, .bool false, .int .i64 0, .int .i64 0, .slice none 0 0, .int .i64 1, .bool true, .int .i64 0, .int .i64 0, .slice none 0 0] 43))
    (h2 : W.heap[H + 2]? = some (.cells #[.int .i64 1, .bool false, .int .i64 0, .int .i64 0, .slice none 0 0, .int .i64 2, .bool true, .int .i64 0, .int .i64 0, .slice none 0 0] 43))
    (h3 : W.heap[H + 3]? = some (.cells #[.int .i64 2, .slice (some ⟨H, 0, none⟩) 1 1, .int .i64 4, .slice (some ⟨H + 1, 0, none⟩) 2 2, .int .i64 7, .slice (some ⟨H + 2, 0, none⟩) 2 2] 38)) :
    WsIn W (fun b => H ≤ b ∧ b ≤ H + 3) (some ⟨H + 3, 0, none⟩) 3 shL ∧ ∀ b, (H ≤ b ∧ b ≤ H + 3) → ∃ o : Obj, W.heap[b]? = some o ∧ o.isCells = true := by
  have n64 : ∀ x : Int, 0 ≤ x → x ≤ 10 → I64 x := fun x a b => ⟨by omega, by omega⟩
  refine ⟨⟨by simp [shL], by simp [maxLen], fun i hi => ?_⟩, fun b hb => ?_⟩
  · have hi3 : i < 3 := hi
    match i, hi3 with
    | 0, _ =>
      refine ⟨H + 3, 0, some ⟨H, 0, none⟩, 1, rfl, by omega, cell_of h3 rfl, cell_of h3 rfl, ⟨by simp [shL], by simp [maxLen], fun j hj => ?_⟩, n64 _ (by simp [shL, aS]) (by simp [shL, aS])⟩
      match j, (show j < 1 from hj) with
      | 0, _ => exact ⟨H, 0, rfl, by omega, ⟨cell_of h0 rfl, cell_of h0 rfl, cell_of h0 rfl, cell_of h0 rfl, cell_of h0 rfl, n64 _ (by simp [shL, aS]) (by simp [shL, aS])⟩⟩
    | 1, _ =>
      refine ⟨H + 3, 0, some ⟨H + 1, 0, none⟩, 2, rfl, by omega, cell_of h3 rfl, cell_of h3 rfl, ⟨by simp [shL], by simp [maxLen], fun j hj => ?_⟩, n64 _ (by simp [shL, aS]) (by simp [shL, aS])⟩
      match j, (show j < 2 from hj) with
      | 0, _ => exact ⟨H + 1, 0, rfl, by omega, ⟨cell_of h1 rfl, cell_of h1 rfl, cell_of h1 rfl, cell_of h1 rfl, cell_of h1 rfl, n64 _ (by simp [shL, aS]) (by simp [shL, aS])⟩⟩
      | 1, _ => exact ⟨H + 1, 0, rfl, by omega, ⟨cell_of h1 rfl, cell_of h1 rfl, cell_of h1 rfl, cell_of h1 rfl, cell_of h1 rfl, n64 _ (by simp [shL, aS]) (by simp [shL, aS])⟩⟩
    | 2, _ =>
      refine ⟨H + 3, 0, some ⟨H + 2, 0, none⟩, 2, rfl, by omega, cell_of h3 rfl, cell_of h3 rfl, ⟨by simp [shL], by simp [maxLen], fun j hj => ?_⟩, n64 _ (by simp [shL, aS]) (by simp [shL, aS])⟩
      match j, (show j < 2 from hj) with
      | 0, _ => exact ⟨H + 2, 0, rfl, by omega, ⟨cell_of h2 rfl, cell_of h2 rfl, cell_of h2 rfl, cell_of h2 rfl, cell_of h2 rfl, n64 _ (by simp [shL, aS]) (by simp [shL, aS])⟩⟩
      | 1, _ => exact ⟨H + 2, 0, rfl, by omega, ⟨cell_of h2 rfl, cell_of h2 rfl, cell_of h2 rfl, cell_of h2 rfl, cell_of h2 rfl, n64 _ (by simp [shL, aS]) (by simp [shL, aS])⟩⟩
  · rcases (show b = H ∨ b = H + 1 ∨ b = H + 2 ∨ b = H + 3 by omega) with rfl | rfl | rfl | rfl
    · exact ⟨_, h0, rfl⟩
    · exact ⟨_, h1, rfl⟩
    · exact ⟨_, h2, rfl⟩
    · exact ⟨_, h3, rfl⟩
set_option maxRecDepth 100000 in
set_option maxHeartbeats 4000000 in
theorem shown_any (w : World) : Calls Try.prog 6 #[] w fun e w' => e = .returned (.bool true) ∧ Below w.heap.size w w' := by
  obtain ⟨H, hH⟩ : ∃ H, w.heap.size = H := ⟨_, rfl⟩
  obtain ⟨X, hX⟩ : ∃ X, (((w.alloc (.cells #[.int .i64 5, .bool true, .int .i64 0, .int .i64 0, .slice none 0 0] 43)).alloc (.cells #[.int .i64 5, .bool false, .int .i64 0, .int .i64 0, .slice none 0 0, .int .i64 1, .bool true, .int .i64 0, .int .i64 0, .slice none 0 0] 43)).alloc (.cells #[.int .i64 1, .bool false, .int .i64 0, .int .i64 0, .slice none 0 0, .int .i64 2, .bool true, .int .i64 0, .int .i64 0, .slice none 0 0] 43)).alloc (.cells #[.int .i64 2, .slice (some ⟨H, 0, none⟩) 1 1, .int .i64 4, .slice (some ⟨H + 1, 0, none⟩) 2 2, .int .i64 7, .slice (some ⟨H + 1 + 1, 0, none⟩) 2 2] 38) = X := ⟨_, rfl⟩
  have hbX : Below w.heap.size w X := by rw [← hX]; exact (two_new _ _ _).trans ((two_new _ _ _).mono (by simp; omega))
  have hzX : X.heap.size = H + 4 := by rw [← hX]; simp [hH]
  have hz1 : (w.alloc (.cells #[.int .i64 5, .bool true, .int .i64 0, .int .i64 0, .slice none 0 0] 43)).heap.size = H + 1 := by simp [hH]
  have hz2 : ((w.alloc (.cells #[.int .i64 5, .bool true, .int .i64 0, .int .i64 0, .slice none 0 0] 43)).alloc (.cells #[.int .i64 5, .bool false, .int .i64 0, .int .i64 0, .slice none 0 0, .int .i64 1, .bool true, .int .i64 0, .int .i64 0, .slice none 0 0] 43)).heap.size = H + 2 := by simp [hH]
  have hz3 : (((w.alloc (.cells #[.int .i64 5, .bool true, .int .i64 0, .int .i64 0, .slice none 0 0] 43)).alloc (.cells #[.int .i64 5, .bool false, .int .i64 0, .int .i64 0, .slice none 0 0, .int .i64 1, .bool true, .int .i64 0, .int .i64 0, .slice none 0 0] 43)).alloc (.cells #[.int .i64 1, .bool false, .int .i64 0, .int .i64 0, .slice none 0 0, .int .i64 2, .bool true, .int .i64 0, .int .i64 0, .slice none 0 0] 43)).heap.size = H + 3 := by simp [hH]
  have k0 : X.heap[H]? = some (.cells #[.int .i64 5, .bool true, .int .i64 0, .int .i64 0, .slice none 0 0] 43) := by
    rw [← hX]
    refine (Below.heap_alloc _ _ _ (by omega)).trans ((Below.heap_alloc _ _ _ (by omega)).trans ((Below.heap_alloc _ _ _ (by omega)).trans ?_))
    rw [← hH]; exact World.alloc_heap_new _ _
  have k1 : X.heap[H + 1]? = some (.cells #[.int .i64 5, .bool false, .int .i64 0, .int .i64 0, .slice none 0 0, .int .i64 1, .bool true, .int .i64 0, .int .i64 0, .slice none 0 0] 43) := by
    rw [← hX]
    refine (Below.heap_alloc _ _ _ (by omega)).trans ((Below.heap_alloc _ _ _ (by omega)).trans ?_)
    rw [← hz1]; exact World.alloc_heap_new _ _
  have k2 : X.heap[H + 2]? = some (.cells #[.int .i64 1, .bool false, .int .i64 0, .int .i64 0, .slice none 0 0, .int .i64 2, .bool true, .int .i64 0, .int .i64 0, .slice none 0 0] 43) := by
    rw [← hX]
    refine (Below.heap_alloc _ _ _ (by omega)).trans ?_
    rw [← hz2]; exact World.alloc_heap_new _ _
  have k3 : X.heap[H + 3]? = some (.cells #[.int .i64 2, .slice (some ⟨H, 0, none⟩) 1 1, .int .i64 4, .slice (some ⟨H + 1, 0, none⟩) 2 2, .int .i64 7, .slice (some ⟨H + 2, 0, none⟩) 2 2] 38) := by
    rw [← hX, ← hz3]; exact World.alloc_heap_new _ _
  obtain ⟨hin, hPr⟩ := sh_in k0 k1 k2 k3
  have HB : Bx (Below w.heap.size w X) := ⟨hbX⟩
  have HX : Bx (_ = X) := ⟨hX⟩
  have HIN : Bx (∀ Y, Below X.heap.size X Y → WsIn Y (fun b => H ≤ b ∧ b ≤ H + 3) (some ⟨H + 1 + 1 + 1, 0, none⟩) 3 shL ∧ ∀ b, (H ≤ b ∧ b ≤ H + 3) → ∃ o : Obj, Y.heap[b]? = some o ∧ o.isCells = true) := ⟨fun Y hY => by
    have hk := Kpt.of_below hPr hY
    exact ⟨hin.keep hk, fun b hb => by obtain ⟨o, h1, h2⟩ := hPr b hb; exact ⟨o, (hk b hb).trans h1, h2⟩⟩⟩
  clear hin hPr k0 k1 k2 k3 hz1 hz2 hz3 hX hbX
  go_enter Try.func6, Try.ntmps6
  go_wp2_with (first
    | (go_at_call 10; rw [HX.out]; refine (Pairs_any X _ (HIN.out X (Below.refl _ _)).2 _ _ shL (HIN.out X (Below.refl _ _)).1 (by rw [shP]; simp) (by rw [shR]; simp)).mono ?_; rintro e wa ⟨va, rfl, oa, ba⟩; rw [shP] at oa; obtain ⟨ga, ca, rfl, la1, la2, la3, la4⟩ := own_some oa (by simp))
    | (go_at_call 12; refine (Ins_any wa _ (HIN.out wa ba).2 _ _ shL (HIN.out wa ba).1 (by rw [shI]; simp)).mono ?_; rintro e wb ⟨vb, rfl, ob, bb⟩; rw [shI] at ob; obtain ⟨gb, cb, rfl, lb1, lb2, lb3, lb4⟩ := own_some ob (by simp))
    | (go_at_call 14; refine (Outs_any wb _ (HIN.out wb (ba.trans (bb.mono ba.size))).2 _ _ shL (HIN.out wb (ba.trans (bb.mono ba.size))).1 (by rw [shO]; simp)).mono ?_; rintro e wc ⟨vc, rfl, oc, bc⟩; rw [shO] at oc; obtain ⟨gc, cc, rfl, lc1, lc2, lc3, lc4⟩ := own_some oc (by simp); have oa2 := own_new oa (bb.trans (bc.mono bb.size)); have ob2 := own_new ob bc; have HBB : Bx (Below w.heap.size w wc) := ⟨HB.out.trans ((ba.trans ((bb.trans (bc.mono bb.size)).mono ba.size)).mono HB.out.size)⟩; have a0 : wc.cell? ⟨ga, 0, none⟩ = some (.int .i64 (2)) := (own_cell oa2 (j := 0) rfl).1; have a1 : wc.cell? ⟨ga, 1, none⟩ = some (.int .i64 (0)) := (own_cell oa2 (j := 1) rfl).1; have a2 : wc.cell? ⟨ga, 2, none⟩ = some (.int .i64 (4)) := (own_cell oa2 (j := 2) rfl).1; have a3 : wc.cell? ⟨ga, 3, none⟩ = some (.int .i64 (0)) := (own_cell oa2 (j := 3) rfl).1; have a4 : wc.cell? ⟨ga, 4, none⟩ = some (.int .i64 (5)) := (own_cell oa2 (j := 4) rfl).1; have a5 : wc.cell? ⟨ga, 5, none⟩ = some (.int .i64 (4)) := (own_cell oa2 (j := 5) rfl).1; have a6 : wc.cell? ⟨ga, 6, none⟩ = some (.int .i64 (1)) := (own_cell oa2 (j := 6) rfl).1; have a7 : wc.cell? ⟨ga, 7, none⟩ = some (.int .i64 (7)) := (own_cell oa2 (j := 7) rfl).1; have a8 : wc.cell? ⟨ga, 8, none⟩ = some (.int .i64 (0)) := (own_cell oa2 (j := 8) rfl).1; have a9 : wc.cell? ⟨ga, 9, none⟩ = some (.int .i64 (1)) := (own_cell oa2 (j := 9) rfl).1; have b0 : wc.cell? ⟨gb, 0, none⟩ = some (.int .i64 (-1)) := (own_cell ob2 (j := 0) rfl).1; have b1 : wc.cell? ⟨gb, 1, none⟩ = some (.int .i64 (0)) := (own_cell ob2 (j := 1) rfl).1; have b2 : wc.cell? ⟨gb, 2, none⟩ = some (.int .i64 (7)) := (own_cell ob2 (j := 2) rfl).1; have b3 : wc.cell? ⟨gb, 3, none⟩ = some (.int .i64 (0)) := (own_cell ob2 (j := 3) rfl).1; have b4 : wc.cell? ⟨gb, 4, none⟩ = some (.int .i64 (1)) := (own_cell ob2 (j := 4) rfl).1; have c0 : wc.cell? ⟨gc, 0, none⟩ = some (.int .i64 (7)) := (own_cell oc (j := 0) rfl).1; have c1 : wc.cell? ⟨gc, 1, none⟩ = some (.int .i64 (1)) := (own_cell oc (j := 1) rfl).1; have c2 : wc.cell? ⟨gc, 2, none⟩ = some (.int .i64 (-1)) := (own_cell oc (j := 2) rfl).1; have c3 : wc.cell? ⟨gc, 3, none⟩ = some (.int .i64 (0)) := (own_cell oc (j := 3) rfl).1; have c4 : wc.cell? ⟨gc, 4, none⟩ = some (.int .i64 (2)) := (own_cell oc (j := 4) rfl).1; clear oa oa2 ob ob2 oc ba bb bc HIN HX))
  go_ret
  exact ⟨rfl, HBB.out⟩
end Go.Proofs.Yteinpijbdgcehaa
