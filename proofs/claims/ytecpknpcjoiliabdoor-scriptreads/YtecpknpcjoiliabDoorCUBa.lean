import Derived.Test.YtecpknpcjoiliabDoorCUSh
namespace Go.Proofs.YtecpknpcjoiliabDoor
open Go.RowKit
set_option linter.unusedVariables false
set_option linter.unusedSimpArgs false

set_option maxRecDepth 100000 in
set_option maxHeartbeats 4000000 in
theorem picks_yes (w : World) (pa qa : Option Addr) (pc qc : Nat) (ps : List Pk) (hp : PkV w w.heap.size pa ps) (hq : PkV w w.heap.size qa ps) :
    Calls Tryd.prog 15 #[.slice pa ps.length pc, .slice qa ps.length qc] w fun e w' => e = .returned (.bool true) ∧ Bx (Below w.heap.size w w') := by
  have hmax := hp.max
  unfold maxLen at hmax
  have HP : Bx (∀ W, Below w.heap.size w W → PkV W w.heap.size pa ps ∧ PkV W w.heap.size qa ps) := ⟨fun W h => ⟨hp.below h, hq.below h⟩⟩
  clear hp hq
  go_enter Tryd.func15, Tryd.ntmps15
  go_wp2
  go_loopw [5] (fun x wr => ∃ k : Nat, k ≤ ps.length ∧ x = .int .i64 k ∧ Bx (Below w.heap.size w wr)) (fun x _ => ps.length - (intOf x).toNat)
  case atStart => exact ⟨0, Nat.zero_le _, rfl, ⟨Below.refl _ _⟩⟩
  case round =>
    obtain ⟨k, hk, rfl, HB⟩ := hrel
    by_cases hlt : k < ps.length
    · obtain ⟨b1, o1, rfl, _, h1⟩ := (HP.out wr HB.out).1.at_ (by omega)
      obtain ⟨b2, o2, rfl, _, h2⟩ := (HP.out wr HB.out).2.at_ (by omega)
      obtain ⟨c0, c1, c2⟩ := h1 k hlt
      obtain ⟨d0, d1, d2⟩ := h2 k hlt
      have HD : Bx (∀ n, Below w.heap.size w (wr.drewN n)) := ⟨fun n => below_drewN HB.out n⟩
      clear h1 h2 HP
      generalize ps[k].kind = xk at *
      generalize ps[k].n = xn at *
      generalize ps[k].v = xv at *
      go_wp2
      go_quiet (fail)
      go_wp2
      go_roundw
      case rel => exact ⟨k + 1, by omega, by go_num, ⟨HD.out _⟩⟩
      case measure => simp [intOf]; omega
    · have hke : k = ps.length := by omega
      subst hke
      go_wp2
      go_ret
      exact ⟨rfl, HB⟩
set_option maxRecDepth 100000 in
set_option maxHeartbeats 4000000 in
theorem same_yes (w : World) (m : Lm) (b : Bool) (pa qa : Option Addr) (pc qc : Nat) (ps : List Pk) (hp : PkV w w.heap.size pa ps) (hq : PkV w w.heap.size qa ps) :
    Calls Tryd.prog 7 #[scV m b (.slice pa ps.length pc), scV m b (.slice qa ps.length qc)] w fun e w' => e = .returned (.bool true) ∧ Bx (Below w.heap.size w w') := by
  obtain ⟨X, hX⟩ : ∃ X, X = (w.alloc (.cells #[.int .i64 m.a, .int .i64 m.b, .int .i64 m.c, .int .i64 m.d, .int .i64 m.e, .int .i64 m.f, .int .i64 m.g, .bool b, .slice pa ps.length pc] 31)).alloc (.cells #[.int .i64 m.a, .int .i64 m.b, .int .i64 m.c, .int .i64 m.d, .int .i64 m.e, .int .i64 m.f, .int .i64 m.g, .bool b, .slice qa ps.length qc] 31) := ⟨_, rfl⟩
  have hbX : Below w.heap.size w X := by rw [hX]; exact (below1 w _).alloc (by simp) _
  have g0 : X.heap[w.heap.size]? = some (.cells #[.int .i64 m.a, .int .i64 m.b, .int .i64 m.c, .int .i64 m.d, .int .i64 m.e, .int .i64 m.f, .int .i64 m.g, .bool b, .slice pa ps.length pc] 31 (0, 0)) := by rw [hX]; exact below_heap (below1 _ _) (heap_newH _ _ _ rfl)
  have g1 : X.heap[w.heap.size + 1]? = some (.cells #[.int .i64 m.a, .int .i64 m.b, .int .i64 m.c, .int .i64 m.d, .int .i64 m.e, .int .i64 m.f, .int .i64 m.g, .bool b, .slice qa ps.length qc] 31 (0, 0)) := by rw [hX]; exact heap_newH _ _ _ (by simp)
  have HPK : Bx (Calls Tryd.prog 15 #[.slice pa ps.length pc, .slice qa ps.length qc] X fun e w' => e = .returned (.bool true) ∧ Bx (Below w.heap.size w w') ∧ w'.heap[w.heap.size]? = some (.cells #[.int .i64 m.a, .int .i64 m.b, .int .i64 m.c, .int .i64 m.d, .int .i64 m.e, .int .i64 m.f, .int .i64 m.g, .bool b, .slice pa ps.length pc] 31 (0, 0)) ∧ w'.heap[w.heap.size + 1]? = some (.cells #[.int .i64 m.a, .int .i64 m.b, .int .i64 m.c, .int .i64 m.d, .int .i64 m.e, .int .i64 m.f, .int .i64 m.g, .bool b, .slice qa ps.length qc] 31 (0, 0))) := ⟨(picks_yes X pa qa pc qc ps ((hp.below hbX).up hbX.size) ((hq.below hbX).up hbX.size)).mono fun e w' h => ⟨h.1, ⟨hbX.trans (h.2.out.mono hbX.size)⟩, below_heap h.2.out g0, below_heap h.2.out g1⟩⟩
  clear hp hq hbX
  have x8 : X.cell? ⟨w.heap.size, 8, none⟩ = some (.slice pa ps.length pc) := cell_blk g0 rfl
  have y8 : X.cell? ⟨w.heap.size + 1, 8, none⟩ = some (.slice qa ps.length qc) := cell_blk g1 rfl
  have HX : Bx (_ = X) := ⟨hX.symm⟩
  clear g0 g1
  generalize hnp : ps.length = np at *
  clear hnp
  go_enter Tryd.func7, Tryd.ntmps7
  go_wp2_with (go_at_call 15; rw [HX.out]; refine HPK.out.mono ?_; rintro e w1 ⟨rfl, H1, h0, h1⟩; obtain ⟨s0, s1, s2, s3, s4, s5, s6, s7, s8⟩ := cells9 h0; obtain ⟨r0, r1, r2, r3, r4, r5, r6, r7, r8⟩ := cells9 h1; clear h0 h1)
  go_ret
  exact ⟨rfl, H1⟩
end Go.Proofs.YtecpknpcjoiliabDoor
