import Derived.Test.YtecpknpcjoiliabDoorCUPc
import Derived.Test.YtecpknpcjoiliabDoorCUF
namespace Go.Proofs.YtecpknpcjoiliabDoor
open Go.RowKit
set_option linter.unusedVariables false
set_option linter.unusedSimpArgs false

set_option maxRecDepth 100000 in
set_option maxHeartbeats 8000000 in
theorem Print_any (w : World) (hL : LW w) (s : Sc) (hw : s.Wf) (pa : Option Addr) (pc : Nat) (hp : PkV w w.heap.size pa s.picks) :
    Calls Tryd.prog 10 #[scV s.lim s.reap (.slice pa s.picks.length pc)] w fun e w' => e = .returned (.tuple #[strV (writeS s).1, .int .i64 (writeS s).2]) ∧ Bx (Below w.heap.size w w') := by
  obtain ⟨w0, hw0⟩ : ∃ w0, w0 = w.alloc (.cells #[.int .i64 s.lim.a, .int .i64 s.lim.b, .int .i64 s.lim.c, .int .i64 s.lim.d, .int .i64 s.lim.e, .int .i64 s.lim.f, .int .i64 s.lim.g, .bool s.reap, .slice pa s.picks.length pc] 31) := ⟨_, rfl⟩
  have hb0 : Below w.heap.size w w0 := by rw [hw0]; exact below1 w _
  have hL0 := hL.below hb0
  have HWR : Bx _ := ⟨write_any w0 hL0 s hw pa pc ((hp.below hb0).up hb0.size)⟩
  have hs0 := hb0.size
  have HBB : Bx (∀ W, Below w0.heap.size w0 W → Below w.heap.size w W) := ⟨fun W h => hb0.trans (h.mono hs0)⟩
  have HLW : Bx (∀ W, Below w0.heap.size w0 W → LW W) := ⟨fun W h => hL0.below h⟩
  have HAS : Bx (∀ w1 c, Below w0.heap.size w0 w1 → Calls Tryd.prog 12 #[wrV 0 c, .iface 49 (.pointer (some ⟨w1.heap.size, 0, none⟩))] (w1.alloc (.cells #[.int .i64 0, .int .i64 0] 47)) fun e w' => e = .returned (.bool true) ∧ w'.cell? ⟨w1.heap.size, 1, none⟩ = some (.int .i64 c) ∧ Bx (Below w.heap.size w w')) := ⟨fun w1 c hb => by
    have hbX := hb.trans ((below1 w1 (.cells #[.int .i64 0, .int .i64 0] 47)).mono hb.size)
    have g2 := HBB.out _ hbX
    have hsz := (HBB.out _ hb).size
    refine (as_hit _ c w1.heap.size _ (HLW.out _ hbX).et (heap_newH _ _ _ rfl)).mono ?_
    rintro e w' ⟨rfl, H⟩
    exact ⟨rfl, cell_blk H.out.2 rfl, ⟨g2.trans (H.out.1.below g2.size fun x hx => by omega)⟩⟩⟩
  have hcase : writeS s = (textS s, 0) ∨ ∃ c, writeS s = ([], c) ∧ c ≠ 0 := by
    unfold writeS
    split
    · split
      · exact Or.inl rfl
      · exact Or.inr ⟨171, rfl, by decide⟩
    · exact Or.inr ⟨172, rfl, by decide⟩
  rcases hcase with hc | ⟨c, hc, hc0⟩
  · have HW1 : Bx (∀ v er w1, WrP w0 s v er w1 → Below w0.heap.size w0 w1 ∧ er = .nilIface ∧ BO w1 w0.heap.size v (textS s)) := ⟨fun v er w1 h => by
      obtain ⟨h1, ⟨_, h2, h3⟩ | ⟨c, h2, h3, _⟩⟩ := h
      · exact ⟨h1, h2, h3⟩
      · rw [hc] at h2
        injection h2 with _ h2
        exact absurd h2.symm h3⟩
    rw [hc]
    clear hL hp hb0 hL0 hw hs0 HLW hc HAS
    simp only []
    generalize textS s = TX at *
    go_enter Tryd.func10, Tryd.ntmps10
    go_wp2_with (first
      | (go_at_call 17; rw [← hw0]; refine HWR.out.mono ?_; rintro e w1 ⟨v1, er1, rfl, H1⟩; obtain ⟨hb1, rfl, hbo⟩ := HW1.out _ _ _ H1.out; have HB1 : Bx (∀ o, Below w.heap.size w (w1.alloc o)) := ⟨fun o => HBB.out _ (hb1.trans ((below1 w1 o).mono hb1.size))⟩; have hcv := (hbo.alloc (.cells #[.int .i64 0, .int .i64 0] 47)).str; clear hb1 hbo H1)
      | (go_at_call 12; refine (as_nil _ _).mono ?_; rintro e w2 ⟨rfl, rfl⟩))
    go_ret2
    exact ⟨rfl, ⟨HB1.out _⟩⟩
  · have HW1 : Bx (∀ v er w1, WrP w0 s v er w1 → Below w0.heap.size w0 w1 ∧ er = wrV 0 c) := ⟨fun v er w1 h => by
      obtain ⟨h1, ⟨h2, _, _⟩ | ⟨c', h2, h3, h4⟩⟩ := h
      · rw [hc] at h2
        injection h2 with _ h2
        exact absurd h2 hc0
      · rw [hc] at h2
        injection h2 with _ h2
        subst h2
        exact ⟨h1, h4⟩⟩
    rw [hc]
    clear hL hp hb0 hL0 hw hs0 HLW hc HBB hc0
    simp only []
    go_enter Tryd.func10, Tryd.ntmps10
    go_wp2_with (first
      | (go_at_call 17; rw [← hw0]; refine HWR.out.mono ?_; rintro e w1 ⟨v1, er1, rfl, H1⟩; obtain ⟨hb1, rfl⟩ := HW1.out _ _ _ H1.out; have HB1 : Bx _ := ⟨hb1⟩; clear hb1 H1)
      | (go_at_call 12; refine (HAS.out w1 c HB1.out).mono ?_; rintro e w2 ⟨rfl, t1, H2⟩))
    go_quiet (fail)
    go_wp2
    go_ret2
    exact ⟨rfl, ⟨below_drewN H2.out _⟩⟩
end Go.Proofs.YtecpknpcjoiliabDoor
