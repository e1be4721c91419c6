import Derived.Test.YteinpijbdgcehaaCOSb
namespace Go.Proofs.Yteinpijbdgcehaa
open Go.RowKit Go.Shelf
set_option linter.unusedVariables false
set_option linter.unusedSimpArgs false
attribute [local go_sem] Oper.semAt_some

def prS (a : OArm) : Bool := a.send && decide (0 < a.chan)
def prR (a : OArm) : Bool := !a.send && decide (0 < a.chan)
def prI (a : OArm) : Bool := !a.send && decide (a.chan = 1)
def prO (a : OArm) : Bool := a.send && decide (a.chan = 2)

set_option maxRecDepth 100000 in
set_option maxHeartbeats 2000000 in
theorem sends_any (a : OArm) (w : World) : Calls Try.prog 24 #[armV a] w fun e w' => e = .returned (.bool (prS a)) ∧ Below w.heap.size w w' := by
  obtain ⟨ch, sd, x, y, zp, zn, zc⟩ := a
  have HB : Bx (Below w.heap.size w (w.alloc (.cells #[.int .i64 ch, .bool sd, .int .i64 x, .int .i64 y, .slice zp zn zc] 43))) := ⟨below1 _ _⟩
  simp only [armV, prS]
  cases sd
  · go_enter Try.func24, Try.ntmps24
    go_wp2
    go_ret
    exact ⟨rfl, HB.out⟩
  · by_cases h : 0 < ch
    · have e1 : decide (0 < ch) = true := by simpa using h
      simp only [e1, Bool.and_self]
      go_enter Try.func24, Try.ntmps24
      go_wp2
      go_ret
      exact ⟨rfl, HB.out⟩
    · have e1 : decide (0 < ch) = false := by simpa using h
      simp only [e1, Bool.and_false]
      go_enter Try.func24, Try.ntmps24
      go_wp2
      go_ret
      exact ⟨rfl, HB.out⟩
set_option maxRecDepth 100000 in
set_option maxHeartbeats 2000000 in
theorem receives_any (a : OArm) (w : World) : Calls Try.prog 31 #[armV a] w fun e w' => e = .returned (.bool (prR a)) ∧ Below w.heap.size w w' := by
  obtain ⟨ch, sd, x, y, zp, zn, zc⟩ := a
  have HB : Bx (Below w.heap.size w (w.alloc (.cells #[.int .i64 ch, .bool sd, .int .i64 x, .int .i64 y, .slice zp zn zc] 43))) := ⟨below1 _ _⟩
  simp only [armV, prR]
  cases sd
  · by_cases h : 0 < ch
    · have e1 : decide (0 < ch) = true := by simpa using h
      simp only [e1, Bool.and_true]
      go_enter Try.func31, Try.ntmps31
      go_wp2
      go_ret
      exact ⟨rfl, HB.out⟩
    · have e1 : decide (0 < ch) = false := by simpa using h
      simp only [e1, Bool.and_false]
      go_enter Try.func31, Try.ntmps31
      go_wp2
      go_ret
      exact ⟨rfl, HB.out⟩
  · go_enter Try.func31, Try.ntmps31
    go_wp2
    go_ret
    exact ⟨rfl, HB.out⟩
set_option maxRecDepth 100000 in
set_option maxHeartbeats 2000000 in
theorem takesIn_any (a : OArm) (w : World) : Calls Try.prog 28 #[armV a] w fun e w' => e = .returned (.bool (prI a)) ∧ Below w.heap.size w w' := by
  have hc := receives_any a (w.alloc (.cells #[.int .i64 a.chan, .bool a.send, .int .i64 a.x, .int .i64 a.y, .slice a.zp a.zn a.zc] 43))
  obtain ⟨ch, sd, x, y, zp, zn, zc⟩ := a
  simp only [armV] at hc ⊢
  have hx : (w.alloc (.cells #[.int .i64 ch, .bool sd, .int .i64 x, .int .i64 y, .slice zp zn zc] 43)).heap[w.heap.size]? = some (.cells #[.int .i64 ch, .bool sd, .int .i64 x, .int .i64 y, .slice zp zn zc] 43) := World.alloc_heap_new _ _
  have HB : Bx (Below w.heap.size w (w.alloc (.cells #[.int .i64 ch, .bool sd, .int .i64 x, .int .i64 y, .slice zp zn zc] 43))) := ⟨below1 _ _⟩
  have HX : Bx _ := ⟨hx⟩
  clear hx
  have HP : Bx (prI ⟨ch, sd, x, y, zp, zn, zc⟩ = (prR ⟨ch, sd, x, y, zp, zn, zc⟩ && (ch == 1))) := ⟨by
    simp only [prR, prI]
    by_cases h : ch = 1
    · subst h; simp
    · simp [h]⟩
  generalize hq : prI ⟨ch, sd, x, y, zp, zn, zc⟩ = q at *
  clear hq
  generalize hr : prR ⟨ch, sd, x, y, zp, zn, zc⟩ = r at *
  clear hr
  cases r
  · have hq : q = false := by rw [HP.out, Bool.false_and]
    subst hq
    clear HP
    go_enter Try.func28, Try.ntmps28
    go_wp2_with (go_at_call 31; refine hc.mono ?_; rintro e w2 ⟨rfl, hb⟩; have HB2 : Bx (Below w.heap.size w w2) := ⟨HB.out.trans (hb.mono (by simp))⟩; have f0 : w2.cell? ⟨w.heap.size, 0, none⟩ = some (.int .i64 ch) := cell_of ((hb.block _ (by simp)).trans HX.out) rfl; clear hb hc)
    go_ret
    exact ⟨rfl, HB2.out⟩
  · have hq : q = (ch == 1) := by rw [HP.out, Bool.true_and]
    subst hq
    clear HP
    go_enter Try.func28, Try.ntmps28
    go_wp2_with (go_at_call 31; refine hc.mono ?_; rintro e w2 ⟨rfl, hb⟩; have HB2 : Bx (Below w.heap.size w w2) := ⟨HB.out.trans (hb.mono (by simp))⟩; have f0 : w2.cell? ⟨w.heap.size, 0, none⟩ = some (.int .i64 ch) := cell_of ((hb.block _ (by simp)).trans HX.out) rfl; clear hb hc)
    go_ret
    exact ⟨rfl, HB2.out⟩
set_option maxRecDepth 100000 in
set_option maxHeartbeats 2000000 in
theorem givesOut_any (a : OArm) (w : World) : Calls Try.prog 29 #[armV a] w fun e w' => e = .returned (.bool (prO a)) ∧ Below w.heap.size w w' := by
  have hc := sends_any a (w.alloc (.cells #[.int .i64 a.chan, .bool a.send, .int .i64 a.x, .int .i64 a.y, .slice a.zp a.zn a.zc] 43))
  obtain ⟨ch, sd, x, y, zp, zn, zc⟩ := a
  simp only [armV] at hc ⊢
  have hx : (w.alloc (.cells #[.int .i64 ch, .bool sd, .int .i64 x, .int .i64 y, .slice zp zn zc] 43)).heap[w.heap.size]? = some (.cells #[.int .i64 ch, .bool sd, .int .i64 x, .int .i64 y, .slice zp zn zc] 43) := World.alloc_heap_new _ _
  have HB : Bx (Below w.heap.size w (w.alloc (.cells #[.int .i64 ch, .bool sd, .int .i64 x, .int .i64 y, .slice zp zn zc] 43))) := ⟨below1 _ _⟩
  have HX : Bx _ := ⟨hx⟩
  clear hx
  have HP : Bx (prO ⟨ch, sd, x, y, zp, zn, zc⟩ = (prS ⟨ch, sd, x, y, zp, zn, zc⟩ && (ch == 2))) := ⟨by
    simp only [prS, prO]
    by_cases h : ch = 2
    · subst h; simp
    · simp [h]⟩
  generalize hq : prO ⟨ch, sd, x, y, zp, zn, zc⟩ = q at *
  clear hq
  generalize hr : prS ⟨ch, sd, x, y, zp, zn, zc⟩ = r at *
  clear hr
  cases r
  · have hq : q = false := by rw [HP.out, Bool.false_and]
    subst hq
    clear HP
    go_enter Try.func29, Try.ntmps29
    go_wp2_with (go_at_call 24; refine hc.mono ?_; rintro e w2 ⟨rfl, hb⟩; have HB2 : Bx (Below w.heap.size w w2) := ⟨HB.out.trans (hb.mono (by simp))⟩; have f0 : w2.cell? ⟨w.heap.size, 0, none⟩ = some (.int .i64 ch) := cell_of ((hb.block _ (by simp)).trans HX.out) rfl; clear hb hc)
    go_ret
    exact ⟨rfl, HB2.out⟩
  · have hq : q = (ch == 2) := by rw [HP.out, Bool.true_and]
    subst hq
    clear HP
    go_enter Try.func29, Try.ntmps29
    go_wp2_with (go_at_call 24; refine hc.mono ?_; rintro e w2 ⟨rfl, hb⟩; have HB2 : Bx (Below w.heap.size w w2) := ⟨HB.out.trans (hb.mono (by simp))⟩; have f0 : w2.cell? ⟨w.heap.size, 0, none⟩ = some (.int .i64 ch) := cell_of ((hb.block _ (by simp)).trans HX.out) rfl; clear hb hc)
    go_ret
    exact ⟨rfl, HB2.out⟩
end Go.Proofs.Yteinpijbdgcehaa
