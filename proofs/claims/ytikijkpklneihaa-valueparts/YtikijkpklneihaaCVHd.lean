import Derived.Test.YtikijkpklneihaaCVRo
import Derived.Test.YtikijkpklneihaaCVSe
import Derived.Deep.RegionHeld3
namespace Go.Proofs.Ytikijkpklneihaa
open Go.RowKit
set_option linter.unusedVariables false
set_option linter.unusedSimpArgs false

theorem Bk.slices {W : World} {lo h : Nat} {ρ : Gh} {ov wv : Value} {n : Nat} {X : Nat → V} (hB : Bk W lo h ρ ov wv n X) : (∃ ga gc, ov = .slice ga n gc) ∧ ∃ ga gc, wv = .slice ga n gc := by
  obtain ⟨cs, o1, _⟩ := hB.orow
  obtain ⟨ds, w1, _⟩ := hB.wrow
  exact ⟨owns_slice o1, owns_slice w1⟩
set_option maxRecDepth 100000 in
set_option maxHeartbeats 8000000 in
/-- holds: all of them read as they must -/
theorem holds_any (w : World) (lo h : Nat) (ρ : Gh) (ov wv : Value) (n : Nat) (X : Nat → V) (hB : Bk w lo h ρ ov wv n X) (hn : n ≤ 1000) :
    Calls Try.prog 25 #[.pointer (some ⟨h, 0, none⟩)] w fun e w' => e = .returned (.bool true) ∧ Below w.heap.size w w' := by
  have HB : Bx _ := ⟨hB⟩
  have HR : Bx (Below w.heap.size w w) := ⟨Below.refl _ _⟩
  obtain ⟨⟨ga, gc, e1⟩, ⟨gb, gd, e2⟩⟩ := hB.slices
  have hc0 : w.cell? ⟨h, 0, none⟩ = some ov := cell_blk hB.hd rfl
  have hhl : h < w.heap.size := heap_lt hB.hd
  have HH : Bx (h < w.heap.size ∧ w.cell? ⟨h, 0, none⟩ = some ov) := ⟨hhl, hc0⟩
  clear hB hc0 hhl
  subst e1 e2
  go_enter Try.func25, Try.ntmps25
  go_wp2
  go_loopg [3] (n + 1) (fun q v wr => ∃ i : Nat, q = n + 1 - i ∧ i ≤ n ∧ v = .int .i64 i ∧ Bx (Below w.heap.size w wr))
  case atStart => exact ⟨0, by simp, by omega, rfl, HR⟩
  case round =>
    obtain ⟨i, hq, hil, rfl, HS⟩ := hrel
    clear HR
    have hc0 : wr.cell? ⟨h, 0, none⟩ = some (.slice ga n gc) := (HS.out.cell (p := ⟨h, 0, none⟩) HH.out.1).trans HH.out.2
    by_cases hlt : i < n
    · obtain ⟨g, c, g', c', p, pc, p', pc', e1, e2, ⟨q1, q2, q3, q4, q5, q6, q7⟩, ⟨a0, a1, a2⟩, ⟨d0, d1, d2⟩, ⟨h0, h1⟩, ⟨hk, hm⟩, t1, t2⟩ := (HB.out.next HS.out).at_ hlt
      simp only [Value.slice.injEq] at e1 e2
      obtain ⟨rfl, -, rfl⟩ := e1
      obtain ⟨rfl, -, rfl⟩ := e2
      have HSM : Bx (∀ Y, Below wr.heap.size wr Y → Calls Try.prog 12 #[agV (X i).k (X i).n p (X i).l.length pc, agV (X i).k (X i).n p' (X i).l.length pc'] Y fun e w' => e = .returned (.bool true) ∧ Below Y.heap.size Y w') := ⟨fun Y hY => by
        have := same_any Y wr.heap.size (agV (X i).k (X i).n p (X i).l.length pc) (agV (X i).k (X i).n p' (X i).l.length pc') (X i) (X i) ((t1.isv hk hm).lo (Lo.of hY)) ((t2.isv hk hm).lo (Lo.of hY)) hY.size
        rwa [eqB_yes rfl] at this⟩
      have hiI : (i : Int) < (n : Int) := by omega
      unfold maxLen at q2 q4
      have HC : Bx (∀ Y, Below wr.heap.size wr Y → Y.cell? ⟨h, 0, none⟩ = some (.slice (some ⟨g, 0, none⟩) n gc) ∧ Y.cell? ⟨h, 1, none⟩ = some (.slice (some ⟨g', 0, none⟩) n gd) ∧ Y.cell? ⟨g, i * 3, none⟩ = some (.int .i64 (X i).k) ∧ Y.cell? ⟨g, i * 3 + 1, none⟩ = some (.int .i64 (X i).n) ∧ Y.cell? ⟨g, i * 3 + 2, none⟩ = some (.slice p (X i).l.length pc) ∧ Y.cell? ⟨g', i * 3, none⟩ = some (.int .i64 (X i).k) ∧ Y.cell? ⟨g', i * 3 + 1, none⟩ = some (.int .i64 (X i).n) ∧ Y.cell? ⟨g', i * 3 + 2, none⟩ = some (.slice p' (X i).l.length pc')) := ⟨fun Y hY => by
        have k : ∀ b o v, b < wr.heap.size → wr.cell? ⟨b, o, none⟩ = some v → Y.cell? ⟨b, o, none⟩ = some v := fun b o v h1 h2 => (hY.cell (p := ⟨b, o, none⟩) h1).trans h2
        exact ⟨k _ _ _ q7 h0, k _ _ _ q7 h1, k _ _ _ q5 a0, k _ _ _ q5 a1, k _ _ _ q5 a2, k _ _ _ q6 d0, k _ _ _ q6 d1, k _ _ _ q6 d2⟩⟩
      have hbr : Below wr.heap.size wr wr := Below.refl _ _
      have HN : Bx (∀ Y, Below wr.heap.size wr Y → Below w.heap.size w Y) := ⟨fun Y hY => HS.out.trans (hY.mono HS.out.size)⟩
      clear t1 t2 hk hm HS
      generalize (X i).k = xk at *
      generalize (X i).n = xn at *
      generalize (X i).l.length = xl at *
      go_wp2_with fail
      go_region_held3 (fun Y => Y.cell? ⟨h, 0, none⟩ = some (.slice (some ⟨g, 0, none⟩) n gc) ∧ Y.cell? ⟨h, 1, none⟩ = some (.slice (some ⟨g', 0, none⟩) n gd) ∧ Y.cell? ⟨g, i * 3, none⟩ = some (.int .i64 xk) ∧ Y.cell? ⟨g, i * 3 + 1, none⟩ = some (.int .i64 xn) ∧ Y.cell? ⟨g, i * 3 + 2, none⟩ = some (.slice p xl pc) ∧ Y.cell? ⟨g', i * 3, none⟩ = some (.int .i64 xk) ∧ Y.cell? ⟨g', i * 3 + 1, none⟩ = some (.int .i64 xn) ∧ Y.cell? ⟨g', i * 3 + 2, none⟩ = some (.slice p' xl pc'))
        (first | exact ⟨h0, h1, a0, a1, a2, d0, d1, d2⟩ | exact HC.out _ HB4.out | go_keep)
        (first
          | (go_at_call 12; refine Calls.mono (HSM.out _ hbr.drew) ?_; rintro e w4 ⟨rfl, hb4⟩; have HB4 : Bx (Below wr.heap.size wr w4) := ⟨hbr.drew.trans (hb4.mono (Nat.le_refl _))⟩; clear hb4))
      have HN4 : Bx _ := ⟨HN.out _ HB4.out⟩
      clear HN HC HSM h0 h1 a0 a1 a2 d0 d1 d2 hc0 HB4
      go_wp2
      go_roundg (n + 1 - (i + 1))
      case measure => omega
      case rel => exact ⟨i + 1, rfl, by omega, by go_num, HN4⟩
    · have hin : ¬ ((i : Int) < (n : Int)) := by omega
      go_wp2
      go_ret
      exact ⟨rfl, HS.out⟩
end Go.Proofs.Ytikijkpklneihaa
