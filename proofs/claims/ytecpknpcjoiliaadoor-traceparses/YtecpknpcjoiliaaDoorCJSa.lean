import Derived.Test.YtecpknpcjoiliaaDoorCJE
import Derived.Test.YtecpknpcjoiliaaDoorCJC
import Derived.Deep.RegionHeld
import Derived.Deep.RegionHeld3
import Derived.Deep.QuietTactic
import Derived.BigQuiet
namespace Go.Proofs.YtecpknpcjoiliaaDoor
open Go.RowKit
set_option linter.unusedVariables false
set_option linter.unusedSimpArgs false

theorem take_eqS {α : Type} {xs ys : List α} {p : Nat} (h : xs.take p = ys.take p) (h1 : p < xs.length) (h2 : p < ys.length) (he : xs[p] = ys[p]) : xs.take (p + 1) = ys.take (p + 1) := by
  rw [List.take_succ_eq_append_getElem h1, List.take_succ_eq_append_getElem h2, h, he]
set_option maxRecDepth 100000 in
set_option maxHeartbeats 2000000 in
theorem sameInts_any (w : World) (B : Nat) (a1 a2 : Option Addr) (c1 c2 : Nat) (xs ys : List Int) (h1 : IntsV w B a1 c1 xs) (h2 : IntsV w B a2 c2 ys) :
    Calls Tryd.prog 35 #[.slice a1 xs.length c1, .slice a2 ys.length c2] w fun e w' => e = .returned (.bool (decide (xs = ys))) ∧ ∃ k, w' = w.drewN k := by
  have hl1 := h1.max
  have hl2 := h2.max
  unfold maxLen at hl1 hl2
  by_cases hlen : xs.length = ys.length
  · have HX : Bx _ := ⟨h1⟩
    have HY : Bx _ := ⟨h2⟩
    clear h1 h2
    generalize hn : xs.length = n at *
    have HN : Bx (xs.length = n ∧ ys.length = n) := ⟨hn, hlen.symm⟩
    rw [← hlen] at hl2
    rw [← hlen]
    clear hn hlen
    go_enter Tryd.func35, Tryd.ntmps35
    go_wp2
    go_loopw [5] (fun x wr => ∃ p k : Nat, p ≤ n ∧ x = .int .i64 p ∧ wr = w.drewN k ∧ Bx (xs.take p = ys.take p)) (fun x _ => n - (intOf x).toNat)
    case atStart => exact ⟨0, 0, Nat.zero_le _, rfl, rfl, ⟨rfl⟩⟩
    case round =>
      obtain ⟨p, k, hp, rfl, rfl, HR⟩ := hrel
      by_cases hlt : p < n
      · have hp1 : p < xs.length := by rw [HN.out.1]; exact hlt
        have hp2 : p < ys.length := by rw [HN.out.2]; exact hlt
        obtain ⟨b1, o1, rfl, hb1, hcell1⟩ := HX.out.at_ (by omega)
        have hc1 := HX.out.cap
        rw [HN.out.1] at hc1
        obtain ⟨b2, o2, rfl, hb2, hcell2⟩ := HY.out.at_ (by omega)
        have hc2 := HY.out.cap
        rw [HN.out.2] at hc2
        have k1 := hcell1 p hp1
        have k2 := hcell2 p hp2
        by_cases he : xs[p] = ys[p]
        · have HT : Bx _ := ⟨take_eqS HR.out hp1 hp2 he⟩
          rw [← he] at k2
          generalize xs[p] = z at *
          clear hcell1 hcell2 HR HX HY
          go_wp2
          go_quiet (fail)
          go_wp2
          go_roundw
          case rel => exact ⟨p + 1, k + nq, by omega, by go_num, by first | rfl | rw [World.drewN_drewN], HT⟩
          case measure => simp [intOf]; omega
        · have hf : Bx (decide (xs = ys) = false) := ⟨decide_eq_false (fun e => he (by subst e; rfl))⟩
          have hz : (xs[p] != ys[p]) = true := by simpa using he
          generalize xs[p] = z at *
          generalize ys[p] = z2 at *
          clear hcell1 hcell2 HR HX HY
          go_wp2
          go_quiet (fail)
          go_wp2
          go_ret
          exact ⟨ret_bool hf.out.symm, k + nq, by first | rfl | rw [World.drewN_drewN]⟩
      · have hf : Bx (decide (xs = ys) = true) := ⟨decide_eq_true (by
          have := HR.out
          rw [List.take_of_length_le (by rw [HN.out.1]; omega), List.take_of_length_le (by rw [HN.out.2]; omega)] at this
          exact this)⟩
        clear HR HX HY HN
        go_wp2
        go_ret
        exact ⟨ret_bool hf.out.symm, k, rfl⟩
  · have hne : decide (xs = ys) = false := decide_eq_false (fun e => hlen (by rw [e]))
    rw [hne]
    have hne2 : ((xs.length : Int) != (ys.length : Int)) = true := by simp; omega
    clear h1 h2 hlen hne
    generalize xs.length = n1 at *
    generalize ys.length = n2 at *
    go_enter Tryd.func35, Tryd.ntmps35
    go_wp2
    go_ret
    exact ⟨rfl, 0, rfl⟩
theorem sameInts_yes (X : World) (a b : Option Addr) (c d : Nat) (l : List Int) (h1 : IntsV X X.heap.size a c l) (h2 : IntsV X X.heap.size b d l) {n : Nat} (hn : l.length = n) : Calls Tryd.prog 35 #[.slice a n c, .slice b n d] X fun e w' => e = .returned (.bool true) ∧ Below X.heap.size X w' := by
  have := sameInts_any X _ a b c d l l h1 h2
  rw [hn] at this
  refine this.mono ?_
  rintro e w' ⟨rfl, k, rfl⟩
  exact ⟨by simp, ⟨rfl, rfl, rfl, Nat.le_refl _, fun _ _ => rfl⟩⟩
set_option maxRecDepth 100000 in
set_option maxHeartbeats 1000000 in
theorem sameEvent_yes (w : World) (k0 k1 k2 k3 k4 k5 k6 : Int) (l : List Int) {n : Nat} (hn : l.length = n) (a1 a2 : Option Addr) (c1 c2 : Nat) (h1 : IntsV w w.heap.size a1 c1 l) (h2 : IntsV w w.heap.size a2 c2 l) :
    Calls Tryd.prog 38 #[.agg #[.int .i64 k0, .int .i64 k1, .int .i64 k2, .int .i64 k3, .int .i64 k4, .int .i64 k5, .int .i64 k6, .slice a1 n c1], .agg #[.int .i64 k0, .int .i64 k1, .int .i64 k2, .int .i64 k3, .int .i64 k4, .int .i64 k5, .int .i64 k6, .slice a2 n c2]] w fun e w' => e = .returned (.bool true) ∧ Below w.heap.size w w' := by
  have HS : Bx (∀ o1 o2, Calls Tryd.prog 35 #[.slice a1 n c1, .slice a2 n c2] ((w.alloc o1).alloc o2) fun e w' => e = .returned (.bool true) ∧ Bx (Below w.heap.size w w')) := ⟨fun o1 o2 => by
    have hb : Below w.heap.size w ((w.alloc o1).alloc o2) := (below1 w o1).alloc (by simp) o2
    exact (sameInts_yes ((w.alloc o1).alloc o2) a1 a2 c1 c2 l ((h1.below hb).up hb.size) ((h2.below hb).up hb.size) hn).mono fun e w' h => ⟨h.1, ⟨hb.trans (h.2.mono hb.size)⟩⟩⟩
  clear h1 h2 hn
  go_enter Tryd.func38, Tryd.ntmps38
  go_wp2_with (first
    | (go_at_call 35; refine (HS.out _ _).mono ?_; rintro e w1 ⟨rfl, HX⟩))
  go_ret
  exact ⟨rfl, HX.out⟩
set_option maxRecDepth 100000 in
set_option maxHeartbeats 4000000 in
theorem sameEvents_yes (w : World) (l : List Ev) {n : Nat} (hn : l.length = n) (a1 a2 : Option Addr) (c1 c2 : Nat) (h1 : EvsV w w.heap.size a1 l) (h2 : EvsV w w.heap.size a2 l) :
    Calls Tryd.prog 20 #[.slice a1 n c1, .slice a2 n c2] w fun e w' => e = .returned (.bool true) ∧ Below w.heap.size w w' := by
  have hm := h1.max
  rw [hn] at hm
  unfold maxLen at hm
  have HR : Bx (∀ X i (h : i < n), Below w.heap.size w X → ∃ b1 o1 b2 o2 k0 k1 k2 k3 k4 k5 k6 k z1 z2 e1 e2, a1 = some ⟨b1, o1, none⟩ ∧ a2 = some ⟨b2, o2, none⟩ ∧ Bx (∀ Y, Below w.heap.size w Y → ((Y.cell? ⟨b1, o1 + i * 8, none⟩ = some (.int .i64 k0) ∧ Y.cell? ⟨b1, o1 + i * 8 + 1, none⟩ = some (.int .i64 k1) ∧ Y.cell? ⟨b1, o1 + i * 8 + 2, none⟩ = some (.int .i64 k2) ∧ Y.cell? ⟨b1, o1 + i * 8 + 3, none⟩ = some (.int .i64 k3) ∧ Y.cell? ⟨b1, o1 + i * 8 + 4, none⟩ = some (.int .i64 k4) ∧ Y.cell? ⟨b1, o1 + i * 8 + 5, none⟩ = some (.int .i64 k5) ∧ Y.cell? ⟨b1, o1 + i * 8 + 6, none⟩ = some (.int .i64 k6) ∧ Y.cell? ⟨b1, o1 + i * 8 + 7, none⟩ = some (.slice z1 k e1)) ∧ Y.cell? ⟨b2, o2 + i * 8, none⟩ = some (.int .i64 k0) ∧ Y.cell? ⟨b2, o2 + i * 8 + 1, none⟩ = some (.int .i64 k1) ∧ Y.cell? ⟨b2, o2 + i * 8 + 2, none⟩ = some (.int .i64 k2) ∧ Y.cell? ⟨b2, o2 + i * 8 + 3, none⟩ = some (.int .i64 k3) ∧ Y.cell? ⟨b2, o2 + i * 8 + 4, none⟩ = some (.int .i64 k4) ∧ Y.cell? ⟨b2, o2 + i * 8 + 5, none⟩ = some (.int .i64 k5) ∧ Y.cell? ⟨b2, o2 + i * 8 + 6, none⟩ = some (.int .i64 k6) ∧ Y.cell? ⟨b2, o2 + i * 8 + 7, none⟩ = some (.slice z2 k e2)) ∧ Calls Tryd.prog 38 #[.agg #[.int .i64 k0, .int .i64 k1, .int .i64 k2, .int .i64 k3, .int .i64 k4, .int .i64 k5, .int .i64 k6, .slice z1 k e1], .agg #[.int .i64 k0, .int .i64 k1, .int .i64 k2, .int .i64 k3, .int .i64 k4, .int .i64 k5, .int .i64 k6, .slice z2 k e2]] Y fun e w' => e = .returned (.bool true) ∧ Below w.heap.size w w')) := ⟨fun X i h hX => by
    have hi : i < l.length := by omega
    obtain ⟨b1, o1, e1, hb1, hj1⟩ := h1.at_ (by omega)
    obtain ⟨b2, o2, e2, hb2, hj2⟩ := h2.at_ (by omega)
    obtain ⟨ka1, kc1, p⟩ := hj1 i hi
    obtain ⟨ka2, kc2, q⟩ := hj2 i hi
    refine ⟨b1, o1, b2, o2, l[i].kind, l[i].p, l[i].i, l[i].q, l[i].j, l[i].c, l[i].num, l[i].list.length, ka1, ka2, kc1, kc2, e1, e2, ⟨fun Y hY => ⟨?_, ?_⟩⟩⟩
    · have y1 := p.below hb1 hY
      have y2 := q.below hb2 hY
      exact ⟨⟨y1.c0, y1.c1, y1.c2, y1.c3, y1.c4, y1.c5, y1.c6, y1.c7⟩, y2.c0, y2.c1, y2.c2, y2.c3, y2.c4, y2.c5, y2.c6, y2.c7⟩
    · exact (sameEvent_yes Y _ _ _ _ _ _ _ _ rfl ka1 ka2 kc1 kc2 ((p.li.below hY).up hY.size) ((q.li.below hY).up hY.size)).mono fun e w' hh => ⟨hh.1, hY.trans (hh.2.mono hY.size)⟩⟩
  clear h1 h2 hn
  go_enter Tryd.func20, Tryd.ntmps20
  go_wp2
  go_loopw [5] (fun x wr => ∃ i : Nat, i ≤ n ∧ x = .int .i64 i ∧ Bx (Below w.heap.size w wr)) (fun x _ => n - (intOf x).toNat)
  case atStart => exact ⟨0, Nat.zero_le _, rfl, ⟨Below.refl _ _⟩⟩
  case round =>
    obtain ⟨i, hi, rfl, HI⟩ := hrel
    by_cases hlt : i < n
    · obtain ⟨b1, o1, b2, o2, k0, k1, k2, k3, k4, k5, k6, k, z1, z2, e1, e2, rfl, rfl, HY⟩ := HR.out _ i hlt HI.out
      have HF : Bx (∀ Y, Below w.heap.size w Y → (Y.cell? ⟨b1, o1 + i * 8, none⟩ = some (.int .i64 k0) ∧ Y.cell? ⟨b1, o1 + i * 8 + 1, none⟩ = some (.int .i64 k1) ∧ Y.cell? ⟨b1, o1 + i * 8 + 2, none⟩ = some (.int .i64 k2) ∧ Y.cell? ⟨b1, o1 + i * 8 + 3, none⟩ = some (.int .i64 k3) ∧ Y.cell? ⟨b1, o1 + i * 8 + 4, none⟩ = some (.int .i64 k4) ∧ Y.cell? ⟨b1, o1 + i * 8 + 5, none⟩ = some (.int .i64 k5) ∧ Y.cell? ⟨b1, o1 + i * 8 + 6, none⟩ = some (.int .i64 k6) ∧ Y.cell? ⟨b1, o1 + i * 8 + 7, none⟩ = some (.slice z1 k e1) ∧ Y.cell? ⟨b2, o2 + i * 8, none⟩ = some (.int .i64 k0) ∧ Y.cell? ⟨b2, o2 + i * 8 + 1, none⟩ = some (.int .i64 k1) ∧ Y.cell? ⟨b2, o2 + i * 8 + 2, none⟩ = some (.int .i64 k2) ∧ Y.cell? ⟨b2, o2 + i * 8 + 3, none⟩ = some (.int .i64 k3) ∧ Y.cell? ⟨b2, o2 + i * 8 + 4, none⟩ = some (.int .i64 k4) ∧ Y.cell? ⟨b2, o2 + i * 8 + 5, none⟩ = some (.int .i64 k5) ∧ Y.cell? ⟨b2, o2 + i * 8 + 6, none⟩ = some (.int .i64 k6) ∧ Y.cell? ⟨b2, o2 + i * 8 + 7, none⟩ = some (.slice z2 k e2))) := ⟨fun Y hY => by
        obtain ⟨⟨⟨x0, x1, x2, x3, x4, x5, x6, x7⟩, y0, y1, y2, y3, y4, y5, y6, y7⟩, _⟩ := HY.out Y hY
        exact ⟨x0, x1, x2, x3, x4, x5, x6, x7, y0, y1, y2, y3, y4, y5, y6, y7⟩⟩
      have HC : Bx (∀ Y, Below w.heap.size w Y → _) := ⟨fun Y hY => (HY.out Y hY).2⟩
      have hbr := HI.out
      have g1 : (0 : Int) ≤ ↑i := by omega
      have g2 : (↑i : Int) < ↑n := by omega
      clear HY HR
      go_wp2
      go_region_held3 (fun Y => Y.cell? ⟨b1, o1 + i * 8, none⟩ = some (.int .i64 k0) ∧ Y.cell? ⟨b1, o1 + i * 8 + 1, none⟩ = some (.int .i64 k1) ∧ Y.cell? ⟨b1, o1 + i * 8 + 2, none⟩ = some (.int .i64 k2) ∧ Y.cell? ⟨b1, o1 + i * 8 + 3, none⟩ = some (.int .i64 k3) ∧ Y.cell? ⟨b1, o1 + i * 8 + 4, none⟩ = some (.int .i64 k4) ∧ Y.cell? ⟨b1, o1 + i * 8 + 5, none⟩ = some (.int .i64 k5) ∧ Y.cell? ⟨b1, o1 + i * 8 + 6, none⟩ = some (.int .i64 k6) ∧ Y.cell? ⟨b1, o1 + i * 8 + 7, none⟩ = some (.slice z1 k e1) ∧ Y.cell? ⟨b2, o2 + i * 8, none⟩ = some (.int .i64 k0) ∧ Y.cell? ⟨b2, o2 + i * 8 + 1, none⟩ = some (.int .i64 k1) ∧ Y.cell? ⟨b2, o2 + i * 8 + 2, none⟩ = some (.int .i64 k2) ∧ Y.cell? ⟨b2, o2 + i * 8 + 3, none⟩ = some (.int .i64 k3) ∧ Y.cell? ⟨b2, o2 + i * 8 + 4, none⟩ = some (.int .i64 k4) ∧ Y.cell? ⟨b2, o2 + i * 8 + 5, none⟩ = some (.int .i64 k5) ∧ Y.cell? ⟨b2, o2 + i * 8 + 6, none⟩ = some (.int .i64 k6) ∧ Y.cell? ⟨b2, o2 + i * 8 + 7, none⟩ = some (.slice z2 k e2))
        (first | exact HF.out _ hz1 | exact HF.out _ hbr.drew)
        (first | (go_at_call 38; refine Calls.mono (HC.out _ hbr.drew) ?_; rintro e z9 ⟨rfl, hz1⟩))
      go_wp2
      go_roundw
      case rel => exact ⟨i + 1, by omega, by go_num, ⟨hz1⟩⟩
      case measure => simp [intOf]; omega
    · go_wp2
      go_ret
      exact ⟨rfl, HI.out⟩
end Go.Proofs.YtecpknpcjoiliaaDoor
