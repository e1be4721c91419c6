import Derived.Test.YtllgaholkminnaaDoorCKVal
import Derived.Deep.RegionHeld
namespace Go.Proofs.YtllgaholkminnaaDoor
open Go.RowKit
set_option linter.unusedVariables false
set_option linter.unusedSimpArgs false

set_option maxRecDepth 100000 in
set_option maxHeartbeats 2000000 in
theorem numbers_eq (w : World) (B : Nat) (a1 a2 : Option Addr) (c1 c2 : Nat) (ks : List Int) (h1 : IntsV w B (.slice a1 ks.length c1) ks) (h2 : IntsV w B (.slice a2 ks.length c2) ks) (hB : B ≤ w.heap.size) :
    Calls Tryd.prog 22 #[.slice a1 ks.length c1, .slice a2 ks.length c2] w fun e w' => e = .returned (.bool true) ∧ Below w.heap.size w w' := by
  obtain ⟨a', cap', he, p1, p2, p3⟩ := h1.ex
  simp only [Value.slice.injEq, true_and] at he
  obtain ⟨rfl, rfl⟩ := he
  obtain ⟨a', cap', he, q1, q2, q3⟩ := h2.ex
  simp only [Value.slice.injEq, true_and] at he
  obtain ⟨rfl, rfl⟩ := he
  unfold maxLen at p2
  have P3 : Bx _ := ⟨p3⟩
  have Q3 : Bx _ := ⟨q3⟩
  clear h1 h2 p3 q3 q2
  go_enter Tryd.func22, Tryd.ntmps22
  go_wp2
  go_loopw [5] (fun x wr => ∃ p : Nat, p ≤ ks.length ∧ x = .int .i64 p ∧ Bx (Below w.heap.size w wr)) (fun x _ => ks.length - (intOf x).toNat)
  case atStart => exact ⟨0, Nat.zero_le _, rfl, ⟨Below.refl _ _⟩⟩
  case round =>
    obtain ⟨p, hp, rfl, HS⟩ := hrel
    by_cases hlt : p < ks.length
    · obtain ⟨b1, o1, rfl, hb1, g1⟩ := P3.out (by omega)
      obtain ⟨b2, o2, rfl, hb2, g2⟩ := Q3.out (by omega)
      have x1 : wr.cell? ⟨b1, o1 + p, none⟩ = some (.int .i64 ks[p]) := by rw [HS.out.cell (p := ⟨b1, o1 + p, none⟩) (by show b1 < _; omega)]; exact g1 p hlt
      have x2 : wr.cell? ⟨b2, o2 + p, none⟩ = some (.int .i64 ks[p]) := by rw [HS.out.cell (p := ⟨b2, o2 + p, none⟩) (by show b2 < _; omega)]; exact g2 p hlt
      generalize ks[p] = z at *
      have HX : Bx (Below w.heap.size w wr.drew) := ⟨HS.out.drew⟩
      clear g1 g2 HS
      go_wp2_with fail
      go_region
      all_goals
        go_wp2
        go_roundw
        case rel => exact ⟨p + 1, by omega, by go_num, HX⟩
        case measure => simp [intOf]; omega
    · go_wp2
      go_ret
      exact ⟨rfl, HS.out⟩

set_option maxRecDepth 100000 in
set_option maxHeartbeats 4000000 in
theorem lrows_eq (w : World) (B nb no nc mb mo mc : Nat) (t : List Ty) (hn : Types w B nb no nc t) (hm : Types w B mb mo mc t) :
    Calls Tryd.prog 13 #[.slice (some ⟨nb, no, none⟩) t.length nc, .slice (some ⟨mb, mo, none⟩) t.length mc] w fun e w' => e = .returned (.bool true) ∧ Below w.heap.size w w' := by
  have hmax := hn.max
  unfold maxLen at hmax
  have HN : Bx _ := ⟨hn⟩
  have HM : Bx _ := ⟨hm⟩
  have hB := hn.hi
  have hnb := hn.lo
  have hmb := hm.lo
  clear hn hm
  go_enter Tryd.func13, Tryd.ntmps13
  go_wp2
  go_loopw [5] (fun x wr => ∃ p : Nat, p ≤ t.length ∧ x = .int .i64 p ∧ Bx (Below w.heap.size w wr)) (fun x _ => t.length - (intOf x).toNat)
  case atStart => exact ⟨0, Nat.zero_le _, rfl, ⟨Below.refl _ _⟩⟩
  case round =>
    obtain ⟨p, hp, rfl, HS⟩ := hrel
    by_cases hlt : p < t.length
    · have hsz := HS.out.size
      have hN2 := HN.out.below (HS.out.mono hB)
      have hM2 := HM.out.below (HS.out.mono hB)
      obtain ⟨kx, kxc, hX⟩ := hN2.at_ p hlt
      obtain ⟨ky, kyc, hY⟩ := hM2.at_ p hlt
      have HC : Bx (∀ W, Below wr.heap.size wr W → Calls Tryd.prog 22 #[.slice kx (tyN t p).kids.length kxc, .slice ky (tyN t p).kids.length kyc] W fun e w' => e = .returned (.bool true) ∧ Below W.heap.size W w') := ⟨fun W hb => numbers_eq W B kx ky kxc kyc _ (hX.kids.below (hb.mono (by omega))) (hY.kids.below (hb.mono (by omega))) (by have := hb.size; omega)⟩
      have HCell : Bx (∀ W, Below wr.heap.size wr W → (W.cell? ⟨nb, no + p * 3, none⟩ = some (.int .i64 (tyN t p).kind) ∧ W.cell? ⟨nb, no + p * 3 + 1, none⟩ = some (.slice kx (tyN t p).kids.length kxc) ∧ W.cell? ⟨nb, no + p * 3 + 2, none⟩ = some (.bool (tyN t p).res)) ∧ (W.cell? ⟨mb, mo + p * 3, none⟩ = some (.int .i64 (tyN t p).kind) ∧ W.cell? ⟨mb, mo + p * 3 + 1, none⟩ = some (.slice ky (tyN t p).kids.length kyc) ∧ W.cell? ⟨mb, mo + p * 3 + 2, none⟩ = some (.bool (tyN t p).res)) ∧ Below wr.heap.size wr W) := ⟨fun W hb => by
        have h1 := hX.below (hb.mono (by omega)) hnb
        have h2 := hY.below (hb.mono (by omega)) hmb
        exact ⟨⟨h1.c0, h1.c1, h1.c2⟩, ⟨h2.c0, h2.c1, h2.c2⟩, hb⟩⟩
      have hb0 : Below wr.heap.size wr wr := Below.refl _ _
      have HB9 : Bx (∀ W, Below wr.heap.size wr W → Below w.heap.size w W) := ⟨fun W hb => HS.out.trans (hb.mono hsz)⟩
      clear hX hY hN2 hM2 HS
      generalize (tyN t p).kids.length = lx at *
      generalize (tyN t p).kind = kd at *
      generalize (tyN t p).res = rs at *
      go_wp2_with fail
      go_region_held (fun w' => (w'.cell? ⟨nb, no + p * 3, none⟩ = some (.int .i64 kd) ∧ w'.cell? ⟨nb, no + p * 3 + 1, none⟩ = some (.slice kx lx kxc) ∧ w'.cell? ⟨nb, no + p * 3 + 2, none⟩ = some (.bool rs)) ∧ (w'.cell? ⟨mb, mo + p * 3, none⟩ = some (.int .i64 kd) ∧ w'.cell? ⟨mb, mo + p * 3 + 1, none⟩ = some (.slice ky lx kyc) ∧ w'.cell? ⟨mb, mo + p * 3 + 2, none⟩ = some (.bool rs)) ∧ Below wr.heap.size wr w')
        (first | exact HCell.out _ hb0.drew | exact HCell.out _ hb6)
        (first | (go_at_call 22; refine Calls.mono (HC.out _ hb0.drew) ?_; rintro e w5 ⟨rfl, hb5⟩; have hb6 := hb0.drew.trans (hb5.mono hb0.drew.size); clear hb5))
      all_goals
        obtain ⟨⟨x0, x1, x2⟩, ⟨y0, y1, y2⟩, _⟩ := HCell.out _ hb6
        have HX : Bx (Below w.heap.size w w5.drew) := ⟨(HB9.out _ hb6).drew⟩
        have hnl : nb < w5.heap.size := World.block_lt_of_cell? w5 _ x0
        have hml : mb < w5.heap.size := World.block_lt_of_cell? w5 _ y0
        clear HC HCell HB9 hb6 hb0
        go_wp2_with fail
        go_region
        all_goals
          go_wp2
          go_roundw
          case rel => exact ⟨p + 1, by omega, by go_num, HX⟩
          case measure => simp [intOf]; omega
    · go_wp2
      go_ret
      exact ⟨rfl, HS.out⟩
end Go.Proofs.YtllgaholkminnaaDoor
