import Derived.Test.YtllgaholkminnaaDoorCKMem
import Derived.Deep.RegionHeld
import Derived.Test.YtllgaholkminnaaDoorCKOwn
import Derived.Test.YtllgaholkminnaaDoorCKRefV
namespace Go.Proofs.YtllgaholkminnaaDoor
open Go.RowKit
set_option linter.unusedVariables false
set_option linter.unusedSimpArgs false

set_option maxRecDepth 100000 in
set_option maxHeartbeats 2000000 in
theorem numbers_eq (w : World) (B : Nat) (a1 a2 : Option Addr) (c1 c2 : Nat) (ks : List Int) (h1 : IntsV w B (.slice a1 ks.length c1) ks) (h2 : IntsV w B (.slice a2 ks.length c2) ks) (hB : B ≤ w.heap.size) :
    Calls Tryd.prog 22 #[.slice a1 ks.length c1, .slice a2 ks.length c2] w fun e w' => e = .returned (.bool true) ∧ Below w.heap.size w w' := by
  obtain ⟨a', cap', he, p1, p2, p3⟩ := h1.ex
  simp only [Value.slice.injEq, true_and] at he
  obtain ⟨rfl, rfl⟩ := he
  obtain ⟨a', cap', he, q1, q2, q3⟩ := h2.ex
  simp only [Value.slice.injEq, true_and] at he
  obtain ⟨rfl, rfl⟩ := he
  unfold maxLen at p2
  have P3 : Bx _ := ⟨p3⟩
  have Q3 : Bx _ := ⟨q3⟩
  clear h1 h2 p3 q3 q2
  go_enter Tryd.func22, Tryd.ntmps22
  go_wp2
  go_loopw [5] (fun x wr => ∃ p : Nat, p ≤ ks.length ∧ x = .int .i64 p ∧ Bx (Below w.heap.size w wr)) (fun x _ => ks.length - (intOf x).toNat)
  case atStart => exact ⟨0, Nat.zero_le _, rfl, ⟨Below.refl _ _⟩⟩
  case round =>
    obtain ⟨p, hp, rfl, HS⟩ := hrel
    by_cases hlt : p < ks.length
    · obtain ⟨b1, o1, rfl, hb1, g1⟩ := P3.out (by omega)
      obtain ⟨b2, o2, rfl, hb2, g2⟩ := Q3.out (by omega)
      have x1 : wr.cell? ⟨b1, o1 + p, none⟩ = some (.int .i64 ks[p]) := by rw [HS.out.cell (p := ⟨b1, o1 + p, none⟩) (by show b1 < _; omega)]; exact g1 p hlt
      have x2 : wr.cell? ⟨b2, o2 + p, none⟩ = some (.int .i64 ks[p]) := by rw [HS.out.cell (p := ⟨b2, o2 + p, none⟩) (by show b2 < _; omega)]; exact g2 p hlt
      generalize ks[p] = z at *
      have HX : Bx (Below w.heap.size w wr.drew) := ⟨HS.out.drew⟩
      clear g1 g2 HS
      go_wp2_with fail
      go_region
      all_goals
        go_wp2
        go_roundw
        case rel => exact ⟨p + 1, by omega, by go_num, HX⟩
        case measure => simp [intOf]; omega
    · go_wp2
      go_ret
      exact ⟨rfl, HS.out⟩

set_option maxRecDepth 100000 in
set_option maxHeartbeats 4000000 in
theorem lrows_eq (w : World) (B nb no nc mb mo mc : Nat) (t : List Ty) (hn : Types w B nb no nc t) (hm : Types w B mb mo mc t) :
    Calls Tryd.prog 13 #[.slice (some ⟨nb, no, none⟩) t.length nc, .slice (some ⟨mb, mo, none⟩) t.length mc] w fun e w' => e = .returned (.bool true) ∧ Below w.heap.size w w' := by
  have hmax := hn.max
  unfold maxLen at hmax
  have HN : Bx _ := ⟨hn⟩
  have HM : Bx _ := ⟨hm⟩
  have hB := hn.hi
  have hnb := hn.lo
  have hmb := hm.lo
  clear hn hm
  go_enter Tryd.func13, Tryd.ntmps13
  go_wp2
  go_loopw [5] (fun x wr => ∃ p : Nat, p ≤ t.length ∧ x = .int .i64 p ∧ Bx (Below w.heap.size w wr)) (fun x _ => t.length - (intOf x).toNat)
  case atStart => exact ⟨0, Nat.zero_le _, rfl, ⟨Below.refl _ _⟩⟩
  case round =>
    obtain ⟨p, hp, rfl, HS⟩ := hrel
    by_cases hlt : p < t.length
    · have hsz := HS.out.size
      have hN2 := HN.out.below (HS.out.mono hB)
      have hM2 := HM.out.below (HS.out.mono hB)
      obtain ⟨kx, kxc, hX⟩ := hN2.at_ p hlt
      obtain ⟨ky, kyc, hY⟩ := hM2.at_ p hlt
      have HC : Bx (∀ W, Below wr.heap.size wr W → Calls Tryd.prog 22 #[.slice kx (tyN t p).kids.length kxc, .slice ky (tyN t p).kids.length kyc] W fun e w' => e = .returned (.bool true) ∧ Below W.heap.size W w') := ⟨fun W hb => numbers_eq W B kx ky kxc kyc _ (hX.kids.below (hb.mono (by omega))) (hY.kids.below (hb.mono (by omega))) (by have := hb.size; omega)⟩
      have HCell : Bx (∀ W, Below wr.heap.size wr W → (W.cell? ⟨nb, no + p * 3, none⟩ = some (.int .i64 (tyN t p).kind) ∧ W.cell? ⟨nb, no + p * 3 + 1, none⟩ = some (.slice kx (tyN t p).kids.length kxc) ∧ W.cell? ⟨nb, no + p * 3 + 2, none⟩ = some (.bool (tyN t p).res)) ∧ (W.cell? ⟨mb, mo + p * 3, none⟩ = some (.int .i64 (tyN t p).kind) ∧ W.cell? ⟨mb, mo + p * 3 + 1, none⟩ = some (.slice ky (tyN t p).kids.length kyc) ∧ W.cell? ⟨mb, mo + p * 3 + 2, none⟩ = some (.bool (tyN t p).res)) ∧ Below wr.heap.size wr W) := ⟨fun W hb => by
        have h1 := hX.below (hb.mono (by omega)) hnb
        have h2 := hY.below (hb.mono (by omega)) hmb
        exact ⟨⟨h1.c0, h1.c1, h1.c2⟩, ⟨h2.c0, h2.c1, h2.c2⟩, hb⟩⟩
      have hb0 : Below wr.heap.size wr wr := Below.refl _ _
      have HB9 : Bx (∀ W, Below wr.heap.size wr W → Below w.heap.size w W) := ⟨fun W hb => HS.out.trans (hb.mono hsz)⟩
      clear hX hY hN2 hM2 HS
      generalize (tyN t p).kids.length = lx at *
      generalize (tyN t p).kind = kd at *
      generalize (tyN t p).res = rs at *
      go_wp2_with fail
      go_region_held (fun w' => (w'.cell? ⟨nb, no + p * 3, none⟩ = some (.int .i64 kd) ∧ w'.cell? ⟨nb, no + p * 3 + 1, none⟩ = some (.slice kx lx kxc) ∧ w'.cell? ⟨nb, no + p * 3 + 2, none⟩ = some (.bool rs)) ∧ (w'.cell? ⟨mb, mo + p * 3, none⟩ = some (.int .i64 kd) ∧ w'.cell? ⟨mb, mo + p * 3 + 1, none⟩ = some (.slice ky lx kyc) ∧ w'.cell? ⟨mb, mo + p * 3 + 2, none⟩ = some (.bool rs)) ∧ Below wr.heap.size wr w')
        (first | exact HCell.out _ hb0.drew | exact HCell.out _ hb6)
        (first | (go_at_call 22; refine Calls.mono (HC.out _ hb0.drew) ?_; rintro e w5 ⟨rfl, hb5⟩; have hb6 := hb0.drew.trans (hb5.mono hb0.drew.size); clear hb5))
      all_goals
        obtain ⟨⟨x0, x1, x2⟩, ⟨y0, y1, y2⟩, _⟩ := HCell.out _ hb6
        have HX : Bx (Below w.heap.size w w5.drew) := ⟨(HB9.out _ hb6).drew⟩
        have hnl : nb < w5.heap.size := World.block_lt_of_cell? w5 _ x0
        have hml : mb < w5.heap.size := World.block_lt_of_cell? w5 _ y0
        clear HC HCell HB9 hb6 hb0
        go_wp2_with fail
        go_region
        all_goals
          go_wp2
          go_roundw
          case rel => exact ⟨p + 1, by omega, by go_num, HX⟩
          case measure => simp [intOf]; omega
    · go_wp2
      go_ret
      exact ⟨rfl, HS.out⟩
end Go.Proofs.YtllgaholkminnaaDoor
namespace Go.Proofs.YtllgaholkminnaaDoor
open Go.RowKit
set_option linter.unusedVariables false
set_option linter.unusedSimpArgs false

set_option maxRecDepth 100000 in
theorem ofRows_none (w : World) (a : Option Addr) (cap : Nat) :
    Calls Tryd.prog 9 #[.slice a 0 cap] w fun e w' => e = .returned (.slice (some ⟨w.heap.size, 0, none⟩) 0 0) ∧ Below w.heap.size w w' := by
  go_enter Tryd.func9, Tryd.ntmps9
  go_wp2
  go_loopw [4, 3] (fun x v wr => x = .int .i64 0 ∧ v = .slice (some ⟨w.heap.size, 0, none⟩) 0 0 ∧ Below w.heap.size w wr) (fun _ _ _ => 0)
  case atStart => exact ⟨rfl, rfl, below1 w _⟩
  case round =>
    obtain ⟨rfl, rfl, hb⟩ := hrel
    go_wp2
    go_ret
    exact ⟨rfl, hb⟩
theorem beyond_none (w : World) (a : Option Addr) : Calls Tryd.prog 8 #[.slice a 0 0] w fun e w' => e = .returned (.bool false) ∧ w = w' :=
  beyond_any w 0 a 0 [] ⟨a, 0, rfl, by simp, by simp [maxLen], fun h => by simp at h⟩ (fun m hm => by cases hm)
set_option maxRecDepth 100000 in
theorem lrows_none (w : World) (a b : Option Addr) (c d : Nat) :
    Calls Tryd.prog 13 #[.slice a 0 c, .slice b 0 d] w fun e w' => e = .returned (.bool true) ∧ Below w.heap.size w w' := by
  go_enter Tryd.func13, Tryd.ntmps13
  go_wp2
  go_loopw [5] (fun x wr => x = .int .i64 0 ∧ Below w.heap.size w wr) (fun _ _ => 0)
  case atStart => exact ⟨rfl, Below.refl _ _⟩
  case round =>
    obtain ⟨rfl, hb⟩ := hrel
    go_wp2
    go_ret
    exact ⟨rfl, hb⟩
set_option maxRecDepth 100000 in
theorem refValid_none (w : World) (a : Option Addr) (c : Nat) :
    Calls Tryd.prog 14 #[.slice a 0 c] w fun e w' => e = .returned (.bool true) ∧ w = w' := by
  go_enter Tryd.func14, Tryd.ntmps14
  go_wp2
  go_loop [3] (fun x => x = .int .i64 0) (fun _ => 0)
  case atStart => rfl
  case round =>
    subst hrel
    go_wp2
    go_ret
    exact ⟨rfl, rfl⟩
theorem copyT_none (W : World) (d a : Option Addr) (dLen dCap sCap : Nat) (ty : TypeId) : (Builtin.copy_ #[22, 22] ty #[.slice d dLen dCap, .slice a 0 sCap]).run Tryd.prog W = .ok (.int .i64 0) W := by
  obtain ⟨i, hi, hz0, hz1, hz2⟩ := info_parts infoTy
  have hu : Tryd.prog.underlying 22 = some (.slice 32) := Tryd.underlying22
  have hl : ∀ (x : Addr), (loadCells x 0).run Tryd.prog W = .ok #[] W := fun x => by simpa using run_loadCells_list (P := Tryd.prog) W x [] (by simp)
  have hmin : Nat.min 0 dLen = 0 := Nat.zero_min _
  cases d <;> cases a <;> simp [Builtin.copy_, run_underlying hu, Builtin.lenOf, Builtin.firstCells, sizeOf, typeInfo, hi, hmin, storeCells, hl, goInt]
set_option maxRecDepth 100000 in
theorem ownRows_none (w : World) (a : Option Addr) (c : Nat) :
    Calls Tryd.prog 11 #[.slice a 0 c] w fun e w' => ∃ g cp, e = .returned (.slice (some ⟨g, 0, none⟩) 0 cp) ∧ Below w.heap.size w w' := by
  have hmk := make_types w 1 (by omega)
  simp only [Int.cast_ofNat_Int] at hmk
  obtain ⟨W1, hW1⟩ : ∃ W1, W1 = w.alloc (.cells (zerosT 1) 32) := ⟨_, rfl⟩
  have hcp := fun ty => copyT_none W1 (some ⟨w.heap.size, 0, none⟩) a 1 1 c ty
  have hh : W1.heap[w.heap.size]? = some (.cells (zerosT 1) 32 (0, 0)) := by rw [hW1]; exact heap_alloc_new w _
  have q2 : W1.cell? ⟨w.heap.size, 0, none⟩ = some (.int .i64 0) := (cell_of_row _ _ 0 _ _ (0, 0) hh).trans (by kernel_rfl)
  have q3 : W1.frozen? ⟨w.heap.size, 0, none⟩ = false := by simp [World.frozen?, hh]
  have HB : Bx (Below w.heap.size w W1) := ⟨by rw [hW1]; exact below1 w _⟩
  have hlt : w.heap.size < W1.heap.size := (Array.getElem?_eq_some_iff.1 hh).1
  rw [← hW1] at hmk
  clear hh hW1
  go_enter Tryd.func11, Tryd.ntmps11
  go_wp2
  go_loop [4] (fun x => x = .int .i64 0) (fun _ => 0)
  case atStart => rfl
  case round =>
    subst hrel
    go_wp2
    go_ret
    exact ⟨⟨_, _, rfl⟩, Below.setCell (p := ⟨w.heap.size, 0, none⟩) HB.out (Nat.le_refl _) _⟩
end Go.Proofs.YtllgaholkminnaaDoor
