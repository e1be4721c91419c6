import Derived.Test.YteinpijbdgcehaaCOLe
import Derived.Deep.RegionHeld3
namespace Go.Proofs.Yteinpijbdgcehaa
open Go.RowKit Go.Shelf
set_option linter.unusedVariables false
set_option linter.unusedSimpArgs false

def zArm : Obj := .cells #[.int .i64 0, .bool false, .int .i64 0, .int .i64 0, .slice none 0 0] 43
def ArmB (W : World) (X : Nat) (a : OArm) : Prop := W.heap[X]? = some (.cells #[.int .i64 a.chan, .bool a.send, .int .i64 a.x, .int .i64 a.y, .slice a.zp a.zn a.zc] 43)
theorem arm_new (W : World) (a : OArm) : ArmB (W.alloc (.cells #[.int .i64 a.chan, .bool a.send, .int .i64 a.x, .int .i64 a.y, .slice a.zp a.zn a.zc] 43)) W.heap.size a := World.alloc_heap_new _ _
theorem arm_put {W : World} {X : Nat} (h : W.heap[X]? = some (.cells #[.int .i64 0, .bool false, .int .i64 0, .int .i64 0, .slice none 0 0] 43)) (a : OArm) : ArmB (((((W.setCell ⟨X, 0, none⟩ (.int .i64 a.chan)).setCell ⟨X, 1, none⟩ (.bool a.send)).setCell ⟨X, 2, none⟩ (.int .i64 a.x)).setCell ⟨X, 3, none⟩ (.int .i64 a.y)).setCell ⟨X, 4, none⟩ (.slice a.zp a.zn a.zc)) X a := by
  have := blk_set (blk_set (blk_set (blk_set (blk_set h 0 (.int .i64 a.chan)) 1 (.bool a.send)) 2 (.int .i64 a.x)) 3 (.int .i64 a.y)) 4 (.slice a.zp a.zn a.zc)
  unfold ArmB
  simpa using this
theorem arm_put_bel {w W : World} {X : Nat} (hb : Below w.heap.size w W) (hX : w.heap.size ≤ X) (a : OArm) : Below w.heap.size w (((((W.setCell ⟨X, 0, none⟩ (.int .i64 a.chan)).setCell ⟨X, 1, none⟩ (.bool a.send)).setCell ⟨X, 2, none⟩ (.int .i64 a.x)).setCell ⟨X, 3, none⟩ (.int .i64 a.y)).setCell ⟨X, 4, none⟩ (.slice a.zp a.zn a.zc)) :=
  ((((hb.setCell (p := ⟨X, 0, none⟩) hX _).setCell (p := ⟨X, 1, none⟩) hX _).setCell (p := ⟨X, 2, none⟩) hX _).setCell (p := ⟨X, 3, none⟩) hX _).setCell (p := ⟨X, 4, none⟩) hX _

theorem cutT {G P : Prop} (f : Bx G → P) (p : G) : P := f ⟨p⟩
set_option maxRecDepth 100000 in
set_option maxHeartbeats 16000000 in
theorem laws_walk (w : World) (Pr : Nat → Prop) (hPr : ∀ b, Pr b → ∃ o : Obj, w.heap[b]? = some o ∧ o.isCells = true) (p : Option Addr) (c : Nat) (l : List OWt) (hl : WsIn w Pr p c l) (who : Int) (hwho : I64 who) :
    Calls Try.prog 4 #[.slice p l.length c, .int .i64 who] w fun e w' => e = .returned (.bool true) ∧ Below w.heap.size w w' := by
  have HWS : Bx (∀ X, Below w.heap.size w X → WsIn X Pr p c l ∧ ∀ b, Pr b → ∃ o : Obj, X.heap[b]? = some o ∧ o.isCells = true) := ⟨fun X hX => by
    have hk := Kpt.of_below hPr hX
    exact ⟨hl.keep hk, fun b hb => by obtain ⟨o, h1, h2⟩ := hPr b hb; exact ⟨o, (hk b hb).trans h1, h2⟩⟩⟩
  have hlc := hl.len
  have hcm := hl.max
  unfold maxLen at hcm
  clear hl hPr
  go_enter Try.func4, Try.ntmps4
  go_wp2_with (first
    | (go_at_call 6; refine (shown_any w).mono ?_; rintro e w1 ⟨rfl, hb1⟩)
    | (go_at_call 7; refine (beyond_any w1 Pr p c l (HWS.out w1 hb1).1).mono ?_; rintro e w2 ⟨⟨bb, rfl, hbb⟩, rfl⟩; have HBB : Bx _ := ⟨hbb⟩; clear hbb; cases bb))
  rotate_left 1
  · go_ret
    exact ⟨rfl, hb1⟩
  have hs : l.length + tot l ≤ 4000 := HBB.out (by first | trivial | rfl)
  clear HBB
  have hzl : (opairs l).length ≤ 20000000 := opairs_len l (by omega)
  have hsr : (spotsP prR l).length ≤ 1000000 := by have := spots_len prR l; omega
  refine (Pairs_any w2 Pr (HWS.out w2 hb1).2 p c l (HWS.out w2 hb1).1 hzl hsr).mono ?_
  rintro e w3 ⟨v3, rfl, ho3, hb3⟩
  obtain ⟨zs, hzs⟩ : ∃ zs, opairs l = zs := ⟨_, rfl⟩
  rw [hzs] at ho3 hzl
  obtain ⟨pa, ca, rfl, hpa⟩ := prs_of ho3
  have hla := hpa.len
  have hma := hpa.max
  unfold maxLen at hma
  have HB3 : Bx (Below w.heap.size w w3) := ⟨hb1.trans (hb3.mono hb1.size)⟩
  have HPA : Bx (∀ X, Below w3.heap.size w3 X → PrsAt X pa ca zs) := ⟨fun X hX => hpa.below hX⟩
  have HZS : Bx (opairs l = zs) := ⟨hzs⟩
  clear ho3 hb3 hpa hzs hb1
  go_wp2
  go_loopg [7] (zs.length + 1) (fun g v wr => ∃ i : Nat, g = zs.length + 1 - i ∧ i ≤ zs.length ∧ v = .int .i64 i ∧ Bx (Below w3.heap.size w3 wr))
  case atStart => exact ⟨0, by simp, by omega, rfl, ⟨Below.refl _ _⟩⟩
  case round =>
    obtain ⟨i, hg, hil, rfl, HR⟩ := hrel
    by_cases hlt : i < zs.length
    · have HMT : Bx (∃ kp kq, Met l zs[i] kp kq) := ⟨met_of (by rw [HZS.out]; exact List.getElem_mem hlt)⟩
      obtain ⟨kp, kq, hm⟩ := HMT.out
      obtain ⟨b, o, rfl, hbb, _⟩ := (HPA.out wr HR.out).at_ i hlt
      have HC : Bx (∀ Y, Below w3.heap.size w3 Y → PrAt Y b (o + i * 5) zs[i]) := ⟨fun Y hY => by
        obtain ⟨b', o', e, _, q⟩ := (HPA.out Y hY).at_ i hlt
        cases e
        exact q⟩
      have hB : ∀ {Y : World}, Below w3.heap.size w3 Y → Below w.heap.size w Y := fun h => HB3.out.trans (h.mono HB3.out.size)
      have HA1 : Bx (∀ Y, Below w3.heap.size w3 Y → Calls Try.prog 18 #[.slice p l.length c, .int .i64 zs[i].p, .int .i64 zs[i].i] Y fun e w' => e = .returned (armV ((l[kp]'hm.hp).arms[zs[i].i]'hm.ip)) ∧ Below Y.heap.size Y w') := ⟨fun Y hY => by
        have h1 := HWS.out Y (hB hY)
        have := arm_any Y Pr h1.2 p c l h1.1 kp zs[i].i hm.hp hm.ip hm.up
        rw [hm.idp]
        exact this⟩
      have HA2 : Bx (∀ Y, Below w3.heap.size w3 Y → Calls Try.prog 18 #[.slice p l.length c, .int .i64 zs[i].q, .int .i64 zs[i].j] Y fun e w' => e = .returned (armV ((l[kq]'hm.hq).arms[zs[i].j]'hm.jq)) ∧ Below Y.heap.size Y w') := ⟨fun Y hY => by
        have h1 := HWS.out Y (hB hY)
        have := arm_any Y Pr h1.2 p c l h1.1 kq zs[i].j hm.hq hm.jq hm.uq
        rw [hm.idq]
        exact this⟩
      have g1 : (zs[i].p == zs[i].q) = false := by rw [hm.idp, hm.idq]; simpa using hm.ne
      have HG : Bx (((l[kp]'hm.hp).arms[zs[i].i]'hm.ip).chan = zs[i].ch ∧ ((l[kq]'hm.hq).arms[zs[i].j]'hm.jq).chan = zs[i].ch ∧ 0 < zs[i].ch ∧ ((l[kp]'hm.hp).arms[zs[i].i]'hm.ip).send = true ∧ ((l[kq]'hm.hq).arms[zs[i].j]'hm.jq).send = false) := ⟨hm.cp, hm.cq, hm.pos, hm.sp, hm.sq⟩
      generalize ((l[kp]'hm.hp).arms[zs[i].i]'hm.ip) = ap at *
      generalize ((l[kq]'hm.hq).arms[zs[i].j]'hm.jq) = aq at *
      clear hm HMT
      have hbr := HR.out
      have hi1 : (0 : Int) ≤ ↑i := by omega
      have hi2 : (↑i : Int) < ↑zs.length := by omega
      simp only [armV] at HA1 HA2
      clear HR
      have hYl8 : Below wr.heap.size wr (wr.alloc (.cells #[.int .i64 0, .bool false, .int .i64 0, .int .i64 0, .slice none 0 0] 43)).drew := (below1 _ _).drew
      have HZA8 : Bx ((wr.alloc (.cells #[.int .i64 0, .bool false, .int .i64 0, .int .i64 0, .slice none 0 0] 43)).drew.heap[wr.heap.size]? = some (.cells #[.int .i64 0, .bool false, .int .i64 0, .int .i64 0, .slice none 0 0] 43)) := ⟨World.alloc_heap_new _ _⟩
      obtain ⟨Y8, hYE8⟩ : ∃ Y, (wr.alloc (.cells #[.int .i64 0, .bool false, .int .i64 0, .int .i64 0, .slice none 0 0] 43)).drew = Y := ⟨_, rfl⟩
      rw [hYE8] at hYl8 HZA8
      have hYb8 : Below w3.heap.size w3 Y8 := hbr.trans (hYl8.mono hbr.size)
      have HYE8 : Bx (_ = Y8) := ⟨hYE8⟩
      clear hYE8
      go_wp2
      apply cutT
      · intro key8
        go_region_held3 (fun Y => Y.cell? ⟨b, o + i * 5, none⟩ = some (.int .i64 zs[i].p) ∧ Y.cell? ⟨b, o + i * 5 + 1, none⟩ = some (.int .i64 zs[i].i))
          (first | (rw [HZ8.out]; exact ⟨(HC.out _ hZw8).c0, (HC.out _ hZw8).c1⟩) | (rw [HYE8.out]; exact ⟨(HC.out _ hYb8).c0, (HC.out _ hYb8).c1⟩) | exact ⟨(HC.out _ hzw8).c0, (HC.out _ hzw8).c1⟩ | exact ⟨(HC.out _ (hzA8 _)).c0, (HC.out _ (hzA8 _)).c1⟩ | exact ⟨(HC.out _ hbr.drew).c0, (HC.out _ hbr.drew).c1⟩)
          (first
            | (go_at_call 18; rw [HYE8.out]; refine Calls.mono (HA1.out Y8 hYb8) ?_; rintro e z8 ⟨rfl, hz08⟩; have hzl8 : Below wr.heap.size wr z8 := hYl8.trans (hz08.mono hYl8.size); have hzw8 : Below w3.heap.size w3 z8 := hbr.trans (hzl8.mono hbr.size); have hzb8 : z8.heap[wr.heap.size]? = some (.cells #[.int .i64 0, .bool false, .int .i64 0, .int .i64 0, .slice none 0 0] 43) := (hz08.block _ (Array.getElem?_eq_some_iff.1 HZA8.out).1).trans HZA8.out; obtain ⟨Z8, hZ8⟩ : ∃ Z, (((((z8.setCell ⟨wr.heap.size, 0, none⟩ (.int .i64 ap.chan)).setCell ⟨wr.heap.size, 1, none⟩ (.bool ap.send)).setCell ⟨wr.heap.size, 2, none⟩ (.int .i64 ap.x)).setCell ⟨wr.heap.size, 3, none⟩ (.int .i64 ap.y)).setCell ⟨wr.heap.size, 4, none⟩ (.slice ap.zp ap.zn ap.zc)) = Z := ⟨_, rfl⟩; have hZl8 : Below wr.heap.size wr Z8 := (by rw [← hZ8]; exact arm_put_bel hzl8 (X := wr.heap.size) (Nat.le_refl _) ap); have hZw8 : Below w3.heap.size w3 Z8 := hbr.trans (hZl8.mono hbr.size); have HAB8 : Bx (ArmB Z8 wr.heap.size ap) := ⟨by rw [← hZ8]; exact arm_put hzb8 ap⟩; have HZ8 : Bx (_ = Z8) := ⟨hZ8⟩; clear hZ8; have y0 : z8.cell? ⟨wr.heap.size, 0, none⟩ = some (.int .i64 0) := cell_of hzb8 rfl; have y1 : z8.cell? ⟨wr.heap.size, 1, none⟩ = some (.bool false) := cell_of hzb8 rfl; have y2 : z8.cell? ⟨wr.heap.size, 2, none⟩ = some (.int .i64 0) := cell_of hzb8 rfl; have y3 : z8.cell? ⟨wr.heap.size, 3, none⟩ = some (.int .i64 0) := cell_of hzb8 rfl; have y4 : z8.cell? ⟨wr.heap.size, 4, none⟩ = some (.slice none 0 0) := cell_of hzb8 rfl; have f0 : ∀ j, z8.frozen? ⟨wr.heap.size, j, none⟩ = false := fun j => (by simp [World.frozen?, hzb8]))
            | (go_at_call 18; refine Calls.mono (HA1.out _ hbr.drew) ?_; rintro e z8 ⟨rfl, hz08⟩; have hzl8 : Below wr.heap.size wr z8 := ((Below.refl _ _).drew).trans hz08; have hzw8 : Below w3.heap.size w3 z8 := hbr.trans (hzl8.mono hbr.size); have hzA8 : ∀ ob, Below w3.heap.size w3 (z8.alloc ob) := fun ob => hzw8.trans ((below1 _ _).mono hzw8.size)))
        rotate_left 1
        · rw [HZ8.out]
          obtain ⟨W8, hW8⟩ : ∃ W, Z8 = W := ⟨_, rfl⟩
          rw [hW8] at hZl8 HAB8 ⊢
          have hl8 := hZl8
          have HA8 : Bx (ArmB W8 wr.heap.size ap) := HAB8
          clear hW8 HZ8 HAB8 hZw8 hZl8 y0 y1 y2 y3 y4 f0 hzb8 hz08 hzl8 hzw8
          obtain ⟨X8, hX8⟩ : ∃ X, wr.heap.size = X := ⟨_, rfl⟩
          rw [hX8] at HA8 ⊢
          clear hX8
          have hb8 : Below w3.heap.size w3 W8 := hbr.trans (hl8.mono hbr.size)
          revert hb8
          revert HA8
          revert hl8
          revert X8
          revert W8
          exact key8.out
        · have hl8 : Below wr.heap.size wr (z8.alloc (.cells #[.int .i64 ap.chan, .bool ap.send, .int .i64 ap.x, .int .i64 ap.y, .slice ap.zp ap.zn ap.zc] 43)) := hzl8.trans ((below1 _ _).mono hzl8.size)
          have HA8 : Bx (ArmB (z8.alloc (.cells #[.int .i64 ap.chan, .bool ap.send, .int .i64 ap.x, .int .i64 ap.y, .slice ap.zp ap.zn ap.zc] 43)) z8.heap.size ap) := ⟨arm_new _ _⟩
          obtain ⟨W8, hW8⟩ : ∃ W, z8.alloc (.cells #[.int .i64 ap.chan, .bool ap.send, .int .i64 ap.x, .int .i64 ap.y, .slice ap.zp ap.zn ap.zc] 43) = W := ⟨_, rfl⟩
          obtain ⟨X8, hX8⟩ : ∃ X, z8.heap.size = X := ⟨_, rfl⟩
          rw [hW8] at hl8 HA8 ⊢
          rw [hX8] at HA8 ⊢
          clear hW8 hX8 hz08 hzl8 hzw8 hzA8
          have hb8 : Below w3.heap.size w3 W8 := hbr.trans (hl8.mono hbr.size)
          revert hb8
          revert HA8
          revert hl8
          revert X8
          revert W8
          exact key8.out
      · intro W8 X8 hl8 HA8 hb8
        clear HYE8 hYb8 hYl8 HZA8
        have hYl9 : Below W8.heap.size W8 (W8.alloc (.cells #[.int .i64 0, .bool false, .int .i64 0, .int .i64 0, .slice none 0 0] 43)).drew := (below1 _ _).drew
        have HZA9 : Bx ((W8.alloc (.cells #[.int .i64 0, .bool false, .int .i64 0, .int .i64 0, .slice none 0 0] 43)).drew.heap[W8.heap.size]? = some (.cells #[.int .i64 0, .bool false, .int .i64 0, .int .i64 0, .slice none 0 0] 43)) := ⟨World.alloc_heap_new _ _⟩
        obtain ⟨Y9, hYE9⟩ : ∃ Y, (W8.alloc (.cells #[.int .i64 0, .bool false, .int .i64 0, .int .i64 0, .slice none 0 0] 43)).drew = Y := ⟨_, rfl⟩
        rw [hYE9] at hYl9 HZA9
        have hYb9 : Below w3.heap.size w3 Y9 := hb8.trans (hYl9.mono hb8.size)
        have HYE9 : Bx (_ = Y9) := ⟨hYE9⟩
        clear hYE9
        go_wp2
        apply cutT
        · intro key9
          go_region_held3 (fun Y => Y.cell? ⟨b, o + i * 5 + 2, none⟩ = some (.int .i64 zs[i].q) ∧ Y.cell? ⟨b, o + i * 5 + 3, none⟩ = some (.int .i64 zs[i].j))
            (first | (rw [HZ9.out]; exact ⟨(HC.out _ hZw9).c2, (HC.out _ hZw9).c3⟩) | (rw [HYE9.out]; exact ⟨(HC.out _ hYb9).c2, (HC.out _ hYb9).c3⟩) | exact ⟨(HC.out _ hzw9).c2, (HC.out _ hzw9).c3⟩ | exact ⟨(HC.out _ (hzA9 _)).c2, (HC.out _ (hzA9 _)).c3⟩ | exact ⟨(HC.out _ hb8.drew).c2, (HC.out _ hb8.drew).c3⟩)
            (first
              | (go_at_call 18; rw [HYE9.out]; refine Calls.mono (HA2.out Y9 hYb9) ?_; rintro e z9 ⟨rfl, hz09⟩; have hzl9 : Below W8.heap.size W8 z9 := hYl9.trans (hz09.mono hYl9.size); have hzw9 : Below w3.heap.size w3 z9 := hb8.trans (hzl9.mono hb8.size); have hzb9 : z9.heap[W8.heap.size]? = some (.cells #[.int .i64 0, .bool false, .int .i64 0, .int .i64 0, .slice none 0 0] 43) := (hz09.block _ (Array.getElem?_eq_some_iff.1 HZA9.out).1).trans HZA9.out; obtain ⟨Z9, hZ9⟩ : ∃ Z, (((((z9.setCell ⟨W8.heap.size, 0, none⟩ (.int .i64 aq.chan)).setCell ⟨W8.heap.size, 1, none⟩ (.bool aq.send)).setCell ⟨W8.heap.size, 2, none⟩ (.int .i64 aq.x)).setCell ⟨W8.heap.size, 3, none⟩ (.int .i64 aq.y)).setCell ⟨W8.heap.size, 4, none⟩ (.slice aq.zp aq.zn aq.zc)) = Z := ⟨_, rfl⟩; have hZl9 : Below W8.heap.size W8 Z9 := (by rw [← hZ9]; exact arm_put_bel hzl9 (X := W8.heap.size) (Nat.le_refl _) aq); have hZw9 : Below w3.heap.size w3 Z9 := hb8.trans (hZl9.mono hb8.size); have HAB9 : Bx (ArmB Z9 W8.heap.size aq) := ⟨by rw [← hZ9]; exact arm_put hzb9 aq⟩; have HZ9 : Bx (_ = Z9) := ⟨hZ9⟩; clear hZ9; have y0 : z9.cell? ⟨W8.heap.size, 0, none⟩ = some (.int .i64 0) := cell_of hzb9 rfl; have y1 : z9.cell? ⟨W8.heap.size, 1, none⟩ = some (.bool false) := cell_of hzb9 rfl; have y2 : z9.cell? ⟨W8.heap.size, 2, none⟩ = some (.int .i64 0) := cell_of hzb9 rfl; have y3 : z9.cell? ⟨W8.heap.size, 3, none⟩ = some (.int .i64 0) := cell_of hzb9 rfl; have y4 : z9.cell? ⟨W8.heap.size, 4, none⟩ = some (.slice none 0 0) := cell_of hzb9 rfl; have f0 : ∀ j, z9.frozen? ⟨W8.heap.size, j, none⟩ = false := fun j => (by simp [World.frozen?, hzb9]))
              | (go_at_call 18; refine Calls.mono (HA2.out _ hb8.drew) ?_; rintro e z9 ⟨rfl, hz09⟩; have hzl9 : Below W8.heap.size W8 z9 := ((Below.refl _ _).drew).trans hz09; have hzw9 : Below w3.heap.size w3 z9 := hb8.trans (hzl9.mono hb8.size); have hzA9 : ∀ ob, Below w3.heap.size w3 (z9.alloc ob) := fun ob => hzw9.trans ((below1 _ _).mono hzw9.size)))
          rotate_left 1
          · rw [HZ9.out]
            obtain ⟨W9, hW9⟩ : ∃ W, Z9 = W := ⟨_, rfl⟩
            rw [hW9] at hZl9 HAB9 ⊢
            have hl9 := hZl9
            have HA9 : Bx (ArmB W9 W8.heap.size aq) := HAB9
            clear hW9 HZ9 HAB9 hZw9 hZl9 y0 y1 y2 y3 y4 f0 hzb9 hz09 hzl9 hzw9
            obtain ⟨X9, hX9⟩ : ∃ X, W8.heap.size = X := ⟨_, rfl⟩
            rw [hX9] at HA9 ⊢
            clear hX9
            have hb9 : Below w3.heap.size w3 W9 := hb8.trans (hl9.mono hb8.size)
            revert hb9
            revert HA9
            revert hl9
            revert X9
            revert W9
            exact key9.out
          · have hl9 : Below W8.heap.size W8 (z9.alloc (.cells #[.int .i64 aq.chan, .bool aq.send, .int .i64 aq.x, .int .i64 aq.y, .slice aq.zp aq.zn aq.zc] 43)) := hzl9.trans ((below1 _ _).mono hzl9.size)
            have HA9 : Bx (ArmB (z9.alloc (.cells #[.int .i64 aq.chan, .bool aq.send, .int .i64 aq.x, .int .i64 aq.y, .slice aq.zp aq.zn aq.zc] 43)) z9.heap.size aq) := ⟨arm_new _ _⟩
            obtain ⟨W9, hW9⟩ : ∃ W, z9.alloc (.cells #[.int .i64 aq.chan, .bool aq.send, .int .i64 aq.x, .int .i64 aq.y, .slice aq.zp aq.zn aq.zc] 43) = W := ⟨_, rfl⟩
            obtain ⟨X9, hX9⟩ : ∃ X, z9.heap.size = X := ⟨_, rfl⟩
            rw [hW9] at hl9 HA9 ⊢
            rw [hX9] at HA9 ⊢
            clear hW9 hX9 hz09 hzl9 hzw9 hzA9
            have hb9 : Below w3.heap.size w3 W9 := hb8.trans (hl9.mono hb8.size)
            revert hb9
            revert HA9
            revert hl9
            revert X9
            revert W9
            exact key9.out
        · intro W9 X9 hl9 HA9 hb9
          clear HYE9 hYb9 hYl9 HZA9
          have hA8 : ArmB W9 X8 ap := (hl9.block _ (Array.getElem?_eq_some_iff.1 HA8.out).1).trans HA8.out
          have hA9 := HA9.out
          have hq := HC.out W9 hb9
          have a0 := hq.c0
          have a1 := hq.c1
          have a2 := hq.c2
          have a3 := hq.c3
          have a4 := hq.c4
          have m0 : W9.cell? ⟨X8, 0, none⟩ = some (.int .i64 ap.chan) := cell_of hA8 rfl
          have m1 : W9.cell? ⟨X8, 1, none⟩ = some (.bool ap.send) := cell_of hA8 rfl
          have n0 : W9.cell? ⟨X9, 0, none⟩ = some (.int .i64 aq.chan) := cell_of hA9 rfl
          have n1 : W9.cell? ⟨X9, 1, none⟩ = some (.bool aq.send) := cell_of hA9 rfl
          obtain ⟨G1, G2, G3, G4, G5⟩ := HG.out
          rw [G1] at m0
          rw [G2] at n0
          rw [G4] at m1
          rw [G5] at n1
          have g2 : (zs[i].ch != zs[i].ch) = false := by simp
          have g3 : decide (zs[i].ch < 1) = false := by simp; omega
          clear hA8 hA9 hq G1 G2 G4 G5 HA8 HA9
          have HD : Bx (∀ q, Below w3.heap.size w3 (W9.drewN q)) := ⟨fun q => ⟨hb9.os, hb9.tape, hb9.output, hb9.size, hb9.block⟩⟩
          go_wp2
          go_quiet (fail)
          go_wp2
          have hbQ := HD.out nq
          generalize W9.drewN nq = WQ at *
          clear a0 a1 a2 a3 a4 m0 m1 n0 n1 g2 g3 HD
          by_cases h0 : i = 0
          · have gi : decide ((0 : Int) < ↑i) = false := by simp; omega
            have gn : decide (0 < i) = false := by simp; omega
            have HD : Bx (∀ q, Below w3.heap.size w3 (WQ.drewN q)) := ⟨fun q => ⟨hbQ.os, hbQ.tape, hbQ.output, hbQ.size, hbQ.block⟩⟩
            clear h0
            go_quiet (fail)
            go_wp2
            go_roundg (zs.length + 1 - (i + 1))
            case measure => omega
            case rel => exact ⟨i + 1, rfl, by omega, by simp, ⟨HD.out _⟩⟩
          · obtain ⟨m, hm1⟩ : ∃ m, i = m + 1 := ⟨i - 1, by omega⟩
            have hml : m < zs.length := by omega
            have gi : decide ((0 : Int) < ↑i) = true := by simp; omega
            have gn : decide (0 < i) = true := by simp; omega
            have hwr : IntKind.i64.wrap ((↑i : Int) - 1) = (↑m : Int) := by rw [show (↑i : Int) - 1 = ↑m by omega]; exact wrapI (by omega)
            have hm2 : (0 : Int) ≤ ↑m := by omega
            have hm3 : (↑m : Int) < ↑zs.length := by omega
            have HRI : Bx (orise zs[m] zs[i]) := ⟨by
              have h1 := HZS.out
              subst h1
              subst hm1
              exact opairs_rise l m hlt⟩
            have HM : Bx (∀ Y, Below w3.heap.size w3 Y → PrAt Y b (o + m * 5) zs[m]) := ⟨fun Y hY => by
              obtain ⟨b', o', e, _, q⟩ := (HPA.out Y hY).at_ m hml
              cases e
              exact q⟩
            have hS : ∀ Y, Below w3.heap.size w3 Y → (Y.cell? ⟨b, o + m * 5, none⟩ = some (.int .i64 zs[m].p) ∧ Y.cell? ⟨b, o + m * 5 + 1, none⟩ = some (.int .i64 zs[m].i) ∧ Y.cell? ⟨b, o + m * 5 + 2, none⟩ = some (.int .i64 zs[m].q) ∧ Y.cell? ⟨b, o + m * 5 + 3, none⟩ = some (.int .i64 zs[m].j) ∧ Y.cell? ⟨b, o + m * 5 + 4, none⟩ = some (.int .i64 zs[m].ch) ∧ Y.cell? ⟨b, o + i * 5, none⟩ = some (.int .i64 zs[i].p) ∧ Y.cell? ⟨b, o + i * 5 + 1, none⟩ = some (.int .i64 zs[i].i) ∧ Y.cell? ⟨b, o + i * 5 + 2, none⟩ = some (.int .i64 zs[i].q) ∧ Y.cell? ⟨b, o + i * 5 + 3, none⟩ = some (.int .i64 zs[i].j) ∧ Y.cell? ⟨b, o + i * 5 + 4, none⟩ = some (.int .i64 zs[i].ch)) := fun Y hY => ⟨(HM.out Y hY).c0, (HM.out Y hY).c1, (HM.out Y hY).c2, (HM.out Y hY).c3, (HM.out Y hY).c4, (HC.out Y hY).c0, (HC.out Y hY).c1, (HC.out Y hY).c2, (HC.out Y hY).c3, (HC.out Y hY).c4⟩
            have HS : Bx _ := ⟨hS⟩
            have HRC : Bx (∀ Y, Calls Try.prog 19 #[.agg #[.int .i64 zs[m].p, .int .i64 zs[m].i, .int .i64 zs[m].q, .int .i64 zs[m].j, .int .i64 zs[m].ch], .agg #[.int .i64 zs[i].p, .int .i64 zs[i].i, .int .i64 zs[i].q, .int .i64 zs[i].j, .int .i64 zs[i].ch]] Y fun e w' => e = .returned (.bool true) ∧ Below Y.heap.size Y w') := ⟨fun Y => rises_yes Y zs[m] zs[i] HRI.out⟩
            clear h0 hm1 hS HC HM
            go_region_held3 (fun Y => Y.cell? ⟨b, o + m * 5, none⟩ = some (.int .i64 zs[m].p) ∧ Y.cell? ⟨b, o + m * 5 + 1, none⟩ = some (.int .i64 zs[m].i) ∧ Y.cell? ⟨b, o + m * 5 + 2, none⟩ = some (.int .i64 zs[m].q) ∧ Y.cell? ⟨b, o + m * 5 + 3, none⟩ = some (.int .i64 zs[m].j) ∧ Y.cell? ⟨b, o + m * 5 + 4, none⟩ = some (.int .i64 zs[m].ch) ∧ Y.cell? ⟨b, o + i * 5, none⟩ = some (.int .i64 zs[i].p) ∧ Y.cell? ⟨b, o + i * 5 + 1, none⟩ = some (.int .i64 zs[i].i) ∧ Y.cell? ⟨b, o + i * 5 + 2, none⟩ = some (.int .i64 zs[i].q) ∧ Y.cell? ⟨b, o + i * 5 + 3, none⟩ = some (.int .i64 zs[i].j) ∧ Y.cell? ⟨b, o + i * 5 + 4, none⟩ = some (.int .i64 zs[i].ch))
              (first | exact HS.out _ hz5 | exact HS.out _ hbQ.drew)
              (first
                | (go_at_call 19; refine Calls.mono (HRC.out _) ?_; rintro e z5 ⟨rfl, hz4⟩; have hz5 : Below w3.heap.size w3 z5 := hbQ.drew.trans (hz4.mono hbQ.size)))
            go_wp2
            go_roundg (zs.length + 1 - (i + 1))
            case measure => omega
            case rel => exact ⟨i + 1, rfl, by omega, by simp, ⟨hz5⟩⟩
    · have hie : i = zs.length := by omega
      subst hie
      have HBR : Bx (Below w.heap.size w wr) := ⟨HB3.out.trans (HR.out.mono HB3.out.size)⟩
      have HPR : Bx (Below w3.heap.size w3 wr) := HR
      clear HR hil hg
      obtain ⟨wA, rfl⟩ : ∃ X, X = wr := ⟨_, rfl⟩
      go_wp2_with (first
        | (go_at_call 8; refine (lent_any wA Pr (HWS.out wA HBR.out).2 p c l (HWS.out wA HBR.out).1 hs).mono ?_; rintro e w4 ⟨ab, B, rv, rfl, hln, hrow, hab, hmk, hb4⟩; have HL4 : Bx (Ln w4 ab B l (armsOf l) l.length ∧ w4.ownsRow (ab + 1) 36 1 rv l.length (rowC B (armsOf l) l.length) ∧ wA.heap.size ≤ ab) := ⟨hln, hrow, hab⟩; have HB4 : Bx (Below wA.heap.size wA w4) := ⟨hb4⟩; clear hln hrow hab hmk hb4))
      go_loopg [12] (l.length + 1) (fun g v wq => ∃ i : Nat, g = l.length + 1 - i ∧ i ≤ l.length ∧ v = .int .i64 i ∧ Bx (Ln wq ab B l (ff l i 0) l.length ∧ RwV wq B l rv ∧ Below wA.heap.size wA wq))
      case atStart => exact ⟨0, by simp, by omega, rfl, ⟨by rw [ff_zero]; exact HL4.out.1, rwv_of HL4.out.1 HL4.out.2.1, HB4.out⟩⟩
      case round =>
        obtain ⟨i, hg, hil, rfl, HQ⟩ := hrel
        by_cases hlt : i < l.length
        · obtain ⟨rb, rc, rfl, hrc, hrm, _⟩ := rw_of HL4.out.1 HL4.out.2.1 (by omega)
          have hA := armsOf_at l i hlt
          have hal := tot_le l i hlt
          have HW : Bx (∀ X, Below wA.heap.size wA X → Below w.heap.size w X) := ⟨fun X hX => HBR.out.trans (hX.mono HBR.out.size)⟩
          have hws := (HWS.out w (Below.refl _ _)).1
          obtain ⟨b, o, q, d, rfl, hpb, _, c1, _, _⟩ := hws.at_ i hlt
          have hbl : b < w.heap.size := by
            obtain ⟨ob, h1, _⟩ := (HWS.out w (Below.refl _ _)).2 b hpb
            exact (Array.getElem?_eq_some_iff.1 h1).1
          obtain ⟨wB, rfl⟩ : ∃ X, X = wr := ⟨_, rfl⟩
          have HC1 : Bx (∀ X, Below wA.heap.size wA X → X.cell? ⟨b, o + i * 2 + 1, none⟩ = some (.slice q (armsOf l i).length d)) := ⟨fun X hX => by
            rw [hA]
            exact ((HW.out X hX).cell (p := ⟨b, o + i * 2 + 1, none⟩) hbl).trans c1⟩
          clear hws c1
          have HBi : Bx (wA.heap.size ≤ B i) := ⟨Nat.le_trans HL4.out.2.2 (Nat.le_of_lt (HL4.out.1.lo i hlt))⟩
          have hi1 : (0 : Int) ≤ ↑i := by omega
          have hi2 : (↑i : Int) < ↑l.length := by omega
          rw [← hA] at hal
          clear hA
          generalize hN : (armsOf l i).length = N at *
          go_wp2
          go_loopg [13] (N + 1) (fun g v wq => ∃ k : Nat, g = N + 1 - k ∧ k ≤ N ∧ v = .int .i64 k ∧ Bx (Ln wq ab B l (ff l i k) l.length ∧ RwV wq B l (.slice (some ⟨rb, 0, none⟩) l.length rc) ∧ Below wA.heap.size wA wq))
          case atStart => exact ⟨0, by simp, by omega, rfl, HQ⟩
          case round =>
            obtain ⟨k, hk, hkl, rfl, HK⟩ := hrel
            have c1 := HC1.out _ HK.out.2.2
            by_cases hlk : k < N
            · have r0 := (HK.out.2.1 rb rc rfl).at_ i hlt
              rw [hN] at r0
              have s0 := (HK.out.1.send hlt (by omega)).1
              have f0 := (HK.out.1.send hlt (by omega)).2
              have HNX : Bx (Ln _ ab B l (ff l i (k + 1)) l.length) := ⟨HK.out.1.turn hlt (by omega)⟩
              obtain ⟨sd, hsd⟩ : ∃ x, ((armsOf l i)[k]'(by omega)).send = x := ⟨_, rfl⟩
              rw [hsd] at s0 HNX
              clear hsd
              have HNR : Bx (RwV (wr.setCell ⟨B i, k * 5 + 1, none⟩ (.bool !sd)) B l (.slice (some ⟨rb, 0, none⟩) l.length rc) ∧ Below wA.heap.size wA (wr.setCell ⟨B i, k * 5 + 1, none⟩ (.bool !sd)).drew) := ⟨fun rb' rc' e => by
                have h1 := HK.out.2.1 rb' rc' e
                exact h1.keep (Below.heap_setCell _ _ _ _ (fun e2 => h1.ne i hlt e2.symm)), (HK.out.2.2.setCell (p := ⟨B i, k * 5 + 1, none⟩) HBi.out _).drew⟩
              have hk1 : (0 : Int) ≤ ↑k := by omega
              have hk2 : (↑k : Int) < ↑(N + 1) := by omega
              clear HK
              go_wp2
              go_region
              go_wp2
              go_roundg (N + 1 - (k + 1))
              case measure => omega
              case rel => exact ⟨k + 1, rfl, by omega, by simp, ⟨HNX.out.keep (fun b o _ h => h), fun rb' rc' e => (HNR.out.1 rb' rc' e).keep rfl, HNR.out.2⟩⟩
            · have hke : k = N := by omega
              subst hke
              have HE : Bx (Ln wr ab B l (ff l (i + 1) 0) l.length ∧ RwV wr B l (.slice (some ⟨rb, 0, none⟩) l.length rc) ∧ Below wA.heap.size wA wr) := ⟨by rw [← ff_next, hN]; exact HK.out⟩
              clear HK
              go_wp2
              go_roundg (l.length + 1 - (i + 1))
              case measure => omega
              case rel => exact ⟨i + 1, rfl, by omega, by simp, HE⟩
        · have hie : i = l.length := by omega
          subst hie
          have HTW := HQ.out.1.turned (HWS.out w (Below.refl _ _)).1 hs
          have hts : (opairs (turnL l)).length ≤ 20000000 := by rw [turn_same_len, HZS.out]; exact hzl
          have HP5 : Bx (Calls Try.prog 10 #[.slice (some ⟨ab, 0, none⟩) l.length (l.length + 1)] wr (PrPost wr (opairs (turnL l)))) := ⟨by
            have h := Pairs_any wr _ HTW.2 (some ⟨ab, 0, none⟩) (l.length + 1) (turnL l) HTW.1 hts (turn_sr l (by omega))
            have e : (turnL l).length = l.length := by simp [turnL]
            rw [e] at h
            exact h⟩
          have HBW : Bx (Below w3.heap.size w3 wr ∧ Below w.heap.size w wr) := ⟨HPR.out.trans (HQ.out.2.2.mono HPR.out.size), HBR.out.trans (HQ.out.2.2.mono HBR.out.size)⟩
          clear HTW HQ HL4 HB4 HPR HBR hg hil hlt
          have HYL : Bx ((opairs (turnL l)).length = zs.length ∧ ∀ i (h : i < (opairs (turnL l)).length), ∃ k, ∃ hk : k < zs.length, zs[k] = oswap (opairs (turnL l))[i]) := ⟨by
            have h1 := HZS.out
            subst h1
            exact ⟨turn_same_len l, fun i h => turn_mem_at l h⟩⟩
          generalize opairs (turnL l) = ys at *
          obtain ⟨wC, rfl⟩ : ∃ X, X = wr := ⟨_, rfl⟩
          have hyl := HYL.out.1
          go_wp2_with (first
            | (go_at_call 10; refine HP5.out.mono ?_; rintro e w6 ⟨v6, rfl, ho6, hb6⟩; obtain ⟨pb, cb, rfl, hpb⟩ := prs_of ho6; have HPB : Bx (∀ X, Below w6.heap.size w6 X → PrsAt X pb cb ys) := ⟨fun X hX => hpb.below hX⟩; have HB6 : Bx (Below w3.heap.size w3 w6 ∧ Below w.heap.size w w6) := ⟨HBW.out.1.trans (hb6.mono HBW.out.1.size), HBW.out.2.trans (hb6.mono HBW.out.2.size)⟩; have hl6 := hpb.len; have hm6 := hpb.max; unfold maxLen at hm6; clear ho6 hb6 hpb HP5 HBW; rw [hyl]))
          go_loopg [15] (zs.length + 1) (fun g v wq => ∃ i : Nat, g = zs.length + 1 - i ∧ i ≤ zs.length ∧ v = .int .i64 i ∧ Bx (Below w6.heap.size w6 wq))
          case atStart => exact ⟨0, by simp, by omega, rfl, ⟨Below.refl _ _⟩⟩
          case round =>
            obtain ⟨i, hg, hil, rfl, HR⟩ := hrel
            by_cases hlt : i < zs.length
            · have hiy : i < ys.length := by omega
              obtain ⟨k0, hk0, he0⟩ := HYL.out.2 i hiy
              obtain ⟨b, o, rfl, hbb, _⟩ := (HPB.out wr HR.out).at_ i hiy
              have HC : Bx (∀ Y, Below w6.heap.size w6 Y → PrAt Y b (o + i * 5) ys[i]) := ⟨fun Y hY => by
                obtain ⟨b', o', e, _, q⟩ := (HPB.out Y hY).at_ i hiy
                cases e
                exact q⟩
              obtain ⟨wD, rfl⟩ : ∃ X, X = wr := ⟨_, rfl⟩
              have hi1 : (0 : Int) ≤ ↑i := by omega
              have hi2 : (↑i : Int) < ↑zs.length := by omega
              generalize ys[i] = y at *
              go_wp2
              go_loopg [16, 17] (zs.length + 1) (fun g v16 v17 wq => ∃ (k : Nat) (th : Bool), g = zs.length + 1 - k ∧ k ≤ zs.length ∧ v16 = .bool th ∧ v17 = .int .i64 k ∧ Bx (k0 < k → th = true) ∧ Bx (Below w6.heap.size w6 wq))
              case atStart => exact ⟨0, false, by simp, by omega, rfl, rfl, ⟨fun h => by omega⟩, HR⟩
              case round =>
                obtain ⟨k, th, hk, hkl, rfl, rfl, HTH, HK⟩ := hrel
                by_cases hlk : k < zs.length
                · obtain ⟨b2, o2, rfl, hbb2, q⟩ := (HPA.out wr (HB6.out.1.trans (HK.out.mono HB6.out.1.size))).at_ k hlk
                  have r := HC.out wr HK.out
                  have hk1 : (0 : Int) ≤ ↑k := by omega
                  have hk2 : (↑k : Int) < ↑zs.length := by omega
                  have HD : Bx (∀ q, Below w6.heap.size w6 (wr.drewN q)) := ⟨fun q => ⟨HK.out.os, HK.out.tape, HK.out.output, HK.out.size, HK.out.block⟩⟩
                  have e0 := r.c0
                  have e1 := r.c1
                  have e2 := r.c2
                  have e3 := r.c3
                  have e4 := r.c4
                  cases th with
                  | true =>
                    clear q r
                    go_wp2
                    go_quiet (fail)
                    go_wp2
                    go_roundg (zs.length + 1 - (k + 1))
                    case measure => omega
                    case rel => exact ⟨k + 1, true, rfl, by omega, rfl, by simp, ⟨fun _ => rfl⟩, ⟨HD.out _⟩⟩
                  | false =>
                    have HE : Bx (k = k0 → zs[k] = oswap y) := ⟨fun e => by subst e; exact he0⟩
                    have HN2 : Bx (¬ k0 < k) := ⟨fun h => by have := HTH.out h; cases this⟩
                    generalize zs[k] = x at *
                    have hcase : (x.p ≠ y.q) ∨ (x.p = y.q ∧ x.i ≠ y.j) ∨ (x.p = y.q ∧ x.i = y.j ∧ x.q ≠ y.p) ∨ (x.p = y.q ∧ x.i = y.j ∧ x.q = y.p ∧ x.j ≠ y.i) ∨ (x.p = y.q ∧ x.i = y.j ∧ x.q = y.p ∧ x.j = y.i ∧ x.ch ≠ y.ch) ∨ (x.p = y.q ∧ x.i = y.j ∧ x.q = y.p ∧ x.j = y.i ∧ x.ch = y.ch) := by
                      by_cases d0 : x.p = y.q <;> by_cases d1 : x.i = y.j <;> by_cases d2 : x.q = y.p <;> by_cases d3 : x.j = y.i <;> by_cases d4 : x.ch = y.ch <;> simp [d0, d1, d2, d3, d4]
                    rcases hcase with n0 | ⟨d0, n1⟩ | ⟨d0, d1, n2⟩ | ⟨d0, d1, d2, n3⟩ | ⟨d0, d1, d2, d3, n4⟩ | ⟨d0, d1, d2, d3, d4⟩
                    · have HNK : Bx (¬ k0 < k + 1) := ⟨fun h => by have h2 := HE.out (by have := HN2.out; omega); apply n0; rw [h2]; rfl⟩
                      have gn : (x.p == y.q) = false := by simp; omega
                      have a0 := q.c0
                      have a1 := q.c1
                      have a2 := q.c2
                      have a3 := q.c3
                      have a4 := q.c4
                      clear HE n0
                      clear q r
                      go_wp2
                      go_quiet (fail)
                      go_wp2
                      go_roundg (zs.length + 1 - (k + 1))
                      case measure => omega
                      case rel => exact ⟨k + 1, false, rfl, by omega, rfl, by simp, ⟨fun h => absurd h HNK.out⟩, ⟨HD.out _⟩⟩
                    · have HNK : Bx (¬ k0 < k + 1) := ⟨fun h => by have h2 := HE.out (by have := HN2.out; omega); apply n1; rw [h2]; rfl⟩
                      have gn : ((x.i : Int) == (y.j : Int)) = false := by simp; omega
                      have gm : (x.i == y.j) = false := by simp; omega
                      have a0 := q.c0
                      have a1 := q.c1
                      have a2 := q.c2
                      have a3 := q.c3
                      have a4 := q.c4
                      rw [d0] at a0
                      clear HE n1 d0
                      clear q r
                      go_wp2
                      go_quiet (fail)
                      go_wp2
                      go_roundg (zs.length + 1 - (k + 1))
                      case measure => omega
                      case rel => exact ⟨k + 1, false, rfl, by omega, rfl, by simp, ⟨fun h => absurd h HNK.out⟩, ⟨HD.out _⟩⟩
                    · have HNK : Bx (¬ k0 < k + 1) := ⟨fun h => by have h2 := HE.out (by have := HN2.out; omega); apply n2; rw [h2]; rfl⟩
                      have gn : (x.q == y.p) = false := by simp; omega
                      have a0 := q.c0
                      have a1 := q.c1
                      have a2 := q.c2
                      have a3 := q.c3
                      have a4 := q.c4
                      rw [d0] at a0
                      rw [d1] at a1
                      clear HE n2 d0 d1
                      clear q r
                      go_wp2
                      go_quiet (fail)
                      go_wp2
                      go_roundg (zs.length + 1 - (k + 1))
                      case measure => omega
                      case rel => exact ⟨k + 1, false, rfl, by omega, rfl, by simp, ⟨fun h => absurd h HNK.out⟩, ⟨HD.out _⟩⟩
                    · have HNK : Bx (¬ k0 < k + 1) := ⟨fun h => by have h2 := HE.out (by have := HN2.out; omega); apply n3; rw [h2]; rfl⟩
                      have gn : ((x.j : Int) == (y.i : Int)) = false := by simp; omega
                      have gm : (x.j == y.i) = false := by simp; omega
                      have a0 := q.c0
                      have a1 := q.c1
                      have a2 := q.c2
                      have a3 := q.c3
                      have a4 := q.c4
                      rw [d0] at a0
                      rw [d1] at a1
                      rw [d2] at a2
                      clear HE n3 d0 d1 d2
                      clear q r
                      go_wp2
                      go_quiet (fail)
                      go_wp2
                      go_roundg (zs.length + 1 - (k + 1))
                      case measure => omega
                      case rel => exact ⟨k + 1, false, rfl, by omega, rfl, by simp, ⟨fun h => absurd h HNK.out⟩, ⟨HD.out _⟩⟩
                    · have HNK : Bx (¬ k0 < k + 1) := ⟨fun h => by have h2 := HE.out (by have := HN2.out; omega); apply n4; rw [h2]; rfl⟩
                      have gn : (x.ch == y.ch) = false := by simp; omega
                      have a0 := q.c0
                      have a1 := q.c1
                      have a2 := q.c2
                      have a3 := q.c3
                      have a4 := q.c4
                      rw [d0] at a0
                      rw [d1] at a1
                      rw [d2] at a2
                      rw [d3] at a3
                      clear HE n4 d0 d1 d2 d3
                      clear q r
                      go_wp2
                      go_quiet (fail)
                      go_wp2
                      go_roundg (zs.length + 1 - (k + 1))
                      case measure => omega
                      case rel => exact ⟨k + 1, false, rfl, by omega, rfl, by simp, ⟨fun h => absurd h HNK.out⟩, ⟨HD.out _⟩⟩
                    · have a0 := q.c0
                      have a1 := q.c1
                      have a2 := q.c2
                      have a3 := q.c3
                      have a4 := q.c4
                      rw [d0] at a0
                      rw [d1] at a1
                      rw [d2] at a2
                      rw [d3] at a3
                      rw [d4] at a4
                      clear HE d0 d1 d2 d3 d4
                      clear q r
                      go_wp2
                      go_quiet (fail)
                      go_wp2
                      go_roundg (zs.length + 1 - (k + 1))
                      case measure => omega
                      case rel => exact ⟨k + 1, true, rfl, by omega, rfl, by simp, ⟨fun _ => rfl⟩, ⟨HD.out _⟩⟩
                · have hke : k = zs.length := by omega
                  subst hke
                  obtain rfl : th = true := HTH.out hk0
                  go_wp2
                  go_roundg (zs.length + 1 - (i + 1))
                  case measure => omega
                  case rel => exact ⟨i + 1, rfl, by omega, by simp, HK⟩
            · have hie : i = zs.length := by omega
              subst hie
              have HBE : Bx (Below w3.heap.size w3 wr ∧ Below w.heap.size w wr) := ⟨HB6.out.1.trans (HR.out.mono HB6.out.1.size), HB6.out.2.trans (HR.out.mono HB6.out.2.size)⟩
              obtain ⟨wE, rfl⟩ : ∃ X, X = wr := ⟨_, rfl⟩
              clear HR HB6 HPB HYL hyl hlt hil hg hl6 hm6
              by_cases hl0 : l.length = 0
              · obtain rfl : l = [] := List.eq_nil_of_length_eq_zero hl0
                obtain rfl : zs = [] := by rw [← HZS.out]; rfl
                clear HZS
                go_wp2
                go_ret
                exact ⟨rfl, HBE.out.2⟩
              · obtain ⟨x, hx⟩ : ∃ x : Int, x = if who < 0 then -(who + 1) else who := ⟨_, rfl⟩
                have hx0 : 0 ≤ x ∧ x ≤ 9223372036854775807 := by
                  obtain ⟨h1, h2⟩ := hwho
                  rw [hx]
                  split <;> omega
                obtain ⟨n, hn, hxn⟩ : ∃ n : Nat, n < l.length ∧ x % (↑l.length : Int) = ↑n := by
                  have h1 : (0 : Int) < ↑l.length := by omega
                  have h2 := Int.emod_nonneg x (by omega : (↑l.length : Int) ≠ 0)
                  have h3 := Int.emod_lt_of_pos x h1
                  exact ⟨(x % (↑l.length : Int)).toNat, by omega, by omega⟩
                by_cases hneg : who < 0
                · rw [if_pos hneg] at hx
                  have hxm : -((who + 1).tmod ↑l.length) = ↑n := by
                    rw [← Int.neg_tmod, ← hx, Int.tmod_eq_emod_of_nonneg hx0.1]
                    exact hxn
                  go_wp2
                  clear hxm hxn hx hx0 hneg
                  obtain ⟨b, o, cs, rfl, hcel, hpb, hcc⟩ := (HWS.out w (Below.refl _ _)).1.cel (by omega)
                  have hbl : b < w.heap.size := by
                    obtain ⟨ob, h1, _⟩ := (HWS.out w (Below.refl _ _)).2 b hpb
                    exact (Array.getElem?_eq_some_iff.1 h1).1
                  have HCS : Bx (∀ X, Below w.heap.size w X → ∀ j u, cs[j]? = some u → X.cell? ⟨b, o + j, none⟩ = some u) := ⟨fun X hX j u h => (hX.cell (p := ⟨b, o + j, none⟩) hbl).trans (hcc j u h)⟩
                  have HCE : Bx (Cel w Pr l cs) := ⟨hcel⟩
                  have hn1 : (0 : Int) ≤ ↑n := by omega
                  have hn2 : (↑n : Int) < ↑l.length := by omega
                  have hn3 : n ≤ c := by omega
                  have hn4 : n + 1 ≤ l.length := by omega
                  have hn5 : IntKind.i64.wrap ((↑n : Int) + 1) = ↑(n + 1) := by rw [wrapI (by omega)]; simp
                  have hn6 : ¬ (l.length < n + 1) := by omega
                  have hn7 : n + 1 ≤ c := by omega
                  have hn8 : (0 : Int) ≤ ↑n + 1 := by omega
                  have hn9 : (↑n : Int) + 1 ≤ ↑l.length := by omega
                  obtain ⟨iW, hiW, zW0, zW1, zW2⟩ := info_parts infoW
                  have hcl := hcel.len
                  have HONE : Bx (∀ u ∈ cs, u.oneCell' = true) := ⟨hcel.one⟩
                  clear hcel hcc hpb
                  have HBE2 : Bx (Below wE.heap.size wE (wE.alloc (.cells #[] 38)).drew) := ⟨(below1 _ _).drew⟩
                  have HEW : Bx (∀ X, Below wE.heap.size wE X → Below w.heap.size w X) := ⟨fun X hX => HBE.out.2.trans (hX.mono HBE.out.2.size)⟩
                  have HS2 : Bx (∀ X, Below w.heap.size w X → (0 < l.length - (n + 1) → ∃ ad, (if c = n + 1 then some (⟨b, o, none⟩ : Addr) else some ⟨b, o + (n + 1) * 2, none⟩) = some ad ∧ ∀ j u, (cs.drop ((n + 1) * 2))[j]? = some u → X.cell? (ad.add j) = some u)) := ⟨fun X hX => Cel.src2 (w := w) (Pr := Pr) (l := l) hlc (HCS.out X hX)⟩
                  obtain ⟨p2, hp2⟩ : ∃ p2 : Option Addr, (if c = n + 1 then some (⟨b, o, none⟩ : Addr) else some ⟨b, o + (n + 1) * 2, none⟩) = p2 := ⟨_, rfl⟩
                  rw [hp2] at HS2
                  go_wp2
                  go_region_law (first
                      | (refine step_app rfl (.tmp 229) (.tmp 232) 22 rfl wE.heap.size 38 iW (.agg #[.int .i64 0, .slice none 0 0]) 2 32 Try.underlying22 hiW zW0 zW1 zW2 rfl (by decide) (.slice (some ⟨wE.heap.size, 0, none⟩) 0 0) 0 [] rfl (own_new0 wE 38 2) (some ⟨b, o, none⟩) n c (cs.take (n * 2)) rfl (by rw [List.length_take]; omega) (Cel.src1 (w := w) (Pr := Pr) (l := l) (HCS.out _ (HEW.out _ HBE2.out))) (fun u hu => HONE.out u (List.mem_of_mem_take hu)) (by unfold maxLen; omega) (by omega) HBE2.out.size ?_; rintro v7 w7 ho7 hg7 hb7; have HB7 : Bx (Below wE.heap.size wE w7 ∧ w7.ownsRow wE.heap.size 38 2 v7 n (cs.take (n * 2))) := ⟨grown_bel HBE2.out hg7 (fun k hk => by cases hk; exact Nat.le_refl _), by simpa using ho7⟩; clear ho7 hg7 hb7)
                      | (refine step_app rfl (.tmp 233) (.tmp 237) 22 rfl wE.heap.size 38 iW (.agg #[.int .i64 0, .slice none 0 0]) 2 32 Try.underlying22 hiW zW0 zW1 zW2 rfl (by decide) v7 n (cs.take (n * 2)) rfl HB7.out.2 p2 (l.length - (n + 1)) (c - (n + 1)) (cs.drop ((n + 1) * 2)) rfl (by rw [List.length_drop]; omega) (HS2.out _ (HEW.out _ HB7.out.1)) (fun u hu => HONE.out u (List.mem_of_mem_drop hu)) (by unfold maxLen; omega) (by omega) HB7.out.1.size ?_; rintro v8 w8 ho8 hg8 hb8; have HB8 : Bx (Below wE.heap.size wE w8 ∧ w8.ownsRow wE.heap.size 38 2 v8 (l.length - 1) (cs.take (n * 2) ++ cs.drop ((n + 1) * 2))) := ⟨grown_bel HB7.out.1 hg8 (own_base HB7.out.2), by rw [show l.length - 1 = n + (l.length - (n + 1)) by omega]; exact ho8⟩; clear ho8 hg8 hb8))
                  have HLW := left_ws (HCE.out.keep (Kpt.of_below (HWS.out w (Below.refl _ _)).2 (HEW.out _ HB8.out.1))) hn HB8.out.2 (HWS.out w8 (HEW.out _ HB8.out.1)).2
                  have hse := left_same l n hn
                  have htm := tot_without l n
                  have hid := HCE.out.at_ n hn
                  obtain ⟨qi, di, hid, _⟩ := hid
                  have HID : Bx (∀ Y, Below wE.heap.size wE Y → Y.cell? ⟨b, o + n * 2, none⟩ = some (.int .i64 l[n].id)) := ⟨fun Y hY => HCS.out Y (HEW.out Y hY) _ _ hid⟩
                  rw [HZS.out] at hse
                  generalize l[n].id = idn at *
                  generalize l.take n ++ l.drop (n + 1) = m at *
                  obtain ⟨p8, c8, rfl, hws8, hpr8⟩ := HLW
                  have HB8' : Bx (Below wE.heap.size wE w8) := ⟨HB8.out.1⟩
                  have HPP : Bx (∀ Y, Below w8.heap.size w8 Y → Calls Try.prog 10 #[.slice p8 m.length c8] Y (PrPost Y (opairs m))) := ⟨fun Y hY => by
                    have hk := Kpt.of_below hpr8 hY
                    refine Pairs_any Y _ (fun b hb => ?_) p8 c8 m (hws8.keep hk) (opairs_len m (by omega)) (by have := spots_len prR m; omega)
                    obtain ⟨ob, h1, h2⟩ := hpr8 b hb
                    exact ⟨ob, (hk b hb).trans h1, h2⟩⟩
                  generalize opairs m = ms at *
                  obtain ⟨fs, hfs⟩ : ∃ fs, zs.filter (onot idn) = fs := ⟨_, rfl⟩
                  rw [hfs] at hse
                  have HSM : Bx ((ms = fs ∨ zs.length = 0) ∧ zs.filter (onot idn) = fs) := ⟨hse, hfs⟩
                  have HE3 : Bx (∀ X, Below wE.heap.size wE X → Below w3.heap.size w3 X) := ⟨fun X hX => HBE.out.1.trans (hX.mono HBE.out.1.size)⟩
                  have HWI : Bx (∀ Y, Below wE.heap.size wE Y → Calls Try.prog 21 #[.slice pa zs.length ca, .int .i64 idn] Y (PrPost Y fs)) := ⟨fun Y hY => by
                    have := without_any Y pa ca zs idn (HPA.out Y (HE3.out Y hY)) hzl
                    rw [hfs] at this
                    exact this⟩
                  clear hse hfs hws8 hpr8 HB8 HS2 HCE HONE hid htm hiW zW0 zW1 zW2 HBE2 HCS hcl hp2 hn3 hn4 hn5 hn6 hn7 hn8 hn9
                  go_wp2
                  go_region_held3 (fun Y => Y.cell? ⟨b, o + n * 2, none⟩ = some (.int .i64 idn))
                    (first | exact HID.out _ hz11 | exact HID.out _ hz10 | exact HID.out _ hz9 | exact HID.out _ HB8'.out.drew)
                    (first
                      | (go_at_call 10; refine Calls.mono (HPP.out _ ((Below.refl _ _).drew)) ?_; rintro e w9 ⟨v9, rfl, ho9, hb9⟩; obtain ⟨p9, c9, rfl, hp9⟩ := prs_of ho9; have hz9 : Below wE.heap.size wE w9 := HB8'.out.drew.trans (hb9.mono HB8'.out.size); clear ho9 hb9)
                      | (go_at_call 21; refine Calls.mono (HWI.out _ hz9) ?_; rintro e w10 ⟨v10, rfl, ho10, hb10⟩; obtain ⟨p10, c10, rfl, hp10⟩ := prs_of ho10; have hz10 : Below wE.heap.size wE w10 := hz9.trans (hb10.mono hz9.size); have hq9 := hp9.below hb10; clear ho10 hb10)
                      | (go_at_call 20; refine Calls.mono (same_any _ p9 p10 c9 c10 ms fs zs idn HSM.out.2 HSM.out.1 hq9 hp10) ?_; rintro e w11 ⟨fb, rfl, hfb, hb11⟩; have hz11 : Below wE.heap.size wE w11 := hz10.trans (hb11.mono hz10.size); clear hb11))
                  cases fb with
                  | true =>
                    go_wp2
                    go_ret
                    exact ⟨rfl, HEW.out _ hz11⟩
                  | false =>
                    have hz0 : zs.length = 0 := by simpa using hfb
                    go_wp2
                    go_ret
                    exact ⟨rfl, HEW.out _ hz11⟩
                · rw [if_neg hneg] at hx
                  subst hx
                  go_wp2
                  clear hxn hx0 hneg
                  obtain ⟨b, o, cs, rfl, hcel, hpb, hcc⟩ := (HWS.out w (Below.refl _ _)).1.cel (by omega)
                  have hbl : b < w.heap.size := by
                    obtain ⟨ob, h1, _⟩ := (HWS.out w (Below.refl _ _)).2 b hpb
                    exact (Array.getElem?_eq_some_iff.1 h1).1
                  have HCS : Bx (∀ X, Below w.heap.size w X → ∀ j u, cs[j]? = some u → X.cell? ⟨b, o + j, none⟩ = some u) := ⟨fun X hX j u h => (hX.cell (p := ⟨b, o + j, none⟩) hbl).trans (hcc j u h)⟩
                  have HCE : Bx (Cel w Pr l cs) := ⟨hcel⟩
                  have hn1 : (0 : Int) ≤ ↑n := by omega
                  have hn2 : (↑n : Int) < ↑l.length := by omega
                  have hn3 : n ≤ c := by omega
                  have hn4 : n + 1 ≤ l.length := by omega
                  have hn5 : IntKind.i64.wrap ((↑n : Int) + 1) = ↑(n + 1) := by rw [wrapI (by omega)]; simp
                  have hn6 : ¬ (l.length < n + 1) := by omega
                  have hn7 : n + 1 ≤ c := by omega
                  have hn8 : (0 : Int) ≤ ↑n + 1 := by omega
                  have hn9 : (↑n : Int) + 1 ≤ ↑l.length := by omega
                  obtain ⟨iW, hiW, zW0, zW1, zW2⟩ := info_parts infoW
                  have hcl := hcel.len
                  have HONE : Bx (∀ u ∈ cs, u.oneCell' = true) := ⟨hcel.one⟩
                  clear hcel hcc hpb
                  have HBE2 : Bx (Below wE.heap.size wE (wE.alloc (.cells #[] 38)).drew) := ⟨(below1 _ _).drew⟩
                  have HEW : Bx (∀ X, Below wE.heap.size wE X → Below w.heap.size w X) := ⟨fun X hX => HBE.out.2.trans (hX.mono HBE.out.2.size)⟩
                  have HS2 : Bx (∀ X, Below w.heap.size w X → (0 < l.length - (n + 1) → ∃ ad, (if c = n + 1 then some (⟨b, o, none⟩ : Addr) else some ⟨b, o + (n + 1) * 2, none⟩) = some ad ∧ ∀ j u, (cs.drop ((n + 1) * 2))[j]? = some u → X.cell? (ad.add j) = some u)) := ⟨fun X hX => Cel.src2 (w := w) (Pr := Pr) (l := l) hlc (HCS.out X hX)⟩
                  obtain ⟨p2, hp2⟩ : ∃ p2 : Option Addr, (if c = n + 1 then some (⟨b, o, none⟩ : Addr) else some ⟨b, o + (n + 1) * 2, none⟩) = p2 := ⟨_, rfl⟩
                  rw [hp2] at HS2
                  go_wp2
                  go_region_law (first
                      | (refine step_app rfl (.tmp 229) (.tmp 232) 22 rfl wE.heap.size 38 iW (.agg #[.int .i64 0, .slice none 0 0]) 2 32 Try.underlying22 hiW zW0 zW1 zW2 rfl (by decide) (.slice (some ⟨wE.heap.size, 0, none⟩) 0 0) 0 [] rfl (own_new0 wE 38 2) (some ⟨b, o, none⟩) n c (cs.take (n * 2)) rfl (by rw [List.length_take]; omega) (Cel.src1 (w := w) (Pr := Pr) (l := l) (HCS.out _ (HEW.out _ HBE2.out))) (fun u hu => HONE.out u (List.mem_of_mem_take hu)) (by unfold maxLen; omega) (by omega) HBE2.out.size ?_; rintro v7 w7 ho7 hg7 hb7; have HB7 : Bx (Below wE.heap.size wE w7 ∧ w7.ownsRow wE.heap.size 38 2 v7 n (cs.take (n * 2))) := ⟨grown_bel HBE2.out hg7 (fun k hk => by cases hk; exact Nat.le_refl _), by simpa using ho7⟩; clear ho7 hg7 hb7)
                      | (refine step_app rfl (.tmp 233) (.tmp 237) 22 rfl wE.heap.size 38 iW (.agg #[.int .i64 0, .slice none 0 0]) 2 32 Try.underlying22 hiW zW0 zW1 zW2 rfl (by decide) v7 n (cs.take (n * 2)) rfl HB7.out.2 p2 (l.length - (n + 1)) (c - (n + 1)) (cs.drop ((n + 1) * 2)) rfl (by rw [List.length_drop]; omega) (HS2.out _ (HEW.out _ HB7.out.1)) (fun u hu => HONE.out u (List.mem_of_mem_drop hu)) (by unfold maxLen; omega) (by omega) HB7.out.1.size ?_; rintro v8 w8 ho8 hg8 hb8; have HB8 : Bx (Below wE.heap.size wE w8 ∧ w8.ownsRow wE.heap.size 38 2 v8 (l.length - 1) (cs.take (n * 2) ++ cs.drop ((n + 1) * 2))) := ⟨grown_bel HB7.out.1 hg8 (own_base HB7.out.2), by rw [show l.length - 1 = n + (l.length - (n + 1)) by omega]; exact ho8⟩; clear ho8 hg8 hb8))
                  have HLW := left_ws (HCE.out.keep (Kpt.of_below (HWS.out w (Below.refl _ _)).2 (HEW.out _ HB8.out.1))) hn HB8.out.2 (HWS.out w8 (HEW.out _ HB8.out.1)).2
                  have hse := left_same l n hn
                  have htm := tot_without l n
                  have hid := HCE.out.at_ n hn
                  obtain ⟨qi, di, hid, _⟩ := hid
                  have HID : Bx (∀ Y, Below wE.heap.size wE Y → Y.cell? ⟨b, o + n * 2, none⟩ = some (.int .i64 l[n].id)) := ⟨fun Y hY => HCS.out Y (HEW.out Y hY) _ _ hid⟩
                  rw [HZS.out] at hse
                  generalize l[n].id = idn at *
                  generalize l.take n ++ l.drop (n + 1) = m at *
                  obtain ⟨p8, c8, rfl, hws8, hpr8⟩ := HLW
                  have HB8' : Bx (Below wE.heap.size wE w8) := ⟨HB8.out.1⟩
                  have HPP : Bx (∀ Y, Below w8.heap.size w8 Y → Calls Try.prog 10 #[.slice p8 m.length c8] Y (PrPost Y (opairs m))) := ⟨fun Y hY => by
                    have hk := Kpt.of_below hpr8 hY
                    refine Pairs_any Y _ (fun b hb => ?_) p8 c8 m (hws8.keep hk) (opairs_len m (by omega)) (by have := spots_len prR m; omega)
                    obtain ⟨ob, h1, h2⟩ := hpr8 b hb
                    exact ⟨ob, (hk b hb).trans h1, h2⟩⟩
                  generalize opairs m = ms at *
                  obtain ⟨fs, hfs⟩ : ∃ fs, zs.filter (onot idn) = fs := ⟨_, rfl⟩
                  rw [hfs] at hse
                  have HSM : Bx ((ms = fs ∨ zs.length = 0) ∧ zs.filter (onot idn) = fs) := ⟨hse, hfs⟩
                  have HE3 : Bx (∀ X, Below wE.heap.size wE X → Below w3.heap.size w3 X) := ⟨fun X hX => HBE.out.1.trans (hX.mono HBE.out.1.size)⟩
                  have HWI : Bx (∀ Y, Below wE.heap.size wE Y → Calls Try.prog 21 #[.slice pa zs.length ca, .int .i64 idn] Y (PrPost Y fs)) := ⟨fun Y hY => by
                    have := without_any Y pa ca zs idn (HPA.out Y (HE3.out Y hY)) hzl
                    rw [hfs] at this
                    exact this⟩
                  clear hse hfs hws8 hpr8 HB8 HS2 HCE HONE hid htm hiW zW0 zW1 zW2 HBE2 HCS hcl hp2 hn3 hn4 hn5 hn6 hn7 hn8 hn9
                  go_wp2
                  go_region_held3 (fun Y => Y.cell? ⟨b, o + n * 2, none⟩ = some (.int .i64 idn))
                    (first | exact HID.out _ hz11 | exact HID.out _ hz10 | exact HID.out _ hz9 | exact HID.out _ HB8'.out.drew)
                    (first
                      | (go_at_call 10; refine Calls.mono (HPP.out _ ((Below.refl _ _).drew)) ?_; rintro e w9 ⟨v9, rfl, ho9, hb9⟩; obtain ⟨p9, c9, rfl, hp9⟩ := prs_of ho9; have hz9 : Below wE.heap.size wE w9 := HB8'.out.drew.trans (hb9.mono HB8'.out.size); clear ho9 hb9)
                      | (go_at_call 21; refine Calls.mono (HWI.out _ hz9) ?_; rintro e w10 ⟨v10, rfl, ho10, hb10⟩; obtain ⟨p10, c10, rfl, hp10⟩ := prs_of ho10; have hz10 : Below wE.heap.size wE w10 := hz9.trans (hb10.mono hz9.size); have hq9 := hp9.below hb10; clear ho10 hb10)
                      | (go_at_call 20; refine Calls.mono (same_any _ p9 p10 c9 c10 ms fs zs idn HSM.out.2 HSM.out.1 hq9 hp10) ?_; rintro e w11 ⟨fb, rfl, hfb, hb11⟩; have hz11 : Below wE.heap.size wE w11 := hz10.trans (hb11.mono hz10.size); clear hb11))
                  cases fb with
                  | true =>
                    go_wp2
                    go_ret
                    exact ⟨rfl, HEW.out _ hz11⟩
                  | false =>
                    have hz0 : zs.length = 0 := by simpa using hfb
                    go_wp2
                    go_ret
                    exact ⟨rfl, HEW.out _ hz11⟩
end Go.Proofs.Yteinpijbdgcehaa
