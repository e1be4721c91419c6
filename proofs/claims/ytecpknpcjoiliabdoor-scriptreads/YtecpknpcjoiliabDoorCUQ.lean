import Derived.Test.YtecpknpcjoiliabDoorCUN
namespace Go.Proofs.YtecpknpcjoiliabDoor
open Go.RowKit
set_option linter.unusedVariables false
set_option linter.unusedSimpArgs false

set_option maxRecDepth 100000 in
set_option maxHeartbeats 4000000 in
theorem pick_good (w : World) (B rb sb k : Nat) (nx : Value) (line rest : List UInt8) (m : Lm) (b : Bool) (pv : Value) (ps : List Pk) (h : RS w rb k nx (line ++ 10 :: rest)) (h10 : (10 : UInt8) ∉ line) (hk : k ≤ 1152921504606846976) (hlen : (line ++ 10 :: rest).length ≤ 281474976710656)
    (hL : LB B w) (hB : B ≤ w.heap.size) (hrb : B ≤ rb) (hsB : B ≤ sb) (hne : rb ≠ sb) (hs : SB w sb m b pv) (hp : PkO w B pv ps) (hkd : kindI (pieces 32 line).1 ≠ 0) (hps : ps.length < 4096) (l : List Int) (hno : numsP (shapeI (kindI (pieces 32 line).1)).2 (pieces 32 line).2 = some l) :
    Calls Tryd.prog 20 #[.pointer (some ⟨rb, 0, none⟩), .pointer (some ⟨sb, 0, none⟩)] w fun e w' => ∃ v, e = .returned v ∧ Bx (PkP w B rb sb (k + 1) rest m b (.yes (ps ++ [⟨kindI (pieces 32 line).1, l.getD 0 0, l.getD 1 0⟩])) v w') := by
  have HBG : Bx _ := ⟨begin_yes w rb k nx line rest h h10 hk hlen⟩
  have hle := kindI_le (pieces 32 line).1
  have hrw := heap_lt h
  obtain ⟨pa, pc, rfl⟩ := hp.form
  have HI : Bx (∀ X, BgP w rb (k + 1) rest (pieces 32 line).2 X → PkI w B rb sb (k + 1) rest (pieces 32 line).2 m b (.slice pa ps.length pc) ps X) := ⟨fun X hb => PkI.of hb h hs hp hne⟩
  obtain ⟨kd, hkd2⟩ : ∃ kd, kd = kindI (pieces 32 line).1 := ⟨_, rfl⟩
  rw [← hkd2] at hno
  rw [← hkd2]
  obtain ⟨j0, ji, jz0, jz1, jz2⟩ := info_parts infoPk
  have har := ar_le kd
  have HKD : Bx (∀ w1, BgP w rb (k + 1) rest (pieces 32 line).2 w1 → Calls Tryd.prog 32 #[strV (pieces 32 line).1] w1 fun e w' => e = .returned (.int .i64 (kd : Nat)) ∧ BgP w rb (k + 1) rest (pieces 32 line).2 w') := ⟨fun w1 hb => (kindOf_any (pieces 32 line).1 w1 (hL.on (hb.bel hB hrb)).here.shp).mono fun e w' h => ⟨by rw [h.1, hkd2], hb.more h.2⟩⟩
  have HSH : Bx (∀ X, BgP w rb (k + 1) rest (pieces 32 line).2 X → Calls Tryd.prog 33 #[.int .i64 (kd : Nat)] X fun e w' => e = .returned (.tuple #[.agg #[strV (shapeI kd).1, .int .i64 ((shapeI kd).2 : Nat)], .bool true]) ∧ Below X.heap.size X w') := ⟨fun X hb => shapeOf_yes kd X (hL.on (hb.bel hB hrb)).here.shp (by omega)⟩
  obtain ⟨Q0, hQ0⟩ : ∃ Q, Q = PkP w B rb sb (k + 1) rest m b (.yes (ps ++ [⟨kd, l.getD 0 0, l.getD 1 0⟩])) := ⟨_, rfl⟩
  have HG : Bx (∀ w2 w7 w9 : World, PnP w B rb sb (k + 1) w2.heap.size rest m b (.slice pa ps.length pc) ps ⟨kd, l.getD 0 0, l.getD 1 0⟩ w7 → (w7.alloc (.cells #[.int .i64 (kd : Nat), .int .i64 (l.getD 0 0), .int .i64 (l.getD 1 0)] 39)).drew.grownBy w9 (Value.slice pa ps.length pc).ownBlock → (∃ nx, RS w9 rb (k + 1) nx rest) ∧ SB w9 sb m b (.slice pa ps.length pc) ∧ Below B w w9) := ⟨fun w2 w7 w9 h7 hg => by
    obtain ⟨nx7, r7⟩ := h7.rs
    have hb7 : Below w7.heap.size w7 (w7.alloc (.cells #[.int .i64 (kd : Nat), .int .i64 (l.getD 0 0), .int .i64 (l.getD 1 0)] 39)).drew := (below1 _ _).drew
    have s7 := h7.bel.size
    have key : ∀ (x : Nat) (C : Array Value) (T : TypeId) (fz : Nat × Nat), T ≠ 39 → w7.heap[x]? = some (.cells C T fz) → w9.heap[x]? = some (.cells C T fz) := fun x C T fz hT hx => by
      have hxl := heap_lt hx
      rw [hg.block x (by have := hb7.size; omega) (fun e => by
        obtain ⟨c, f, e1⟩ := owns_kind h7.pk x e.symm
        rw [hx] at e1
        simp only [Option.some.injEq, Obj.cells.injEq] at e1
        exact hT e1.2.1), hb7.block x hxl]
      exact hx
    refine ⟨⟨nx7, key _ _ _ _ (by decide) r7⟩, key _ _ _ _ (by decide) h7.sb, ?_⟩
    exact (h7.bel.trans (hb7.mono (by omega))).grown hg (by have := hb7.size; omega) fun x hx => (owns_block h7.pk hx).1⟩
  have HF : Bx (∀ w9 g cp, (∃ nx, RS w9 rb (k + 1) nx rest) → SB w9 sb m b (.slice pa ps.length pc) → Below B w w9 → w9.ownsRow B 39 3 (.slice (some ⟨g, 0, none⟩) (ps.length + 1) cp) (ps.length + 1) (pkC ps ++ [.int .i64 (kd : Nat), .int .i64 (l.getD 0 0), .int .i64 (l.getD 1 0)]) → Q0 .nilIface (w9.setCell ⟨sb, 8, none⟩ (.slice (some ⟨g, 0, none⟩) (ps.length + 1) cp))) := ⟨fun w9 g cp h1 h2 h3 h4 => by
    obtain ⟨nx9, r9⟩ := h1
    have q := Kx.set (P := fun x => x = sb) w9 8 (.slice (some ⟨g, 0, none⟩) (ps.length + 1) cp) (b := sb) rfl
    rw [hQ0]
    refine ⟨h3.trans (q.below (Nat.le_trans hB h3.size) fun x hx => by omega), rfl, nx9, .slice (some ⟨g, 0, none⟩) (ps.length + 1) cp, q.at_ r9 hne, ?_, ?_⟩
    · have := Lib.heap_setCell_same (i := 8) h2 (.slice (some ⟨g, 0, none⟩) (ps.length + 1) cp)
      unfold SB
      simpa using this
    · unfold PkO
      rw [pkC_snoc, List.length_append]
      refine owns_kx h4 q fun g' hg' e => ?_
      obtain ⟨c, f, e1⟩ := owns_kind h4 g' hg'
      rw [e, h2] at e1
      simp at e1⟩
  have HO : Bx (∀ w2 w7 : World, PnP w B rb sb (k + 1) w2.heap.size rest m b (.slice pa ps.length pc) ps ⟨kd, l.getD 0 0, l.getD 1 0⟩ w7 → ∀ W1, Below w7.heap.size w7 W1 → W1.ownsRow B 39 3 (.slice pa ps.length pc) ps.length (pkC ps) ∧ B ≤ w7.heap.size) := ⟨fun w2 w7 h7 W1 hb => ⟨owns_kx h7.pk (Kx.new (P := fun _ => False) hb) (fun _ _ h => h), Nat.le_trans hB h7.bel.size⟩⟩
  have HCL : Bx (∀ w2 w7 : World, PnP w B rb sb (k + 1) w2.heap.size rest m b (.slice pa ps.length pc) ps ⟨kd, l.getD 0 0, l.getD 1 0⟩ w7 → w7.cell? ⟨sb, 8, none⟩ = some (.slice pa ps.length pc) ∧ w7.frozen? ⟨sb, 8, none⟩ = false ∧ w7.cell? ⟨w2.heap.size, 0, none⟩ = some (.int .i64 (kd : Nat)) ∧ w7.cell? ⟨w2.heap.size, 1, none⟩ = some (.int .i64 (l.getD 0 0)) ∧ w7.cell? ⟨w2.heap.size, 2, none⟩ = some (.int .i64 (l.getD 1 0)) ∧ ∀ o, (w7.alloc o).drew.cell? ⟨sb, 8, none⟩ = some (.slice pa ps.length pc)) := ⟨fun w2 w7 h7 => ⟨h7.sb.cell.1, h7.sb.cell.2, cell_blk h7.p rfl, cell_blk h7.p rfl, cell_blk h7.p rfl, fun o => cell_blk (below_heap (below1 w7 o) h7.sb) rfl⟩⟩
  have HNU : Bx (∀ w2 w4 : World, ∀ sO, BgP w rb (k + 1) rest (pieces 32 line).2 w2 → Below (w2.alloc (.cells #[.int .i64 (kd : Nat), .int .i64 0, .int .i64 0] 39)).heap.size (w2.alloc (.cells #[.int .i64 (kd : Nat), .int .i64 0, .int .i64 0] 39)) w4 → Calls Tryd.prog 31 #[.pointer (some ⟨rb, 0, none⟩), .slice (some ⟨w4.heap.size + 1, 0, none⟩) (shapeI kd).2 2] ((w4.alloc sO).alloc (.cells #[.pointer (some ⟨w2.heap.size, 1, none⟩), .pointer (some ⟨w2.heap.size, 2, none⟩)] 91)) fun e w' => e = .returned .nilIface ∧ Bx (PnP w B rb sb (k + 1) w2.heap.size rest m b (.slice pa ps.length pc) ps ⟨kd, l.getD 0 0, l.getD 1 0⟩ w')) := ⟨fun w2 w4 sO hb h4 => by
    have := pick_nums (sO := sO) hL hB hrb hrw (HI.out w2 hb) har h4
    rw [hno] at this
    exact this⟩
  have HMO : Bx (∀ (X : World) o, BgP w rb (k + 1) rest (pieces 32 line).2 X → BgP w rb (k + 1) rest (pieces 32 line).2 (X.alloc o) ∧ (X.alloc o).cell? ⟨sb, 8, none⟩ = some (.slice pa ps.length pc)) := ⟨fun X o hb => ⟨hb.more (below1 X o), by have := (HI.out _ (hb.more (below1 X o))).sb.cell.1; exact this⟩⟩
  have HMB : Bx (∀ X Y : World, BgP w rb (k + 1) rest (pieces 32 line).2 X → Below X.heap.size X Y → BgP w rb (k + 1) rest (pieces 32 line).2 Y) := ⟨fun X Y hb h => hb.more h⟩
  rw [← hQ0]
  clear hQ0 h h10 hlen hL hkd hkd2 hs hp HI hle hno
  generalize (pieces 32 line).2 = P at *
  generalize (pieces 32 line).1 = wd at *
  generalize (shapeI kd).1 = sw at *
  generalize (shapeI kd).2 = ar at *
  have n1 : (ps.length : Int) < 4096 := by omega
  have n2 : ((ps.length : Int) == 4096) = false := by simp; omega
  have n3 : ps.length < 4096 := hps
  have a1 : (0 : Int) ≤ (ar : Int) := by omega
  have a2 : (ar : Int) ≤ 2 := by omega
  generalize l.getD 0 0 = lx at *
  generalize l.getD 1 0 = ly at *
  go_enter Tryd.func20, Tryd.ntmps20
  go_wp2_with (first
    | (go_at_call 29; refine HBG.out.mono ?_; rintro e w1 ⟨rfl, H1⟩)
    | (go_at_call 32; refine (HKD.out w1 H1.out).mono ?_; rintro e w2 ⟨rfl, h2⟩; have H2 : Bx _ := ⟨h2⟩; clear h2)
    | (go_at_call 33; refine (HSH.out _ (HMO.out _ _ H2.out).1).mono ?_; rintro e w3 ⟨rfl, h3⟩; have H3 : Bx _ := ⟨h3⟩; clear h3; have x8 := (HMO.out _ (.cells #[strV sw, .int .i64 (ar : Nat)] 94) (HMB.out _ _ (HMO.out _ _ H2.out).1 H3.out)).2)
    | (go_at_call 31; refine (HNU.out w2 w3 _ H2.out H3.out).mono ?_; rintro e w7 ⟨rfl, H7⟩; obtain ⟨y1, y2, y3, y4, y5, y6⟩ := HCL.out w2 w7 H7.out))
  go_region_law (refine step_append_lies _ rfl (.tmp 57) (.tmp 59) 29 rfl B 39 j0 zeroPk 3 24 Tryd.underlying29 ji jz0 jz1 jz2 rfl (by decide) (.slice pa ps.length pc) ps.length (pkC ps) (by simp [Act.eval, Act.put]) (HO.out w2 w7 H7.out _ ((below1 _ _).drew)).1 ⟨w7.heap.size, 0, none⟩ 1 1 [.int .i64 (kd : Nat), .int .i64 (lx), .int .i64 (ly)] (by simp [Act.eval, Act.put]) rfl (pk_news _ _ rfl _ _ _) (pk_one _ _ _) (by omega) (by unfold maxLen; omega) (by omega) (by have := (HO.out w2 w7 H7.out _ (Below.refl _ _)).2; simp; omega) (w7.heap.size + 1) (by simp) ?_; intro g cp w9 hown hgrow hat hlt9; obtain ⟨hr9, hs9, hb9⟩ := HG.out w2 w7 w9 H7.out hgrow; obtain ⟨z1, z2⟩ := hs9.cell; have HW : Bx _ := ⟨HF.out w9 g cp hr9 hs9 hb9 hown⟩; clear hr9 hs9 hb9 hown hgrow hat hlt9)
  all_goals
    go_wp2
    go_ret
    exact ⟨_, rfl, HW⟩
end Go.Proofs.YtecpknpcjoiliabDoor
