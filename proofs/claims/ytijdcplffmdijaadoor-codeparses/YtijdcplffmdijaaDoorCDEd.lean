import Derived.Test.YtijdcplffmdijaaDoorCDEc
namespace Go.Proofs.YtijdcplffmdijaaDoor
open Go.RowKit
set_option linter.unusedVariables false
set_option linter.unusedSimpArgs false

set_option maxRecDepth 100000 in
set_option maxHeartbeats 4000000 in
theorem sameTypes_yes (w : World) (l : List CTy) {n : Nat} (hn : l.length = n) (a1 a2 : Option Addr) (c1 c2 : Nat) (h1 : Row (TyAt w w.heap.size) w.heap.size 3 a1 c1 l) (h2 : Row (TyAt w w.heap.size) w.heap.size 3 a2 c2 l) :
    Calls Tryd.prog 46 #[.slice a1 n c1, .slice a2 n c2] w fun e w' => e = .returned (.bool true) ∧ Below w.heap.size w w' := by
  have hm := h1.max
  have hca1 := h1.cap
  have hca2 := h2.cap
  rw [hn] at hm hca1 hca2
  unfold maxLen at hm
  have HR : Bx (∀ i, i < n → ∃ b1 o1 b2 o2 kd k rs z1 z2 e1 e2, a1 = some ⟨b1, o1, none⟩ ∧ a2 = some ⟨b2, o2, none⟩ ∧ w.cell? ⟨b1, o1 + i * 3, none⟩ = some (.int .i64 kd) ∧ w.cell? ⟨b1, o1 + i * 3 + 1, none⟩ = some (.slice z1 k e1) ∧ w.cell? ⟨b1, o1 + i * 3 + 2, none⟩ = some (.bool rs) ∧ w.cell? ⟨b2, o2 + i * 3, none⟩ = some (.int .i64 kd) ∧ w.cell? ⟨b2, o2 + i * 3 + 1, none⟩ = some (.slice z2 k e2) ∧ w.cell? ⟨b2, o2 + i * 3 + 2, none⟩ = some (.bool rs) ∧ Bx (∀ q, Calls Tryd.prog 19 #[.slice z1 k e1, .slice z2 k e2] (w.drewN q) fun e w' => e = .returned (.bool true) ∧ ∃ m, w' = (w.drewN q).drewN m)) := ⟨fun i h => by
    have hi : i < l.length := by omega
    obtain ⟨b1, o1, e1, hb1, hj1⟩ := h1.at_ (by omega)
    obtain ⟨b2, o2, e2, hb2, hj2⟩ := h2.at_ (by omega)
    obtain ⟨ka1, kc1, p0, p1, p2, p3⟩ := (hj1 i hi).ex
    obtain ⟨ka2, kc2, q0, q1, q2, q3⟩ := (hj2 i hi).ex
    refine ⟨b1, o1, b2, o2, l[i].kind, l[i].kids.length, l[i].res, ka1, ka2, kc1, kc2, e1, e2, p0, p1, p2, q0, q1, q2, ⟨fun q => ?_⟩⟩
    have hd : Below w.heap.size w (w.drewN q) := ⟨rfl, rfl, rfl, Nat.le_refl _, fun _ _ => rfl⟩
    have := sameInts_any (w.drewN q) w.heap.size ka1 ka2 kc1 kc2 l[i].kids l[i].kids (p3.below hd) (q3.below hd)
    simpa using this⟩
  have HE : Bx (∀ k, Below w.heap.size w (w.drewN k)) := ⟨fun k => ⟨rfl, rfl, rfl, Nat.le_refl _, fun _ _ => rfl⟩⟩
  clear h1 h2 hn
  go_enter Tryd.func46, Tryd.ntmps46
  go_wp2
  go_loopw [5] (fun x wr => ∃ i k : Nat, i ≤ n ∧ x = .int .i64 i ∧ wr = w.drewN k) (fun x _ => n - (intOf x).toNat)
  case atStart => exact ⟨0, 0, Nat.zero_le _, rfl, rfl⟩
  case round =>
    obtain ⟨i, kk, hi, rfl, rfl⟩ := hrel
    by_cases hlt : i < n
    · obtain ⟨b1, o1, b2, o2, kd, k, rs, z1, z2, e1, e2, rfl, rfl, p0, p1, p2, q0, q1, q2, HS⟩ := HR.out i hlt
      have HS2 : Bx (∀ q, Calls Tryd.prog 19 #[.slice z1 k e1, .slice z2 k e2] ((w.drewN kk).drewN q) fun e w' => e = .returned (.bool true) ∧ ∃ m, w' = ((w.drewN kk).drewN q).drewN m) := ⟨fun q => by
        have := HS.out (kk + q)
        rw [← World.drewN_drewN] at this
        exact this⟩
      have hwx : ∃ X, X = w.drewN kk := ⟨_, rfl⟩
      obtain ⟨X, hX⟩ := hwx
      have r0 : X.cell? ⟨b1, o1 + i * 3, none⟩ = some (.int .i64 kd) := by rw [hX]; exact p0
      have r1 : X.cell? ⟨b1, o1 + i * 3 + 1, none⟩ = some (.slice z1 k e1) := by rw [hX]; exact p1
      have r2 : X.cell? ⟨b1, o1 + i * 3 + 2, none⟩ = some (.bool rs) := by rw [hX]; exact p2
      have s0 : X.cell? ⟨b2, o2 + i * 3, none⟩ = some (.int .i64 kd) := by rw [hX]; exact q0
      have s1 : X.cell? ⟨b2, o2 + i * 3 + 1, none⟩ = some (.slice z2 k e2) := by rw [hX]; exact q1
      have s2 : X.cell? ⟨b2, o2 + i * 3 + 2, none⟩ = some (.bool rs) := by rw [hX]; exact q2
      have HX : Bx (∀ q, ∃ m, X.drewN q = w.drewN m) := ⟨fun q => ⟨kk + q, by rw [hX, World.drewN_drewN]⟩⟩
      rw [← hX] at HS2 ⊢
      clear HR HS hX p0 p1 p2 q0 q1 q2
      go_wp2
      go_quiet (first | (go_at_call 19; exact Calls.quiet_of (HS2.out _)))
      go_wp2
      obtain ⟨mm, hmm⟩ := HX.out nq
      rw [hmm]
      go_roundw
      case rel => exact ⟨i + 1, mm, by omega, by go_num, rfl⟩
      case measure => simp [intOf]; omega
    · go_wp2
      go_ret
      exact ⟨rfl, HE.out _⟩
end Go.Proofs.YtijdcplffmdijaaDoor
namespace Go.Proofs.YtijdcplffmdijaaDoor
open Go.RowKit
set_option linter.unusedVariables false
set_option linter.unusedSimpArgs false

set_option maxRecDepth 100000 in
set_option maxHeartbeats 8000000 in
theorem sameProgs_yes (w : World) (l : List CPg) {n : Nat} (hn : l.length = n) (a1 a2 : Option Addr) (c1 c2 : Nat) (h1 : Row (PgAt w w.heap.size) w.heap.size 5 a1 c1 l) (h2 : Row (PgAt w w.heap.size) w.heap.size 5 a2 c2 l) :
    Calls Tryd.prog 47 #[.slice a1 n c1, .slice a2 n c2] w fun e w' => e = .returned (.bool true) ∧ Below w.heap.size w w' := by
  have hm := h1.max
  have hca1 := h1.cap
  have hca2 := h2.cap
  rw [hn] at hm hca1 hca2
  unfold maxLen at hm
  have HR : Bx (∀ i, i < n → ∃ b1 o1 b2 o2 pr sl cp rs k z1 z2 e1 e2, a1 = some ⟨b1, o1, none⟩ ∧ a2 = some ⟨b2, o2, none⟩ ∧ Bx (∀ Y, Below w.heap.size w Y → (Y.cell? ⟨b1, o1 + i * 5, none⟩ = some (.int .i64 pr) ∧ Y.cell? ⟨b1, o1 + i * 5 + 1, none⟩ = some (.int .i64 sl) ∧ Y.cell? ⟨b1, o1 + i * 5 + 2, none⟩ = some (.int .i64 cp) ∧ Y.cell? ⟨b1, o1 + i * 5 + 3, none⟩ = some (.bool rs) ∧ Y.cell? ⟨b1, o1 + i * 5 + 4, none⟩ = some (.slice z1 k e1) ∧ Y.cell? ⟨b2, o2 + i * 5, none⟩ = some (.int .i64 pr) ∧ Y.cell? ⟨b2, o2 + i * 5 + 1, none⟩ = some (.int .i64 sl) ∧ Y.cell? ⟨b2, o2 + i * 5 + 2, none⟩ = some (.int .i64 cp) ∧ Y.cell? ⟨b2, o2 + i * 5 + 3, none⟩ = some (.bool rs) ∧ Y.cell? ⟨b2, o2 + i * 5 + 4, none⟩ = some (.slice z2 k e2)) ∧ Calls Tryd.prog 48 #[.slice z1 k e1, .slice z2 k e2] Y fun e w' => e = .returned (.bool true) ∧ Below w.heap.size w w')) := ⟨fun i h => by
    have hi : i < l.length := by omega
    obtain ⟨b1, o1, e1, hb1, hj1⟩ := h1.at_ (by omega)
    obtain ⟨b2, o2, e2, hb2, hj2⟩ := h2.at_ (by omega)
    obtain ⟨ka1, kc1, p0, p1, p2, p3, p4, p5⟩ := (hj1 i hi).ex
    obtain ⟨ka2, kc2, q0, q1, q2, q3, q4, q5⟩ := (hj2 i hi).ex
    refine ⟨b1, o1, b2, o2, l[i].params, l[i].slots, l[i].caps, l[i].res, l[i].code.length, ka1, ka2, kc1, kc2, e1, e2, ⟨fun Y hY => ⟨?_, ?_⟩⟩⟩
    · have y1 : ∀ k, Y.cell? ⟨b1, k, none⟩ = w.cell? ⟨b1, k, none⟩ := fun k => hY.cell (p := ⟨b1, k, none⟩) hb1
      have y2 : ∀ k, Y.cell? ⟨b2, k, none⟩ = w.cell? ⟨b2, k, none⟩ := fun k => hY.cell (p := ⟨b2, k, none⟩) hb2
      exact ⟨(y1 _).trans p0, (y1 _).trans p1, (y1 _).trans p2, (y1 _).trans p3, (y1 _).trans p4, (y2 _).trans q0, (y2 _).trans q1, (y2 _).trans q2, (y2 _).trans q3, (y2 _).trans q4⟩
    · exact (sameCode_yes Y l[i].code rfl ka1 ka2 kc1 kc2 ((p5.mono fun b o x hx he => he.below hY hY.size hx).up hY.size) ((q5.mono fun b o x hx he => he.below hY hY.size hx).up hY.size)).mono fun e w' hh => ⟨hh.1, hY.trans (hh.2.mono hY.size)⟩⟩
  clear h1 h2 hn
  go_enter Tryd.func47, Tryd.ntmps47
  go_wp2
  go_loopw [5] (fun x wr => ∃ i : Nat, i ≤ n ∧ x = .int .i64 i ∧ Bx (Below w.heap.size w wr)) (fun x _ => n - (intOf x).toNat)
  case atStart => exact ⟨0, Nat.zero_le _, rfl, ⟨Below.refl _ _⟩⟩
  case round =>
    obtain ⟨i, hi, rfl, HI⟩ := hrel
    by_cases hlt : i < n
    · obtain ⟨b1, o1, b2, o2, pr, sl, cp, rs, k, z1, z2, e1, e2, rfl, rfl, HY⟩ := HR.out i hlt
      have HF : Bx (∀ Y, Below w.heap.size w Y → _) := ⟨fun Y hY => (HY.out Y hY).1⟩
      have HC : Bx (∀ Y, Below w.heap.size w Y → _) := ⟨fun Y hY => (HY.out Y hY).2⟩
      have hbr := HI.out
      have g1 : (0 : Int) ≤ ↑i := by omega
      have g2 : (↑i : Int) < ↑n := by omega
      clear HY HR
      go_wp2
      go_region_held3 (fun Y => Y.cell? ⟨b1, o1 + i * 5, none⟩ = some (.int .i64 pr) ∧ Y.cell? ⟨b1, o1 + i * 5 + 1, none⟩ = some (.int .i64 sl) ∧ Y.cell? ⟨b1, o1 + i * 5 + 2, none⟩ = some (.int .i64 cp) ∧ Y.cell? ⟨b1, o1 + i * 5 + 3, none⟩ = some (.bool rs) ∧ Y.cell? ⟨b1, o1 + i * 5 + 4, none⟩ = some (.slice z1 k e1) ∧ Y.cell? ⟨b2, o2 + i * 5, none⟩ = some (.int .i64 pr) ∧ Y.cell? ⟨b2, o2 + i * 5 + 1, none⟩ = some (.int .i64 sl) ∧ Y.cell? ⟨b2, o2 + i * 5 + 2, none⟩ = some (.int .i64 cp) ∧ Y.cell? ⟨b2, o2 + i * 5 + 3, none⟩ = some (.bool rs) ∧ Y.cell? ⟨b2, o2 + i * 5 + 4, none⟩ = some (.slice z2 k e2))
        (first | exact HF.out _ hz1 | exact HF.out _ hbr.drew)
        (first | (go_at_call 48; refine Calls.mono (HC.out _ hbr.drew) ?_; rintro e z9 ⟨rfl, hz1⟩))
      go_wp2
      go_roundw
      case rel => exact ⟨i + 1, by omega, by go_num, ⟨hz1⟩⟩
      case measure => simp [intOf]; omega
    · go_wp2
      go_ret
      exact ⟨rfl, HI.out⟩
set_option maxRecDepth 100000 in
set_option maxHeartbeats 2000000 in
theorem sameUnit_yes (w : World) (u : CUn) (pa1 ta1 pa2 ta2 : Option Addr) (pc1 tc1 pc2 tc2 : Nat) (h1 : UnIn w w.heap.size pa1 pc1 ta1 tc1 u) (h2 : UnIn w w.heap.size pa2 pc2 ta2 tc2 u) :
    Calls Tryd.prog 28 #[unV u pa1 pc1 ta1 tc1, unV u pa2 pc2 ta2 tc2] w fun e w' => e = .returned (.bool true) ∧ Below w.heap.size w w' := by
  obtain ⟨H, hH⟩ : ∃ H, w.heap.size = H := ⟨_, rfl⟩
  obtain ⟨np, hnp⟩ : ∃ n, u.progs.length = n := ⟨_, rfl⟩
  obtain ⟨nt, hnt⟩ : ∃ n, u.types.length = n := ⟨_, rfl⟩
  unfold unV
  rw [hnp, hnt]
  obtain ⟨X, hX⟩ : ∃ X, (w.alloc (.cells #[.slice pa1 np pc1, .slice ta1 nt tc1] 36)).alloc (.cells #[.slice pa2 np pc2, .slice ta2 nt tc2] 36) = X := ⟨_, rfl⟩
  have bX : Below H w X := by rw [← hX, ← hH]; exact (below1 w _).alloc (by simp) _
  have sX : X.heap.size = H + 2 := by rw [← hX]; simp [hH]
  have q1 : X.heap[H]? = some (.cells #[.slice pa1 np pc1, .slice ta1 nt tc1] 36 (0, 0)) := by
    rw [← hX, (below1 (w.alloc (.cells #[.slice pa1 np pc1, .slice ta1 nt tc1] 36)) _).block H (by simp [hH]), ← hH]
    exact heap_alloc_new w _
  have q2 : X.heap[H + 1]? = some (.cells #[.slice pa2 np pc2, .slice ta2 nt tc2] 36 (0, 0)) := by
    rw [← hX]
    have := heap_alloc_new (w.alloc (.cells #[.slice pa1 np pc1, .slice ta1 nt tc1] 36)) (.cells #[.slice pa2 np pc2, .slice ta2 nt tc2] 36)
    simpa [hH] using this
  have HP : Calls Tryd.prog 47 #[.slice pa1 np pc1, .slice pa2 np pc2] X fun e w' => e = .returned (.bool true) ∧ w'.cell? ⟨H, 1, none⟩ = some (.slice ta1 nt tc1) ∧ w'.cell? ⟨H + 1, 1, none⟩ = some (.slice ta2 nt tc2) ∧ Bx (Below H w w') := by
    have g1 := h1.below (hH ▸ bX) bX.size
    have g2 := h2.below (hH ▸ bX) bX.size
    refine (sameProgs_yes X u.progs hnp pa1 pa2 pc1 pc2 g1.progs g2.progs).mono ?_
    rintro e w' ⟨rfl, hb⟩
    rw [sX] at hb
    exact ⟨rfl, (cell_of_row w' _ 1 _ _ _ ((hb.block H (by omega)).trans q1)).trans rfl, (cell_of_row w' _ 1 _ _ _ ((hb.block (H + 1) (by omega)).trans q2)).trans rfl, ⟨bX.trans (hb.mono (by omega))⟩⟩
  have HT : Bx (∀ Y, Below H w Y → Calls Tryd.prog 46 #[.slice ta1 nt tc1, .slice ta2 nt tc2] Y fun e w' => e = .returned (.bool true) ∧ Bx (Below H w w')) := ⟨fun Y hY => by
    have hs := hY.size
    have g1 := h1.below (hH ▸ hY) hY.size
    have g2 := h2.below (hH ▸ hY) hY.size
    exact (sameTypes_yes Y u.types hnt ta1 ta2 tc1 tc2 g1.types g2.types).mono fun e w' h => ⟨h.1, ⟨hY.trans (h.2.mono (by omega))⟩⟩⟩
  have c1 : X.cell? ⟨H, 0, none⟩ = some (.slice pa1 np pc1) := (cell_of_row X _ 0 _ _ _ q1).trans rfl
  have c2 : X.cell? ⟨H + 1, 0, none⟩ = some (.slice pa2 np pc2) := (cell_of_row X _ 0 _ _ _ q2).trans rfl
  rw [hH]
  clear h1 h2 q1 q2 hnp hnt
  go_enter Tryd.func28, Tryd.ntmps28
  go_wp2_with (first
    | (go_at_call 47; refine HP.mono ?_; clear HP c1 c2; rintro e w1 ⟨rfl, d1, d2, HB1⟩)
    | (go_at_call 46; refine (HT.out _ HB1.out).mono ?_; rintro e w2 ⟨rfl, HB2⟩))
  go_ret
  exact ⟨rfl, HB2.out⟩
end Go.Proofs.YtijdcplffmdijaaDoor
