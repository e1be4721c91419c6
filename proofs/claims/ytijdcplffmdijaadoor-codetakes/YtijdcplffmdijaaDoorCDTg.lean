import Derived.Test.YtijdcplffmdijaaDoorCDTf
import Derived.Deep.RegionHeld3
namespace Go.Proofs.YtijdcplffmdijaaDoor
open Go.RowKit
set_option linter.unusedVariables false
set_option linter.unusedSimpArgs false

set_option maxRecDepth 100000 in
set_option maxHeartbeats 2000000 in
theorem takes_walk (w : World) (i : CIn) (a : Option Addr) (cap : Nat) (hw : i.Wf) (hi : IntsV w w.heap.size a cap i.list) (hl : i.list.length ≤ 17592186043904) (hL : LW w) : Calls Tryd.prog 4 #[insV i a cap] w fun e w' => e = .returned (.bool true) ∧ Below w.heap.size w w' := by
  obtain ⟨H, hH⟩ : ∃ H, w.heap.size = H := ⟨_, rfl⟩
  rw [hH]
  obtain ⟨op, x, y, l⟩ := i
  obtain ⟨n, hn⟩ : ∃ n, l.length = n := ⟨_, rfl⟩
  simp only [] at hi hl
  rw [hH] at hi
  unfold insV
  simp only [hn] at hl ⊢
  have b0 : Below H w (w.alloc (.cells #[.int .i64 op, .int .i64 x, .int .i64 y, .slice a n cap] 28)) := hH ▸ below1 w _
  obtain ⟨w0, hw0⟩ : ∃ w0, w.alloc (.cells #[.int .i64 op, .int .i64 x, .int .i64 y, .slice a n cap] 28) = w0 := ⟨_, rfl⟩
  rw [hw0] at b0
  have s0 : w0.heap.size = H + 1 := by rw [← hw0]; simp [hH]
  have q0 : w0.heap[H]? = some (.cells #[.int .i64 op, .int .i64 x, .int .i64 y, .slice a n cap] 28 (0, 0)) := by rw [← hw0, ← hH]; exact heap_alloc_new w _
  have HC : Bx (∀ X, Below (H + 1) w0 X → X.cell? ⟨H, 0, none⟩ = some (.int .i64 op) ∧ X.cell? ⟨H, 1, none⟩ = some (.int .i64 x) ∧ X.cell? ⟨H, 2, none⟩ = some (.int .i64 y) ∧ X.cell? ⟨H, 3, none⟩ = some (.slice a n cap) ∧ H < X.heap.size) := ⟨fun X hX => by
    have hb : X.heap[H]? = _ := (hX.block H (by omega)).trans q0
    have := hX.size
    exact ⟨(cell_of_row X _ 0 _ _ _ hb).trans rfl, (cell_of_row X _ 1 _ _ _ hb).trans rfl, (cell_of_row X _ 2 _ _ _ hb).trans rfl, (cell_of_row X _ 3 _ _ _ hb).trans rfl, by omega⟩⟩
  have HS : Calls Tryd.prog 9 #[] w0 fun e w' => e = .returned (.bool true) ∧ Bx (Below (H + 1) w0 w') ∧ w'.cell? ⟨H, 0, none⟩ = some (.int .i64 op) ∧ w'.cell? ⟨H, 1, none⟩ = some (.int .i64 x) ∧ w'.cell? ⟨H, 2, none⟩ = some (.int .i64 y) ∧ w'.cell? ⟨H, 3, none⟩ = some (.slice a n cap) ∧ H < w'.heap.size := (shown_any w0 (hL.below (hH ▸ b0))).mono fun e w' h => by
    rw [s0] at h
    exact ⟨h.1, ⟨h.2⟩, HC.out _ h.2⟩
  have PP : Bx (∀ X (a : Option Addr) (c : Nat), Shp X → IntsV X X.heap.size a c l → Calls Tryd.prog 15 #[.agg #[.int .i64 op, .int .i64 x, .int .i64 y, .slice a n c]] X fun e w' => e = .returned (.int .i64 (popsI ⟨op, x, y, l⟩)) ∧ Below X.heap.size X w') := ⟨fun X a c h1 h2 => by
    have := Pops_any X _ ⟨op, x, y, l⟩ a c h1 hw h2 (by simp only []; omega) (Nat.le_refl _)
    unfold insV at this
    simp only [hn] at this
    exact this⟩
  have RP : Bx (∀ X (a : Option Addr) (c : Nat), IntsV X X.heap.size a c l → Calls Tryd.prog 17 #[.agg #[.int .i64 op, .int .i64 x, .int .i64 y, .slice a n c]] X fun e w' => e = .returned (.int .i64 (popsI ⟨op, x, y, l⟩)) ∧ Below X.heap.size X w') := ⟨fun X a c h2 => by
    have := rPops_any X _ ⟨op, x, y, l⟩ a c hw h2 (by simp only []; omega) (Nat.le_refl _)
    unfold insV at this
    simp only [hn] at this
    exact this⟩
  have PU : Bx (∀ X (a : Option Addr) (c : Nat), Shp X → Calls Tryd.prog 16 #[.agg #[.int .i64 op, .int .i64 x, .int .i64 y, .slice a n c]] X fun e w' => e = .returned (.int .i64 (pushesI ⟨op, x, y, l⟩)) ∧ Below X.heap.size X w') := ⟨fun X a c h1 => by
    have := Pushes_any X ⟨op, x, y, l⟩ a c h1 hw
    unfold insV at this
    simp only [hn] at this
    exact this⟩
  have RU : Bx (∀ X (a : Option Addr) (c : Nat), Calls Tryd.prog 18 #[.agg #[.int .i64 op, .int .i64 x, .int .i64 y, .slice a n c]] X fun e w' => e = .returned (.int .i64 (pushesI ⟨op, x, y, l⟩)) ∧ Below X.heap.size X w') := ⟨fun X a c => by
    have := rPushes_any X ⟨op, x, y, l⟩ a c hw
    unfold insV at this
    simp only [hn] at this
    exact this⟩
  have SI : Bx (∀ X (a b : Option Addr) (c d : Nat), IntsV X X.heap.size a c l → IntsV X X.heap.size b d l → Calls Tryd.prog 19 #[.slice a n c, .slice b n d] X fun e w' => e = .returned (.bool true) ∧ Below X.heap.size X w') := ⟨fun X a b c d h1 h2 => by
    have := sameInts_any X _ a b c d l l h1 h2
    rw [hn] at this
    refine this.mono ?_
    rintro e w' ⟨rfl, k, rfl⟩
    exact ⟨by simp, ⟨rfl, rfl, rfl, Nat.le_refl _, fun _ _ => rfl⟩⟩⟩
  have HL : Bx (∀ w1, Below (H + 1) w0 w1 → Calls Tryd.prog 14 #[.slice a n cap] w1 fun e w' => ∃ g c, e = .returned (.slice (some ⟨g, 0, none⟩) ((n + 2 : Nat)) c) ∧ n + 2 ≤ c ∧ w'.cell? ⟨H, 0, none⟩ = some (.int .i64 op) ∧ w'.cell? ⟨H, 1, none⟩ = some (.int .i64 x) ∧ w'.cell? ⟨H, 2, none⟩ = some (.int .i64 y) ∧ w'.cell? ⟨H, 3, none⟩ = some (.slice a n cap) ∧ H < w'.heap.size ∧
      Bx (∀ X, Below (w'.heap.size + 1) (w'.alloc (.cells #[.int .i64 op, .int .i64 x, .int .i64 y, .slice (some ⟨g, 0, none⟩) n c] 28)) X → (Shp X ∧ IntsV X X.heap.size (some ⟨g, 0, none⟩) c l ∧ IntsV X X.heap.size a cap l ∧ Below H w X ∧ w'.heap.size + 1 ≤ X.heap.size) ∧ X.cell? ⟨H, 0, none⟩ = some (.int .i64 op) ∧ X.cell? ⟨H, 1, none⟩ = some (.int .i64 x) ∧ X.cell? ⟨H, 2, none⟩ = some (.int .i64 y) ∧ X.cell? ⟨H, 3, none⟩ = some (.slice a n cap) ∧ X.cell? ⟨w'.heap.size, 0, none⟩ = some (.int .i64 op) ∧ X.cell? ⟨w'.heap.size, 1, none⟩ = some (.int .i64 x) ∧ X.cell? ⟨w'.heap.size, 2, none⟩ = some (.int .i64 y) ∧ X.cell? ⟨w'.heap.size, 3, none⟩ = some (.slice (some ⟨g, 0, none⟩) n c) ∧ X.cell? ⟨g, n, none⟩ = some (.int .i64 (-77)) ∧ X.cell? ⟨g, n + 1, none⟩ = some (.int .i64 (-78)))) := ⟨fun w1 h1 => by
    have := lentInts_any w1 H a cap l (hi.below (b0.trans (h1.mono (by omega)))) (by have := h1.size; omega) (by omega)
    rw [hn] at this
    refine this.mono ?_
    rintro e w2 ⟨g, c, rfl, hl2⟩
    have hb2 : Below (H + 1) w0 w2 := h1.trans (hl2.out.bel.mono (by have := h1.size; omega))
    obtain ⟨d0, d1, d2, d3, d4⟩ := HC.out _ hb2
    have cp := hl2.out.cap
    refine ⟨g, c, rfl, by omega, d0, d1, d2, d3, d4, ⟨fun X hX => ?_⟩⟩
    have k0 : (w2.alloc (.cells #[.int .i64 op, .int .i64 x, .int .i64 y, .slice (some ⟨g, 0, none⟩) n c] 28)).heap[w2.heap.size]? = some (.cells #[.int .i64 op, .int .i64 x, .int .i64 y, .slice (some ⟨g, 0, none⟩) n c] 28 (0, 0)) := heap_alloc_new w2 _
    have hb : X.heap[w2.heap.size]? = _ := (hX.block _ (by omega)).trans k0
    have s3 : w2.heap.size + 1 ≤ X.heap.size := by have := hX.size; simpa using this
    have b3 : Below w2.heap.size w2 X := (below1 w2 _).trans (hX.mono (by omega))
    have hb3 : Below (H + 1) w0 X := hb2.trans (b3.mono (by omega))
    have hl3 : LentI w1 X l g c := hl2.out.below b3
    have hbw : Below H w X := b0.trans (hb3.mono (by omega))
    obtain ⟨e0, e1, e2, e3, e4⟩ := HC.out _ hb3
    refine ⟨⟨(hL.below (hH ▸ hbw)).shp, hl3.ints (by omega), (hi.below hbw).up (by omega), hbw, s3⟩, e0, e1, e2, e3, (cell_of_row X _ 0 _ _ _ hb).trans rfl, (cell_of_row X _ 1 _ _ _ hb).trans rfl, (cell_of_row X _ 2 _ _ _ hb).trans rfl, (cell_of_row X _ 3 _ _ _ hb).trans rfl, hn ▸ hl3.m1, hn ▸ hl3.m2⟩⟩
  generalize popsI ⟨op, x, y, l⟩ = po at *
  generalize pushesI ⟨op, x, y, l⟩ = pu at *
  clear hi hL hw q0 HC hn
  go_enter Tryd.func4, Tryd.ntmps4
  go_wp2_with (first
    | (go_at_call 9; refine HS.mono ?_; rintro e w1 ⟨rfl, HB1, d0, d1, d2, d3, hlt1⟩)
    | (go_at_call 14; refine (HL.out _ HB1.out).mono ?_; clear d0 d1 d2 d3; rintro e w2 ⟨g, c, rfl, hcp, d0, d1, d2, d3, hlt2, HK⟩)
    | (go_at_call 15; have HX : Bx _ := ⟨HK.out _ (Below.refl _ _)⟩; refine (PP.out _ _ _ HX.out.1.1 HX.out.1.2.1).mono ?_; rintro e w3 ⟨rfl, hb3⟩; have HB3 : Bx (Below (w2.heap.size + 1) (w2.alloc (.cells #[.int .i64 op, .int .i64 x, .int .i64 y, .slice (some ⟨g, 0, none⟩) n c] 28)) w3) := ⟨by simpa using hb3⟩; clear hb3 HX d0 d1 d2 d3; obtain ⟨t3, d0, d1, d2, d3, k0, k1, k2, k3, m1, m2⟩ := HK.out _ HB3.out; have T3 : Bx _ := ⟨t3⟩; clear t3)
    | (go_at_call 16; refine (PU.out _ _ _ T3.out.1).mono ?_; rintro e w4 ⟨rfl, hb4⟩; have HB4 : Bx (Below (w2.heap.size + 1) (w2.alloc (.cells #[.int .i64 op, .int .i64 x, .int .i64 y, .slice (some ⟨g, 0, none⟩) n c] 28)) w4) := ⟨HB3.out.trans (hb4.mono T3.out.2.2.2.2)⟩; clear hb4 d0 d1 d2 d3 k0 k1 k2 k3 m1 m2 T3; obtain ⟨t3, d0, d1, d2, d3, _, _, _, _, m1, m2⟩ := HK.out _ HB4.out; have T4 : Bx _ := ⟨t3⟩; clear t3))
  have HF : Bx (∀ X, Below w4.heap.size w4 X → (X.cell? ⟨H, 0, none⟩ = some (.int .i64 op) ∧ X.cell? ⟨H, 1, none⟩ = some (.int .i64 x) ∧ X.cell? ⟨H, 2, none⟩ = some (.int .i64 y) ∧ X.cell? ⟨H, 3, none⟩ = some (.slice a n cap) ∧ X.cell? ⟨g, n, none⟩ = some (.int .i64 (-77)) ∧ X.cell? ⟨g, n + 1, none⟩ = some (.int .i64 (-78)))) := ⟨fun X hX => by
    obtain ⟨_, q0, q1, q2, q3, _, _, _, _, q4, q5⟩ := HK.out X (HB4.out.trans (hX.mono T4.out.2.2.2.2))
    exact ⟨q0, q1, q2, q3, q4, q5⟩⟩
  have H1 : Bx (∀ X, Below w4.heap.size w4 X → Calls Tryd.prog 17 #[.agg #[.int .i64 op, .int .i64 x, .int .i64 y, .slice a n cap]] X fun e w' => e = .returned (.int .i64 po) ∧ Below X.heap.size X w') := ⟨fun X hX => RP.out X a cap (HK.out X (HB4.out.trans (hX.mono T4.out.2.2.2.2))).1.2.2.1⟩
  have H2 : Bx (∀ X, Below w4.heap.size w4 X → Calls Tryd.prog 18 #[.agg #[.int .i64 op, .int .i64 x, .int .i64 y, .slice a n cap]] X fun e w' => e = .returned (.int .i64 pu) ∧ Below X.heap.size X w') := ⟨fun X hX => RU.out X a cap⟩
  have H3 : Bx (∀ X, Below w4.heap.size w4 X → Calls Tryd.prog 19 #[.slice (some ⟨g, 0, none⟩) n c, .slice a n cap] X fun e w' => e = .returned (.bool true) ∧ Below X.heap.size X w') := ⟨fun X hX => SI.out X _ a c cap (HK.out X (HB4.out.trans (hX.mono T4.out.2.2.2.2))).1.2.1 (HK.out X (HB4.out.trans (hX.mono T4.out.2.2.2.2))).1.2.2.1⟩
  have HE : Bx (∀ X, Below w4.heap.size w4 X → Below H w X) := ⟨fun X hX => (HK.out X (HB4.out.trans (hX.mono T4.out.2.2.2.2))).1.2.2.2.1⟩
  have hbr : Below w4.heap.size w4 w4 := Below.refl _ _
  clear d0 d1 d2 d3 m1 m2 HK PP RP PU RU SI HS HL HB3 HB4 T4
  have f1 : (0 : Int) ≤ ↑n := by omega
  have f2 : (↑n : Int) ≤ ↑c := by omega
  have f3 : (↑n : Int) < ↑n + 2 := by omega
  have f4 : (0 : Int) ≤ ↑n + 1 := by omega
  have f5 : (↑n : Int) + 1 < ↑n + 2 := by omega
  have f6 : IntKind.i64.wrap ((↑n : Int) + 1) = ↑n + 1 := by
    have e : IntKind.i64.bits = 64 := rfl
    unfold IntKind.wrap
    simp [e, IntKind.signed]
    omega
  have f7 : ((↑n : Int) + 1).toNat = n + 1 := by omega
  go_region_held3 (fun w' => w'.cell? ⟨H, 0, none⟩ = some (.int .i64 op) ∧ w'.cell? ⟨H, 1, none⟩ = some (.int .i64 x) ∧ w'.cell? ⟨H, 2, none⟩ = some (.int .i64 y) ∧ w'.cell? ⟨H, 3, none⟩ = some (.slice a n cap) ∧ w'.cell? ⟨g, n, none⟩ = some (.int .i64 (-77)) ∧ w'.cell? ⟨g, n + 1, none⟩ = some (.int .i64 (-78)))
    (first | exact HF.out _ hz3 | exact HF.out _ hz2 | exact HF.out _ hz1 | exact HF.out _ hbr.drew)
    (first
      | (go_at_call 17; refine Calls.mono (H1.out _ hbr.drew) ?_; rintro e z1 ⟨rfl, hz1'⟩; have hz1 : Below w4.heap.size w4 z1 := (hbr.drew).trans (hz1'.mono (hbr.drew).size))
      | (go_at_call 18; refine Calls.mono (H2.out _ hz1) ?_; rintro e z2 ⟨rfl, hz2'⟩; have hz2 : Below w4.heap.size w4 z2 := (hz1).trans (hz2'.mono (hz1).size))
      | (go_at_call 19; refine Calls.mono (H3.out _ hz2) ?_; rintro e z3 ⟨rfl, hz3'⟩; have hz3 : Below w4.heap.size w4 z3 := (hz2).trans (hz3'.mono (hz2).size)))
  go_wp2
  go_ret
  exact ⟨rfl, HE.out _ hz3⟩
end Go.Proofs.YtijdcplffmdijaaDoor
