import Derived.Test.YtjabdhmkibahlaaCRfE
import Derived.Test.YtjabdhmkibahlaaCED
namespace Go.Proofs.Ytjabdhmkibahlaa
open Go.RowKit
set_option linter.unusedVariables false
set_option linter.unusedSimpArgs false

/-! ### the reference's link of level 1 -/
def fsI (s : List Ag) (me : Nat) (id : Int) (lv : List Int) (x : Hd) : Option Lk := if wldI x then some ⟨-1, id, x.chan⟩ else match hlI s me lv 0 x.chan with
  | some j => some ⟨j, id, x.chan⟩
  | none => (ptI s me x).map fun j => ⟨j, id, x.chan⟩
theorem fs_facts {w V : World} {lb rb : Nat} {j sid xc : Int} (hl : V.heap[lb]? = some (.cells #[.int .i64 0, .int .i64 sid, .int .i64 xc] 24 (0, 0))) (hr : V.heap[rb]? = some (.cells #[.int .i64 0, .int .i64 0, .int .i64 0] 24 (0, 0))) (hne : lb ≠ rb) (h1 : w.heap.size ≤ lb) (h2 : w.heap.size ≤ rb) (hb : Below w.heap.size w V) :
    (V.cell? ⟨lb, 0, none⟩ = some (.int .i64 0) ∧ ∀ k, V.frozen? ⟨lb, k, none⟩ = false) ∧
    ((V.setCell ⟨lb, 0, none⟩ (.int .i64 j)).cell? ⟨lb, 0, none⟩ = some (.int .i64 j) ∧ (V.setCell ⟨lb, 0, none⟩ (.int .i64 j)).cell? ⟨lb, 1, none⟩ = some (.int .i64 sid) ∧ (V.setCell ⟨lb, 0, none⟩ (.int .i64 j)).cell? ⟨lb, 2, none⟩ = some (.int .i64 xc)) ∧
    ((V.setCell ⟨lb, 0, none⟩ (.int .i64 j)).cell? ⟨rb, 0, none⟩ = some (.int .i64 0) ∧ (V.setCell ⟨lb, 0, none⟩ (.int .i64 j)).cell? ⟨rb, 1, none⟩ = some (.int .i64 0) ∧ (V.setCell ⟨lb, 0, none⟩ (.int .i64 j)).cell? ⟨rb, 2, none⟩ = some (.int .i64 0) ∧ ∀ k, (V.setCell ⟨lb, 0, none⟩ (.int .i64 j)).frozen? ⟨rb, k, none⟩ = false) ∧
    ∀ Z, (((V.setCell ⟨lb, 0, none⟩ (.int .i64 j)).setCell ⟨rb, 0, none⟩ (.int .i64 j)).setCell ⟨rb, 1, none⟩ (.int .i64 sid)).setCell ⟨rb, 2, none⟩ (.int .i64 xc) = Z → (Z.cell? ⟨rb, 0, none⟩ = some (.int .i64 j) ∧ Z.cell? ⟨rb, 1, none⟩ = some (.int .i64 sid) ∧ Z.cell? ⟨rb, 2, none⟩ = some (.int .i64 xc)) ∧ Below w.heap.size w Z := by
  have k1 := blk_set hl 0 (.int .i64 j)
  have k2 : (V.setCell ⟨lb, 0, none⟩ (.int .i64 j)).heap[rb]? = some (.cells #[.int .i64 0, .int .i64 0, .int .i64 0] 24 (0, 0)) := (Below.heap_setCell V ⟨lb, 0, none⟩ _ rb (fun e => hne e.symm)).trans hr
  refine ⟨⟨cell_of hl rfl, fun k => by simp [World.frozen?, hl]⟩, ⟨cell_of k1 rfl, cell_of k1 rfl, cell_of k1 rfl⟩, ⟨cell_of k2 rfl, cell_of k2 rfl, cell_of k2 rfl, fun k => by simp [World.frozen?, k2]⟩, fun Z hZ => ?_⟩
  have k3 : Z.heap[rb]? = some (.cells #[.int .i64 j, .int .i64 sid, .int .i64 xc] 24 (0, 0)) := by
    rw [← hZ]
    exact blk_set (blk_set (blk_set k2 0 _) 1 _) 2 _
  refine ⟨⟨cell_of k3 rfl, cell_of k3 rfl, cell_of k3 rfl⟩, ?_⟩
  rw [← hZ]
  exact (((hb.setCell (p := ⟨lb, 0, none⟩) h1 _).setCell (p := ⟨rb, 0, none⟩) h2 _).setCell (p := ⟨rb, 1, none⟩) h2 _).setCell (p := ⟨rb, 2, none⟩) h2 _
set_option maxRecDepth 100000 in
set_option maxHeartbeats 2000000 in
theorem rfirst_any (w : World) (p : Option Addr) (c : Nat) (s : List Ag) (h : AgsR w p c s) (hl4 : s.length ≤ 4096) (me : Nat) (hme : me < s.length) (q : Option Addr) (d : Nat) (lv : List Int) (hq : IntsR w q d lv) (hlv : lv.length = s.length) (xc : Int) (xs : Bool) (hx64 : I64 xc) :
    Calls Try.prog 83 #[.slice p s.length c, .int .i64 (me : Int), .slice q s.length d, .agg #[.int .i64 xc, .bool xs]] w fun e w' => e = .returned (lT (fsI s me s[me].id lv ⟨xc, xs⟩)) ∧ Below w.heap.size w w' := by
  have hlc := h.len
  have hcm := h.max
  unfold maxLen at hcm
  obtain ⟨b, o, ap, ac, hp, hc, rfl, hA, hcl⟩ := h.at_ me hme
  have HS : Bx (AgsR w (some ⟨b, o, none⟩) c s ∧ IntsR w q d lv) := ⟨h, hq⟩
  obtain ⟨W, hW⟩ : ∃ W, (w.alloc (.cells #[.int .i64 xc, .bool xs] 58)).alloc (.cells #[.int .i64 0, .int .i64 0, .int .i64 0] 24) = W := ⟨_, rfl⟩
  have hbW : Below w.heap.size w W := by rw [← hW]; exact two_new _ _ _
  have hkW : W.heap[w.heap.size]? = some (.cells #[.int .i64 xc, .bool xs] 58 (0, 0)) := by rw [← hW]; exact ((below1 _ _).block _ (by simp)).trans (World.alloc_heap_new _ _)
  have HX : Bx (∀ V, Below W.heap.size W V → V.cell? ⟨w.heap.size, 0, none⟩ = some (.int .i64 xc) ∧ V.cell? ⟨w.heap.size, 1, none⟩ = some (.bool xs)) := ⟨fun V hV => by
    have e := (hV.block _ (Array.getElem?_eq_some_iff.1 hkW).1).trans hkW
    exact ⟨cell_of e rfl, cell_of e rfl⟩⟩
  have HWE : Bx (_ = W) := ⟨hW⟩
  have BW : Bx (Below w.heap.size w W) := ⟨hbW⟩
  have HID : Bx (∀ V, Below w.heap.size w V → V.cell? ⟨b, o + me * 4, none⟩ = some (.int .i64 s[me].id)) := ⟨fun V hV => (hcl V hV).1⟩
  have hid := hA.id
  have hkR : W.heap[w.heap.size + 1]? = some (.cells #[.int .i64 0, .int .i64 0, .int .i64 0] 24 (0, 0)) := by
    rw [← hW]
    have := World.alloc_heap_new (w.alloc (.cells #[.int .i64 xc, .bool xs] 58)) (.cells #[.int .i64 0, .int .i64 0, .int .i64 0] 24)
    simpa using this
  have HKR : Bx (∀ V, Below W.heap.size W V → V.heap[w.heap.size + 1]? = some (.cells #[.int .i64 0, .int .i64 0, .int .i64 0] 24 (0, 0))) := ⟨fun V hV => (hV.block _ (Array.getElem?_eq_some_iff.1 hkR).1).trans hkR⟩
  have HWS : Bx (W.heap.size = w.heap.size + 2) := ⟨by rw [← hW]; simp⟩
  clear hW hbW hkW h hq hcl hA hkR
  generalize s[me].id = sid at *
  go_enter Try.func83, Try.ntmps83
  go_wp2
  rw [HWE.out]
  have e0 := (HX.out W (Below.refl _ _)).1
  have e1 := HID.out W BW.out
  have f0 := (HX.out (W.alloc (.cells #[.int .i64 0, .int .i64 0, .int .i64 0] 24)) (below1 _ _)).1
  have f1 := HID.out (W.alloc (.cells #[.int .i64 0, .int .i64 0, .int .i64 0] 24)) (blz BW.out (below1 _ _))
  go_region
  obtain ⟨V, hV⟩ : ∃ V, (W.alloc (.cells #[.int .i64 0, .int .i64 sid, .int .i64 xc] 24)).drew = V := ⟨_, rfl⟩
  have hbV : Below W.heap.size W V := by rw [← hV]; exact (below1 _ _).drew
  have hkV : V.heap[W.heap.size]? = some (.cells #[.int .i64 0, .int .i64 sid, .int .i64 xc] 24 (0, 0)) := by rw [← hV]; exact World.alloc_heap_new _ _
  have HKV : Bx (∀ U, Below V.heap.size V U → U.heap[W.heap.size]? = some (.cells #[.int .i64 0, .int .i64 sid, .int .i64 xc] 24 (0, 0))) := ⟨fun U hU => (hU.block _ (Array.getElem?_eq_some_iff.1 hkV).1).trans hkV⟩
  have BV : Bx (Below W.heap.size W V ∧ Below w.heap.size w V) := ⟨hbV, blz BW.out hbV⟩
  have HFF : Bx (∀ U, Below V.heap.size V U → ∀ j, _) := ⟨fun U hU j => fs_facts (w := w) (j := j) (HKV.out U hU) (HKR.out U (blz hbV hU)) (by have := HWS.out; omega) (by have := HWS.out; omega) (by omega) (blz BV.out.2 hU)⟩
  obtain ⟨y0, y1⟩ := HX.out V hbV
  rw [hV]
  clear hV hbV hkV e0 e1 f0 f1
  cases hw : wldI ⟨xc, xs⟩ with
  | true =>
    have HE : Bx (lT (fsI s me sid lv ⟨xc, xs⟩) = .tuple #[.agg #[.int .i64 (-1), .int .i64 sid, .int .i64 xc], .bool true]) := ⟨by unfold fsI; rw [hw]; rfl⟩
    obtain ⟨⟨a0, a1⟩, ⟨b0, b1, b2⟩, ⟨r0, r1, r2, r3⟩, hZZ⟩ := HFF.out V (Below.refl _ _) (-1)
    have hcase : (xc = 1 ∧ xs = false) ∨ (xc = 2 ∧ xs = true) := by
      unfold wldI at hw
      simp only [Bool.or_eq_true, Bool.and_eq_true, beq_iff_eq, Bool.not_eq_true'] at hw
      exact hw
    rcases hcase with ⟨rfl, rfl⟩ | ⟨rfl, rfl⟩
    · go_wp2
      obtain ⟨Z, hZ⟩ : ∃ Z, (((V.setCell ⟨W.heap.size, 0, none⟩ (.int .i64 (-1))).setCell ⟨w.heap.size + 1, 0, none⟩ (.int .i64 (-1))).setCell ⟨w.heap.size + 1, 1, none⟩ (.int .i64 sid)).setCell ⟨w.heap.size + 1, 2, none⟩ (.int .i64 1) = Z := ⟨_, rfl⟩
      obtain ⟨⟨z0, z1, z2⟩, hZl⟩ := hZZ Z hZ
      rw [hZ]
      exact bodyPost_ret (v := .tuple #[.agg #[.int .i64 (-1), .int .i64 sid, .int .i64 1], .bool true]) (by simp [results, Try.results83, go_sem, z0, z1, z2]) rfl ⟨by rw [HE.out], hZl⟩
    · go_wp2
      obtain ⟨Z, hZ⟩ : ∃ Z, (((V.setCell ⟨W.heap.size, 0, none⟩ (.int .i64 (-1))).setCell ⟨w.heap.size + 1, 0, none⟩ (.int .i64 (-1))).setCell ⟨w.heap.size + 1, 1, none⟩ (.int .i64 sid)).setCell ⟨w.heap.size + 1, 2, none⟩ (.int .i64 2) = Z := ⟨_, rfl⟩
      obtain ⟨⟨z0, z1, z2⟩, hZl⟩ := hZZ Z hZ
      rw [hZ]
      exact bodyPost_ret (v := .tuple #[.agg #[.int .i64 (-1), .int .i64 sid, .int .i64 2], .bool true]) (by simp [results, Try.results83, go_sem, z0, z1, z2]) rfl ⟨by rw [HE.out], hZl⟩
  | false =>
    have g1 : (xc == 1) = false ∨ xs = true := by
      cases xs with
      | true => exact .inr rfl
      | false =>
        left
        unfold wldI at hw
        simp at hw
        exact beq_eq_false_iff_ne.2 hw
    have g2 : (xc == 2) = false ∨ xs = false := by
      cases xs with
      | false => exact .inr rfl
      | true =>
        left
        unfold wldI at hw
        simp at hw
        exact beq_eq_false_iff_ne.2 hw
    have HHO : Bx (Calls Try.prog 84 #[.slice (some ⟨b, o, none⟩) s.length c, .int .i64 (me : Int), .slice q s.length d, .int .i64 0, .int .i64 xc] V fun e w' => e = .returned (.tuple #[.int .i64 ((hlI s me lv 0 xc).getD 0), .bool (hlI s me lv 0 xc).isSome]) ∧ Below V.heap.size V w') := ⟨rholder_any V _ c s (HS.out.1.later BV.out.2) me (by omega) q d lv (HS.out.2.later BV.out.2) hlv 0 xc hx64 ⟨by omega, by omega⟩⟩
    have HPA : Bx (∀ U, Below w.heap.size w U → Calls Try.prog 96 #[.slice (some ⟨b, o, none⟩) s.length c, .int .i64 (me : Int), .agg #[.int .i64 xc, .bool xs]] U fun e w' => e = .returned (.tuple #[.int .i64 ((ptI s me ⟨xc, xs⟩).getD 0), .bool (ptI s me ⟨xc, xs⟩).isSome]) ∧ Below U.heap.size U w') := ⟨fun U hU => rpartner_any U _ c s (HS.out.1.later hU) me (by omega) xc xs hx64⟩
    cases hh : hlI s me lv 0 xc with
    | some jj =>
      have HE : Bx (lT (fsI s me sid lv ⟨xc, xs⟩) = .tuple #[.agg #[.int .i64 jj, .int .i64 sid, .int .i64 xc], .bool true]) := ⟨by unfold fsI; rw [hw]; simp only [hh]; rfl⟩
      rw [hh] at HHO
      simp only [Option.getD_some, Option.isSome_some] at HHO
      have HG : (xs = true ∧ (xc == 1) = true ∧ (xc == 2) = false) ∨ (xs = true ∧ (xc == 1) = false ∧ (xc == 2) = false) ∨ (xs = false ∧ (xc == 1) = false ∧ (xc == 2) = true) ∨ (xs = false ∧ (xc == 1) = false ∧ (xc == 2) = false) := by
        cases xs <;> cases h1 : (xc == 1) <;> cases h2 : (xc == 2) <;> simp_all
      clear g1 g2 hw HPA
      rcases HG with ⟨rfl, g1, g2⟩ | ⟨rfl, g1, g2⟩ | ⟨rfl, g1, g2⟩ | ⟨rfl, g1, g2⟩
      all_goals
        go_wp2_with (first | (go_at_call 84; refine Calls.mono HHO.out ?_; rintro e w5 ⟨rfl, hb5⟩; obtain ⟨⟨a0, a1⟩, ⟨b0, b1, b2⟩, ⟨r0, r1, r2, r3⟩, hZZ⟩ := HFF.out w5 hb5 jj; have HZZ : Bx _ := ⟨hZZ⟩; clear hb5 hZZ))
        obtain ⟨Z, hZ⟩ : ∃ Z, (((w5.setCell ⟨W.heap.size, 0, none⟩ (.int .i64 jj)).setCell ⟨w.heap.size + 1, 0, none⟩ (.int .i64 jj)).setCell ⟨w.heap.size + 1, 1, none⟩ (.int .i64 sid)).setCell ⟨w.heap.size + 1, 2, none⟩ (.int .i64 xc) = Z := ⟨_, rfl⟩
        obtain ⟨⟨z0, z1, z2⟩, hZl⟩ := HZZ.out Z hZ
        rw [hZ]
        exact bodyPost_ret (v := .tuple #[.agg #[.int .i64 jj, .int .i64 sid, .int .i64 xc], .bool true]) (by simp [results, Try.results83, go_sem, z0, z1, z2]) rfl ⟨by rw [HE.out], hZl⟩
    | none =>
      rw [hh] at HHO
      simp only [Option.getD_none, Option.isSome_none] at HHO
      have HG : (xs = true ∧ (xc == 1) = true ∧ (xc == 2) = false) ∨ (xs = true ∧ (xc == 1) = false ∧ (xc == 2) = false) ∨ (xs = false ∧ (xc == 1) = false ∧ (xc == 2) = true) ∨ (xs = false ∧ (xc == 1) = false ∧ (xc == 2) = false) := by
        cases xs <;> cases h1 : (xc == 1) <;> cases h2 : (xc == 2) <;> simp_all
      cases hpt : ptI s me ⟨xc, xs⟩ with
      | some jj =>
        have HE : Bx (lT (fsI s me sid lv ⟨xc, xs⟩) = .tuple #[.agg #[.int .i64 jj, .int .i64 sid, .int .i64 xc], .bool true]) := ⟨by unfold fsI; rw [hw]; simp only [hh, hpt]; rfl⟩
        rw [hpt] at HPA
        simp only [Option.getD_some, Option.isSome_some] at HPA
        clear g1 g2 hw hpt
        rcases HG with ⟨rfl, g1, g2⟩ | ⟨rfl, g1, g2⟩ | ⟨rfl, g1, g2⟩ | ⟨rfl, g1, g2⟩
        all_goals
          go_wp2_with (first
            | (go_at_call 84; refine Calls.mono HHO.out ?_; rintro e w5 ⟨rfl, hb5⟩; obtain ⟨m0, m1⟩ := HX.out w5 (blz BV.out.1 hb5); have B5 : Bx (Below V.heap.size V w5) := ⟨hb5⟩; clear hb5)
            | (go_at_call 96; refine Calls.mono (HPA.out w5 (blz BV.out.2 B5.out)) ?_; rintro e w6 ⟨rfl, hb6⟩; obtain ⟨⟨a0, a1⟩, ⟨b0, b1, b2⟩, ⟨r0, r1, r2, r3⟩, hZZ⟩ := HFF.out w6 (blz B5.out hb6) jj; have HZZ : Bx _ := ⟨hZZ⟩; clear hb6 hZZ))
          obtain ⟨Z, hZ⟩ : ∃ Z, (((w6.setCell ⟨W.heap.size, 0, none⟩ (.int .i64 jj)).setCell ⟨w.heap.size + 1, 0, none⟩ (.int .i64 jj)).setCell ⟨w.heap.size + 1, 1, none⟩ (.int .i64 sid)).setCell ⟨w.heap.size + 1, 2, none⟩ (.int .i64 xc) = Z := ⟨_, rfl⟩
          obtain ⟨⟨z0, z1, z2⟩, hZl⟩ := HZZ.out Z hZ
          rw [hZ]
          exact bodyPost_ret (v := .tuple #[.agg #[.int .i64 jj, .int .i64 sid, .int .i64 xc], .bool true]) (by simp [results, Try.results83, go_sem, z0, z1, z2]) rfl ⟨by rw [HE.out], hZl⟩
      | none =>
        have HE : Bx (lT (fsI s me sid lv ⟨xc, xs⟩) = .tuple #[.agg #[.int .i64 0, .int .i64 0, .int .i64 0], .bool false]) := ⟨by unfold fsI; rw [hw]; simp only [hh, hpt]; rfl⟩
        rw [hpt] at HPA
        simp only [Option.getD_none, Option.isSome_none] at HPA
        clear g1 g2 hw hpt
        rcases HG with ⟨rfl, g1, g2⟩ | ⟨rfl, g1, g2⟩ | ⟨rfl, g1, g2⟩ | ⟨rfl, g1, g2⟩
        all_goals
          go_wp2_with (first
            | (go_at_call 84; refine Calls.mono HHO.out ?_; rintro e w5 ⟨rfl, hb5⟩; obtain ⟨m0, m1⟩ := HX.out w5 (blz BV.out.1 hb5); have B5 : Bx (Below V.heap.size V w5) := ⟨hb5⟩; clear hb5)
            | (go_at_call 96; refine Calls.mono (HPA.out w5 (blz BV.out.2 B5.out)) ?_; rintro e w6 ⟨rfl, hb6⟩; have k6 := HKR.out w6 (blz BV.out.1 (blz B5.out hb6)); have r0 : w6.cell? ⟨w.heap.size + 1, 0, none⟩ = some (.int .i64 0) := cell_of k6 rfl; have r1 : w6.cell? ⟨w.heap.size + 1, 1, none⟩ = some (.int .i64 0) := cell_of k6 rfl; have r2 : w6.cell? ⟨w.heap.size + 1, 2, none⟩ = some (.int .i64 0) := cell_of k6 rfl; have r3 : ∀ k, w6.frozen? ⟨w.heap.size + 1, k, none⟩ = false := (fun k => by simp [World.frozen?, k6]); have K6 : Bx (w6.heap[w.heap.size + 1]? = _ ∧ Below w.heap.size w w6) := ⟨k6, blz BV.out.2 (blz B5.out hb6)⟩; clear hb6 k6))
          obtain ⟨Z, hZ⟩ : ∃ Z, ((w6.setCell ⟨w.heap.size + 1, 0, none⟩ (.int .i64 0)).setCell ⟨w.heap.size + 1, 1, none⟩ (.int .i64 0)).setCell ⟨w.heap.size + 1, 2, none⟩ (.int .i64 0) = Z := ⟨_, rfl⟩
          have hZb : Z.heap[w.heap.size + 1]? = some (.cells #[.int .i64 0, .int .i64 0, .int .i64 0] 24 (0, 0)) := by
            rw [← hZ]
            exact blk_set (blk_set (blk_set K6.out.1 0 _) 1 _) 2 _
          have hZl : Below w.heap.size w Z := by
            rw [← hZ]
            exact ((K6.out.2.setCell (p := ⟨w.heap.size + 1, 0, none⟩) (by show _ ≤ w.heap.size + 1; omega) _).setCell (p := ⟨w.heap.size + 1, 1, none⟩) (by show _ ≤ w.heap.size + 1; omega) _).setCell (p := ⟨w.heap.size + 1, 2, none⟩) (by show _ ≤ w.heap.size + 1; omega) _
          rw [hZ]
          have z0 : Z.cell? ⟨w.heap.size + 1, 0, none⟩ = some (.int .i64 0) := cell_of hZb rfl
          have z1 : Z.cell? ⟨w.heap.size + 1, 1, none⟩ = some (.int .i64 0) := cell_of hZb rfl
          have z2 : Z.cell? ⟨w.heap.size + 1, 2, none⟩ = some (.int .i64 0) := cell_of hZb rfl
          exact bodyPost_ret (v := .tuple #[.agg #[.int .i64 0, .int .i64 0, .int .i64 0], .bool false]) (by simp [results, Try.results83, go_sem, z0, z1, z2]) rfl ⟨by rw [HE.out], hZl⟩
end Go.Proofs.Ytjabdhmkibahlaa
