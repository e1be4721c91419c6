import Derived.Test.YtjabdhmkibahlaaCGW
namespace Go.Proofs.Ytjabdhmkibahlaa
open Go.RowKit
set_option linter.unusedVariables false
set_option linter.unusedSimpArgs false

theorem blk_set {W : World} {g : Nat} {us : Array Value} {t : TypeId} {fr : Nat × Nat} (h : W.heap[g]? = some (.cells us t fr)) (j : Nat) (v : Value) : (W.setCell ⟨g, j, none⟩ v).heap[g]? = some (.cells (us.setIfInBounds j v) t fr) := by
  simp [World.setCell, Array.getElem?_modify, h]
set_option maxRecDepth 100000 in
set_option maxHeartbeats 8000000 in
theorem wakes_any (h o : Stc) (w : World) : Calls Try.prog 56 #[stV h, stV o] w fun e w' => e = .returned (.bool (h.wakes o)) ∧ Below w.heap.size w w' := by
  obtain ⟨h1, h2, h3⟩ := h
  obtain ⟨o1, o2, o3⟩ := o
  simp only [stV]
  have HB : Bx (∀ b1 b2 b3 b4 b5 b6 : Bool, Below w.heap.size w ((w.alloc (.cells #[.bool b1, .bool b2, .bool b3] 72)).alloc (.cells #[.bool b4, .bool b5, .bool b6] 72))) := ⟨fun _ _ _ _ _ _ => two_new _ _ _⟩
  cases h1 <;> cases h2 <;> cases h3 <;> cases o2 <;> cases o3
  all_goals
    go_enter Try.func56, Try.ntmps56
    go_wp2
    go_ret
    exact ⟨rfl, HB.out _ _ _ _ _ _⟩
set_option maxRecDepth 100000 in
set_option maxHeartbeats 8000000 in
theorem standing_any (w : World) (a : Ag) (ap hp : Option Addr) (ac hc : Nat) (h : AgR w a ap ac hp hc) (c : Int) (h64 : I64 c) (hr : a.awake = true → risI a.held = true) (hz : a.held.length ≤ 2147483647) :
    Calls Try.prog 55 #[agV a ap ac hp hc, .int .i64 c] w fun e w' => e = .returned (stV (standI a c)) ∧ Below w.heap.size w w' := by
  obtain ⟨id, aw, arms, held⟩ := a
  obtain ⟨W, hW⟩ : ∃ W, (w.alloc (.cells #[.int .i64 id, .bool aw, .slice ap arms.length ac, .slice hp held.length hc] 53)).alloc (.cells #[.bool false, .bool false, .bool false] 72) = W := ⟨_, rfl⟩
  have hb : Below w.heap.size w W := by rw [← hW]; exact two_new _ _ _
  have hbk : W.heap[w.heap.size]? = some (.cells #[.int .i64 id, .bool aw, .slice ap arms.length ac, .slice hp held.length hc] 53 (0, 0)) := by
    rw [← hW]; exact (Below.heap_alloc _ _ _ (by simp)).trans (World.alloc_heap_new _ _)
  have hbr : W.heap[w.heap.size + 1]? = some (.cells #[.bool false, .bool false, .bool false] 72 (0, 0)) := by
    have := World.alloc_heap_new (w.alloc (.cells #[.int .i64 id, .bool aw, .slice ap arms.length ac, .slice hp held.length hc] 53)) (.cells #[.bool false, .bool false, .bool false] 72)
    rw [World.size_alloc, hW] at this
    exact this
  have c0 : W.cell? ⟨w.heap.size, 0, none⟩ = some (.int .i64 id) := cell_of hbk rfl
  have c1 : W.cell? ⟨w.heap.size, 1, none⟩ = some (.bool aw) := cell_of hbk rfl
  have c2 : W.cell? ⟨w.heap.size, 2, none⟩ = some (.slice ap arms.length ac) := cell_of hbk rfl
  have c3 : W.cell? ⟨w.heap.size, 3, none⟩ = some (.slice hp held.length hc) := cell_of hbk rfl
  have HRB : Bx (∀ X, Below W.heap.size W X → X.heap[w.heap.size + 1]? = some (.cells #[.bool false, .bool false, .bool false] 72 (0, 0))) := ⟨fun X hX => (hX.block _ (Array.getElem?_eq_some_iff.1 hbr).1).trans hbr⟩
  have HB : Bx (Below w.heap.size w W) := ⟨hb⟩
  have HW : Bx (_ = W) := ⟨hW⟩
  simp only [agV]
  cases aw with
  | true =>
    have hri : risI held = true := hr rfl
    have HS : Bx (Calls Try.prog 54 #[.slice hp held.length hc, .int .i64 c] W fun e w' => (∃ k : Int, e = .returned (.tuple #[.int .i64 k, .bool (held.contains c)])) ∧ Below W.heap.size W w') := ⟨search_any W hp hc held c (h.held.later hb) (ris_le hri) (by simp only at hz; omega)⟩
    have HE : Bx (stV (standI ⟨id, true, arms, held⟩ c) = .agg #[.bool (held.contains c), .bool false, .bool false]) := ⟨rfl⟩
    rw [← hW] at c0 c1 c2 c3
    clear h hW hbk hbr hb hr
    generalize held.contains c = bb at *
    go_enter Try.func55, Try.ntmps55
    go_wp2_with (first | (go_at_call 54; rw [HW.out]; refine Calls.mono HS.out ?_; rintro e w2 ⟨⟨k2, rfl⟩, hb2⟩; have hrb := HRB.out w2 hb2; have d0 : w2.cell? ⟨w.heap.size + 1, 0, none⟩ = some (.bool false) := cell_of hrb rfl; have d1 : w2.cell? ⟨w.heap.size + 1, 1, none⟩ = some (.bool false) := cell_of hrb rfl; have d2 : w2.cell? ⟨w.heap.size + 1, 2, none⟩ = some (.bool false) := cell_of hrb rfl; have f0 : ∀ j, w2.frozen? ⟨w.heap.size + 1, j, none⟩ = false := (fun j => by simp [World.frozen?, hrb]); have HB2 : Bx (Below w.heap.size w w2) := ⟨HB.out.trans (hb2.mono HB.out.size)⟩; have HK : Bx _ := ⟨hrb⟩; clear hb2 hrb))
    obtain ⟨Z, hZ⟩ : ∃ Z, ((w2.setCell ⟨w.heap.size + 1, 0, none⟩ (.bool bb)).setCell ⟨w.heap.size + 1, 1, none⟩ (.bool false)).setCell ⟨w.heap.size + 1, 2, none⟩ (.bool false) = Z := ⟨_, rfl⟩
    have hZb : Z.heap[w.heap.size + 1]? = some (.cells #[.bool bb, .bool false, .bool false] 72 (0, 0)) := by
      rw [← hZ]
      exact blk_set (blk_set (blk_set HK.out 0 _) 1 _) 2 _
    have hZl : Below w.heap.size w Z := by
      rw [← hZ]
      exact ((HB2.out.setCell (p := ⟨w.heap.size + 1, 0, none⟩) (by show _ ≤ w.heap.size + 1; omega) _).setCell (p := ⟨w.heap.size + 1, 1, none⟩) (by show _ ≤ w.heap.size + 1; omega) _).setCell (p := ⟨w.heap.size + 1, 2, none⟩) (by show _ ≤ w.heap.size + 1; omega) _
    rw [hZ]
    have z0 : Z.cell? ⟨w.heap.size + 1, 0, none⟩ = some (.bool bb) := cell_of hZb rfl
    have z1 : Z.cell? ⟨w.heap.size + 1, 1, none⟩ = some (.bool false) := cell_of hZb rfl
    have z2 : Z.cell? ⟨w.heap.size + 1, 2, none⟩ = some (.bool false) := cell_of hZb rfl
    clear hZ hZb d0 d1 d2 f0
    refine bodyPost_ret (v := .agg #[.bool bb, .bool false, .bool false]) (by simp [results, Try.results55, go_sem, z0, z1, z2]) rfl ⟨by rw [HE.out], hZl⟩
  | false =>
    have HWT : Bx (Calls Try.prog 39 #[.agg #[.int .i64 id, .bool false, .slice ap arms.length ac, .slice hp held.length hc]] W (WtPost W arms)) := ⟨waiting_any W ⟨id, false, arms, held⟩ ap hp ac hc (h.later hb)⟩
    have haw := waitF_awake c arms st0 rfl
    have HE : Bx (stV (standI ⟨id, false, arms, held⟩ c) = .agg #[.bool false, .bool (waitI arms c).sends, .bool (waitI arms c).recvs] ∧ stV (waitI arms c) = .agg #[.bool false, .bool (waitI arms c).sends, .bool (waitI arms c).recvs]) := by
      have e : stV (waitI arms c) = .agg #[.bool false, .bool (waitI arms c).sends, .bool (waitI arms c).recvs] := by
        unfold stV
        rw [show (waitI arms c).awake = false from haw]
      exact ⟨e, e⟩
    rw [← hW] at c0 c1 c2 c3
    clear h hW hbk hbr hb hr haw
    go_enter Try.func55, Try.ntmps55
    go_wp2_with (first | (go_at_call 39; rw [HW.out]; refine Calls.mono HWT.out ?_; rintro e w2 ⟨mb, n2, rfl, hmp, _, _, hb2⟩; have hlk := hmp.look Try.underlying65 Try.zeroValue72 h64; simp only [HE.out.2] at hlk; have hrb := HRB.out w2 hb2; have d0 : w2.cell? ⟨w.heap.size + 1, 0, none⟩ = some (.bool false) := cell_of hrb rfl; have d1 : w2.cell? ⟨w.heap.size + 1, 1, none⟩ = some (.bool false) := cell_of hrb rfl; have d2 : w2.cell? ⟨w.heap.size + 1, 2, none⟩ = some (.bool false) := cell_of hrb rfl; have f0 : ∀ j, w2.frozen? ⟨w.heap.size + 1, j, none⟩ = false := (fun j => by simp [World.frozen?, hrb]); have HB2 : Bx (Below w.heap.size w w2) := ⟨HB.out.trans (hb2.mono HB.out.size)⟩; have HK : Bx _ := ⟨hrb⟩; clear hb2 hrb hmp))
    have HE1 := HE.out.1
    generalize (waitI arms c).sends = ys at *
    generalize (waitI arms c).recvs = yr at *
    obtain ⟨Z, hZ⟩ : ∃ Z, ((w2.setCell ⟨w.heap.size + 1, 0, none⟩ (.bool false)).setCell ⟨w.heap.size + 1, 1, none⟩ (.bool ys)).setCell ⟨w.heap.size + 1, 2, none⟩ (.bool yr) = Z := ⟨_, rfl⟩
    have hZb : Z.heap[w.heap.size + 1]? = some (.cells #[.bool false, .bool ys, .bool yr] 72 (0, 0)) := by
      rw [← hZ]
      exact blk_set (blk_set (blk_set HK.out 0 _) 1 _) 2 _
    have hZl : Below w.heap.size w Z := by
      rw [← hZ]
      exact ((HB2.out.setCell (p := ⟨w.heap.size + 1, 0, none⟩) (by show _ ≤ w.heap.size + 1; omega) _).setCell (p := ⟨w.heap.size + 1, 1, none⟩) (by show _ ≤ w.heap.size + 1; omega) _).setCell (p := ⟨w.heap.size + 1, 2, none⟩) (by show _ ≤ w.heap.size + 1; omega) _
    rw [hZ]
    have z0 : Z.cell? ⟨w.heap.size + 1, 0, none⟩ = some (.bool false) := cell_of hZb rfl
    have z1 : Z.cell? ⟨w.heap.size + 1, 1, none⟩ = some (.bool ys) := cell_of hZb rfl
    have z2 : Z.cell? ⟨w.heap.size + 1, 2, none⟩ = some (.bool yr) := cell_of hZb rfl
    clear hZ hZb d0 d1 d2 f0
    refine bodyPost_ret (v := .agg #[.bool false, .bool ys, .bool yr]) (by simp [results, Try.results55, go_sem, z0, z1, z2]) rfl ⟨by rw [HE1], hZl⟩
end Go.Proofs.Ytjabdhmkibahlaa
