import Derived.Test.YteinpijbdgcehaaCOR2c
namespace Go.Proofs.Yteinpijbdgcehaa
open Go.RowKit Go.Shelf
set_option linter.unusedVariables false
set_option linter.unusedSimpArgs false

theorem Rc4.last {w W : World} {A k tb : Nat} {t : Int × Nat × Int} {own : Nat → Option (Int × Option Nat)} {M : Int → Value} {gs : Int → List OGr} {ts : List (Int × Nat × Int)} (hR : RcI W (A + 4) A k ts own M gs) (hB : Below A w W) (hbx : W.heap[A + 1]? = some (.cells #[.map (some A)] 51)) (hsp : W.heap[tb]? = some (.cells #[.int .i64 t.1, .int .i64 t.2.1, .int .i64 t.2.2] 58)) (htg : own tb = none)
    {pre : List OGr} {q : OGr} {gb cap0 : Nat} (hgs : gs t.2.2 = pre ++ [q]) (hM : M t.2.2 = .slice (some ⟨gb, 0, none⟩) (pre.length + 1) cap0) (hc : pre.length + 1 ≤ cap0) (hx : cap0 ≤ maxLen) (hq : q.id = t.1) : Rc4 w W A k tb t own M gs W own M gs pre q gb cap0 :=
  ⟨hR.rows, hR.map, fun _ _ => ⟨rfl, rfl⟩, hgs, hM, ⟨hc, hx⟩, by rw [hgs], hq, by have := hR.len t.2.2; rw [hgs] at this; simp at this; omega, fun i h => by have := hR.plen t.2.2; simp only [hgs] at this; exact this i h, fun hi => Sep.refl _ _ _, hB, hbx, hsp, htg, fun i h => by have := hR.ne t.2.2 i (by rw [hgs]; simp; omega); simp only [hgs, List.getElem_append_left h] at this; exact this⟩
theorem Rc4.add {w W X w4 : World} {A k tb : Nat} {t : Int × Nat × Int} {own : Nat → Option (Int × Option Nat)} {M : Int → Value} {gs : Int → List OGr} {ts : List (Int × Nat × Int)} (hR : RcI W (A + 4) A k ts own M gs) (hA : A = w.heap.size) (hB : Below A w W) (hbx : W.heap[A + 1]? = some (.cells #[.map (some A)] 51)) (hsp : W.heap[tb]? = some (.cells #[.int .i64 t.1, .int .i64 t.2.1, .int .i64 t.2.2] 58)) (htg : own tb = none)
    (hX : Below W.heap.size W X) {g cap : Nat} (hown : w4.ownsRow (A + 4) 61 2 (.slice (some ⟨g, 0, none⟩) ((gs t.2.2).length + 1) cap) ((gs t.2.2).length + 1) (grsC (gs t.2.2) ++ [.int .i64 t.1, .slice none 0 0])) (hg : X.grownBy w4 (M t.2.2).ownBlock) (hat : (M t.2.2).ownBlock = some g ∨ g = X.heap.size) :
    Rc4 w W A k tb t own M gs w4 (relab own (t.2.2, none) g) (upd M t.2.2 (.slice (some ⟨g, 0, none⟩) ((gs t.2.2).length + 1) cap)) (upd gs t.2.2 (gs t.2.2 ++ [⟨t.1, [], none, 0⟩])) (gs t.2.2) ⟨t.1, [], none, 0⟩ g cap := by
  have hrX : RcR X (A + 4) own M gs := hR.rows.grown (grown_below hX) (fun r e => by cases e)
  have hG : Grew X w4 own (t.2.2, none) (M t.2.2) g := ⟨hR.rows.rl t.2.2, hg, hat.imp id (fun e => by omega), own_cells hown rfl⟩
  have hlow : ∀ b, (M t.2.2).ownBlock = some b → A + 4 ≤ b := fun b hb => own_base (hR.rows.row t.2.2) b hb
  have hXs := hX.size
  have hk : ∀ b o, W.heap[b]? = some o → own b = none → w4.heap[b]? = some o := fun b o h1 h2 => hG.keep (by rw [h2]; simp) ((hX.block b (Array.getElem?_eq_some_iff.1 h1).1).trans h1)
  have hcap : (gs t.2.2).length + 1 ≤ cap ∧ cap ≤ maxLen := by
    rcases hown.2 with ⟨h1, _⟩ | ⟨g', cap', cur, h1, _, _, h5, h6, _⟩
    · cases h1
    · cases h1; exact ⟨h5, h6⟩
  refine ⟨hrX.add hG hown, (hR.map.kept (grown_below hX) (fun r e => by cases e)).kept hg (fun r e e2 => by have := hlow r e; omega), fun c hc => ⟨upd_other _ _ hc, upd_other _ _ hc⟩, upd_same _ _ _, upd_same _ _ _, hcap, by rw [flatG_snoc]; simp, rfl, hR.len _, fun i h => ?_, fun hi => (Sep.below hX).trans (hG.sep hrX.cel), ?_, ?_, hk _ _ hsp htg, ?_, hR.ne t.2.2⟩
  · simp only [List.length_append, List.length_singleton] at h
    by_cases hlt : i < (gs t.2.2).length
    · simp only [List.getElem_append_left hlt]
      exact hR.plen t.2.2 i hlt
    · have : i = (gs t.2.2).length := by omega
      subst this
      simp only [List.getElem_concat_length]
      simp
  · exact (hB.trans (hX.mono (by have := hB.size; omega))).grown hg (by have := hB.size; omega) (fun r e => by have := hlow r e; omega)
  · exact grownBy_oth hg ((hX.block _ (Array.getElem?_eq_some_iff.1 hbx).1).trans hbx) (fun e => by have := hlow _ e; omega)
  · unfold relab
    rw [if_neg (fun e => ?_), htg]
    · simp
    · rcases hat with h1 | h1
      · have := hR.rows.rl t.2.2 g h1
        rw [← e, htg] at this
        cases this
      · have := (Array.getElem?_eq_some_iff.1 hsp).1
        omega
end Go.Proofs.Yteinpijbdgcehaa
