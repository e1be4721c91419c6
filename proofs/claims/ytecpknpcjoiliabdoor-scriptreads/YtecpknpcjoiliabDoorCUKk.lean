import Derived.Test.YtecpknpcjoiliabDoorCUKr
import Derived.Laws.Rows
namespace Go.Proofs.YtecpknpcjoiliabDoor
open Go.RowKit
set_option linter.unusedVariables false
set_option linter.unusedSimpArgs false

theorem info31 : (Tryd.prog.info? 29).map (fun i => (i.zero, i.size, i.bytes)) = some (some (.slice none 0 0), 1, 24) := by kernel_rfl

theorem Bk.map {w w' : World} {B h : Nat} {vo vw : Value} {fr : Int} {es : List Ent} (hB : Bk w B h vo vw fr es) (H : ∀ r : BRow, r.ok w B → r.ok w' B) : Bk w' B h vo vw fr es :=
  ⟨H _ hB.book, H _ hB.outs, H _ hB.wants, fun e he => ⟨H _ (hB.rows e he).1, H _ (hB.rows e he).2⟩, hB.apart, hB.small, hB.few⟩
theorem ok_alloc {r : BRow} {w : World} {B : Nat} (h : r.ok w B) (o : Obj) : r.ok (w.alloc o) B := h.below ((Below.refl _ _).alloc (Nat.le_refl _) _)

/-- a list is copied into a new one: all rows stay -/
theorem copied {w W2 : World} {B n : Nat} {m : Value} (hA : Appended (w.alloc (.cells #[] 39)) W2 B 39 3 (.slice (some ⟨w.heap.size, 0, none⟩) 0 0) n m) (hB : B ≤ w.heap.size) :
    (∀ r : BRow, r.ok w B → r.ok W2 B) ∧ (∀ g, m.ownBlock = some g → w.heap.size ≤ g) ∧ Below B w W2 ∧ w.heap.size ≤ W2.heap.size := by
  refine ⟨fun r hr => (hA.apart (ok_alloc hr _) ?_).1, ?_, ((Below.refl B w).alloc hB _).trans hA.old, by have := hA.old.size; simp at this; omega⟩
  · intro g h1 h2
    have : w.heap.size = g := by simpa [Value.ownBlock] using h1
    have := (hr.own.lt g h2).2
    omega
  · intro g hg
    rcases hA.lies with h | h
    · rw [h] at hg
      have : w.heap.size = g := by simpa [Value.ownBlock] using hg
      omega
    · rw [h] at hg
      simp at hg
      omega

/-- behind an append to the first list of the book, and its store -/
theorem stored0 {W W4 : World} {B h n : Nat} {vo vw vo' : Value} {fr : Int} {xs ys : List Value} {o : Obj} (hb : (bookR h vo vw fr).ok W B) (ho : W.ownsRow B 29 1 vo n xs)
    (hA : Appended (W.alloc o) W4 B 29 1 vo n vo') (ho' : W4.ownsRow B 29 1 vo' (n + 1) ys) :
    (bookR h vo vw fr).ok W4 B ∧ (bookR h vo' vw fr).ok (W4.setCell ⟨h, 0, none⟩ vo') B ∧ (W4.setCell ⟨h, 0, none⟩ vo').ownsRow B 29 1 vo' (n + 1) ys ∧
      (∀ r : BRow, r.ok W B → r.e ≠ 26 → Apart vo r.v → r.ok (W4.setCell ⟨h, 0, none⟩ vo') B ∧ Apart vo' r.v) := by
  have hb4 := (hA.apart (ok_alloc hb o) (apart_kind ho hb.own (show (29 : Nat) ≠ 26 by decide))).1
  have hbo : W4.ownsRow B 26 1 (.slice (some ⟨h, 0, none⟩) 3 3) 3 [vo, vw, .int .i64 fr] := hb4.own
  refine ⟨hb4, ⟨owns_set hbo 0 (by decide) vo'⟩, ?_, ?_⟩
  · exact ownsRow_setCell_other ho' (fun e => apart_kind ho' hbo (by decide) _ e rfl) _
  · intro r hr he ha
    obtain ⟨h1, h2⟩ := hA.apart (ok_alloc hr o) ha
    exact ⟨h1.set (fun e => apart_kind h1.own hbo he _ e rfl) _, h2⟩
theorem stored1 {W W4 : World} {B h n : Nat} {vo vw vw' : Value} {fr : Int} {xs ys : List Value} {o : Obj} (hb : (bookR h vo vw fr).ok W B) (ho : W.ownsRow B 29 1 vw n xs)
    (hA : Appended (W.alloc o) W4 B 29 1 vw n vw') (ho' : W4.ownsRow B 29 1 vw' (n + 1) ys) :
    (bookR h vo vw fr).ok W4 B ∧ (bookR h vo vw' fr).ok (W4.setCell ⟨h, 1, none⟩ vw') B ∧ (W4.setCell ⟨h, 1, none⟩ vw').ownsRow B 29 1 vw' (n + 1) ys ∧
      (∀ r : BRow, r.ok W B → r.e ≠ 26 → Apart vw r.v → r.ok (W4.setCell ⟨h, 1, none⟩ vw') B ∧ Apart vw' r.v) := by
  have hb4 := (hA.apart (ok_alloc hb o) (apart_kind ho hb.own (show (29 : Nat) ≠ 26 by decide))).1
  have hbo : W4.ownsRow B 26 1 (.slice (some ⟨h, 0, none⟩) 3 3) 3 [vo, vw, .int .i64 fr] := hb4.own
  refine ⟨hb4, ⟨owns_set hbo 1 (by decide) vw'⟩, ?_, ?_⟩
  · exact ownsRow_setCell_other (a := ⟨h, 1, none⟩) ho' (fun e => apart_kind ho' hbo (by decide) _ e rfl) _
  · intro r hr he ha
    obtain ⟨h1, h2⟩ := hA.apart (ok_alloc hr o) ha
    exact ⟨h1.set (a := ⟨h, 1, none⟩) (fun e => apart_kind h1.own hbo he _ e rfl) _, h2⟩

/-- the book, with one more -/
structure Kept (w w' : World) (B : Nat) : Prop where
  old : Below B w w'
  rows : ∀ r : BRow, r.ok w B → r.e ≠ 26 → r.e ≠ 29 → r.ok w' B
theorem more {w W2 W4 W7 : World} {B h : Nat} {vo vw vo' vw' v m : Value} {fr : Int} {es : List Ent} {l : List Pk} {o1 o2 : Obj} (hB : Bk w B h vo vw fr es) (hl : l.length ≤ 30000000) (hf : es.length < 100)
    (H2 : ∀ r : BRow, r.ok w B → r.ok W2 B) (hb2 : Below B w W2) (hv : W2.ownsRow B 39 3 v l.length (pkC l)) (hm : W2.ownsRow B 39 3 m l.length (pkC l))
    (ho' : W4.ownsRow B 29 1 vo' (es.length + 1) (es.map Ent.x ++ [v])) (hA : Appended (W2.alloc o1) W4 B 29 1 vo es.length vo')
    (hw' : W7.ownsRow B 29 1 vw' (es.length + 1) (es.map Ent.y ++ [m])) (hA' : Appended ((W4.setCell ⟨h, 0, none⟩ vo').alloc o2) W7 B 29 1 vw es.length vw') :
    Bk (W7.setCell ⟨h, 1, none⟩ vw') B h vo' vw' fr (es ++ [⟨v, m, l⟩]) ∧ Kept w (W7.setCell ⟨h, 1, none⟩ vw') B := by
  have hB2 := hB.map H2
  obtain ⟨s1, s2, s3, s4⟩ := stored0 hB2.book hB2.outs.own hA ho'
  obtain ⟨t1, t2⟩ := s4 _ hB2.wants (by show (29 : Nat) ≠ 26; decide) hB2.apart
  have hBh := (book_cells hB2.book).2.2.2.2.2
  have hz2 : B ≤ W2.heap.size := by have := (book_cells hB2.book).1; omega
  have hz5 : B ≤ (W4.setCell ⟨h, 0, none⟩ vo').heap.size := by have := hA.old.size; simp at this; simp; omega
  obtain ⟨p1, p2, p3, p4⟩ := stored1 s2 t1.own hA' hw'
  have KQ : ∀ r : BRow, r.ok W2 B → r.e ≠ 26 → r.e ≠ 29 → r.ok (W7.setCell ⟨h, 1, none⟩ vw') B := fun r hr h30 h31 => by
    have a1 := (s4 r hr h30 (apart_kind hB2.outs.own hr.own (fun e => h31 e.symm))).1
    exact (p4 r a1 h30 (apart_kind t1.own a1.own (fun e => h31 e.symm))).1
  have hoR : (outsR vo' (es ++ [⟨v, m, l⟩])).ok (W4.setCell ⟨h, 0, none⟩ vo') B := ⟨by simpa [outsR] using s3⟩
  obtain ⟨q1, q2⟩ := p4 _ hoR (by show (29 : Nat) ≠ 26; decide) t2.symm
  refine ⟨⟨p2, q1, ⟨by simpa [wantsR] using p3⟩, ?_, q2.symm, ?_, by simp; omega⟩, ⟨?_, fun r hr => KQ r (H2 r hr)⟩⟩
  · intro e he
    rcases List.mem_append.1 he with he | he
    · exact ⟨KQ _ (hB2.rows e he).1 (by show (39 : Nat) ≠ 26; decide) (by show (39 : Nat) ≠ 29; decide), KQ _ (hB2.rows e he).2 (by show (39 : Nat) ≠ 26; decide) (by show (39 : Nat) ≠ 29; decide)⟩
    · have : e = ⟨v, m, l⟩ := by simpa using he
      subst this
      exact ⟨KQ ⟨39, 3, v, l.length, pkC l⟩ ⟨hv⟩ (by show (39 : Nat) ≠ 26; decide) (by show (39 : Nat) ≠ 29; decide), KQ ⟨39, 3, m, l.length, pkC l⟩ ⟨hm⟩ (by show (39 : Nat) ≠ 26; decide) (by show (39 : Nat) ≠ 29; decide)⟩
  · intro e he
    rcases List.mem_append.1 he with he | he
    · exact hB.small e he
    · have : e = ⟨v, m, l⟩ := by simpa using he
      subst this
      exact hl
  · exact ((((hb2.alloc hz2 _).trans hA.old).setCell hBh _).alloc hz5 _).trans hA'.old |>.setCell hBh _

theorem cell_one_set (W : World) (a : Addr) (u x : Value) (t : TypeId) : ∀ j u', [x][j]? = some u' → ((W.setCell a u).alloc (.cells #[x] t)).cell? ((⟨W.heap.size, 0, none⟩ : Addr).add j) = some u' := by
  have h := cell_one_new (W.setCell a u) x t
  have e : (W.setCell a u).heap.size = W.heap.size := by simp
  rw [e] at h
  exact h
theorem one_slice (x : Option Addr) (n c : Nat) : ∀ u ∈ [Value.slice x n c], u.oneCell' = true := by
  intro u hu
  have : u = .slice x n c := by simpa using hu
  subst this
  rfl

set_option maxRecDepth 100000 in
set_option maxHeartbeats 2000000 in
theorem keep_any (B h : Nat) (vo vw v : Value) (fr : Int) (es : List Ent) (l : List Pk) (w : World) (hB : Bk w B h vo vw fr es) (hv : w.ownsRow B 39 3 v l.length (pkC l)) (hl : l.length ≤ 30000000) (hf : es.length < 100) :
    Calls Tryd.prog 8 #[.pointer (some ⟨h, 0, none⟩), v] w fun e w' => e = .returned (.tuple #[]) ∧ ∃ vo' vw' m, Bk w' B h vo' vw' fr (es ++ [⟨v, m, l⟩]) ∧ Kept w w' B ∧ ∀ g, m.ownBlock = some g → w.heap.size ≤ g := by
  obtain ⟨xa, ca, ha, _⟩ := qx_of_owns hv
  have hz : B ≤ w.heap.size := by have := book_cells hB.book; omega
  obtain ⟨i4, hi4, hz40, hz41, hz42⟩ := info_parts infoPk
  obtain ⟨i1, hi1, hz10, hz11, hz12⟩ := info_parts info31
  have HB : Bx (Bk w B h vo vw fr es) := ⟨hB⟩
  have HV : Bx (w.ownsRow B 39 3 v l.length (pkC l)) := ⟨hv⟩
  clear hB hv
  subst ha
  go_enter Tryd.func8, Tryd.ntmps8
  go_wp2_with (first
    | (at_builtin; refine app_row rfl (.tmp 6) (.tmp 7) 29 rfl B 39 i4 (.agg #[.int .i64 0, .int .i64 0, .int .i64 0]) 3 24 Tryd.underlying29 hi4 hz40 hz41 hz42 rfl (by omega) _ 0 [] rfl (World.ownsRow_made w #[] 0 hz (Nat.zero_le _) rfl) B _ l.length (pkC l) rfl (owns_below HV.out ((Below.refl _ _).alloc (Nat.le_refl _) _)) (pk3_cell l) (by unfold maxLen; omega) (by omega) (by simp; omega) ?_; intro m W2 hm0 hA2; have hm : W2.ownsRow B 39 3 m l.length (pkC l) := (by simpa using hm0); clear hm0; obtain ⟨xm, cm, rfl, _⟩ := qx_of_owns hm; obtain ⟨H2, hfr, hb2, hz2⟩ := copied hA2 hz; have hB2 : Bx (Bk W2 B h vo vw fr es) := ⟨HB.out.map H2⟩; have HM : Bx _ := ⟨hm⟩; have HH2 : Bx _ := ⟨H2⟩; have HFR : Bx _ := ⟨hfr⟩; clear hm H2 hfr hA2; obtain ⟨h20, h21, h22, h23, h24, h25⟩ := book_cells hB2.out.book)
    | (at_builtin; refine app_elt rfl (.tmp 13) (.tmp 15) 24 rfl B 29 i1 (.slice none 0 0) 1 24 Tryd.underlying24 hi1 hz10 hz11 hz12 rfl (by omega) _ es.length (es.map Ent.x) rfl (owns_below hB2.out.outs.own ((Below.refl _ _).alloc (Nat.le_refl _) _)) W2.heap.size _ rfl rfl (cell_one_new _ _ _) (one_slice _ _ _) (by unfold maxLen; omega) (by omega) (by simp; omega) ?_; intro vo' W4 ho4 hA4; obtain ⟨xo, co, rfl, _⟩ := row1_of ho4; obtain ⟨s1, s2, s3, s4⟩ := stored0 hB2.out.book hB2.out.outs.own hA4 ho4; obtain ⟨t1, t2⟩ := s4 _ hB2.out.wants (show (29 : Nat) ≠ 26 by decide) hB2.out.apart; have HT1 : Bx _ := ⟨t1⟩; have HS2 : Bx _ := ⟨s2⟩; have HO4 : Bx _ := ⟨ho4⟩; have HA4 : Bx _ := ⟨hA4⟩; obtain ⟨h40, h41, h42, h43, h44, h45⟩ := book_cells s1; have hz4 : B ≤ W4.heap.size := (by omega); clear s1 s2 s3 s4 t1 t2 ho4 hA4)
    | (at_builtin; refine app_elt rfl (.tmp 23) (.tmp 25) 24 rfl B 29 i1 (.slice none 0 0) 1 24 Tryd.underlying24 hi1 hz10 hz11 hz12 rfl (by omega) _ es.length (es.map Ent.y) rfl (owns_below HT1.out.own ((Below.refl _ _).alloc (Nat.le_refl _) _)) W4.heap.size _ rfl rfl (cell_one_set _ _ _ _ _) (one_slice _ _ _) (by unfold maxLen; omega) (by omega) (by simp; omega) ?_; intro vw' W7 hw7 hA7; obtain ⟨xw, cw, rfl, _⟩ := row1_of hw7; obtain ⟨p1, p2, p3, p4⟩ := stored1 HS2.out HT1.out.own hA7 hw7; obtain ⟨k1, k2⟩ := more HB.out hl hf HH2.out hb2 (HH2.out ⟨39, 3, _, l.length, pkC l⟩ ⟨HV.out⟩).own HM.out HO4.out HA4.out hw7 hA7; have HK1 : Bx _ := ⟨k1⟩; have HK2 : Bx _ := ⟨k2⟩; obtain ⟨h70, h71, h72, h73, h74, h75⟩ := book_cells p1; clear p1 p2 p3 p4 k1 k2 hw7 hA7))
  (try simp only [Exit.inBlock, Exit.then])
  refine bodyPost_end (results_none rfl _ _ _) rfl ?_
  exact ⟨rfl, _, _, _, HK1.out, HK2.out, HFR.out⟩
end Go.Proofs.YtecpknpcjoiliabDoor
