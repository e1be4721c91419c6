import Derived.Test.YtecodpdfckjalaaGreatDoorCTCur2
import Derived.Test.YtecodpdfckjalaaGreatDoorCTCur3
import Derived.Deep.LoopGhost
import Derived.BigFrame
import Derived.Test.YtecodpdfckjalaaGreatDoorCTLv
import Derived.Deep.Cut
import Derived.Deep.CutBlock
import Derived.Test.YtecodpdfckjalaaGreatDoorCNext
namespace Go.Proofs.YtecodpdfckjalaaGreatDoor
open Go.RowKit
set_option linter.unusedVariables false
set_option linter.unusedSimpArgs false

theorem IntsV.far {w w' : World} {c B : Nat} {v : Value} {ks : List Int} (h : IntsV w B v ks) (hf : Far c w w') (hB : B ≤ c) : IntsV w' B v ks := by
  obtain ⟨a, cap, h1, h2, h3, h4⟩ := h.ex
  refine ⟨a, cap, h1, h2, h3, fun h0 => ?_⟩
  obtain ⟨b, o, e1, e2, e3⟩ := h4 h0
  exact ⟨b, o, e1, e2, fun i hi => by rw [hf.cell b _ (by omega)]; exact e3 i hi⟩
theorem IntsV.below {w w' : World} {B : Nat} {v : Value} {ks : List Int} (h : IntsV w B v ks) (hb : Below B w w') : IntsV w' B v ks := by
  obtain ⟨a, cap, h1, h2, h3, h4⟩ := h.ex
  refine ⟨a, cap, h1, h2, h3, fun h0 => ?_⟩
  obtain ⟨b, o, e1, e2, e3⟩ := h4 h0
  exact ⟨b, o, e1, e2, fun i hi => by rw [hb.cell (p := ⟨b, o + i, none⟩) e2]; exact e3 i hi⟩

/-- the cursor at work: the kids that are left -/
structure CurS (w : World) (c B nb no nc : Nat) (l : List Nd) (ks : List Nat) (m : Bool) : Prop where
  left : ∃ left, w.heap[c]? = some (curO (.slice (some ⟨nb, no, none⟩) l.length nc) left m) ∧ IntsV w B left (ks.map fun k : Nat => (k : Int))
  nodes : ∀ j, j < l.length → w.cell? ⟨nb, no + j * 5, none⟩ = some (.int .i64 (kdN l j))
  inn : ∀ k ∈ ks, k < l.length
  lo : nb < B
  hi : B ≤ c
  max : l.length ≤ maxLen

theorem CurS.facts {w : World} {c B nb no nc : Nat} {l : List Nd} {ks : List Nat} {m : Bool} (h : CurS w c B nb no nc l ks m) :
    w.cell? ⟨c, 2, none⟩ = some (.bool m) ∧ w.frozen? ⟨c, 2, none⟩ = false ∧ c < w.heap.size ∧ ∃ a cap, w.cell? ⟨c, 1, none⟩ = some (.slice a ks.length cap) := by
  obtain ⟨left, hc, hv⟩ := h.left
  obtain ⟨a, cap, rfl, _⟩ := hv.ex
  have h2 : w.cell? ⟨c, 2, none⟩ = some (.bool m) := by simp [World.cell?, hc, curO]
  exact ⟨h2, by simp [World.frozen?, hc, curO], World.block_lt_of_cell? w _ h2, a, cap, by simp [World.cell?, hc, curO]⟩
theorem CurS.missed {w : World} {c B nb no nc : Nat} {l : List Nd} {ks : List Nat} {m : Bool} (h : CurS w c B nb no nc l ks m) (b : Bool) : CurS (w.setCell ⟨c, 2, none⟩ (.bool b)) c B nb no nc l ks b := by
  obtain ⟨left, hc, hv⟩ := h.left
  have hf : Far c w (w.setCell ⟨c, 2, none⟩ (.bool b)) := fun x hx => heap_setCell_other w ⟨c, 2, none⟩ x _ hx
  have h1 := h.lo
  have h2 := h.hi
  refine ⟨⟨left, ?_, hv.far hf h2⟩, fun j hj => by rw [hf.cell nb _ (by omega)]; exact h.nodes j hj, h.inn, h1, h2, h.max⟩
  exact heap_setCell_same w c 2 #[.slice (some ⟨nb, no, none⟩) l.length nc, left, .bool m] 79 (.bool b) hc

/-- a class's value at the cursor -/
def Cls (fv : Value) (q : Nat → Bool) (c B nb no nc : Nat) (l : List Nd) (w : World) : Prop := ∀ w' ks m, Far c w w' → CurS w' c B nb no nc l ks m →
  Calls Tryz.prog 44 #[.pointer (some ⟨c, 0, none⟩), fv] w' fun e w'' => e = .returned (.bool (took q ks)) ∧ CurS w'' c B nb no nc l (mayL q ks) m ∧ Far c w' w'' ∧ Below c w' w''

theorem mayL_in {q : Nat → Bool} {ks : List Nat} {k : Nat} (h : k ∈ mayL q ks) : k ∈ ks := by
  cases ks with
  | nil => exact h
  | cons a r =>
    simp only [mayL] at h
    split at h
    · exact List.mem_cons_of_mem _ h
    · exact h

theorem cls_of {fv : Value} {p : Int → Bool} {c B nb no nc : Nat} {l : List Nd} {w : World}
    (H : ∀ w', Far c w w' → ∀ (b o len cap k : Nat) (kd : Int) (m : Bool) (a' : Option Addr) (len' cap' : Nat), w'.heap[c]? = some (curO (.slice (some ⟨nb, no, none⟩) l.length nc) (.slice (some ⟨b, o, none⟩) len cap) m) →
      w'.cell? ⟨b, o, none⟩ = some (.int .i64 k) → w'.cell? ⟨nb, no + k * 5, none⟩ = some (.int .i64 kd) → k < l.length → l.length ≤ maxLen → 0 < len → len ≤ cap → len ≤ maxLen →
      (∀ W, (Instr.slice 39 (.slice (some ⟨b, o, none⟩) len cap) (some (.int .i64 1)) none none).run Tryz.prog W = .ok (.slice a' len' cap') W) →
      Calls Tryz.prog 44 #[.pointer (some ⟨c, 0, none⟩), fv] w' fun e w'' => e = .returned (.bool (p kd)) ∧ w''.heap[c]? = some (curO (.slice (some ⟨nb, no, none⟩) l.length nc) (cond (p kd) (.slice a' len' cap') (.slice (some ⟨b, o, none⟩) len cap)) m) ∧ Far c w' w'' ∧ Below c w' w'') :
    Cls fv (p ∘ kdN l) c B nb no nc l w := by
  intro w' ks m hf hs
  obtain ⟨left, hc, hv⟩ := hs.left
  have hlo := hs.lo
  have hhi := hs.hi
  cases ks with
  | nil =>
    obtain ⟨a, cap, rfl, _⟩ := hv.ex
    refine (maybe_none c _ a cap m fv w' hc).mono ?_
    rintro e w'' ⟨rfl, hh, hb⟩
    have hff : Far c w' w'' := fun b _ => by rw [hh]
    have hlt : c < w'.heap.size := by
      rcases Nat.lt_or_ge c w'.heap.size with h' | h'
      · exact h'
      · simp [Array.getElem?_eq_none h'] at hc
    exact ⟨rfl, ⟨⟨_, by rw [hh]; exact hc, hv.far hff hhi⟩, fun j hj => by rw [hff.cell nb _ (by omega)]; exact hs.nodes j hj, hs.inn, hlo, hhi, hs.max⟩, hff, hb.mono (by omega)⟩
  | cons k r =>
    obtain ⟨a, cap, rfl, h1, h2, h3⟩ := hv.ex
    obtain ⟨b, o, rfl, hbB, hcell⟩ := h3 (by simp)
    have hk : k < l.length := hs.inn k (by simp)
    have hv' : IntsV w' B (.slice (some ⟨b, o, none⟩) ((r.map fun k : Nat => (k : Int)).length + 1) cap) ((k : Int) :: r.map fun k : Nat => (k : Int)) := hv
    obtain ⟨a', cap', hsl, htl⟩ := slice_tail hv'
    have hk0 := hcell 0 (by simp)
    simp only [List.map_cons, List.getElem_cons_zero, Nat.add_zero] at hk0
    have hkd := hs.nodes k hk
    refine (H w' hf b o _ cap k (kdN l k) m a' _ cap' hc hk0 hkd hk hs.max (by simp) h1 h2 hsl).mono ?_
    rintro e w'' ⟨rfl, hc', hff, hb⟩
    refine ⟨rfl, ⟨?_, fun j hj => by rw [hff.cell nb _ (by omega)]; exact hs.nodes j hj, fun x hx => hs.inn x (mayL_in hx), hlo, hhi, hs.max⟩, hff, hb⟩
    refine ⟨_, hc', ?_⟩
    unfold mayL
    simp only [Function.comp_apply]
    have v1 := hv.far hff hhi
    have v2 := htl.far hff hhi
    by_cases hp : p (kdN l k) = true
    · rw [if_pos hp, hp]; exact v2
    · have hp' : p (kdN l k) = false := by simpa using hp
      rw [if_neg hp, hp']; exact v1

theorem cls_type (c B nb no nc : Nat) (l : List Nd) (w : World) : Cls (.func (.func 28) #[] #[]) (typI ∘ kdN l) c B nb no nc l w :=
  cls_of fun w' hf b o len cap k kd m a' len' cap' h1 h2 h3 h4 h5 h6 h7 h8 h9 => maybeType_some c b o nb no _ nc len cap k kd m a' len' cap' w' h1 h2 h3 h4 h5 h6 h7 h8 h9
theorem cls_expr (c B nb no nc : Nat) (l : List Nd) (w : World) : Cls (.func (.func 30) #[] #[]) (exprI ∘ kdN l) c B nb no nc l w :=
  cls_of fun w' hf b o len cap k kd m a' len' cap' h1 h2 h3 h4 h5 h6 h7 h8 h9 => maybeExpr_some c b o nb no _ nc len cap k kd m a' len' cap' w' h1 h2 h3 h4 h5 h6 h7 h8 h9
theorem cls_stat (c B nb no nc : Nat) (l : List Nd) (w : World) : Cls (.func (.func 32) #[] #[]) (statI ∘ kdN l) c B nb no nc l w :=
  cls_of fun w' hf b o len cap k kd m a' len' cap' h1 h2 h3 h4 h5 h6 h7 h8 h9 => maybeStat_some c b o nb no _ nc len cap k kd m a' len' cap' w' h1 h2 h3 h4 h5 h6 h7 h8 h9
theorem cls_arm (c B nb no nc : Nat) (l : List Nd) (w : World) : Cls (.func (.func 46) #[] #[]) (armI ∘ kdN l) c B nb no nc l w :=
  cls_of fun w' hf b o len cap k kd m a' len' cap' h1 h2 h3 h4 h5 h6 h7 h8 h9 => maybeArm_some c b o nb no _ nc len cap k kd m a' len' cap' w' h1 h2 h3 h4 h5 h6 h7 h8 h9
theorem cls_else (c B nb no nc : Nat) (l : List Nd) (w : World) : Cls (.func (.func 45) #[] #[]) (elseI ∘ kdN l) c B nb no nc l w :=
  cls_of fun w' hf b o len cap k kd m a' len' cap' h1 h2 h3 h4 h5 h6 h7 h8 h9 => maybeElse_some c b o nb no _ nc len cap k kd m a' len' cap' w' h1 h2 h3 h4 h5 h6 h7 h8 h9
theorem cls_just (a : Int) (g c B nb no nc : Nat) (l : List Nd) (w : World) (hg : w.cell? ⟨g, 0, none⟩ = some (.int .i64 a)) (hgc : g ≠ c) : Cls (.func (.func 72) #[] #[.pointer (some ⟨g, 0, none⟩)]) (justI a ∘ kdN l) c B nb no nc l w :=
  cls_of fun w' hf b o len cap k kd m a' len' cap' h1 h2 h3 h4 h5 h6 h7 h8 h9 => maybeJust_some c b o nb no _ nc len cap k kd m a' len' cap' w' a g (by rw [hf.cell g 0 hgc]; exact hg) hgc h1 h2 h3 h4 h5 h6 h7 h8 h9

set_option maxHeartbeats 1000000 in
theorem one_any (fv : Value) (q : Nat → Bool) (c B nb no nc : Nat) (l : List Nd) (ks : List Nat) (m : Bool) (w : World) (HC : Bx (Cls fv q c B nb no nc l w)) (hs : CurS w c B nb no nc l ks m) :
    Calls Tryz.prog 41 #[.pointer (some ⟨c, 0, none⟩), fv] w fun e w' => e = .returned (.tuple #[]) ∧ CurS w' c B nb no nc l (cOne q (ks, m)).1 (cOne q (ks, m)).2 ∧ Far c w w' ∧ Below c w w' := by
  have HM : Bx _ := ⟨HC.out w ks m (Far.refl c w) hs⟩
  cases ht : took q ks
  · go_enter Tryz.func41, Tryz.ntmps41
    go_wp2_with (first | (go_at_call 44; refine Calls.mono HM.out ?_; rintro e w1 ⟨rfl, hs1, hf1, hb1⟩; obtain ⟨k2, f2, hlt1, _⟩ := hs1.facts))
    go_end0
    refine ⟨rfl, ?_, ?_, ?_⟩
    · have := hs1.missed true
      simpa [cOne, ht] using this
    · exact hf1.trans fun x hx => heap_setCell_other w1 ⟨c, 2, none⟩ x _ hx
    · exact Below.setCell (p := ⟨c, 2, none⟩) hb1 (Nat.le_refl _) _
  · go_enter Tryz.func41, Tryz.ntmps41
    go_wp2_with (first | (go_at_call 44; refine Calls.mono HM.out ?_; rintro e w1 ⟨rfl, hs1, hf1, hb1⟩))
    go_end0
    exact ⟨rfl, by simpa [cOne, ht] using hs1, hf1, hb1⟩

theorem dropW_took {q : Nat → Bool} {ks : List Nat} (h : took q ks = true) : ks.dropWhile q = (mayL q ks).dropWhile q ∧ (mayL q ks).length < ks.length := by
  cases ks with
  | nil => cases h
  | cons k r =>
    have h : q k = true := h
    simp [mayL, List.dropWhile, h]
theorem dropW_none {q : Nat → Bool} {ks : List Nat} (h : took q ks = false) : ks.dropWhile q = ks ∧ mayL q ks = ks := by
  cases ks with
  | nil => exact ⟨rfl, rfl⟩
  | cons k r =>
    have h : q k = false := h
    simp [mayL, List.dropWhile, h]

set_option maxHeartbeats 1000000 in
theorem many_any (fv : Value) (q : Nat → Bool) (c B nb no nc : Nat) (l : List Nd) (ks : List Nat) (m : Bool) (w : World) (HC : Bx (Cls fv q c B nb no nc l w)) (hs : CurS w c B nb no nc l ks m) :
    Calls Tryz.prog 42 #[.pointer (some ⟨c, 0, none⟩), fv] w fun e w' => e = .returned (.tuple #[]) ∧ CurS w' c B nb no nc l (cMany q (ks, m)).1 m ∧ Far c w w' ∧ Below c w w' := by
  have HS : Bx _ := ⟨hs⟩
  clear hs
  go_enter Tryz.func42, Tryz.ntmps42
  go_wp2_with fail
  go_loopg [] (ks.length) (fun n wr => ∃ g : List Nat, n = g.length ∧ Bx (CurS wr c B nb no nc l g m ∧ Far c w wr ∧ Below c w wr ∧ ks.dropWhile q = g.dropWhile q))
  case atStart => exact ⟨ks, rfl, ⟨HS.out, Far.refl _ _, Below.refl _ _, rfl⟩⟩
  case round =>
    obtain ⟨g, hgk, HR⟩ := hrel
    have HM : Bx _ := ⟨HC.out wr g m HR.out.2.1 HR.out.1⟩
    cases ht : took q g
    · have hd := dropW_none ht
      go_wp2_with (first | (go_at_call 44; refine Calls.mono HM.out ?_; rintro e w1 ⟨rfl, hs1, hf1, hb1⟩))
      go_end0
      obtain ⟨r1, r2, r3, r4⟩ := HR.out
      refine ⟨rfl, ?_, r2.trans hf1, r3.trans hb1⟩
      simp only [cMany]
      rw [r4, hd.1]
      rw [hd.2] at hs1
      exact hs1
    · have hd := dropW_took ht
      go_wp2_with (first | (go_at_call 44; refine Calls.mono HM.out ?_; rintro e w1 ⟨rfl, hs1, hf1, hb1⟩))
      go_roundg (mayL q g).length
      case measure => omega
      case rel =>
        obtain ⟨r1, r2, r3, r4⟩ := HR.out
        exact ⟨mayL q g, rfl, ⟨hs1, r2.trans hf1, r3.trans hb1, by rw [r4, hd.1]⟩⟩
end Go.Proofs.YtecodpdfckjalaaGreatDoor
namespace Go.Proofs.YtecodpdfckjalaaGreatDoor
open Go.RowKit
set_option linter.unusedVariables false
set_option linter.unusedSimpArgs false

/-- kidsFit at work: the cursor, the node's box -/
structure KSt (w : World) (nb no nc : Nat) (l : List Nd) (num : Int) (W : World) (s : List Nat × Bool) : Prop where
  cur : CurS W (w.heap.size + 1) w.heap.size nb no nc l s.1 s.2
  bel : Below w.heap.size w W
  box : W.cell? ⟨w.heap.size, 4, none⟩ = some (.int .i64 num)
theorem KSt.step {w : World} {nb no nc : Nat} {l : List Nd} {num : Int} {W W' : World} {s s' : List Nat × Bool} (h : KSt w nb no nc l num W s) (hs : CurS W' (w.heap.size + 1) w.heap.size nb no nc l s'.1 s'.2) (hf : Far (w.heap.size + 1) W W') (hb : Below (w.heap.size + 1) W W') : KSt w nb no nc l num W' s' :=
  ⟨hs, h.bel.trans (hb.mono (by omega)), by rw [hf.cell _ _ (by omega)]; exact h.box⟩
theorem CurS.alloc {w : World} {c B nb no nc : Nat} {l : List Nd} {ks : List Nat} {m : Bool} (h : CurS w c B nb no nc l ks m) (o : Obj) : CurS (w.alloc o) c B nb no nc l ks m := by
  obtain ⟨left, hc, hv⟩ := h.left
  obtain ⟨_, _, hlt, _⟩ := h.facts
  have hb : Below w.heap.size w (w.alloc o) := below1 w o
  have h1 := h.lo
  have h2 := h.hi
  exact ⟨⟨left, by rw [hb.block c hlt]; exact hc, hv.below (hb.mono (by omega))⟩, fun j hj => by rw [hb.cell (p := ⟨nb, _, none⟩) (by simp; omega)]; exact h.nodes j hj, h.inn, h1, h2, h.max⟩
theorem KSt.alloc {w : World} {nb no nc : Nat} {l : List Nd} {num : Int} {W : World} {s : List Nat × Bool} (h : KSt w nb no nc l num W s) (o : Obj) : KSt w nb no nc l num (W.alloc o) s := by
  obtain ⟨_, _, hlt, _⟩ := h.cur.facts
  exact ⟨h.cur.alloc o, h.bel.trans ((below1 W o).mono (by omega)), by rw [(below1 W o).cell (p := ⟨w.heap.size, 4, none⟩) (by simp; omega)]; exact h.box⟩

/-- what a call leaves, in the walk's own words -/
structure KGot (w : World) (nb no nc : Nat) (l : List Nd) (num : Int) (W : World) (s : List Nat × Bool) (a : Option Addr) (cap n : Nat) (m : Bool) : Prop where
  st : KSt w nb no nc l num W s
  n_ : s.1.length = n
  m_ : s.2 = m
def KPost (w : World) (nb no nc : Nat) (l : List Nd) (num : Int) (s : List Nat × Bool) (W : World) : Prop :=
  ∃ a cap n m, KGot w nb no nc l num W s a cap n m ∧ W.cell? ⟨w.heap.size, 4, none⟩ = some (.int .i64 num) ∧ W.cell? ⟨w.heap.size + 1, 2, none⟩ = some (.bool m) ∧ W.cell? ⟨w.heap.size + 1, 1, none⟩ = some (.slice a n cap) ∧ w.heap.size + 1 < W.heap.size
theorem KSt.post {w : World} {nb no nc : Nat} {l : List Nd} {num : Int} {W : World} {s : List Nat × Bool} (h : KSt w nb no nc l num W s) : KPost w nb no nc l num s W := by
  obtain ⟨h2, _, hlt, a, cap, h1⟩ := h.cur.facts
  exact ⟨a, cap, _, _, ⟨h, rfl, rfl⟩, h.box, h2, h1, hlt⟩

theorem k_one (fv : Value) (q : Nat → Bool) {w : World} {nb no nc : Nat} {l : List Nd} {num : Int} {W : World} {s : List Nat × Bool} {a : Option Addr} {cap n : Nat} {m : Bool} (hc : Cls fv q (w.heap.size + 1) w.heap.size nb no nc l W) (h : KGot w nb no nc l num W s a cap n m) :
    Calls Tryz.prog 41 #[.pointer (some ⟨w.heap.size + 1, 0, none⟩), fv] W fun e W' => e = .returned (.tuple #[]) ∧ KPost w nb no nc l num (cOne q s) W' := by
  refine (one_any fv q _ _ nb no nc l s.1 s.2 W ⟨hc⟩ h.st.cur).mono ?_
  rintro e W' ⟨rfl, h1, h2, h3⟩
  exact ⟨rfl, (h.st.step h1 h2 h3).post⟩
theorem k_many (fv : Value) (q : Nat → Bool) {w : World} {nb no nc : Nat} {l : List Nd} {num : Int} {W : World} {s : List Nat × Bool} {a : Option Addr} {cap n : Nat} {m : Bool} (hc : Cls fv q (w.heap.size + 1) w.heap.size nb no nc l W) (h : KGot w nb no nc l num W s a cap n m) :
    Calls Tryz.prog 42 #[.pointer (some ⟨w.heap.size + 1, 0, none⟩), fv] W fun e W' => e = .returned (.tuple #[]) ∧ KPost w nb no nc l num (cMany q s) W' := by
  refine (many_any fv q _ _ nb no nc l s.1 s.2 W ⟨hc⟩ h.st.cur).mono ?_
  rintro e W' ⟨rfl, h1, h2, h3⟩
  exact ⟨rfl, (h.st.step (s' := cMany q s) h1 h2 h3).post⟩
theorem k_maybe (fv : Value) (q : Nat → Bool) {w : World} {nb no nc : Nat} {l : List Nd} {num : Int} {W : World} {s : List Nat × Bool} {a : Option Addr} {cap n : Nat} {m : Bool} (hc : Cls fv q (w.heap.size + 1) w.heap.size nb no nc l W) (h : KGot w nb no nc l num W s a cap n m) :
    Calls Tryz.prog 44 #[.pointer (some ⟨w.heap.size + 1, 0, none⟩), fv] W fun e W' => ∃ b, e = .returned (.bool b) ∧ KPost w nb no nc l num (cMay q s) W' := by
  refine (hc W s.1 s.2 (Far.refl _ _) h.st.cur).mono ?_
  rintro e W' ⟨rfl, h1, h2, h3⟩
  exact ⟨_, rfl, (h.st.step (s' := cMay q s) h1 h2 h3).post⟩
theorem k_just (b : Int) {w : World} {nb no nc : Nat} {l : List Nd} {num : Int} {W : World} {s : List Nat × Bool} {a : Option Addr} {cap n : Nat} {m : Bool} (h : KGot w nb no nc l num W s a cap n m) :
    Calls Tryz.prog 43 #[.int .i64 b] W fun e W' => ∃ g, e = .returned (.func (.func 72) #[] #[.pointer (some ⟨g, 0, none⟩)]) ∧ Cls (.func (.func 72) #[] #[.pointer (some ⟨g, 0, none⟩)]) (justI b ∘ kdN l) (w.heap.size + 1) w.heap.size nb no nc l W' ∧ KPost w nb no nc l num s W' := by
  refine (just_any b W).mono ?_
  rintro e W' ⟨rfl, rfl⟩
  obtain ⟨_, _, hlt, _⟩ := h.st.cur.facts
  exact ⟨_, rfl, cls_just b _ _ _ _ _ _ _ _ (by simp) (by omega), (h.st.alloc _).post⟩
end Go.Proofs.YtecodpdfckjalaaGreatDoor
namespace Go.Proofs.YtecodpdfckjalaaGreatDoor
open Go.RowKit
set_option linter.unusedVariables false
set_option linter.unusedSimpArgs false

/-- the world in which the kids are taken -/
def kW (w : World) (ka : Option Addr) (kc nb no nc N : Nat) (k p num : Int) (nk : Nat) (nm : ByteArray) : World :=
  (w.alloc (.cells #[.int .i64 k, .int .i64 p, .slice ka nk kc, .string nm, .int .i64 num] 44)).alloc (.cells #[.slice (some ⟨nb, no, none⟩) N nc, .slice ka nk kc, .bool false] 79)

theorem kst0 (w : World) (ka : Option Addr) (kc nb no nc : Nat) (l : List Nd) (k p num : Int) (ks : List Nat) (nm : ByteArray) (hnb : nb < w.heap.size) (hl : l.length ≤ maxLen)
    (hk : IntsV w w.heap.size (.slice ka ks.length kc) (ks.map fun k : Nat => (k : Int))) (hn : ∀ j, j < l.length → w.cell? ⟨nb, no + j * 5, none⟩ = some (.int .i64 (kdN l j))) (hin : ∀ k ∈ ks, k < l.length) :
    KSt w nb no nc l num (kW w ka kc nb no nc l.length k p num ks.length nm) (ks, false) := by
  have hb : Below w.heap.size w (kW w ka kc nb no nc l.length k p num ks.length nm) := (below1 w _).alloc (by simp) _
  refine ⟨⟨⟨.slice ka ks.length kc, ?_, hk.below hb⟩, fun j hj => by rw [hb.cell (p := ⟨nb, _, none⟩) hnb]; exact hn j hj, hin, hnb, by omega, hl⟩, hb, ?_⟩
  · have := heap_alloc_new (w.alloc (.cells #[.int .i64 k, .int .i64 p, .slice ka ks.length kc, .string nm, .int .i64 num] 44)) (.cells #[.slice (some ⟨nb, no, none⟩) l.length nc, .slice ka ks.length kc, .bool false] 79)
    simpa [kW, curO] using this
  · unfold kW
    rw [(below1 (w.alloc _) _).cell (p := ⟨w.heap.size, 4, none⟩) (by simp)]
    simp

/-- what kidsFit answers -/
def KFit (w : World) (ka : Option Addr) (kc nb no nc : Nat) (l : List Nd) (k p num : Int) (ks : List Nat) (nm : ByteArray) : Prop :=
  Calls Tryz.prog 26 #[.slice (some ⟨nb, no, none⟩) l.length nc, .agg #[.int .i64 k, .int .i64 p, .slice ka ks.length kc, .string nm, .int .i64 num]] w fun e w' => e = .returned (.bool (kidsFitI (kdN l) k num ks)) ∧ Below w.heap.size w w'

theorem fit_of {w : World} {nb no nc : Nat} {l : List Nd} {num : Int} {W : World} {s : List Nat × Bool} {a : Option Addr} {cap n : Nat} {m : Bool} (h : KGot w nb no nc l num W s a cap n m) : fitS s = (!m && ((n : Int) == 0)) := by
  unfold fitS
  rw [h.m_, h.n_]
  congr 1
  rw [Bool.eq_iff_iff]
  simp
theorem kfit_end {w : World} {nb no nc : Nat} {l : List Nd} {num : Int} {W : World} {s : List Nat × Bool} {a : Option Addr} {cap n : Nat} {m X F : Bool} {k : Int} {ks : List Nat} (h : KGot w nb no nc l num W s a cap n m) (HF : Bx (kidsFitI (kdN l) k num ks = F)) (hs : kidsRun (kdN l) k num (ks, false) = s) (hx : X = (!m && ((n : Int) == 0))) :
    Ending.returned (.bool X) = Ending.returned (.bool F) ∧ Below w.heap.size w W := by
  refine ⟨ret_bool ?_, h.st.bel⟩
  rw [← HF.out, kidsFitI, hs, fit_of h, hx]
end Go.Proofs.YtecodpdfckjalaaGreatDoor
namespace Go.Proofs.YtecodpdfckjalaaGreatDoor
open Go.RowKit
set_option linter.unusedVariables false
set_option linter.unusedSimpArgs false

/-! ### a switch's blocks, one in the other, as one table (the walk's own step at them doubles with each) -/
def Sw : List (Nat × (Act → World → Prop)) → (Exit → Act → World → Prop) → Exit → Act → World → Prop
  | [], Q, e, a, w => Q e a w
  | (id, K) :: ps, Q, e, a, w => match e with
    | .normal => K a w
    | .exit j => if j = id then K a w else Sw ps Q (.exit j) a w
    | e => Sw ps Q e a w
theorem sw_in0 {id : Nat} {K : Act → World → Prop} {Q : Exit → Act → World → Prop} (e : Exit) (a : Act) (w : World) (h : Sw [(id, K)] Q e a w) : Exit.inBlock id (Exit.then K Q) e a w := by
  cases e with
  | exit j =>
    simp only [Sw] at h
    simp only [Exit.inBlock]
    split
    · rename_i hj; rw [if_pos hj] at h; exact h
    · rename_i hj; rw [if_neg hj] at h; exact h
  | _ => exact h
theorem sw_in {id : Nat} {K : Act → World → Prop} {ps : List (Nat × (Act → World → Prop))} {Q : Exit → Act → World → Prop} (e : Exit) (a : Act) (w : World) (h : Sw ((id, K) :: ps) Q e a w) : Exit.inBlock id (Exit.then K (Sw ps Q)) e a w := by
  cases e with
  | exit j =>
    simp only [Sw] at h
    simp only [Exit.inBlock]
    split
    · rename_i hj; rw [if_pos hj] at h; exact h
    · rename_i hj; rw [if_neg hj] at h; exact h
  | _ => exact h
def swLook : List (Nat × (Act → World → Prop)) → Nat → Option (Act → World → Prop)
  | [], _ => none
  | (id, K) :: ps, j => if j = id then some K else swLook ps j
theorem sw_exit {K : Act → World → Prop} {Q : Exit → Act → World → Prop} {j : Nat} {a : Act} {w : World} : ∀ {ps : List (Nat × (Act → World → Prop))}, swLook ps j = some K → K a w → Sw ps Q (.exit j) a w
  | [], h, _ => by cases h
  | (id, K') :: ps, h, hk => by
    simp only [swLook] at h
    simp only [Sw]
    by_cases hj : j = id
    · rw [if_pos hj] at h ⊢
      cases h
      exact hk
    · rw [if_neg hj] at h ⊢
      exact sw_exit h hk
theorem sw_out {Q : Exit → Act → World → Prop} {j : Nat} {a : Act} {w : World} : ∀ {ps : List (Nat × (Act → World → Prop))}, swLook ps j = none → Q (.exit j) a w → Sw ps Q (.exit j) a w
  | [], h, hk => hk
  | (id, K') :: ps, h, hk => by
    simp only [swLook] at h
    simp only [Sw]
    by_cases hj : j = id
    · rw [if_pos hj] at h; cases h
    · rw [if_neg hj] at h ⊢
      exact sw_out h hk
theorem sw_normal {id : Nat} {K : Act → World → Prop} {ps : List (Nat × (Act → World → Prop))} {Q : Exit → Act → World → Prop} {a : Act} {w : World} (h : K a w) : Sw ((id, K) :: ps) Q .normal a w := h
theorem sw_ret {Q : Exit → Act → World → Prop} {a : Act} {w : World} (h : Q .ret a w) : ∀ {ps : List (Nat × (Act → World → Prop))}, Sw ps Q .ret a w
  | [] => h
  | (id, K') :: ps => sw_ret h (ps := ps)
end Go.Proofs.YtecodpdfckjalaaGreatDoor
namespace Go.Proofs.YtecodpdfckjalaaGreatDoor
set_option linter.unusedVariables false
theorem kidsRun_1 {α : Type} (f : α → Int) (num : Int) (s : List α × Bool) : kidsRun f 1 num s = s := by simp [kidsRun]
theorem kidsRun_2 {α : Type} (f : α → Int) (num : Int) (s : List α × Bool) : kidsRun f 2 num s = s := by simp [kidsRun]
theorem kidsRun_3 {α : Type} (f : α → Int) (num : Int) (s : List α × Bool) : kidsRun f 3 num s = s := by simp [kidsRun]
theorem kidsRun_4 {α : Type} (f : α → Int) (num : Int) (s : List α × Bool) : kidsRun f 4 num s = cOne (typI ∘ f) (s) := by simp [kidsRun]
theorem kidsRun_5 {α : Type} (f : α → Int) (num : Int) (s : List α × Bool) : kidsRun f 5 num s = cMany (typI ∘ f) (cOne (typI ∘ f) (cOne (typI ∘ f) (s))) := by simp [kidsRun]
theorem kidsRun_6 {α : Type} (f : α → Int) (num : Int) (s : List α × Bool) : kidsRun f 6 num s = cOne (typI ∘ f) (s) := by simp [kidsRun]
theorem kidsRun_7 {α : Type} (f : α → Int) (num : Int) (s : List α × Bool) : kidsRun f 7 num s = cMany (typI ∘ f) (s) := by simp [kidsRun]
theorem kidsRun_11 {α : Type} (f : α → Int) (num : Int) (s : List α × Bool) : kidsRun f 11 num s = s := by simp [kidsRun]
theorem kidsRun_12 {α : Type} (f : α → Int) (num : Int) (s : List α × Bool) : kidsRun f 12 num s = s := by simp [kidsRun]
theorem kidsRun_13 {α : Type} (f : α → Int) (num : Int) (s : List α × Bool) : kidsRun f 13 num s = s := by simp [kidsRun]
theorem kidsRun_14 {α : Type} (f : α → Int) (num : Int) (s : List α × Bool) : kidsRun f 14 num s = cOne (exprI ∘ f) (s) := by simp [kidsRun]
theorem kidsRun_15 {α : Type} (f : α → Int) (num : Int) (s : List α × Bool) : kidsRun f 15 num s = cMany (exprI ∘ f) (cOne (exprI ∘ f) (cOne (exprI ∘ f) (s))) := by simp [kidsRun]
theorem kidsRun_16 {α : Type} (f : α → Int) (num : Int) (s : List α × Bool) : kidsRun f 16 num s = cMany (exprI ∘ f) (cOne (exprI ∘ f) (s)) := by simp [kidsRun]
theorem kidsRun_17 {α : Type} (f : α → Int) (num : Int) (s : List α × Bool) : kidsRun f 17 num s = cOne (exprI ∘ f) (cOne (exprI ∘ f) (s)) := by simp [kidsRun]
theorem kidsRun_18 {α : Type} (f : α → Int) (num : Int) (s : List α × Bool) : kidsRun f 18 num s = cOne (exprI ∘ f) (s) := by simp [kidsRun]
theorem kidsRun_19 {α : Type} (f : α → Int) (num : Int) (s : List α × Bool) : kidsRun f 19 num s = cOne (justI 6 ∘ f) (s) := by simp [kidsRun]
theorem kidsRun_21 {α : Type} (f : α → Int) (num : Int) (s : List α × Bool) : kidsRun f 21 num s = cOne (exprI ∘ f) (s) := by simp [kidsRun]
theorem kidsRun_22 {α : Type} (f : α → Int) (num : Int) (s : List α × Bool) : kidsRun f 22 num s = cOne (exprI ∘ f) (cOne (exprI ∘ f) (s)) := by simp [kidsRun]
theorem kidsRun_23 {α : Type} (f : α → Int) (num : Int) (s : List α × Bool) : kidsRun f 23 num s = cMany (exprI ∘ f) (cOne (exprI ∘ f) (s)) := by simp [kidsRun]
theorem kidsRun_24 {α : Type} (f : α → Int) (num : Int) (s : List α × Bool) : kidsRun f 24 num s = cOne (exprI ∘ f) (cOne (exprI ∘ f) (s)) := by simp [kidsRun]
theorem kidsRun_25 {α : Type} (f : α → Int) (num : Int) (s : List α × Bool) : kidsRun f 25 num s = cOne (exprI ∘ f) (s) := by simp [kidsRun]
theorem kidsRun_31 {α : Type} (f : α → Int) (num : Int) (s : List α × Bool) : kidsRun f 31 num s = cOne (exprI ∘ f) (s) := by simp [kidsRun]
theorem kidsRun_32 {α : Type} (f : α → Int) (num : Int) (s : List α × Bool) : kidsRun f 32 num s = cMay (exprI ∘ f) (cOne (typI ∘ f) (s)) := by simp [kidsRun]
theorem kidsRun_33 {α : Type} (f : α → Int) (num : Int) (s : List α × Bool) : kidsRun f 33 num s = cOne (exprI ∘ f) (cOne (exprI ∘ f) (s)) := by simp [kidsRun]
theorem kidsRun_34 {α : Type} (f : α → Int) (num : Int) (s : List α × Bool) : kidsRun f 34 num s = cOne (exprI ∘ f) (cOne (exprI ∘ f) (s)) := by simp [kidsRun]
theorem kidsRun_35 {α : Type} (f : α → Int) (num : Int) (s : List α × Bool) : kidsRun f 35 num s = cOne (exprI ∘ f) (s) := by simp [kidsRun]
theorem kidsRun_36 {α : Type} (f : α → Int) (num : Int) (s : List α × Bool) : kidsRun f 36 num s = cMay (elseI ∘ f) (cOne (justI 41 ∘ f) (cOne (exprI ∘ f) (s))) := by simp [kidsRun]
theorem kidsRun_37 {α : Type} (f : α → Int) (num : Int) (s : List α × Bool) : kidsRun f 37 num s = cOne (justI 41 ∘ f) (cOne (exprI ∘ f) (s)) := by simp [kidsRun]
theorem kidsRun_38 {α : Type} (f : α → Int) (num : Int) (s : List α × Bool) : kidsRun f 38 num s = cMay (exprI ∘ f) (s) := by simp [kidsRun]
theorem kidsRun_39 {α : Type} (f : α → Int) (num : Int) (s : List α × Bool) : kidsRun f 39 num s = cOne (exprI ∘ f) (s) := by simp [kidsRun]
theorem kidsRun_40 {α : Type} (f : α → Int) (num : Int) (s : List α × Bool) : kidsRun f 40 num s = cMany (armI ∘ f) (s) := by simp [kidsRun]
theorem kidsRun_41 {α : Type} (f : α → Int) (num : Int) (s : List α × Bool) : kidsRun f 41 num s = cMany (statI ∘ f) (s) := by simp [kidsRun]
theorem kidsRun_42 {α : Type} (f : α → Int) (num : Int) (s : List α × Bool) : kidsRun f 42 num s = cOne (typI ∘ f) (s) := by simp [kidsRun]
theorem kidsRun_43 {α : Type} (f : α → Int) (num : Int) (s : List α × Bool) : kidsRun f 43 num s = cOne (justI 41 ∘ f) (cOne (exprI ∘ f) (s)) := by simp [kidsRun]
theorem kidsRun_44 {α : Type} (f : α → Int) (num : Int) (s : List α × Bool) : kidsRun f 44 num s = cOne (justI 41 ∘ f) (cOne (exprI ∘ f) (cOne (exprI ∘ f) (s))) := by simp [kidsRun]
theorem kidsRun_45 {α : Type} (f : α → Int) (num : Int) (s : List α × Bool) : kidsRun f 45 num s = cOne (typI ∘ f) (s) := by simp [kidsRun]
theorem kidsRun_46 {α : Type} (f : α → Int) (num : Int) (s : List α × Bool) : kidsRun f 46 num s = cMany (statI ∘ f) (cIter (justI 45 ∘ f) num.toNat s) := by simp [kidsRun]
theorem kidsRun_20y {α : Type} (f : α → Int) (num : Int) (s : List α × Bool) (h : num = 1) : kidsRun f 20 num s = cOne (justI 41 ∘ f) (cOne (typI ∘ f) (cMany (justI 42 ∘ f) s)) := by simp [kidsRun, h]
theorem kidsRun_20n {α : Type} (f : α → Int) (num : Int) (s : List α × Bool) (h : ¬ num = 1) : kidsRun f 20 num s = cOne (justI 41 ∘ f) (cMany (justI 42 ∘ f) s) := by simp [kidsRun, h]
end Go.Proofs.YtecodpdfckjalaaGreatDoor
