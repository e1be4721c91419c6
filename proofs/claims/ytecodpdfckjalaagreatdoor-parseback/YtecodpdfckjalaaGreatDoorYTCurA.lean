import Derived.Test.YtecodpdfckjalaaGreatDoorYTCur2
import Derived.Test.YtecodpdfckjalaaGreatDoorYTCur3
import Derived.Deep.LoopGhost
import Derived.BigFrame
import Derived.Test.YtecodpdfckjalaaGreatDoorYCovQ
import Derived.Deep.Cut
import Derived.Deep.CutBlock
set_option linter.unusedVariables false
set_option linter.unusedSimpArgs false
set_option maxHeartbeats 4000000
set_option maxRecDepth 100000
namespace Go.Proofs.YtecodpdfckjalaaGreatDoor
open Go.RowKit
theorem aO.far {w w' : World} {c B : Nat} {v : Value} {ks : List Int} (h : aO w B v ks) (hf : Far c w w') (hB : B <= c) : aO w' B v ks := by
 obtain ⟨a, cap, h1, h2, h3, h4⟩ := h.ex
 refine ⟨a, cap, h1, h2, h3, fun h0 => ?_⟩
 obtain ⟨b, o, e1, e2, e3⟩ := h4 h0
 exact ⟨b, o, e1, e2, fun i hi => by rw [hf.cell b _ (by omega)]; exact e3 i hi⟩
theorem aO.below {w w' : World} {B : Nat} {v : Value} {ks : List Int} (h : aO w B v ks) (hb : Below B w w') : aO w' B v ks := by
 obtain ⟨a, cap, h1, h2, h3, h4⟩ := h.ex
 refine ⟨a, cap, h1, h2, h3, fun h0 => ?_⟩
 obtain ⟨b, o, e1, e2, e3⟩ := h4 h0
 exact ⟨b, o, e1, e2, fun i hi => by rw [hb.cell (p := ⟨b, o + i, none⟩) e2]; exact e3 i hi⟩
structure kV (w : World) (c B nb no nc : Nat) (l : List Nd) (ks : List Nat) (m : Bool) : Prop where
 left : ∃ left, w.heap[c]? = some (fH (.slice (some ⟨nb, no, none⟩) l.length nc) left m) /\ aO w B left (ks.map fun k : Nat => (k : Int))
 nodes : ∀ j, j < l.length -> w.cell? ⟨nb, no + j * 5, none⟩ = some (.int .i64 (kdN l j))
 inn : ∀ k ∈ ks, k < l.length
 lo : nb < B
 hi : B <= c
 max : l.length <= maxLen
theorem kV.facts {w : World} {c B nb no nc : Nat} {l : List Nd} {ks : List Nat} {m : Bool} (h : kV w c B nb no nc l ks m) :
  w.cell? ⟨c, 2, none⟩ = some (.bool m) /\ w.frozen? ⟨c, 2, none⟩ = false /\ c < w.heap.size /\ ∃ a cap, w.cell? ⟨c, 1, none⟩ = some (.slice a ks.length cap) := by
 obtain ⟨left, hc, hv⟩ := h.left
 obtain ⟨a, cap, rfl, _⟩ := hv.ex
 have h2 : w.cell? ⟨c, 2, none⟩ = some (.bool m) := by simp [World.cell?, hc, fH]
 exact ⟨h2, by simp [World.frozen?, hc, fH], World.block_lt_of_cell? w _ h2, a, cap, by simp [World.cell?, hc, fH]⟩
theorem kV.missed {w : World} {c B nb no nc : Nat} {l : List Nd} {ks : List Nat} {m : Bool} (h : kV w c B nb no nc l ks m) (b : Bool) : kV (w.setCell ⟨c, 2, none⟩ (.bool b)) c B nb no nc l ks b := by
 obtain ⟨left, hc, hv⟩ := h.left
 have hf : Far c w (w.setCell ⟨c, 2, none⟩ (.bool b)) := fun x hx => heap_setCell_other w ⟨c, 2, none⟩ x _ hx
 have h1 := h.lo
 have h2 := h.hi
 refine ⟨⟨left, ?_, hv.far hf h2⟩, fun j hj => by rw [hf.cell nb _ (by omega)]; exact h.nodes j hj, h.inn, h1, h2, h.max⟩
 exact heap_setCell_same w c 2 #[.slice (some ⟨nb, no, none⟩) l.length nc, left, .bool m] 79 (.bool b) hc
def Cls (fv : Value) (q : Nat -> Bool) (c B nb no nc : Nat) (l : List Nd) (w : World) : Prop := ∀ w' ks m, Far c w w' -> kV w' c B nb no nc l ks m ->
 Calls Tryz.prog 44 #[.pointer (some ⟨c, 0, none⟩), fv] w' fun e w'' => e = .returned (.bool (took q ks)) /\ kV w'' c B nb no nc l (lI q ks) m /\ Far c w' w'' /\ Below c w' w''
theorem Gq {q : Nat -> Bool} {ks : List Nat} {k : Nat} (h : k ∈ lI q ks) : k ∈ ks := by
 cases ks with
 | nil => exact h
 | cons a r =>
  simp only [lI] at h
  split at h
  ·exact List.mem_cons_of_mem _ h
  ·exact h
theorem oD {fv : Value} {p : Int -> Bool} {c B nb no nc : Nat} {l : List Nd} {w : World}
  (H : ∀ w', Far c w w' -> ∀ (b o len cap k : Nat) (kd : Int) (m : Bool) (a' : Option Addr) (len' cap' : Nat), w'.heap[c]? = some (fH (.slice (some ⟨nb, no, none⟩) l.length nc) (.slice (some ⟨b, o, none⟩) len cap) m) ->
   w'.cell? ⟨b, o, none⟩ = some (.int .i64 k) -> w'.cell? ⟨nb, no + k * 5, none⟩ = some (.int .i64 kd) -> k < l.length -> l.length <= maxLen -> 0 < len -> len <= cap -> len <= maxLen ->
   (∀ W, (Instr.slice 39 (.slice (some ⟨b, o, none⟩) len cap) (some (.int .i64 1)) none none).run Tryz.prog W = .ok (.slice a' len' cap') W) ->
   Calls Tryz.prog 44 #[.pointer (some ⟨c, 0, none⟩), fv] w' fun e w'' => e = .returned (.bool (p kd)) /\ w''.heap[c]? = some (fH (.slice (some ⟨nb, no, none⟩) l.length nc) (cond (p kd) (.slice a' len' cap') (.slice (some ⟨b, o, none⟩) len cap)) m) /\ Far c w' w'' /\ Below c w' w'') :
  Cls fv (p ∘ kdN l) c B nb no nc l w := by
 intro w' ks m hf hs
 obtain ⟨left, hc, hv⟩ := hs.left
 have hlo := hs.lo
 have hhi := hs.hi
 cases ks with
 | nil =>
  obtain ⟨a, cap, rfl, _⟩ := hv.ex
  refine (y9 c _ a cap m fv w' hc).mono ?_
  rintro e w'' ⟨rfl, hh, hb⟩
  have hff : Far c w' w'' := fun b _ => by rw [hh]
  have hlt : c < w'.heap.size := by
   rcases Nat.lt_or_ge c w'.heap.size with h' | h'
   ·exact h'
   ·simp [Array.getElem?_eq_none h'] at hc
  exact ⟨rfl, ⟨⟨_, by rw [hh]; exact hc, hv.far hff hhi⟩, fun j hj => by rw [hff.cell nb _ (by omega)]; exact hs.nodes j hj, hs.inn, hlo, hhi, hs.max⟩, hff, hb.mono (by omega)⟩
 | cons k r =>
  obtain ⟨a, cap, rfl, h1, h2, h3⟩ := hv.ex
  obtain ⟨b, o, rfl, hbB, hcell⟩ := h3 (by simp)
  have hk : k < l.length := hs.inn k (by simp)
  have hv' : aO w' B (.slice (some ⟨b, o, none⟩) ((r.map fun k : Nat => (k : Int)).length + 1) cap) ((k : Int) :: r.map fun k : Nat => (k : Int)) := hv
  obtain ⟨a', cap', hsl, htl⟩ := za hv'
  have hk0 := hcell 0 (by simp)
  simp only [List.map_cons, List.getElem_cons_zero, Nat.add_zero] at hk0
  have hkd := hs.nodes k hk
  refine (H w' hf b o _ cap k (kdN l k) m a' _ cap' hc hk0 hkd hk hs.max (by simp) h1 h2 hsl).mono ?_
  rintro e w'' ⟨rfl, hc', hff, hb⟩
  refine ⟨rfl, ⟨?_, fun j hj => by rw [hff.cell nb _ (by omega)]; exact hs.nodes j hj, fun x hx => hs.inn x (Gq hx), hlo, hhi, hs.max⟩, hff, hb⟩
  refine ⟨_, hc', ?_⟩
  unfold lI
  simp only [Function.comp_apply]
  have v1 := hv.far hff hhi
  have v2 := htl.far hff hhi
  by_cases hp : p (kdN l k) = true
  ·rw [if_pos hp, hp]; exact v2
  ·have hp' : p (kdN l k) = false := by simpa using hp
   rw [if_neg hp, hp']; exact v1
theorem iA (c B nb no nc : Nat) (l : List Nd) (w : World) : Cls (.func (.func 28) #[] #[]) (fF ∘ kdN l) c B nb no nc l w :=
 oD fun w' hf b o len cap k kd m a' len' cap' h1 h2 h3 h4 h5 h6 h7 h8 h9 => qm c b o nb no _ nc len cap k kd m a' len' cap' w' h1 h2 h3 h4 h5 h6 h7 h8 h9
theorem bY (c B nb no nc : Nat) (l : List Nd) (w : World) : Cls (.func (.func 30) #[] #[]) (bq ∘ kdN l) c B nb no nc l w :=
 oD fun w' hf b o len cap k kd m a' len' cap' h1 h2 h3 h4 h5 h6 h7 h8 h9 => qo c b o nb no _ nc len cap k kd m a' len' cap' w' h1 h2 h3 h4 h5 h6 h7 h8 h9
theorem xk (c B nb no nc : Nat) (l : List Nd) (w : World) : Cls (.func (.func 32) #[] #[]) (gL ∘ kdN l) c B nb no nc l w :=
 oD fun w' hf b o len cap k kd m a' len' cap' h1 h2 h3 h4 h5 h6 h7 h8 h9 => qp c b o nb no _ nc len cap k kd m a' len' cap' w' h1 h2 h3 h4 h5 h6 h7 h8 h9
theorem Gr (c B nb no nc : Nat) (l : List Nd) (w : World) : Cls (.func (.func 46) #[] #[]) (om ∘ kdN l) c B nb no nc l w :=
 oD fun w' hf b o len cap k kd m a' len' cap' h1 h2 h3 h4 h5 h6 h7 h8 h9 => tq c b o nb no _ nc len cap k kd m a' len' cap' w' h1 h2 h3 h4 h5 h6 h7 h8 h9
theorem Er (c B nb no nc : Nat) (l : List Nd) (w : World) : Cls (.func (.func 45) #[] #[]) (mV ∘ kdN l) c B nb no nc l w :=
 oD fun w' hf b o len cap k kd m a' len' cap' h1 h2 h3 h4 h5 h6 h7 h8 h9 => qw c b o nb no _ nc len cap k kd m a' len' cap' w' h1 h2 h3 h4 h5 h6 h7 h8 h9
theorem Es (a : Int) (g c B nb no nc : Nat) (l : List Nd) (w : World) (hg : w.cell? ⟨g, 0, none⟩ = some (.int .i64 a)) (hgc : g ≠ c) : Cls (.func (.func 72) #[] #[.pointer (some ⟨g, 0, none⟩)]) (dN a ∘ kdN l) c B nb no nc l w :=
 oD fun w' hf b o len cap k kd m a' len' cap' h1 h2 h3 h4 h5 h6 h7 h8 h9 => qx c b o nb no _ nc len cap k kd m a' len' cap' w' a g (by rw [hf.cell g 0 hgc]; exact hg) hgc h1 h2 h3 h4 h5 h6 h7 h8 h9
theorem Gs (fv : Value) (q : Nat -> Bool) (c B nb no nc : Nat) (l : List Nd) (ks : List Nat) (m : Bool) (w : World) (HC : Bx (Cls fv q c B nb no nc l w)) (hs : kV w c B nb no nc l ks m) :
  Calls Tryz.prog 41 #[.pointer (some ⟨c, 0, none⟩), fv] w fun e w' => e = .returned (.tuple #[]) /\ kV w' c B nb no nc l (bH q (ks, m)).1 (bH q (ks, m)).2 /\ Far c w w' /\ Below c w w' := by
 have HM : Bx _ := ⟨HC.out w ks m (Far.refl c w) hs⟩
 cases ht : took q ks
 ·go_enter Tryz.func41, Tryz.ntmps41
  go_wp2_with (first | (go_at_call 44; refine Calls.mono HM.out ?_; rintro e w1 ⟨rfl, hs1, hf1, hb1⟩; obtain ⟨k2, f2, hlt1, _⟩ := hs1.facts))
  go_end0
  refine ⟨rfl, ?_, ?_, ?_⟩
  ·have := hs1.missed true
   simpa [bH, ht] using this
  ·exact hf1.trans fun x hx => heap_setCell_other w1 ⟨c, 2, none⟩ x _ hx
  ·exact Below.setCell (p := ⟨c, 2, none⟩) hb1 (Nat.le_refl _) _
 ·go_enter Tryz.func41, Tryz.ntmps41
  go_wp2_with (first | (go_at_call 44; refine Calls.mono HM.out ?_; rintro e w1 ⟨rfl, hs1, hf1, hb1⟩))
  go_end0
  exact ⟨rfl, by simpa [bH, ht] using hs1, hf1, hb1⟩
theorem zb {q : Nat -> Bool} {ks : List Nat} (h : took q ks = true) : ks.dropWhile q = (lI q ks).dropWhile q /\ (lI q ks).length < ks.length := by
 cases ks with
 | nil => cases h
 | cons k r =>
  have h : q k = true := h
  simp [lI, List.dropWhile, h]
theorem ze {q : Nat -> Bool} {ks : List Nat} (h : took q ks = false) : ks.dropWhile q = ks /\ lI q ks = ks := by
 cases ks with
 | nil => exact ⟨rfl, rfl⟩
 | cons k r =>
  have h : q k = false := h
  simp [lI, List.dropWhile, h]
theorem Et (fv : Value) (q : Nat -> Bool) (c B nb no nc : Nat) (l : List Nd) (ks : List Nat) (m : Bool) (w : World) (HC : Bx (Cls fv q c B nb no nc l w)) (hs : kV w c B nb no nc l ks m) :
  Calls Tryz.prog 42 #[.pointer (some ⟨c, 0, none⟩), fv] w fun e w' => e = .returned (.tuple #[]) /\ kV w' c B nb no nc l (dZ q (ks, m)).1 m /\ Far c w w' /\ Below c w w' := by
 have HS : Bx _ := ⟨hs⟩
 clear hs
 go_enter Tryz.func42, Tryz.ntmps42
 go_wp2_with fail
 go_loopg [] (ks.length) (fun n wr => ∃ g : List Nat, n = g.length /\ Bx (kV wr c B nb no nc l g m /\ Far c w wr /\ Below c w wr /\ ks.dropWhile q = g.dropWhile q))
 case atStart => exact ⟨ks, rfl, ⟨HS.out, Far.refl _ _, Below.refl _ _, rfl⟩⟩
 case round =>
  obtain ⟨g, hgk, HR⟩ := hrel
  have HM : Bx _ := ⟨HC.out wr g m HR.out.2.1 HR.out.1⟩
  cases ht : took q g
  ·have hd := ze ht
   go_wp2_with (first | (go_at_call 44; refine Calls.mono HM.out ?_; rintro e w1 ⟨rfl, hs1, hf1, hb1⟩))
   go_end0
   obtain ⟨r1, r2, r3, r4⟩ := HR.out
   refine ⟨rfl, ?_, r2.trans hf1, r3.trans hb1⟩
   simp only [dZ]
   rw [r4, hd.1]
   rw [hd.2] at hs1
   exact hs1
  ·have hd := zb ht
   go_wp2_with (first | (go_at_call 44; refine Calls.mono HM.out ?_; rintro e w1 ⟨rfl, hs1, hf1, hb1⟩))
   go_roundg (lI q g).length
   case measure => omega
   case rel =>
    obtain ⟨r1, r2, r3, r4⟩ := HR.out
    exact ⟨lI q g, rfl, ⟨hs1, r2.trans hf1, r3.trans hb1, by rw [r4, hd.1]⟩⟩
structure KSt (w : World) (nb no nc : Nat) (l : List Nd) (num : Int) (W : World) (s : List Nat × Bool) : Prop where
 cur : kV W (w.heap.size + 1) w.heap.size nb no nc l s.1 s.2
 bel : Below w.heap.size w W
 box : W.cell? ⟨w.heap.size, 4, none⟩ = some (.int .i64 num)
theorem KSt.step {w : World} {nb no nc : Nat} {l : List Nd} {num : Int} {W W' : World} {s s' : List Nat × Bool} (h : KSt w nb no nc l num W s) (hs : kV W' (w.heap.size + 1) w.heap.size nb no nc l s'.1 s'.2) (hf : Far (w.heap.size + 1) W W') (hb : Below (w.heap.size + 1) W W') : KSt w nb no nc l num W' s' :=
 ⟨hs, h.bel.trans (hb.mono (by omega)), by rw [hf.cell _ _ (by omega)]; exact h.box⟩
theorem kV.alloc {w : World} {c B nb no nc : Nat} {l : List Nd} {ks : List Nat} {m : Bool} (h : kV w c B nb no nc l ks m) (o : Obj) : kV (w.alloc o) c B nb no nc l ks m := by
 obtain ⟨left, hc, hv⟩ := h.left
 obtain ⟨_, _, hlt, _⟩ := h.facts
 have hb : Below w.heap.size w (w.alloc o) := ah w o
 have h1 := h.lo
 have h2 := h.hi
 exact ⟨⟨left, by rw [hb.block c hlt]; exact hc, hv.below (hb.mono (by omega))⟩, fun j hj => by rw [hb.cell (p := ⟨nb, _, none⟩) (by simp; omega)]; exact h.nodes j hj, h.inn, h1, h2, h.max⟩
theorem KSt.alloc {w : World} {nb no nc : Nat} {l : List Nd} {num : Int} {W : World} {s : List Nat × Bool} (h : KSt w nb no nc l num W s) (o : Obj) : KSt w nb no nc l num (W.alloc o) s := by
 obtain ⟨_, _, hlt, _⟩ := h.cur.facts
 exact ⟨h.cur.alloc o, h.bel.trans ((ah W o).mono (by omega)), by rw [(ah W o).cell (p := ⟨w.heap.size, 4, none⟩) (by simp; omega)]; exact h.box⟩
structure zf (w : World) (nb no nc : Nat) (l : List Nd) (num : Int) (W : World) (s : List Nat × Bool) (a : Option Addr) (cap n : Nat) (m : Bool) : Prop where
 st : KSt w nb no nc l num W s
 n_ : s.1.length = n
 m_ : s.2 = m
def ul (w : World) (nb no nc : Nat) (l : List Nd) (num : Int) (s : List Nat × Bool) (W : World) : Prop :=
 ∃ a cap n m, zf w nb no nc l num W s a cap n m /\ W.cell? ⟨w.heap.size, 4, none⟩ = some (.int .i64 num) /\ W.cell? ⟨w.heap.size + 1, 2, none⟩ = some (.bool m) /\ W.cell? ⟨w.heap.size + 1, 1, none⟩ = some (.slice a n cap) /\ w.heap.size + 1 < W.heap.size
theorem KSt.post {w : World} {nb no nc : Nat} {l : List Nd} {num : Int} {W : World} {s : List Nat × Bool} (h : KSt w nb no nc l num W s) : ul w nb no nc l num s W := by
 obtain ⟨h2, _, hlt, a, cap, h1⟩ := h.cur.facts
 exact ⟨a, cap, _, _, ⟨h, rfl, rfl⟩, h.box, h2, h1, hlt⟩
theorem eu (fv : Value) (q : Nat -> Bool) {w : World} {nb no nc : Nat} {l : List Nd} {num : Int} {W : World} {s : List Nat × Bool} {a : Option Addr} {cap n : Nat} {m : Bool} (hc : Cls fv q (w.heap.size + 1) w.heap.size nb no nc l W) (h : zf w nb no nc l num W s a cap n m) :
  Calls Tryz.prog 41 #[.pointer (some ⟨w.heap.size + 1, 0, none⟩), fv] W fun e W' => e = .returned (.tuple #[]) /\ ul w nb no nc l num (bH q s) W' := by
 refine (Gs fv q _ _ nb no nc l s.1 s.2 W ⟨hc⟩ h.st.cur).mono ?_
 rintro e W' ⟨rfl, h1, h2, h3⟩
 exact ⟨rfl, (h.st.step h1 h2 h3).post⟩
theorem jW (fv : Value) (q : Nat -> Bool) {w : World} {nb no nc : Nat} {l : List Nd} {num : Int} {W : World} {s : List Nat × Bool} {a : Option Addr} {cap n : Nat} {m : Bool} (hc : Cls fv q (w.heap.size + 1) w.heap.size nb no nc l W) (h : zf w nb no nc l num W s a cap n m) :
  Calls Tryz.prog 42 #[.pointer (some ⟨w.heap.size + 1, 0, none⟩), fv] W fun e W' => e = .returned (.tuple #[]) /\ ul w nb no nc l num (dZ q s) W' := by
 refine (Et fv q _ _ nb no nc l s.1 s.2 W ⟨hc⟩ h.st.cur).mono ?_
 rintro e W' ⟨rfl, h1, h2, h3⟩
 exact ⟨rfl, (h.st.step (s' := dZ q s) h1 h2 h3).post⟩
theorem vK (fv : Value) (q : Nat -> Bool) {w : World} {nb no nc : Nat} {l : List Nd} {num : Int} {W : World} {s : List Nat × Bool} {a : Option Addr} {cap n : Nat} {m : Bool} (hc : Cls fv q (w.heap.size + 1) w.heap.size nb no nc l W) (h : zf w nb no nc l num W s a cap n m) :
  Calls Tryz.prog 44 #[.pointer (some ⟨w.heap.size + 1, 0, none⟩), fv] W fun e W' => ∃ b, e = .returned (.bool b) /\ ul w nb no nc l num (lJ q s) W' := by
 refine (hc W s.1 s.2 (Far.refl _ _) h.st.cur).mono ?_
 rintro e W' ⟨rfl, h1, h2, h3⟩
 exact ⟨_, rfl, (h.st.step (s' := lJ q s) h1 h2 h3).post⟩
theorem mE (b : Int) {w : World} {nb no nc : Nat} {l : List Nd} {num : Int} {W : World} {s : List Nat × Bool} {a : Option Addr} {cap n : Nat} {m : Bool} (h : zf w nb no nc l num W s a cap n m) :
  Calls Tryz.prog 43 #[.int .i64 b] W fun e W' => ∃ g, e = .returned (.func (.func 72) #[] #[.pointer (some ⟨g, 0, none⟩)]) /\ Cls (.func (.func 72) #[] #[.pointer (some ⟨g, 0, none⟩)]) (dN b ∘ kdN l) (w.heap.size + 1) w.heap.size nb no nc l W' /\ ul w nb no nc l num s W' := by
 refine (Ep b W).mono ?_
 rintro e W' ⟨rfl, rfl⟩
 obtain ⟨_, _, hlt, _⟩ := h.st.cur.facts
 exact ⟨_, rfl, Es b _ _ _ _ _ _ _ _ (by simp) (by omega), (h.st.alloc _).post⟩
def kW (w : World) (ka : Option Addr) (kc nb no nc N : Nat) (k p num : Int) (nk : Nat) (nm : ByteArray) : World :=
 (w.alloc (.cells #[.int .i64 k, .int .i64 p, .slice ka nk kc, .string nm, .int .i64 num] 44)).alloc (.cells #[.slice (some ⟨nb, no, none⟩) N nc, .slice ka nk kc, .bool false] 79)
theorem MP (w : World) (ka : Option Addr) (kc nb no nc : Nat) (l : List Nd) (k p num : Int) (ks : List Nat) (nm : ByteArray) (hnb : nb < w.heap.size) (hl : l.length <= maxLen)
  (hk : aO w w.heap.size (.slice ka ks.length kc) (ks.map fun k : Nat => (k : Int))) (hn : ∀ j, j < l.length -> w.cell? ⟨nb, no + j * 5, none⟩ = some (.int .i64 (kdN l j))) (hin : ∀ k ∈ ks, k < l.length) :
  KSt w nb no nc l num (kW w ka kc nb no nc l.length k p num ks.length nm) (ks, false) := by
 have hb : Below w.heap.size w (kW w ka kc nb no nc l.length k p num ks.length nm) := (ah w _).alloc (by simp) _
 refine ⟨⟨⟨.slice ka ks.length kc, ?_, hk.below hb⟩, fun j hj => by rw [hb.cell (p := ⟨nb, _, none⟩) hnb]; exact hn j hj, hin, hnb, by omega, hl⟩, hb, ?_⟩
 ·have := heap_alloc_new (w.alloc (.cells #[.int .i64 k, .int .i64 p, .slice ka ks.length kc, .string nm, .int .i64 num] 44)) (.cells #[.slice (some ⟨nb, no, none⟩) l.length nc, .slice ka ks.length kc, .bool false] 79)
  simpa [kW, fH] using this
 ·unfold kW
  rw [(ah (w.alloc _) _).cell (p := ⟨w.heap.size, 4, none⟩) (by simp)]
  simp
def bS (w : World) (ka : Option Addr) (kc nb no nc : Nat) (l : List Nd) (k p num : Int) (ks : List Nat) (nm : ByteArray) : Prop :=
 Calls Tryz.prog 26 #[.slice (some ⟨nb, no, none⟩) l.length nc, .agg #[.int .i64 k, .int .i64 p, .slice ka ks.length kc, .string nm, .int .i64 num]] w fun e w' => e = .returned (.bool (aA (kdN l) k num ks)) /\ Below w.heap.size w w'
theorem JU {w : World} {nb no nc : Nat} {l : List Nd} {num : Int} {W : World} {s : List Nat × Bool} {a : Option Addr} {cap n : Nat} {m : Bool} (h : zf w nb no nc l num W s a cap n m) : iw s = (!m && ((n : Int) == 0)) := by
 unfold iw
 rw [h.m_, h.n_]
 congr 1
 rw [Bool.eq_iff_iff]
 simp
theorem aZ {w : World} {nb no nc : Nat} {l : List Nd} {num : Int} {W : World} {s : List Nat × Bool} {a : Option Addr} {cap n : Nat} {m X F : Bool} {k : Int} {ks : List Nat} (h : zf w nb no nc l num W s a cap n m) (HF : Bx (aA (kdN l) k num ks = F)) (hs : aH (kdN l) k num (ks, false) = s) (hx : X = (!m && ((n : Int) == 0))) :
  Ending.returned (.bool X) = Ending.returned (.bool F) /\ Below w.heap.size w W := by
 refine ⟨ek ?_, h.st.bel⟩
 rw [← HF.out, aA, hs, JU h, hx]
def Sw : List (Nat × (Act -> World -> Prop)) -> (Exit -> Act -> World -> Prop) -> Exit -> Act -> World -> Prop
 | [], Q, e, a, w => Q e a w
 | (id, K) :: ps, Q, e, a, w => match e with
  | .normal => K a w
  | .exit j => if j = id then K a w else Sw ps Q (.exit j) a w
  | e => Sw ps Q e a w
theorem bU {id : Nat} {K : Act -> World -> Prop} {Q : Exit -> Act -> World -> Prop} (e : Exit) (a : Act) (w : World) (h : Sw [(id, K)] Q e a w) : Exit.inBlock id (Exit.then K Q) e a w := by
 cases e with
 | exit j =>
  simp only [Sw] at h
  simp only [Exit.inBlock]
  split
  ·rename_i hj; rw [if_pos hj] at h; exact h
  ·rename_i hj; rw [if_neg hj] at h; exact h
 | _ => exact h
theorem dI {id : Nat} {K : Act -> World -> Prop} {ps : List (Nat × (Act -> World -> Prop))} {Q : Exit -> Act -> World -> Prop} (e : Exit) (a : Act) (w : World) (h : Sw ((id, K) :: ps) Q e a w) : Exit.inBlock id (Exit.then K (Sw ps Q)) e a w := by
 cases e with
 | exit j =>
  simp only [Sw] at h
  simp only [Exit.inBlock]
  split
  ·rename_i hj; rw [if_pos hj] at h; exact h
  ·rename_i hj; rw [if_neg hj] at h; exact h
 | _ => exact h
def zg : List (Nat × (Act -> World -> Prop)) -> Nat -> Option (Act -> World -> Prop)
 | [], _ => none
 | (id, K) :: ps, j => if j = id then some K else zg ps j
theorem bu {K : Act -> World -> Prop} {Q : Exit -> Act -> World -> Prop} {j : Nat} {a : Act} {w : World} : ∀ {ps : List (Nat × (Act -> World -> Prop))}, zg ps j = some K -> K a w -> Sw ps Q (.exit j) a w
 | [], h, _ => by cases h
 | (id, K') :: ps, h, hk => by
  simp only [zg] at h
  simp only [Sw]
  by_cases hj : j = id
  ·rw [if_pos hj] at h ⊢
   cases h
   exact hk
  ·rw [if_neg hj] at h ⊢
   exact bu h hk
theorem aS {id : Nat} {K : Act -> World -> Prop} {ps : List (Nat × (Act -> World -> Prop))} {Q : Exit -> Act -> World -> Prop} {a : Act} {w : World} (h : K a w) : Sw ((id, K) :: ps) Q .normal a w := h
end Go.Proofs.YtecodpdfckjalaaGreatDoor
namespace Go.Proofs.YtecodpdfckjalaaGreatDoor
theorem CE {α : Type} (f : α -> Int) (num : Int) (s : List α × Bool) : aH f 1 num s = s := by simp [aH]
theorem CF {α : Type} (f : α -> Int) (num : Int) (s : List α × Bool) : aH f 2 num s = s := by simp [aH]
theorem CG {α : Type} (f : α -> Int) (num : Int) (s : List α × Bool) : aH f 3 num s = s := by simp [aH]
theorem um {α : Type} (f : α -> Int) (num : Int) (s : List α × Bool) : aH f 4 num s = bH (fF ∘ f) (s) := by simp [aH]
theorem uo {α : Type} (f : α -> Int) (num : Int) (s : List α × Bool) : aH f 5 num s = dZ (fF ∘ f) (bH (fF ∘ f) (bH (fF ∘ f) (s))) := by simp [aH]
theorem uq {α : Type} (f : α -> Int) (num : Int) (s : List α × Bool) : aH f 6 num s = bH (fF ∘ f) (s) := by simp [aH]
theorem ut {α : Type} (f : α -> Int) (num : Int) (s : List α × Bool) : aH f 7 num s = dZ (fF ∘ f) (s) := by simp [aH]
theorem zh {α : Type} (f : α -> Int) (num : Int) (s : List α × Bool) : aH f 11 num s = s := by simp [aH]
theorem zi {α : Type} (f : α -> Int) (num : Int) (s : List α × Bool) : aH f 12 num s = s := by simp [aH]
theorem zk {α : Type} (f : α -> Int) (num : Int) (s : List α × Bool) : aH f 13 num s = s := by simp [aH]
theorem qy {α : Type} (f : α -> Int) (num : Int) (s : List α × Bool) : aH f 14 num s = bH (bq ∘ f) (s) := by simp [aH]
theorem qz {α : Type} (f : α -> Int) (num : Int) (s : List α × Bool) : aH f 15 num s = dZ (bq ∘ f) (bH (bq ∘ f) (bH (bq ∘ f) (s))) := by simp [aH]
theorem qA {α : Type} (f : α -> Int) (num : Int) (s : List α × Bool) : aH f 16 num s = dZ (bq ∘ f) (bH (bq ∘ f) (s)) := by simp [aH]
theorem qB {α : Type} (f : α -> Int) (num : Int) (s : List α × Bool) : aH f 17 num s = bH (bq ∘ f) (bH (bq ∘ f) (s)) := by simp [aH]
theorem qC {α : Type} (f : α -> Int) (num : Int) (s : List α × Bool) : aH f 18 num s = bH (bq ∘ f) (s) := by simp [aH]
theorem qD {α : Type} (f : α -> Int) (num : Int) (s : List α × Bool) : aH f 19 num s = bH (dN 6 ∘ f) (s) := by simp [aH]
theorem qE {α : Type} (f : α -> Int) (num : Int) (s : List α × Bool) : aH f 21 num s = bH (bq ∘ f) (s) := by simp [aH]
theorem jX {α : Type} (f : α -> Int) (num : Int) (s : List α × Bool) : aH f 22 num s = bH (bq ∘ f) (bH (bq ∘ f) (s)) := by simp [aH]
theorem jY {α : Type} (f : α -> Int) (num : Int) (s : List α × Bool) : aH f 23 num s = dZ (bq ∘ f) (bH (bq ∘ f) (s)) := by simp [aH]
theorem jZ {α : Type} (f : α -> Int) (num : Int) (s : List α × Bool) : aH f 24 num s = bH (bq ∘ f) (bH (bq ∘ f) (s)) := by simp [aH]
theorem j3 {α : Type} (f : α -> Int) (num : Int) (s : List α × Bool) : aH f 25 num s = bH (bq ∘ f) (s) := by simp [aH]
theorem qF {α : Type} (f : α -> Int) (num : Int) (s : List α × Bool) : aH f 31 num s = bH (bq ∘ f) (s) := by simp [aH]
theorem mF {α : Type} (f : α -> Int) (num : Int) (s : List α × Bool) : aH f 32 num s = lJ (bq ∘ f) (bH (fF ∘ f) (s)) := by simp [aH]
theorem mG {α : Type} (f : α -> Int) (num : Int) (s : List α × Bool) : aH f 33 num s = bH (bq ∘ f) (bH (bq ∘ f) (s)) := by simp [aH]
theorem mH {α : Type} (f : α -> Int) (num : Int) (s : List α × Bool) : aH f 34 num s = bH (bq ∘ f) (bH (bq ∘ f) (s)) := by simp [aH]
theorem qG {α : Type} (f : α -> Int) (num : Int) (s : List α × Bool) : aH f 35 num s = bH (bq ∘ f) (s) := by simp [aH]
theorem mI {α : Type} (f : α -> Int) (num : Int) (s : List α × Bool) : aH f 36 num s = lJ (mV ∘ f) (bH (dN 41 ∘ f) (bH (bq ∘ f) (s))) := by simp [aH]
theorem qH {α : Type} (f : α -> Int) (num : Int) (s : List α × Bool) : aH f 37 num s = bH (dN 41 ∘ f) (bH (bq ∘ f) (s)) := by simp [aH]
theorem qI {α : Type} (f : α -> Int) (num : Int) (s : List α × Bool) : aH f 38 num s = lJ (bq ∘ f) (s) := by simp [aH]
theorem qJ {α : Type} (f : α -> Int) (num : Int) (s : List α × Bool) : aH f 39 num s = bH (bq ∘ f) (s) := by simp [aH]
theorem qK {α : Type} (f : α -> Int) (num : Int) (s : List α × Bool) : aH f 40 num s = dZ (om ∘ f) (s) := by simp [aH]
theorem qL {α : Type} (f : α -> Int) (num : Int) (s : List α × Bool) : aH f 41 num s = dZ (gL ∘ f) (s) := by simp [aH]
theorem qM {α : Type} (f : α -> Int) (num : Int) (s : List α × Bool) : aH f 42 num s = bH (fF ∘ f) (s) := by simp [aH]
theorem qN {α : Type} (f : α -> Int) (num : Int) (s : List α × Bool) : aH f 43 num s = bH (dN 41 ∘ f) (bH (bq ∘ f) (s)) := by simp [aH]
theorem j4 {α : Type} (f : α -> Int) (num : Int) (s : List α × Bool) : aH f 44 num s = bH (dN 41 ∘ f) (bH (bq ∘ f) (bH (bq ∘ f) (s))) := by simp [aH]
theorem qO {α : Type} (f : α -> Int) (num : Int) (s : List α × Bool) : aH f 45 num s = bH (fF ∘ f) (s) := by simp [aH]
theorem qP {α : Type} (f : α -> Int) (num : Int) (s : List α × Bool) : aH f 46 num s = dZ (gL ∘ f) (kC (dN 45 ∘ f) num.toNat s) := by simp [aH]
theorem kX {α : Type} (f : α -> Int) (num : Int) (s : List α × Bool) (h : num = 1) : aH f 20 num s = bH (dN 41 ∘ f) (bH (fF ∘ f) (dZ (dN 42 ∘ f) s)) := by simp [aH, h]
theorem kY {α : Type} (f : α -> Int) (num : Int) (s : List α × Bool) (h : ¬ num = 1) : aH f 20 num s = bH (dN 41 ∘ f) (dZ (dN 42 ∘ f) s) := by simp [aH, h]
end Go.Proofs.YtecodpdfckjalaaGreatDoor
