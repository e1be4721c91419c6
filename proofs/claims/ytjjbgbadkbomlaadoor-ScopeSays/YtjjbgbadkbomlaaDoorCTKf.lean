import Derived.Test.YtjjbgbadkbomlaaDoorCTCur
namespace Go.Proofs.YtjjbgbadkbomlaaDoor
open Go.RowKit
set_option linter.unusedVariables false
set_option linter.unusedSimpArgs false

/-- kidsFit at work: the cursor, the node's box -/
structure KSt (w : World) (nb no nc : Nat) (l : List Nd) (num : Int) (W : World) (s : List Nat × Bool) : Prop where
  cur : CurS W (w.heap.size + 1) w.heap.size nb no nc l s.1 s.2
  bel : Below w.heap.size w W
  box : W.cell? ⟨w.heap.size, 4, none⟩ = some (.int .i64 num)
theorem KSt.step {w : World} {nb no nc : Nat} {l : List Nd} {num : Int} {W W' : World} {s s' : List Nat × Bool} (h : KSt w nb no nc l num W s) (hs : CurS W' (w.heap.size + 1) w.heap.size nb no nc l s'.1 s'.2) (hf : Far (w.heap.size + 1) W W') (hb : Below (w.heap.size + 1) W W') : KSt w nb no nc l num W' s' :=
  ⟨hs, h.bel.trans (hb.mono (by omega)), by rw [hf.cell _ _ (by omega)]; exact h.box⟩
theorem CurS.alloc {w : World} {c B nb no nc : Nat} {l : List Nd} {ks : List Nat} {m : Bool} (h : CurS w c B nb no nc l ks m) (o : Obj) : CurS (w.alloc o) c B nb no nc l ks m := by
  obtain ⟨left, hc, hv⟩ := h.left
  obtain ⟨_, _, hlt, _⟩ := h.facts
  have hb : Below w.heap.size w (w.alloc o) := below1 w o
  have h1 := h.lo
  have h2 := h.hi
  exact ⟨⟨left, by rw [hb.block c hlt]; exact hc, hv.below (hb.mono (by omega))⟩, fun j hj => by rw [hb.cell (p := ⟨nb, _, none⟩) (by simp; omega)]; exact h.nodes j hj, h.inn, h1, h2, h.max⟩
theorem KSt.alloc {w : World} {nb no nc : Nat} {l : List Nd} {num : Int} {W : World} {s : List Nat × Bool} (h : KSt w nb no nc l num W s) (o : Obj) : KSt w nb no nc l num (W.alloc o) s := by
  obtain ⟨_, _, hlt, _⟩ := h.cur.facts
  exact ⟨h.cur.alloc o, h.bel.trans ((below1 W o).mono (by omega)), by rw [(below1 W o).cell (p := ⟨w.heap.size, 4, none⟩) (by simp; omega)]; exact h.box⟩

/-- what a call leaves, in the walk's own words -/
structure KGot (w : World) (nb no nc : Nat) (l : List Nd) (num : Int) (W : World) (s : List Nat × Bool) (a : Option Addr) (cap n : Nat) (m : Bool) : Prop where
  st : KSt w nb no nc l num W s
  n_ : s.1.length = n
  m_ : s.2 = m
def KPost (w : World) (nb no nc : Nat) (l : List Nd) (num : Int) (s : List Nat × Bool) (W : World) : Prop :=
  ∃ a cap n m, KGot w nb no nc l num W s a cap n m ∧ W.cell? ⟨w.heap.size, 4, none⟩ = some (.int .i64 num) ∧ W.cell? ⟨w.heap.size + 1, 2, none⟩ = some (.bool m) ∧ W.cell? ⟨w.heap.size + 1, 1, none⟩ = some (.slice a n cap) ∧ w.heap.size + 1 < W.heap.size
theorem KSt.post {w : World} {nb no nc : Nat} {l : List Nd} {num : Int} {W : World} {s : List Nat × Bool} (h : KSt w nb no nc l num W s) : KPost w nb no nc l num s W := by
  obtain ⟨h2, _, hlt, a, cap, h1⟩ := h.cur.facts
  exact ⟨a, cap, _, _, ⟨h, rfl, rfl⟩, h.box, h2, h1, hlt⟩

theorem k_one (fv : Value) (q : Nat → Bool) {w : World} {nb no nc : Nat} {l : List Nd} {num : Int} {W : World} {s : List Nat × Bool} {a : Option Addr} {cap n : Nat} {m : Bool} (hc : Cls fv q (w.heap.size + 1) w.heap.size nb no nc l W) (h : KGot w nb no nc l num W s a cap n m) :
    Calls Tryd.prog 51 #[.pointer (some ⟨w.heap.size + 1, 0, none⟩), fv] W fun e W' => e = .returned (.tuple #[]) ∧ KPost w nb no nc l num (cOne q s) W' := by
  refine (one_any fv q _ _ nb no nc l s.1 s.2 W ⟨hc⟩ h.st.cur).mono ?_
  rintro e W' ⟨rfl, h1, h2, h3⟩
  exact ⟨rfl, (h.st.step h1 h2 h3).post⟩
theorem k_many (fv : Value) (q : Nat → Bool) {w : World} {nb no nc : Nat} {l : List Nd} {num : Int} {W : World} {s : List Nat × Bool} {a : Option Addr} {cap n : Nat} {m : Bool} (hc : Cls fv q (w.heap.size + 1) w.heap.size nb no nc l W) (h : KGot w nb no nc l num W s a cap n m) :
    Calls Tryd.prog 52 #[.pointer (some ⟨w.heap.size + 1, 0, none⟩), fv] W fun e W' => e = .returned (.tuple #[]) ∧ KPost w nb no nc l num (cMany q s) W' := by
  refine (many_any fv q _ _ nb no nc l s.1 s.2 W ⟨hc⟩ h.st.cur).mono ?_
  rintro e W' ⟨rfl, h1, h2, h3⟩
  exact ⟨rfl, (h.st.step (s' := cMany q s) h1 h2 h3).post⟩
theorem k_maybe (fv : Value) (q : Nat → Bool) {w : World} {nb no nc : Nat} {l : List Nd} {num : Int} {W : World} {s : List Nat × Bool} {a : Option Addr} {cap n : Nat} {m : Bool} (hc : Cls fv q (w.heap.size + 1) w.heap.size nb no nc l W) (h : KGot w nb no nc l num W s a cap n m) :
    Calls Tryd.prog 54 #[.pointer (some ⟨w.heap.size + 1, 0, none⟩), fv] W fun e W' => ∃ b, e = .returned (.bool b) ∧ KPost w nb no nc l num (cMay q s) W' := by
  refine (hc W s.1 s.2 (Far.refl _ _) h.st.cur).mono ?_
  rintro e W' ⟨rfl, h1, h2, h3⟩
  exact ⟨_, rfl, (h.st.step (s' := cMay q s) h1 h2 h3).post⟩
theorem k_just (b : Int) {w : World} {nb no nc : Nat} {l : List Nd} {num : Int} {W : World} {s : List Nat × Bool} {a : Option Addr} {cap n : Nat} {m : Bool} (h : KGot w nb no nc l num W s a cap n m) :
    Calls Tryd.prog 53 #[.int .i64 b] W fun e W' => ∃ g, e = .returned (.func (.func 62) #[] #[.pointer (some ⟨g, 0, none⟩)]) ∧ Cls (.func (.func 62) #[] #[.pointer (some ⟨g, 0, none⟩)]) (justI b ∘ kdN l) (w.heap.size + 1) w.heap.size nb no nc l W' ∧ KPost w nb no nc l num s W' := by
  refine (just_any b W).mono ?_
  rintro e W' ⟨rfl, rfl⟩
  obtain ⟨_, _, hlt, _⟩ := h.st.cur.facts
  exact ⟨_, rfl, cls_just b _ _ _ _ _ _ _ _ (by simp) (by omega), (h.st.alloc _).post⟩
end Go.Proofs.YtjjbgbadkbomlaaDoor
namespace Go.Proofs.YtjjbgbadkbomlaaDoor
open Go.RowKit
set_option linter.unusedVariables false
set_option linter.unusedSimpArgs false

/-- the world in which the kids are taken -/
def kW (w : World) (ka : Option Addr) (kc nb no nc N : Nat) (k p num : Int) (nk : Nat) (nm : ByteArray) : World :=
  (w.alloc (.cells #[.int .i64 k, .int .i64 p, .slice ka nk kc, .string nm, .int .i64 num] 36)).alloc (.cells #[.slice (some ⟨nb, no, none⟩) N nc, .slice ka nk kc, .bool false] 77)

theorem kst0 (w : World) (ka : Option Addr) (kc nb no nc : Nat) (l : List Nd) (k p num : Int) (ks : List Nat) (nm : ByteArray) (hnb : nb < w.heap.size) (hl : l.length ≤ maxLen)
    (hk : IntsV w w.heap.size (.slice ka ks.length kc) (ks.map fun k : Nat => (k : Int))) (hn : ∀ j, j < l.length → w.cell? ⟨nb, no + j * 5, none⟩ = some (.int .i64 (kdN l j))) (hin : ∀ k ∈ ks, k < l.length) :
    KSt w nb no nc l num (kW w ka kc nb no nc l.length k p num ks.length nm) (ks, false) := by
  have hb : Below w.heap.size w (kW w ka kc nb no nc l.length k p num ks.length nm) := (below1 w _).alloc (by simp) _
  refine ⟨⟨⟨.slice ka ks.length kc, ?_, hk.below hb⟩, fun j hj => by rw [hb.cell (p := ⟨nb, _, none⟩) hnb]; exact hn j hj, hin, hnb, by omega, hl⟩, hb, ?_⟩
  · have := heap_alloc_new (w.alloc (.cells #[.int .i64 k, .int .i64 p, .slice ka ks.length kc, .string nm, .int .i64 num] 36)) (.cells #[.slice (some ⟨nb, no, none⟩) l.length nc, .slice ka ks.length kc, .bool false] 77)
    simpa [kW, curO] using this
  · unfold kW
    rw [(below1 (w.alloc _) _).cell (p := ⟨w.heap.size, 4, none⟩) (by simp)]
    simp

/-- what kidsFit answers -/
def KFit (w : World) (ka : Option Addr) (kc nb no nc : Nat) (l : List Nd) (k p num : Int) (ks : List Nat) (nm : ByteArray) : Prop :=
  Calls Tryd.prog 38 #[.slice (some ⟨nb, no, none⟩) l.length nc, .agg #[.int .i64 k, .int .i64 p, .slice ka ks.length kc, .string nm, .int .i64 num]] w fun e w' => e = .returned (.bool (kidsFitI (kdN l) k num ks)) ∧ Below w.heap.size w w'

theorem fit_of {w : World} {nb no nc : Nat} {l : List Nd} {num : Int} {W : World} {s : List Nat × Bool} {a : Option Addr} {cap n : Nat} {m : Bool} (h : KGot w nb no nc l num W s a cap n m) : fitS s = (!m && ((n : Int) == 0)) := by
  unfold fitS
  rw [h.m_, h.n_]
  congr 1
  rw [Bool.eq_iff_iff]
  simp
theorem kfit_end {w : World} {nb no nc : Nat} {l : List Nd} {num : Int} {W : World} {s : List Nat × Bool} {a : Option Addr} {cap n : Nat} {m X F : Bool} {k : Int} {ks : List Nat} (h : KGot w nb no nc l num W s a cap n m) (HF : Bx (kidsFitI (kdN l) k num ks = F)) (hs : kidsRun (kdN l) k num (ks, false) = s) (hx : X = (!m && ((n : Int) == 0))) :
    Ending.returned (.bool X) = Ending.returned (.bool F) ∧ Below w.heap.size w W := by
  refine ⟨ret_bool ?_, h.st.bel⟩
  rw [← HF.out, kidsFitI, hs, fit_of h, hx]
end Go.Proofs.YtjjbgbadkbomlaaDoor
