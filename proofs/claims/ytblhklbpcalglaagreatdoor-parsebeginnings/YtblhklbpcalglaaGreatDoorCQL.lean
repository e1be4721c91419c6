import Derived.Test.YtblhklbpcalglaaGreatDoorCTPlain
import Derived.Test.YtblhklbpcalglaaGreatDoorCNext
import Derived.Test.YtblhklbpcalglaaGreatDoorCLeaf
import Derived.WalkSmall
import Derived.Deep.RegionHeld
import Derived.Deep.QuietTactic
import Derived.BigQuiet
import Derived.WalkLawsBesides
namespace Go.Proofs.YtblhklbpcalglaaGreatDoor
set_option linter.unusedVariables false
set_option linter.unusedSimpArgs false
def Lf (a b : Res) : Prop := a = .out ∨ a = b
theorem lf_refl (a : Res) : Lf a a := .inr rfl
theorem andT_lf {a b : Res} {k l : List Tr → List PTok → Res} (h : Lf a b) (hk : ∀ t s, Lf (k t s) (l t s)) : Lf (andT a k) (andT b l) := by
  rcases h with rfl | rfl
  · exact .inl rfl
  · match a with
    | .ok x y => exact hk x y
    | .err _ => exact .inr rfl
    | .out => exact .inl rfl
theorem want_lf {c : Nat} {s : List PTok} {k l : List PTok → Res} (hk : ∀ s, Lf (k s) (l s)) : Lf (want c s k) (want c s l) := by
  unfold want
  split
  · exact hk _
  · exact lf_refl _
theorem nameK_lf {s : List PTok} {k l : List UInt8 → List PTok → Res} (hk : ∀ n s, Lf (k n s) (l n s)) : Lf (nameK s k) (nameK s l) := by
  unfold nameK
  split
  · exact hk _ _
  · exact lf_refl _
theorem numK_lf {s : List PTok} {k l : Nat → List PTok → Res} (hk : ∀ n s, Lf (k n s) (l n s)) : Lf (numK s k) (numK s l) := by
  unfold numK
  split
  · exact hk _ _
  · exact lf_refl _
theorem ite_lf {p : Prop} [Decidable p] {a b c d : Res} (h1 : Lf a c) (h2 : Lf b d) : Lf (if p then a else b) (if p then c else d) := by
  split
  · exact h1
  · exact h2
theorem body_lf {g h : Rl → List PTok → Res} (H : ∀ r s, Lf (g r s) (h r s)) (r : Rl) (s : List PTok) : Lf (body g r s) (body h r s) := by
  cases r <;> (unfold body; repeat' (first | exact lf_refl _ | exact H _ _ | refine ite_lf ?_ ?_ | refine andT_lf (H _ _) (fun _ _ => ?_) | refine want_lf (fun _ => ?_) | refine nameK_lf (fun _ _ => ?_) | refine numK_lf (fun _ _ => ?_)))
theorem pF_lf1 : ∀ (f : Nat) (r : Rl) (s : List PTok), Lf (pF f r s) (pF (f + 1) r s)
  | 0, r, s => .inl rfl
  | f + 1, r, s => body_lf (pF_lf1 f) r s
theorem pF_lf {f f' : Nat} (h : f ≤ f') (r : Rl) (s : List PTok) : Lf (pF f r s) (pF f' r s) := by
  induction h with
  | refl => exact lf_refl _
  | step _ ih =>
    rcases ih with e | e
    · exact .inl e
    · rcases pF_lf1 _ r s with e2 | e2
      · exact .inl (e.trans e2)
      · exact .inr (e.trans e2)
theorem pF_one {f f' : Nat} {r : Rl} {s : List PTok} (h1 : pF f r s ≠ .out) (h2 : pF f' r s ≠ .out) : pF f r s = pF f' r s := by
  by_cases h : f ≤ f'
  · rcases pF_lf h r s with e | e
    · exact absurd e h1
    · exact e
  · rcases pF_lf (show f' ≤ f by omega) r s with e | e
    · exact absurd e h2
    · exact e.symm
end Go.Proofs.YtblhklbpcalglaaGreatDoor
namespace Go.Proofs.YtblhklbpcalglaaGreatDoor
open Go.RowKit
set_option linter.unusedVariables false
set_option linter.unusedSimpArgs false
structure IsSrc (w : World) (a : Option Addr) (cap : Nat) (xs : List UInt8) : Prop where
  at_ : 0 < xs.length → ∃ b o, a = some ⟨b, o, none⟩ ∧ b < w.heap.size ∧ Src w b o xs
  cap_ : xs.length ≤ cap
  max_ : xs.length ≤ maxLen
theorem IsSrc.below {w w' : World} {a : Option Addr} {cap : Nat} {xs : List UInt8} (h : IsSrc w a cap xs) (hb : Below w.heap.size w w') : IsSrc w' a cap xs := by
  refine ⟨fun h0 => ?_, h.cap_, h.max_⟩
  obtain ⟨b, o, h1, h2, h3⟩ := h.at_ h0
  exact ⟨b, o, h1, by have := hb.size; omega, h3.below h2 hb⟩
set_option maxRecDepth 100000 in
set_option maxHeartbeats 400000 in
theorem Scan_long (a : Option Addr) (n cap : Nat) (w : World) (hn : 65536 < n) (hm : n ≤ maxLen) :
    Calls Tryz.prog 6 #[.slice a n cap] w fun e w' => e = .returned (.tuple #[.slice none 0 0, .agg #[.int .i64 65536, .int .i64 10]]) ∧ Below w.heap.size w w' := by
  unfold maxLen at hm
  have h1 : (65536 : Int) < (n : Int) := by omega
  go_enter Tryz.func6, Tryz.ntmps6
  go_wp2
  refine bodyPost_ret (v := .tuple #[.slice none 0 0, .agg #[.int .i64 65536, .int .i64 10]]) (by simp [results, Tryz.results6, go_sem]) rfl ⟨rfl, ?_⟩
  exact (Below.refl _ _).alloc (Nat.le_refl _) _
set_option maxRecDepth 100000 in
set_option maxHeartbeats 400000 in
theorem Scan_none (a : Option Addr) (cap : Nat) (w : World) :
    Calls Tryz.prog 6 #[.slice a 0 cap] w fun e w' => e = .returned (.tuple #[.slice none 0 0, .agg #[.int .i64 0, .int .i64 0]]) ∧ Below w.heap.size w w' := by
  go_enter Tryz.func6, Tryz.ntmps6
  go_wp2_with (first | (go_at_call 10; refine (skip_none _ _ _).mono ?_; rintro e w' ⟨rfl, rfl⟩))
  go_loopw [4, 5] (fun v i wr => v = .slice none 0 0 ∧ i = .int .i64 0 ∧ wr = w.alloc (.cells #[.int .i64 0, .int .i64 0] 27)) (fun _ _ _ => 0)
  case atStart => exact ⟨rfl, rfl, rfl⟩
  case round =>
    obtain ⟨rfl, rfl, rfl⟩ := hrel
    go_wp2
    refine bodyPost_ret (v := .tuple #[.slice none 0 0, .agg #[.int .i64 0, .int .i64 0]]) (by simp [results, Tryz.results6, go_sem]) rfl ⟨rfl, ?_⟩
    exact (Below.refl _ _).alloc (Nat.le_refl _) _
theorem Scan_any (a : Option Addr) (cap : Nat) (xs : List UInt8) (w : World) (hs : IsSrc w a cap xs) (hL : Laid w) :
    Calls Tryz.prog 6 #[.slice a xs.length cap] w fun e w' => ∃ v, e = .returned (.tuple #[v, .agg #[.int .i64 (scanAll xs).2.1, .int .i64 (scanAll xs).2.2]]) ∧ w'.ownsRow w.heap.size 34 4 v (scanAll xs).1.length (toksC (scanAll xs).1) ∧ Below w.heap.size w w' := by
  by_cases h1 : 65536 < xs.length
  · have hA : scanAll xs = ([], 65536, 10) := by unfold scanAll; rw [if_pos h1]
    rw [hA]
    refine (Scan_long a xs.length cap w h1 hs.max_).mono ?_
    rintro e w' ⟨rfl, hb⟩
    exact ⟨.slice none 0 0, rfl, World.ownsRow_nil _ _ _ _, hb⟩
  · by_cases h0 : 0 < xs.length
    · obtain ⟨b, o, rfl, hb, hc⟩ := hs.at_ h0
      exact Scan_some b o cap xs w hc hb (by omega) hs.cap_ hL
    · have hx : xs = [] := List.eq_nil_of_length_eq_zero (by omega)
      subst hx
      have hA : scanAll [] = ([], 0, 0) := rfl
      rw [hA]
      refine (Scan_none a cap w).mono ?_
      rintro e w' ⟨rfl, hb⟩
      exact ⟨.slice none 0 0, rfl, World.ownsRow_nil _ _ _ _, hb⟩
end Go.Proofs.YtblhklbpcalglaaGreatDoor
namespace Go.Proofs.YtblhklbpcalglaaGreatDoor
open Go.RowKit
set_option linter.unusedVariables false
set_option linter.unusedSimpArgs false
theorem owns_cells {w : World} {B : Nat} {e : TypeId} {s : Nat} {v : Value} {n : Nat} {cs : List Value} (h : w.ownsRow B e s v n cs) (hn : 0 < n) :
    ∃ g cap, v = .slice (some ⟨g, 0, none⟩) n cap ∧ B ≤ g ∧ g < w.heap.size ∧ n ≤ cap ∧ ∀ i, i < cs.length → w.cell? ⟨g, i, none⟩ = cs[i]? := by
  obtain ⟨h1, h2⟩ := h
  rcases h2 with ⟨_, h2⟩ | ⟨g, cap, cur, hv, hg, hh, hc, hm, hz, ht⟩
  · omega
  · refine ⟨g, cap, hv, hg, ?_, hc, fun i hi => ?_⟩
    · rcases Nat.lt_or_ge g w.heap.size with hlt | hge
      · exact hlt
      · rw [Array.getElem?_eq_none hge] at hh; cases hh
    · rw [cell_of_row w g i cur e (0, 0) hh, ← ht, List.getElem?_take_of_lt (by omega)]
      simp
theorem owns_none {w : World} {B : Nat} {e : TypeId} {s : Nat} {v : Value} {cs : List Value} (h : w.ownsRow B e s v 0 cs) : ∃ a cap, v = .slice a 0 cap := by
  obtain ⟨h1, h2⟩ := h
  rcases h2 with ⟨h2, _⟩ | ⟨g, cap, cur, hv, hg, hh, hc, hm, hz, ht⟩
  · exact ⟨_, _, h2⟩
  · exact ⟨_, _, hv⟩
theorem toksC_at : ∀ (l : List Tok) (j : Nat) (h : j < l.length), (toksC l)[j * 4]? = some (.int .i64 l[j].kind) ∧ (toksC l)[j * 4 + 1]? = some (.int .i64 l[j].place) ∧ (toksC l)[j * 4 + 2]? = some (.int .i64 l[j].len) ∧ (toksC l)[j * 4 + 3]? = some (.int .i64 l[j].num)
  | t :: r, 0, h => ⟨rfl, rfl, rfl, rfl⟩
  | t :: r, j + 1, h => by
    have ih := toksC_at r j (by simpa using h)
    have e : ∀ i, (toksC (t :: r))[i + 4]? = (toksC r)[i]? := fun i => rfl
    rw [show (j + 1) * 4 = j * 4 + 4 by omega, show j * 4 + 4 + 1 = j * 4 + 1 + 4 by omega, show j * 4 + 4 + 2 = j * 4 + 2 + 4 by omega, show j * 4 + 4 + 3 = j * 4 + 3 + 4 by omega, e, e, e, e]
    exact ih
structure Toks (w : World) (g : Nat) (l : List Tok) : Prop where
  lt : g < w.heap.size
  at_ : ∀ j (h : j < l.length), w.cell? ⟨g, j * 4, none⟩ = some (.int .i64 l[j].kind) ∧ w.cell? ⟨g, j * 4 + 1, none⟩ = some (.int .i64 l[j].place) ∧ w.cell? ⟨g, j * 4 + 2, none⟩ = some (.int .i64 l[j].len) ∧ w.cell? ⟨g, j * 4 + 3, none⟩ = some (.int .i64 l[j].num)
theorem Toks.later {w w' : World} {g : Nat} {l : List Tok} (h : Toks w g l) (hb : Below w.heap.size w w') : Toks w' g l := by
  refine ⟨by have := hb.size; have := h.lt; omega, fun j hj => ?_⟩
  obtain ⟨a, b, c, d⟩ := h.at_ j hj
  exact ⟨by rw [hb.cell h.lt]; exact a, by rw [hb.cell h.lt]; exact b, by rw [hb.cell h.lt]; exact c, by rw [hb.cell h.lt]; exact d⟩
theorem toks_of_owns {w : World} {B : Nat} {v : Value} {l : List Tok} (h : w.ownsRow B 34 4 v l.length (toksC l)) (hn : 0 < l.length) :
    ∃ g cap, v = .slice (some ⟨g, 0, none⟩) l.length cap ∧ B ≤ g ∧ l.length ≤ cap ∧ Toks w g l := by
  obtain ⟨g, cap, hv, h1, h2, h3, hc⟩ := owns_cells h hn
  refine ⟨g, cap, hv, h1, h3, h2, fun j hj => ?_⟩
  have hl := toksC_len l
  obtain ⟨a, b, c, d⟩ := toksC_at l j hj
  exact ⟨by rw [hc _ (by omega)]; exact a, by rw [hc _ (by omega)]; exact b, by rw [hc _ (by omega)]; exact c, by rw [hc _ (by omega)]; exact d⟩
end Go.Proofs.YtblhklbpcalglaaGreatDoor
namespace Go.Proofs.YtblhklbpcalglaaGreatDoor
open Go.RowKit
set_option linter.unusedVariables false
set_option linter.unusedSimpArgs false
structure Bx (p : Prop) : Prop where
  out : p
theorem ret_bool {a b : Bool} (h : a = b) : Ending.returned (.bool a) = .returned (.bool b) := by rw [h]
theorem below1 (w : World) (o : Obj) : Below w.heap.size w (w.alloc o) := (Below.refl _ _).alloc (Nat.le_refl _) _
def ndV (ka : Option Addr) (kc : Nat) (n : Nd) : Value := .agg #[.int .i64 n.kind, .int .i64 n.pos, .slice ka n.kids.length kc, .string n.name, .int .i64 n.num]
theorem isExpr_any (k : Int) (w : World) : Calls Tryz.prog 81 #[.int .i64 k] w fun e w' => e = .returned (.bool (exprI k)) ∧ w = w' := by
  unfold exprI
  cases h1 : decide (11 ≤ k) <;>
    (go_enter Tryz.func81, Tryz.ntmps81
     go_wp2
     go_ret
     exact ⟨by simp, rfl⟩)
set_option maxHeartbeats 1000000 in
theorem binLevel_any (op : Int) (w : World) : Calls Tryz.prog 80 #[.int .i64 op] w fun e w' => e = .returned (.int .i64 (binLevelI op)) ∧ w = w' := by
  go_enter Tryz.func80, Tryz.ntmps80
  go_wp2
  all_goals
    go_ret
    refine ⟨ret_int ?_, rfl⟩
    simp at *
    unfold binLevelI
    (repeat' split) <;> omega
set_option maxHeartbeats 1000000 in
theorem Level_any (ka : Option Addr) (kc : Nat) (n : Nd) (w : World) : Calls Tryz.prog 75 #[ndV ka kc n] w fun e w' => e = .returned (.int .i64 (levelI n.kind n.num)) ∧ Below w.heap.size w w' := by
  obtain ⟨k, p, ks, nm, num⟩ := n
  unfold ndV
  simp only
  have hx : ∀ j, exprI j = (decide (11 ≤ j) && decide (j ≤ 25)) := fun _ => rfl
  go_enter Tryz.func75, Tryz.ntmps75
  go_wp2_with (first | (go_at_call 80; refine (binLevel_any _ _).mono ?_; rintro e w' ⟨rfl, rfl⟩) | (go_at_call 81; refine (isExpr_any _ _).mono ?_; rintro e w' ⟨rfl, rfl⟩))
  all_goals
    go_ret
    refine ⟨ret_int ?_, below1 _ _⟩
    unfold levelI exprI at *
    simp at *
    (repeat' split) <;> first | rfl | omega
end Go.Proofs.YtblhklbpcalglaaGreatDoor
namespace Go.Proofs.YtblhklbpcalglaaGreatDoor
set_option linter.unusedVariables false
set_option linter.unusedSimpArgs false
mutual
def Tr.size : Tr → Nat
  | .mk _ _ _ _ ks => sizes ks + 1
def sizes : List Tr → Nat
  | [] => 0
  | t :: r => t.size + sizes r
end
def ends : List Tr → Nat → List Int
  | [], _ => []
  | t :: r, o => ((o + t.size - 1 : Nat) : Int) :: ends r (o + t.size)
mutual
def flat : Tr → Nat → List Nd
  | .mk k p n nm ks, o => flats ks o ++ [⟨k, p, ends ks o, ⟨nm.toArray⟩, n⟩]
def flats : List Tr → Nat → List Nd
  | [], _ => []
  | t :: r, o => flat t o ++ flats r (o + t.size)
end
mutual
theorem flat_len : ∀ (t : Tr) (o : Nat), (flat t o).length = t.size
  | .mk k p n nm ks, o => by
    rw [flat, Tr.size, List.length_append, flats_len ks o]
    rfl
theorem flats_len : ∀ (ts : List Tr) (o : Nat), (flats ts o).length = sizes ts
  | [], o => rfl
  | t :: r, o => by
    rw [flats, sizes, List.length_append, flat_len t o, flats_len r]
end
theorem size_pos (t : Tr) : 1 ≤ t.size := by
  cases t
  rw [Tr.size]
  omega
theorem sizes_append : ∀ (a b : List Tr), sizes (a ++ b) = sizes a + sizes b
  | [], b => by simp [sizes]
  | t :: r, b => by
    rw [List.cons_append, sizes, sizes, sizes_append r b]
    omega
end Go.Proofs.YtblhklbpcalglaaGreatDoor
namespace Go.Proofs.YtblhklbpcalglaaGreatDoor
open Go.RowKit
set_option linter.unusedVariables false
set_option linter.unusedSimpArgs false
theorem heapLt {w : World} {x : Nat} {o : Obj} (h : w.heap[x]? = some o) : x < w.heap.size := by
  rcases Nat.lt_or_ge x w.heap.size with hlt | hge
  · exact hlt
  · rw [Array.getElem?_eq_none hge] at h; cases h
def rdO (srcV tokV : Value) (i : Nat) (nv : Value) : Obj := .cells #[srcV, tokV, .int .i64 i, nv] 46 (0, 0)
def ndC (n : Nd) (k : Option Addr × Nat) : List Value := [.int .i64 n.kind, .int .i64 n.pos, .slice k.1 n.kids.length k.2, .string n.name, .int .i64 n.num]
def ndsC : List Nd → List (Option Addr × Nat) → List Value
  | n :: r, k :: q => ndC n k ++ ndsC r q
  | _, _ => []
def intsC (xs : List Int) : List Value := xs.map fun x => Value.int .i64 x
def IntsO (W : World) (rb : Nat) (v : Value) (xs : List Int) : Prop := W.ownsRow (rb + 1) 3 1 v xs.length (intsC xs)
structure NodesO (U : Nat → Prop) (W : World) (rb : Nat) (nv : Value) (ns : List Nd) : Prop where
  ex : ∃ ks : List (Option Addr × Nat), ks.length = ns.length ∧ W.ownsRow (rb + 1) 38 5 nv ns.length (ndsC ns ks) ∧ ∀ j (h : j < ns.length) (h' : j < ks.length), IntsO W rb (.slice ks[j].1 ns[j].kids.length ks[j].2) ns[j].kids ∧ ∀ g, ks[j].1 = some ⟨g, 0, none⟩ → ¬ U g
def ownN (W : World) (rb : Nat) : Option Nat :=
  match W.heap[rb]? with
  | some (.cells c _ _) => (c.getD 3 undef).ownBlock
  | _ => none
theorem ownN_rd {W : World} {rb : Nat} {srcV tokV nv : Value} {i : Nat} (h : W.heap[rb]? = some (rdO srcV tokV i nv)) : ownN W rb = nv.ownBlock := by
  unfold ownN
  rw [h]
  rfl
structure KeepR (rb : Nat) (W W' : World) : Prop where
  size : W.heap.size ≤ W'.heap.size
  same : ∀ x, x < W.heap.size → rb < x → ownN W rb ≠ some x → W'.heap[x]? = W.heap[x]?
  own : ownN W' rb = ownN W rb ∨ ∃ g, ownN W' rb = some g ∧ W.heap.size ≤ g
theorem KeepR.refl (rb : Nat) (W : World) : KeepR rb W W := ⟨Nat.le_refl _, fun _ _ _ _ => rfl, .inl rfl⟩
theorem KeepR.trans {rb : Nat} {W W1 W2 : World} (h1 : KeepR rb W W1) (h2 : KeepR rb W1 W2) : KeepR rb W W2 := by
  have hz := h1.size
  refine ⟨Nat.le_trans hz h2.size, fun x hx hr ho => ?_, ?_⟩
  · rw [h2.same x (by omega) hr ?_, h1.same x hx hr ho]
    rcases h1.own with e | ⟨g, e, hg⟩
    · rw [e]; exact ho
    · rw [e]
      intro e2
      simp only [Option.some.injEq] at e2
      omega
  · rcases h2.own with e | ⟨g, e, hg⟩
    · rw [e]; exact h1.own
    · exact .inr ⟨g, e, by omega⟩
theorem KeepR.heap {rb : Nat} {W W' : World} (h : W'.heap = W.heap) : KeepR rb W W' := ⟨by rw [h]; exact Nat.le_refl _, fun x _ _ _ => by rw [h], .inl (by unfold ownN; rw [h])⟩
theorem KeepR.ext {rb : Nat} {W W' : World} (hr : rb < W.heap.size) (hb : Below W.heap.size W W') : KeepR rb W W' := ⟨hb.size, fun x hx _ _ => hb.block x hx, .inl (by unfold ownN; rw [hb.block rb hr])⟩
theorem KeepR.alloc {rb : Nat} {W : World} (hr : rb < W.heap.size) (o : Obj) : KeepR rb W (W.alloc o) := KeepR.ext hr (below1 W o)
theorem owns_own {W : World} {B : Nat} {e : TypeId} {s : Nat} {v : Value} {n : Nat} {cs : List Value} (h : W.ownsRow B e s v n cs) {x : Nat} (hx : v.ownBlock = some x) : ∃ cur, W.heap[x]? = some (.cells cur e (0, 0)) := by
  rcases h.2 with ⟨h2, _⟩ | ⟨g, cap, cur, hv, hg, hh, hr⟩
  · rw [h2] at hx
    simp [Value.ownBlock] at hx
  · rw [hv] at hx
    simp [Value.ownBlock] at hx
    subst hx
    exact ⟨cur, hh⟩
structure RS (w0 : World) (rb : Nat) (srcV tokV : Value) (U : Nat → Prop) (W : World) (i : Nat) (ns : List Nd) : Prop where
  rd : ∃ nv, W.heap[rb]? = some (rdO srcV tokV i nv) ∧ NodesO U W rb nv ns
  bel : Below rb w0 W
theorem RS.lt {w0 : World} {rb : Nat} {srcV tokV : Value} {U : Nat → Prop} {W : World} {i : Nat} {ns : List Nd} (h : RS w0 rb srcV tokV U W i ns) : rb < W.heap.size := by
  obtain ⟨nv, h1, _⟩ := h.rd
  exact heapLt h1
theorem RS.own {w0 : World} {rb : Nat} {srcV tokV : Value} {U : Nat → Prop} {W : World} {i : Nat} {ns : List Nd} (h : RS w0 rb srcV tokV U W i ns) {x : Nat} (hx : ownN W rb = some x) : ∃ cur, W.heap[x]? = some (.cells cur 38 (0, 0)) := by
  obtain ⟨nv, h1, h2⟩ := h.rd
  obtain ⟨ks, _, k2, _⟩ := h2.ex
  rw [ownN_rd h1] at hx
  exact owns_own k2 hx
theorem RS.ints {w0 : World} {rb : Nat} {srcV tokV : Value} {U : Nat → Prop} {W W' : World} {i : Nat} {ns : List Nd} (hS : RS w0 rb srcV tokV U W i ns) {v : Value} {xs : List Int} (h : IntsO W rb v xs) (hk : KeepR rb W W') : IntsO W' rb v xs := by
  obtain ⟨h1, h2⟩ := h
  refine ⟨h1, ?_⟩
  rcases h2 with h2 | ⟨g, cap, cur, hv, hg, hh, hr⟩
  · exact .inl h2
  · refine .inr ⟨g, cap, cur, hv, hg, ?_, hr⟩
    rw [hk.same g (heapLt hh) (by omega) (fun e => ?_)]
    · exact hh
    · obtain ⟨cur2, h3⟩ := hS.own e
      rw [hh] at h3
      simp only [Option.some.injEq, Obj.cells.injEq] at h3
      exact absurd h3.2.1 (by decide)
theorem owns_bel {W W' : World} {B : Nat} {e : TypeId} {s : Nat} {v : Value} {n : Nat} {cs : List Value} (h : W.ownsRow B e s v n cs) (hb : Below W.heap.size W W') : W'.ownsRow B e s v n cs := by
  obtain ⟨h1, h2⟩ := h
  refine ⟨h1, ?_⟩
  rcases h2 with h2 | ⟨g, cap, cur, hv, hg, hh, hr⟩
  · exact .inl h2
  · exact .inr ⟨g, cap, cur, hv, hg, by rw [hb.block g (heapLt hh)]; exact hh, hr⟩
theorem RS.ext {w0 : World} {rb : Nat} {srcV tokV : Value} {U : Nat → Prop} {W W' : World} {i : Nat} {ns : List Nd} (h : RS w0 rb srcV tokV U W i ns) (hb : Below W.heap.size W W') : RS w0 rb srcV tokV U W' i ns := by
  obtain ⟨nv, h1, h2⟩ := h.rd
  have hlt := heapLt h1
  obtain ⟨ks, k1, k2, k3⟩ := h2.ex
  exact ⟨⟨nv, by rw [hb.block rb hlt]; exact h1, ⟨ks, k1, owns_bel k2 hb, fun j hj hj' => ⟨owns_bel (k3 j hj hj').1 hb, (k3 j hj hj').2⟩⟩⟩, h.bel.trans (hb.mono (by omega))⟩
theorem RS.drewN {w0 : World} {rb : Nat} {srcV tokV : Value} {U : Nat → Prop} {W : World} {i : Nat} {ns : List Nd} (h : RS w0 rb srcV tokV U W i ns) (k : Nat) : RS w0 rb srcV tokV U (W.drewN k) i ns :=
  h.ext (below_drewN (Below.refl _ _) k)
structure RT (w0 : World) (rb : Nat) (srcV tokV : Value) (TL : List Tok) (xs : List UInt8) : Prop where
  toks : ∃ tb cap, tokV = .slice (some ⟨tb, 0, none⟩) TL.length cap ∧ tb < rb ∧ TL.length ≤ cap ∧ Toks w0 tb TL
  laid : Laid w0
  low : 6 < rb
  small : TL.length ≤ 65537
  src : 0 < xs.length → ∃ b o cap, srcV = .slice (some ⟨b, o, none⟩) xs.length cap ∧ b < rb ∧ xs.length ≤ cap ∧ Src w0 b o xs
  len : xs.length ≤ 65536
  inb : ∀ i (h : i < TL.length), TL[i].kind ≠ 0 → 1 ≤ TL[i].len ∧ TL[i].place + TL[i].len ≤ xs.length
theorem rd_cells {W : World} {rb : Nat} {srcV tokV nv : Value} {i : Nat} (h : W.heap[rb]? = some (rdO srcV tokV i nv)) : W.cell? ⟨rb, 0, none⟩ = some srcV ∧ W.cell? ⟨rb, 1, none⟩ = some tokV ∧ W.cell? ⟨rb, 2, none⟩ = some (.int .i64 i) ∧ W.cell? ⟨rb, 3, none⟩ = some nv ∧ rb < W.heap.size := by
  refine ⟨?_, ?_, ?_, ?_, heapLt h⟩ <;> simp [World.cell?, h, rdO]
theorem RT.tok {w0 : World} {rb : Nat} {srcV tokV : Value} {TL : List Tok} {xs : List UInt8} (h : RT w0 rb srcV tokV TL xs) {W : World} (hb : Below rb w0 W) {i : Nat} (hi : i < TL.length) :
    ∃ tb cap, tokV = .slice (some ⟨tb, 0, none⟩) TL.length cap ∧ tb < rb ∧ TL.length ≤ cap ∧ W.cell? ⟨tb, i * 4, none⟩ = some (.int .i64 TL[i].kind) ∧ W.cell? ⟨tb, i * 4 + 1, none⟩ = some (.int .i64 TL[i].place) ∧ W.cell? ⟨tb, i * 4 + 2, none⟩ = some (.int .i64 TL[i].len) ∧ W.cell? ⟨tb, i * 4 + 3, none⟩ = some (.int .i64 TL[i].num) := by
  obtain ⟨tb, cap, e, h1, h2, h3⟩ := h.toks
  obtain ⟨q0, q1, q2, q3⟩ := h3.at_ i hi
  have hc : ∀ k, W.cell? ⟨tb, k, none⟩ = w0.cell? ⟨tb, k, none⟩ := fun k => hb.cell (p := ⟨tb, k, none⟩) h1
  exact ⟨tb, cap, e, h1, h2, by rw [hc]; exact q0, by rw [hc]; exact q1, by rw [hc]; exact q2, by rw [hc]; exact q3⟩
theorem laid_bel {w0 W : World} {rb : Nat} (h : Laid w0) (hr : 6 < rb) (hb : Below rb w0 W) : Laid W := by
  have hs := h.size
  have hz := hb.size
  have hc : ∀ g k, g < 7 → W.cell? ⟨g, k, none⟩ = w0.cell? ⟨g, k, none⟩ := fun g k hg => hb.cell (p := ⟨g, k, none⟩) (by show g < rb; omega)
  refine ⟨fun i hi => ?_, fun i hi => ?_, ?_, by omega⟩
  · rw [hc _ _ (by decide)]; exact h.words i hi
  · rw [hc _ _ (by decide)]; exact h.signs i hi
  · obtain ⟨te, pe, hh⟩ := h.range
    exact ⟨te, pe, by rw [hc _ _ (by decide)]; exact hh⟩
set_option maxRecDepth 100000 in
set_option maxHeartbeats 1000000 in
theorem rnext_any {w0 : World} {rb : Nat} {srcV tokV : Value} {U : Nat → Prop} {TL : List Tok} {xs : List UInt8} (hT : RT w0 rb srcV tokV TL xs) {W : World} {i : Nat} {ns : List Nd} (hS : RS w0 rb srcV tokV U W i ns) (hi : i < TL.length) :
    Calls Tryz.prog 33 #[.pointer (some ⟨rb, 0, none⟩)] W fun e W' => e = .returned (Go.Proofs.YtblhklbpcalglaaGreatDoor.tokV TL[i]) ∧ Below W.heap.size W W' := by
  obtain ⟨nv, hr, _⟩ := hS.rd
  obtain ⟨c0, c1, c2, c3, hlt⟩ := rd_cells hr
  obtain ⟨tb, cap, rfl, h1, h2, q0, q1, q2, q3⟩ := hT.tok hS.bel hi
  have hsm := hT.small
  have htb : tb < W.heap.size := by omega
  generalize TL[i] = t at *
  generalize TL.length = n at *
  clear hS hT hr
  go_enter Tryz.func33, Tryz.ntmps33
  go_wp2
  go_region
  all_goals
    go_wp2
    refine bodyPost_ret (v := Go.Proofs.YtblhklbpcalglaaGreatDoor.tokV t) (by simp [results, Tryz.results33, go_sem, Go.Proofs.YtblhklbpcalglaaGreatDoor.tokV]) rfl ⟨rfl, ?_⟩
    exact ((Below.refl _ _).alloc (Nat.le_refl _) _).drew
end Go.Proofs.YtblhklbpcalglaaGreatDoor
namespace Go.Proofs.YtblhklbpcalglaaGreatDoor
open Go.RowKit
set_option linter.unusedVariables false
set_option linter.unusedSimpArgs false
variable {w0 : World} {rb : Nat} {srcV tokV : Value} {TL : List Tok} {xs : List UInt8} {U : Nat → Prop}
theorem tok_f0 (W : World) (a b c d : Value) : (Instr.field 34 (.agg #[a, b, c, d]) 0).run Tryz.prog W = .ok a W := by
  simp [Instr.field, go_sem, Tryz.underlying34, asAgg]
theorem tok_f1 (W : World) (a b c d : Value) : (Instr.field 34 (.agg #[a, b, c, d]) 1).run Tryz.prog W = .ok b W := by
  simp [Instr.field, go_sem, Tryz.underlying34, asAgg]
theorem tok_f2 (W : World) (a b c d : Value) : (Instr.field 34 (.agg #[a, b, c, d]) 2).run Tryz.prog W = .ok c W := by
  simp [Instr.field, go_sem, Tryz.underlying34, asAgg]
theorem tok_f3 (W : World) (a b c d : Value) : (Instr.field 34 (.agg #[a, b, c, d]) 3).run Tryz.prog W = .ok d W := by
  simp [Instr.field, go_sem, Tryz.underlying34, asAgg]
theorem RS.upd {W W' : World} {i i' : Nat} {ns : List Nd} (h : RS w0 rb srcV tokV U W i ns) (hz : W.heap.size ≤ W'.heap.size) (hx : ∀ x, x < W.heap.size → x ≠ rb → W'.heap[x]? = W.heap[x]?) (hr : ∀ nv, W.heap[rb]? = some (rdO srcV tokV i nv) → W'.heap[rb]? = some (rdO srcV tokV i' nv)) (hb : Below rb w0 W') :
    RS w0 rb srcV tokV U W' i' ns ∧ KeepR rb W W' := by
  obtain ⟨nv, h1, h2⟩ := h.rd
  have hk : KeepR rb W W' := ⟨hz, fun x hx1 hxr _ => hx x hx1 (by omega), .inl (by rw [ownN_rd (hr nv h1), ownN_rd h1])⟩
  obtain ⟨ks, k1, k2, k3⟩ := h2.ex
  refine ⟨⟨⟨nv, hr nv h1, ⟨ks, k1, ?_, fun j hj hj' => ⟨h.ints (k3 j hj hj').1 hk, (k3 j hj hj').2⟩⟩⟩, hb⟩, hk⟩
  obtain ⟨q1, q2⟩ := k2
  refine ⟨q1, ?_⟩
  rcases q2 with q2 | ⟨g, cap, cur, hv, hg, hh, hr⟩
  · exact .inl q2
  · exact .inr ⟨g, cap, cur, hv, hg, by rw [hx g (heapLt hh) (by omega)]; exact hh, hr⟩
def stepW (rb : Nat) (W : World) (i : Nat) : World := W.setCell ⟨rb, 2, none⟩ (.int .i64 ((i + 1 : Nat) : Int))
theorem RS.step {W : World} {i : Nat} {ns : List Nd} (h : RS w0 rb srcV tokV U W i ns) : RS w0 rb srcV tokV U (stepW rb W i) (i + 1) ns ∧ KeepR rb W (stepW rb W i) := by
  refine h.upd (by simp [stepW]) (fun x hx hne => ?_) (fun nv hr => ?_) (Below.setCell (p := ⟨rb, 2, none⟩) h.bel (Nat.le_refl _) _)
  · unfold stepW
    exact heap_setCell_other W ⟨rb, 2, none⟩ x _ (by show x ≠ rb; omega)
  · unfold stepW
    rw [heap_setCell_same W rb 2 _ 46 _ hr]
    rfl
set_option maxRecDepth 100000 in
set_option maxHeartbeats 1000000 in
theorem rtext_any (hT : RT w0 rb srcV tokV TL xs) {W : World} {i : Nat} {ns : List Nd} (hS : RS w0 rb srcV tokV U W i ns) (hi : i < TL.length) :
    Calls Tryz.prog 23 #[.pointer (some ⟨rb, 0, none⟩)] W fun e W' => e = .returned (.string ⟨(textK (TL[i].kind : Nat)).toArray⟩) ∧ Below W.heap.size W W' := by
  have HN : Bx _ := ⟨rnext_any hT hS hi⟩
  have HL : Bx (∀ W', Below W.heap.size W W' → Calls Tryz.prog 32 #[.int .i64 (TL[i].kind : Nat)] W' fun e w' => e = .returned (.string ⟨(textK (TL[i].kind : Nat)).toArray⟩) ∧ W' = w') := ⟨fun W' hb => by
    have hl := laid_bel hT.laid hT.low (hS.ext hb).bel
    exact Text_any _ W' hl.words hl.signs⟩
  unfold Go.Proofs.YtblhklbpcalglaaGreatDoor.tokV at HN
  generalize textK (TL[i].kind : Nat) = tx at *
  generalize TL[i] = t at *
  have hf0 := tok_f0
  clear hS hT
  go_enter Tryz.func23, Tryz.ntmps23
  go_wp2_with (first
    | (go_at_call 33; refine Calls.mono HN.out ?_; rintro e W1 ⟨rfl, b1⟩)
    | (go_at_call 32; refine Calls.mono (HL.out _ b1) ?_; rintro e W2 ⟨rfl, rfl⟩))
  go_ret
  exact ⟨rfl, b1⟩
set_option maxRecDepth 100000 in
set_option maxHeartbeats 1000000 in
theorem ended_any (hT : RT w0 rb srcV tokV TL xs) {W : World} {i : Nat} {ns : List Nd} (hS : RS w0 rb srcV tokV U W i ns) (hi : i < TL.length) :
    Calls Tryz.prog 25 #[.pointer (some ⟨rb, 0, none⟩)] W fun e W' => e = .returned (.bool (decide (i + 1 = TL.length))) ∧ Below W.heap.size W W' := by
  obtain ⟨nv, hr, _⟩ := hS.rd
  obtain ⟨c0, c1, c2, c3, hlt⟩ := rd_cells hr
  obtain ⟨tb, cap, rfl, h1, h2, hx⟩ := hT.tok hS.bel hi
  have hsm := hT.small
  clear hx
  have he : decide (i + 1 = TL.length) = ((i : Int) == (TL.length : Int) - 1) := by
    by_cases h : i + 1 = TL.length
    · rw [decide_eq_true h]; symm; rw [beq_iff_eq]; omega
    · rw [decide_eq_false h]; symm; rw [beq_eq_false_iff_ne]; omega
  rw [he]
  clear hS hT hr he
  generalize TL.length = n at *
  go_enter Tryz.func25, Tryz.ntmps25
  go_wp2
  go_quiet (fail)
  go_wp2
  go_ret
  exact ⟨rfl, below_drewN (Below.refl _ _) _⟩
theorem beq_bytes {x : List UInt8} {s : ByteArray} : ((⟨x.toArray⟩ : ByteArray).toList == s.toList) = decide (x = s.data.toList) := by
  rw [ByteArray.toList_eq, ByteArray.toList_eq]
  by_cases h : x = s.data.toList
  · rw [decide_eq_true h, beq_iff_eq, h]
  · rw [decide_eq_false h, beq_eq_false_iff_ne]
    exact h
set_option maxRecDepth 100000 in
set_option maxHeartbeats 1000000 in
theorem skip_no (hT : RT w0 rb srcV tokV TL xs) {W : World} {i : Nat} {ns : List Nd} (hS : RS w0 rb srcV tokV U W i ns) (hi : i < TL.length) (s : ByteArray) (hs : ¬ textK (TL[i].kind : Nat) = s.data.toList) :
    Calls Tryz.prog 49 #[.pointer (some ⟨rb, 0, none⟩), .string s] W fun e W' => e = .returned (.bool false) ∧ Below W.heap.size W W' := by
  have HN : Bx _ := ⟨rtext_any hT hS hi⟩
  have hb : ((⟨(textK (TL[i].kind : Nat)).toArray⟩ : ByteArray).toList == s.toList) = false := by rw [beq_bytes]; exact decide_eq_false hs
  generalize (⟨(textK (TL[i].kind : Nat)).toArray⟩ : ByteArray) = tx at *
  clear hS hT hs
  go_enter Tryz.func49, Tryz.ntmps49
  go_wp2_with (first
    | (go_at_call 23; refine Calls.mono HN.out ?_; rintro e W1 ⟨rfl, b1⟩))
  go_ret
  exact ⟨rfl, b1⟩
set_option maxRecDepth 100000 in
set_option maxHeartbeats 1000000 in
theorem skip_yes (hT : RT w0 rb srcV tokV TL xs) {W : World} {i : Nat} {ns : List Nd} (hS : RS w0 rb srcV tokV U W i ns) (hi : i < TL.length) (s : ByteArray) (hs : textK (TL[i].kind : Nat) = s.data.toList) :
    Calls Tryz.prog 49 #[.pointer (some ⟨rb, 0, none⟩), .string s] W fun e W' => e = .returned (.bool true) ∧ RS w0 rb srcV tokV U W' (i + 1) ns ∧ KeepR rb W W' := by
  have HN : Bx _ := ⟨rtext_any hT hS hi⟩
  have hb : ((⟨(textK (TL[i].kind : Nat)).toArray⟩ : ByteArray).toList == s.toList) = true := by rw [beq_bytes]; exact decide_eq_true hs
  have HC : Bx (∀ W1, Below W.heap.size W W1 → ∃ nv, W1.heap[rb]? = some (rdO srcV tokV i nv)) := ⟨fun W1 b => by
    obtain ⟨nv, h, _⟩ := (hS.ext b).rd
    exact ⟨nv, h⟩⟩
  have HE : Bx (∀ W1, Below W.heap.size W W1 → RS w0 rb srcV tokV U (stepW rb W1 i) (i + 1) ns ∧ KeepR rb W (stepW rb W1 i)) := ⟨fun W1 b => by
    obtain ⟨h1, h2⟩ := (hS.ext b).step
    exact ⟨h1, (KeepR.ext hS.lt b).trans h2⟩⟩
  have hsm := hT.small
  generalize (⟨(textK (TL[i].kind : Nat)).toArray⟩ : ByteArray) = tx at *
  clear hS hT hs
  generalize TL.length = n at *
  go_enter Tryz.func49, Tryz.ntmps49
  go_wp2_with (first
    | (go_at_call 23; refine Calls.mono HN.out ?_; rintro e W1 ⟨rfl, b1⟩; obtain ⟨nv, hr⟩ := HC.out W1 b1; obtain ⟨c0, c1, c2, c3, hlt⟩ := rd_cells hr; have hfz : W1.frozen? ⟨rb, 2, none⟩ = false := (by simp [World.frozen?, hr, rdO]); clear hr))
  go_ret
  exact ⟨rfl, HE.out _ b1⟩
end Go.Proofs.YtblhklbpcalglaaGreatDoor
