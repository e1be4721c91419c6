import Derived.Test.YtikijkpklneihaaCVSz
import Derived.Deep.AppendLies
namespace Go.Proofs.Ytikijkpklneihaa
open Go.RowKit
set_option linter.unusedVariables false
set_option linter.unusedSimpArgs false

def shI (ka na : Int) (la : Nat) (kb nb : Int) (lb : Nat) : Bool := (ka == kb) && ((na == nb) && ((la : Int) == (lb : Int)))
theorem shI_iff {a b : V} : shI a.k a.n a.l.length b.k b.n b.l.length = true ↔ a.k = b.k ∧ a.n = b.n ∧ a.l.length = b.l.length := by simp [shI]; omega

set_option maxRecDepth 100000 in
set_option maxHeartbeats 2000000 in
theorem sameHead_any (w : World) (ka na : Int) (pa : Option Addr) (la ca : Nat) (kb nb : Int) (pb : Option Addr) (lb cb : Nat) :
    Calls Try.prog 35 #[.agg #[.int .i64 ka, .int .i64 na, .slice pa la ca], .agg #[.int .i64 kb, .int .i64 nb, .slice pb lb cb]] w fun e w' => e = .returned (.bool (shI ka na la kb nb lb)) ∧ Below w.heap.size w w' := by
  by_cases h1 : ka = kb
  · by_cases h2 : na = nb
    · subst h1 h2
      go_enter Try.func35, Try.ntmps35
      go_wp2
      go_ret
      exact ⟨by simp [shI], two_new _ _ _⟩
    · subst h1
      have e : shI ka na la ka nb lb = false := by simp [shI, h2]
      rw [e]
      have hb : (na == nb) = false := by simpa using h2
      go_enter Try.func35, Try.ntmps35
      go_wp2
      go_ret
      exact ⟨rfl, two_new _ _ _⟩
  · have e : shI ka na la kb nb lb = false := by simp [shI, h1]
    rw [e]
    have hb : (ka == kb) = false := by simpa using h1
    go_enter Try.func35, Try.ntmps35
    go_wp2
    go_ret
    exact ⟨rfl, two_new _ _ _⟩

/-- pairs of slices, one behind the other -/
def PrL (W : World) (B : Nat) : List (List V × List V) → List Value → Prop
  | [], xs => xs = []
  | l :: ls, xs => ∃ p c p' c' ys, xs = .slice p l.1.length c :: .slice p' l.2.length c' :: ys ∧ SlV W B p c l.1 ∧ SlV W B p' c' l.2 ∧ PrL W B ls ys
def PrVs (W : World) (B : Nat) (xs : List Value) (ls : List (List V × List V)) : Prop := PrL W B ls xs
theorem PrVs.len {W : World} {B : Nat} {ls : List (List V × List V)} : ∀ {xs : List Value}, PrVs W B xs ls → xs.length = ls.length * 2 := by
  induction ls with
  | nil => intro xs h; simp [PrVs, PrL] at h; simp [h]
  | cons l ls ih =>
    intro xs h
    obtain ⟨p, c, p', c', ys, rfl, h1, h2, h3⟩ := h
    have := ih h3; simp; omega
theorem PrVs.lo {W W' : World} {B : Nat} (hB : Lo B W W') {ls : List (List V × List V)} : ∀ {xs : List Value}, PrVs W B xs ls → PrVs W' B xs ls := by
  induction ls with
  | nil => intro xs h; exact h
  | cons l ls ih =>
    intro xs h
    obtain ⟨p, c, p', c', ys, rfl, h1, h2, h3⟩ := h
    exact ⟨p, c, p', c', ys, rfl, h1.lo hB, h2.lo hB, ih h3⟩
theorem PrVs.append {W : World} {B : Nat} {ls ms : List (List V × List V)} {ys : List Value} : ∀ {xs : List Value}, PrVs W B xs ls → PrVs W B ys ms → PrVs W B (xs ++ ys) (ls ++ ms) := by
  induction ls with
  | nil => intro xs h k; simp [PrVs, PrL] at h; subst h; exact k
  | cons l ls ih =>
    intro xs h k
    obtain ⟨p, c, p', c', zs, rfl, h1, h2, h3⟩ := h
    exact ⟨p, c, p', c', zs ++ ys, rfl, h1, h2, ih h3 k⟩
theorem PrVs.last {W : World} {B : Nat} {l : List V × List V} {ls : List (List V × List V)} : ∀ {xs : List Value}, PrVs W B xs (ls ++ [l]) → ∃ ys p cap p' cap', xs = ys ++ [.slice p l.1.length cap, .slice p' l.2.length cap'] ∧ PrVs W B ys ls ∧ SlV W B p cap l.1 ∧ SlV W B p' cap' l.2 := by
  induction ls with
  | nil =>
    intro xs h
    obtain ⟨p, c, p', c', zs, rfl, h1, h2, h3⟩ := h
    simp [PrL] at h3
    subst h3
    exact ⟨[], p, c, p', c', rfl, rfl, h1, h2⟩
  | cons m ls ih =>
    intro xs h
    obtain ⟨p, c, p', c', zs, rfl, h1, h2, h3⟩ := h
    obtain ⟨ys, q, d, q', d', rfl, k1, k2, k3⟩ := ih h3
    exact ⟨_ :: _ :: ys, q, d, q', d', rfl, ⟨p, c, p', c', ys, rfl, h1, h2, k1⟩, k2, k3⟩

structure StkP (W : World) (base B : Nat) (v : Value) (st : List (List V × List V)) : Prop where
  own : ∃ xs, W.ownsRow base 56 2 v st.length xs ∧ PrVs W B xs st
theorem StkP.val {W : World} {base B : Nat} {v : Value} {st : List (List V × List V)} (h : StkP W base B v st) : (v = .slice none 0 0 ∧ st = []) ∨ ∃ g cap, v = .slice (some ⟨g, 0, none⟩) st.length cap ∧ base ≤ g ∧ g < W.heap.size ∧ st.length ≤ cap ∧ cap ≤ maxLen := by
  obtain ⟨xs, h1, h2⟩ := h.own
  rcases h1.2 with ⟨rfl, h3⟩ | ⟨g, cap, cur, rfl, h4, h5, h6, h7, _⟩
  · exact .inl ⟨rfl, List.eq_nil_of_length_eq_zero h3⟩
  · exact .inr ⟨g, cap, rfl, h4, (Array.getElem?_eq_some_iff.1 h5).1, h6, h7⟩
theorem StkP.pop {W : World} {base B : Nat} {v : Value} {st : List (List V × List V)} {l : List V × List V} (h : StkP W base B v (st ++ [l])) :
    ∃ g cap p c p' c', v = .slice (some ⟨g, 0, none⟩) (st.length + 1) cap ∧ base ≤ g ∧ g < W.heap.size ∧ st.length + 1 ≤ cap ∧ cap ≤ maxLen ∧ W.cell? ⟨g, st.length * 2, none⟩ = some (.slice p l.1.length c) ∧ W.cell? ⟨g, st.length * 2 + 1, none⟩ = some (.slice p' l.2.length c') ∧
      SlV W B p c l.1 ∧ SlV W B p' c' l.2 ∧ StkP W base B (.slice (some ⟨g, 0, none⟩) st.length cap) st := by
  obtain ⟨xs, h1, h2⟩ := h.own
  obtain ⟨ys, p, c, p', c', rfl, h3, h4, h4'⟩ := h2.last
  obtain ⟨q1, q2⟩ := h1
  have hl := h3.len
  rcases q2 with ⟨_, h5⟩ | ⟨g, cap, cur, rfl, q3, q4, q5, q6, q7, q8⟩
  · simp at h5
  · simp only [List.length_append, List.length_singleton] at q5 q7 q8 ⊢
    have hcur : ∀ j, j < (st.length + 1) * 2 → cur[j]? = (ys ++ [Value.slice p l.1.length c, Value.slice p' l.2.length c'])[j]? := fun j hj => by
      rw [← q8, List.getElem?_take_of_lt hj, Array.getElem?_toList]
    refine ⟨g, cap, p, c, p', c', rfl, q3, (Array.getElem?_eq_some_iff.1 q4).1, q5, q6, ?_, ?_, h4, h4', ⟨ys, ⟨by omega, .inr ⟨g, cap, cur, rfl, q3, q4, by omega, q6, by omega, ?_⟩⟩, h3⟩⟩
    · simp only [World.cell?, q4]
      rw [hcur _ (by omega)]
      simp [← hl]
    · simp only [World.cell?, q4]
      rw [hcur _ (by omega), ← hl, List.getElem?_append_right (by omega)]
      simp
    · apply List.ext_getElem?
      intro j
      by_cases hj : j < st.length * 2
      · rw [List.getElem?_take_of_lt (by omega), Array.getElem?_toList, hcur j (by omega), List.getElem?_append_left (by omega)]
      · rw [List.getElem?_eq_none (by simp; omega), List.getElem?_eq_none (by omega)]
theorem StkP.keep {W W' : World} {base B : Nat} {v : Value} {st : List (List V × List V)} (h : StkP W base B v st) (hB : Lo B W W') (hb : ∀ g o, v.ownBlock = some g → W.heap[g]? = some o → W'.heap[g]? = some o) : StkP W' base B v st := by
  obtain ⟨xs, h1, h2⟩ := h.own
  exact ⟨xs, own_same h1 hb, h2.lo hB⟩
theorem StkP.ext {W W' : World} {base B : Nat} {v : Value} {st : List (List V × List V)} (h : StkP W base B v st) (hB : B ≤ W.heap.size) (hb : Below W.heap.size W W') : StkP W' base B v st :=
  h.keep (Lo.of (hb.mono hB)) (fun g o _ hg => (hb.block g (Array.getElem?_eq_some_iff.1 hg).1).trans hg)
theorem pushP_all {wr X w' : World} {base B : Nat} {u v' : Value} {st : List (List V × List V)} {xs : List Value} {r : Option Addr} {rc : Nat} {l : List V} {r' : Option Addr} {rc' : Nat} {l' : List V} (hown : wr.ownsRow base 56 2 u st.length xs) (hsl : PrVs wr B xs st) (hl : SlV wr B r rc l) (hl' : SlV wr B r' rc' l') (hX : Below wr.heap.size wr X)
    (hown' : w'.ownsRow base 56 2 v' (st.length + 1) (xs ++ [.slice r l.length rc, .slice r' l'.length rc'])) (hg : X.grownBy w' u.ownBlock) (hB : B ≤ base) (hbase : base ≤ wr.heap.size) :
    StkP w' base B v' (st ++ [(l, l')]) ∧ Lo B wr w' ∧ Below base wr w' ∧ wr.heap.size ≤ w'.heap.size := by
  have hs := hX.size
  have hb : Below base wr w' := (hX.mono hbase).grown hg (by omega) (fun k e => own_base hown k e)
  have hlo : Lo B wr w' := Lo.of (hb.mono hB)
  exact ⟨⟨_, by simpa using hown', (hsl.append (ys := [.slice r l.length rc, .slice r' l'.length rc']) (ms := [(l, l')]) ⟨r, rc, r', rc', [], rfl, hl, hl', rfl⟩).lo hlo⟩, hlo, hb, Nat.le_trans hs hg.size⟩
/-- a slice of one value -/
theorem one_sl {W : World} {B b : Nat} {p : Option Addr} {cap : Nat} {x : V} {t : TypeId} (h : W.heap[b]? = some (.cells #[.int .i64 x.k, .int .i64 x.n, .slice p x.l.length cap] t (0, 0))) (hs : SlV W B p cap x.l) (hk : I64 x.k) (hn : I64 x.n) (hb : b < B) : SlV W B (some ⟨b, 0, none⟩) 1 [x] := by
  refine ⟨by simp, by simp [maxLen], .inr ⟨b, 0, rfl, hb, ?_⟩⟩
  simp only [AtVs, and_true]
  refine atV_iff.2 ⟨?_, ?_, hk, hn, p, cap, ?_, hs⟩ <;> simp [World.cell?, h]
theorem infoPr : (Try.prog.info? 56).map (fun i => (i.zero, i.size, i.bytes)) = some (some (.agg #[.slice none 0 0, .slice none 0 0]), 2, 48) := by kernel_rfl
theorem drop_eq_iff {l m : List V} {i : Nat} (h1 : i < l.length) (h2 : i < m.length) : (l.drop i = m.drop i) ↔ (l[i] = m[i] ∧ l.drop (i + 1) = m.drop (i + 1)) := by
  rw [List.drop_eq_getElem_cons h1, List.drop_eq_getElem_cons h2, List.cons.injEq]
theorem keep2 {wr w3 : World} {a0 a1 a2 b0 b1 b2 : Value} {t : TypeId} (hb : Below ((wr.alloc (.cells #[a0, a1, a2] t)).alloc (.cells #[b0, b1, b2] t)).heap.size ((wr.alloc (.cells #[a0, a1, a2] t)).alloc (.cells #[b0, b1, b2] t)) w3) :
    w3.cell? ⟨wr.heap.size, 2, none⟩ = some a2 ∧ w3.cell? ⟨wr.heap.size + 1, 2, none⟩ = some b2 ∧ Below wr.heap.size wr w3 ∧ wr.heap.size + 2 ≤ w3.heap.size := by
  have h1 : w3.heap[wr.heap.size]? = some (.cells #[a0, a1, a2] t) := (hb.block _ (by simp; omega)).trans ((Below.heap_alloc _ _ _ (by simp)).trans (World.alloc_heap_new wr _))
  have h2 : w3.heap[wr.heap.size + 1]? = some (.cells #[b0, b1, b2] t) := (hb.block _ (by simp)).trans (alloc_at _ _ _)
  have hs := hb.size
  simp at hs
  refine ⟨by simp [World.cell?, h1], by simp [World.cell?, h2], (two_new _ _ _).trans (hb.mono (by simp; omega)), by omega⟩
theorem pair_one (W : World) (g : Nat) (u u' : Value) (t : TypeId) (hg : W.heap[g]? = some (.cells #[u, u'] t (0, 0))) : ∀ (j : Nat) (x : Value), [u, u'][j]? = some x → W.cell? ((⟨g, 0, none⟩ : Addr).add j) = some x := by
  intro j x hx
  match j with
  | 0 => simp at hx; subst hx; simp [World.cell?, Addr.add, hg]
  | 1 => simp at hx; subst hx; simp [World.cell?, Addr.add, hg]
  | j + 2 => simp at hx
theorem pair_cell (p : Option Addr) (n c : Nat) (p' : Option Addr) (n' c' : Nat) : ∀ u ∈ [Value.slice p n c, Value.slice p' n' c'], u.oneCell' = true := by
  intro u hu; simp at hu; rcases hu with rfl | rfl <;> rfl
def stp : List (List V × List V) → Nat
  | [] => 0
  | l :: ls => szs l.1 + stp ls
theorem stp_append (a b : List (List V × List V)) : stp (a ++ b) = stp a + stp b := by
  induction a with
  | nil => simp [stp]
  | cons x xs ih => simp [stp, ih]; omega
theorem all_snoc {st : List (List V × List V)} {q : List V × List V} {P : List V × List V → Prop} : (∀ x ∈ st ++ [q], P x) ↔ (∀ x ∈ st, P x) ∧ P q := by
  constructor
  · intro h; exact ⟨fun x hx => h x (by simp [hx]), h q (by simp)⟩
  · rintro ⟨h1, h2⟩ x hx
    rcases List.mem_append.1 hx with h | h
    · exact h1 x h
    · simp at h; subst h; exact h2
theorem alloc3_at {w : World} {a b c d : Obj} : ((((w.alloc a).alloc b).alloc c).alloc d).heap[w.heap.size + 2]? = some c := by
  have := World.alloc_heap_new ((w.alloc a).alloc b) c
  rw [World.size_alloc, World.size_alloc] at this
  exact (Below.heap_alloc _ _ _ (by simp)).trans this

open Classical in
noncomputable def eqB (x y : V) : Bool := decide (x = y)
theorem eqB_yes {x y : V} (h : x = y) : eqB x y = true := by simp [eqB, h]
theorem eqB_no {x y : V} (h : ¬ x = y) : eqB x y = false := by simp [eqB, h]
set_option maxRecDepth 100000 in
set_option maxHeartbeats 2000000 in
theorem Same_any (w : World) (B : Nat) (v u : Value) (x y : V) (hv : IsV w B v x) (hu : IsV w B u y) (hB : B ≤ w.heap.size) (hx : x.sz ≤ 65536) :
    Calls Try.prog 20 #[v, u] w fun e w' => e = .returned (.bool (eqB x y)) ∧ Below w.heap.size w w' := by
  obtain ⟨⟨p, cap, rfl, h1⟩, h2, h3⟩ := hv
  obtain ⟨⟨p', cap', rfl, h1'⟩, h2', h3'⟩ := hu
  obtain ⟨i0, hi, iz0, iz1, iz2⟩ := info_parts infoPr
  go_enter Try.func20, Try.ntmps20
  go_wp2
  obtain ⟨W0, hW0⟩ : ∃ W0, ((((w.alloc (Obj.cells #[Value.int IntKind.i64 x.k, Value.int IntKind.i64 x.n, Value.slice p x.l.length cap] 24)).alloc (Obj.cells #[Value.int IntKind.i64 y.k, Value.int IntKind.i64 y.n, Value.slice p' y.l.length cap'] 24)).alloc (Obj.cells #[Value.int IntKind.i64 x.k, Value.int IntKind.i64 x.n, Value.slice p x.l.length cap] 24)).alloc (Obj.cells #[Value.int IntKind.i64 y.k, Value.int IntKind.i64 y.n, Value.slice p' y.l.length cap'] 24)) = W0 := ⟨_, rfl⟩
  have hz0 : W0.heap.size = w.heap.size + 4 := by rw [← hW0]; simp
  have hb0 : Below w.heap.size w W0 := by rw [← hW0]; exact (two_new _ _ _).trans ((two_new _ _ _).mono (by simp; omega))
  have ha2 : W0.heap[w.heap.size + 2]? = some (Obj.cells #[Value.int IntKind.i64 x.k, Value.int IntKind.i64 x.n, Value.slice p x.l.length cap] 24) := by rw [← hW0]; exact alloc3_at
  have ha3 : W0.heap[w.heap.size + 3]? = some (Obj.cells #[Value.int IntKind.i64 y.k, Value.int IntKind.i64 y.n, Value.slice p' y.l.length cap'] 24) := by
    rw [← hW0]; have := alloc_at ((w.alloc (Obj.cells #[Value.int IntKind.i64 x.k, Value.int IntKind.i64 x.n, Value.slice p x.l.length cap] 24)).alloc (Obj.cells #[Value.int IntKind.i64 y.k, Value.int IntKind.i64 y.n, Value.slice p' y.l.length cap'] 24)) (Obj.cells #[Value.int IntKind.i64 x.k, Value.int IntKind.i64 x.n, Value.slice p x.l.length cap] 24) (Obj.cells #[Value.int IntKind.i64 y.k, Value.int IntKind.i64 y.n, Value.slice p' y.l.length cap'] 24)
    simpa using this
  rw [hW0]
  have hLo : Lo B w W0 := Lo.of (hb0.mono hB)
  obtain ⟨A, hA⟩ : ∃ A, A = w.heap.size + 4 := ⟨_, rfl⟩
  have hr1 : SlV W0 A (some ⟨w.heap.size + 2, 0, none⟩) 1 [x] := one_sl ha2 ((h1.lo hLo).up (by omega)) h2 h3 (by omega)
  have hr2 : SlV W0 A (some ⟨w.heap.size + 3, 0, none⟩) 1 [y] := one_sl ha3 ((h1'.lo hLo).up (by omega)) h2' h3' (by omega)
  obtain ⟨W1, hW1⟩ : ∃ W1, W0.alloc (Obj.cells #[Value.slice (some ⟨w.heap.size + 2, 0, none⟩) 1 1, Value.slice (some ⟨w.heap.size + 3, 0, none⟩) 1 1] 56) = W1 := ⟨_, rfl⟩
  have hb1 : Below W0.heap.size W0 W1 := by rw [← hW1]; exact below1 _ _
  have hn1 : W1.heap[A]? = some (Obj.cells #[Value.slice (some ⟨w.heap.size + 2, 0, none⟩) 1 1, Value.slice (some ⟨w.heap.size + 3, 0, none⟩) 1 1] 56) := by rw [← hW1, hA, ← hz0]; exact World.alloc_heap_new _ _
  have hLo1 : Lo A W0 W1 := Lo.of (hb1.mono (by omega))
  have HS0 : Bx (StkP W1 A A (.slice (some ⟨A, 0, none⟩) 1 1) [([x], [y])] ∧ Below w.heap.size w W1 ∧ A + 1 ≤ W1.heap.size) :=
    ⟨⟨⟨[.slice (some ⟨w.heap.size + 2, 0, none⟩) 1 1, .slice (some ⟨w.heap.size + 3, 0, none⟩) 1 1], ⟨rfl, .inr ⟨_, 1, _, rfl, Nat.le_refl _, hn1, by simp, by simp [maxLen], by simp, by simp⟩⟩, ⟨_, _, _, _, [], rfl, hr1.lo hLo1, hr2.lo hLo1, rfl⟩⟩⟩, hb0.trans (hb1.mono (by omega)), by rw [← hW1]; simp; omega⟩
  simp only [Nat.add_assoc, Nat.reduceAdd]
  rw [hz0] at *
  have hAw : w.heap.size ≤ A := by omega
  rw [← hA] at *
  rw [hW1]
  clear hr1 hr2 hLo1 hn1 hb1 hW1 ha2 ha3 hW0 hb0 hLo h1 h1' h2 h2' h3 h3'
  go_loopg [5] (x.sz + 1) (fun k v wr => ∃ st, k = stp st + st.length ∧ k ≤ x.sz + 1 ∧ (∀ q ∈ st, q.1.length = q.2.length) ∧ Bx ((x = y ↔ ∀ q ∈ st, q.1 = q.2) ∧ StkP wr A A v st ∧ Below w.heap.size w wr ∧ A + 1 ≤ wr.heap.size))
  case atStart => exact ⟨[([x], [y])], by simp [stp, szs], Nat.le_refl _, by simp, ⟨by simp, HS0.out⟩⟩
  case round =>
    obtain ⟨st, hk, hkS, hlen, HS⟩ := hrel
    clear HS0
    rcases List.eq_nil_or_concat st with rfl | ⟨qs, ⟨l, l'⟩, rfl⟩
    · have HE : Bx (x = y ∧ Below w.heap.size w wr) := ⟨HS.out.1.2 (by simp), HS.out.2.2.1⟩
      rcases HS.out.2.1.val with ⟨rfl, _⟩ | ⟨g, gc, rfl, _⟩
      · go_wp2
        go_ret
        exact ⟨congrArg (fun z => Ending.returned (.bool z)) (eqB_yes HE.out.1).symm, HE.out.2⟩
      · rw [show ([] : List (List V × List V)).length = 0 from rfl]
        go_wp2
        go_ret
        exact ⟨congrArg (fun z => Ending.returned (.bool z)) (eqB_yes HE.out.1).symm, HE.out.2⟩
    · rw [List.concat_eq_append] at HS hk hlen
      obtain ⟨g, gc, q, qc, q', qc', rfl, hg, hgl, hgc, hgm, c0, c1, HQ, HQ', hst⟩ := HS.out.2.1.pop
      rw [all_snoc] at hlen
      obtain ⟨hlen, hll⟩ := hlen
      simp only at hll c0 c1 HQ HQ'
      have hlq : l.length ≤ qc := HQ.1
      have hqm : qc ≤ maxLen := HQ.2.1
      have hlq' : l'.length ≤ qc' := HQ'.1
      rw [← hll] at c1 hlq'
      have HLL : Bx _ := ⟨hll⟩
      clear hll
      have hqm' : qc' ≤ maxLen := HQ'.2.1
      simp only [stp_append, stp, List.length_append, List.length_singleton, Nat.add_zero] at hk
      have HLN : Bx _ := ⟨hlen⟩
      have HT : Bx (x = y ↔ (l = l' ∧ ∀ q ∈ qs, q.1 = q.2)) := ⟨HS.out.1.trans (by rw [all_snoc]; exact And.comm)⟩
      unfold maxLen at hgm hqm hqm'
      have hzl := szs_len l
      obtain ⟨W2, hW2⟩ : ∃ W2, wr.alloc (Obj.cells #[Value.slice q l.length qc, Value.slice q' l.length qc'] 56) = W2 := ⟨_, rfl⟩
      have hb2 : Below wr.heap.size wr W2 := by rw [← hW2]; exact below1 _ _
      have hg2 : W2.heap[wr.heap.size]? = some (Obj.cells #[Value.slice q l.length qc, Value.slice q' l.length qc'] 56) := by rw [← hW2]; exact World.alloc_heap_new _ _
      have hA := HS.out.2.2.2
      have HST : Bx (StkP W2 A A (.slice (some ⟨g, 0, none⟩) qs.length gc) qs ∧ SlV W2 A q qc l ∧ SlV W2 A q' qc' l' ∧ Below w.heap.size w W2 ∧ Below (wr.heap.size + 1) W2 W2) :=
        ⟨hst.ext (by omega) hb2, HQ.lo (Lo.of (hb2.mono (by omega))), HQ'.lo (Lo.of (hb2.mono (by omega))), HS.out.2.2.1.trans (hb2.mono (by omega)), Below.refl _ _⟩
      have HG2 : Bx _ := ⟨hg2⟩
      have hz2 : W2.heap.size = wr.heap.size + 1 := by rw [← hW2]; simp
      have x0 : W2.cell? ⟨wr.heap.size, 0, none⟩ = some (.slice q l.length qc) := by simp [World.cell?, hg2]
      have x1 : W2.cell? ⟨wr.heap.size, 1, none⟩ = some (.slice q' l.length qc') := by simp [World.cell?, hg2]
      clear HQ HQ' HS hst hlen hb2 hg2
      go_wp2
      clear hW2 x0 x1
      have hAR : A + 1 ≤ wr.heap.size := by omega
      generalize wr.heap.size = R at *
      have HR0 : Bx _ := ⟨HG2.out⟩
      go_loopg [5, 33] l.length (fun k v iv wr' => ∃ (i : Nat) (st : List (List V × List V)), k = l.length - i ∧ i ≤ l.length ∧ iv = .int .i64 i ∧ stp st + st.length + szs (l.drop i) ≤ stp qs + qs.length + szs l ∧ Bx ((∀ q ∈ st, q.1.length = q.2.length) ∧ (x = y ↔ (l.drop i = l'.drop i ∧ ∀ q ∈ st, q.1 = q.2)) ∧ StkP wr' A A v st ∧ SlV wr' A q qc l ∧ SlV wr' A q' qc' l' ∧ Below w.heap.size w wr' ∧ R + 1 ≤ wr'.heap.size ∧ W2.heap[R]? = wr'.heap[R]? ∧ v.ownBlock ≠ some R))
      case atStart => exact ⟨0, qs, by simp, by omega, rfl, by simp, ⟨HLN.out, by simpa using HT.out, HST.out.1, HST.out.2.1, HST.out.2.2.1, HST.out.2.2.2.1, by omega, rfl, by rw [ownB]; intro e; cases e; omega⟩⟩
      case round =>
        obtain ⟨i, st, hk', hil, rfl, hms, HR⟩ := hrel
        have hRc : wr.heap[R]? = some (Obj.cells #[Value.slice q l.length qc, Value.slice q' l.length qc'] 56) := HR.out.2.2.2.2.2.2.2.1.symm.trans HG2.out
        have e0 : wr.cell? ⟨R, 0, none⟩ = some (.slice q l.length qc) := by simp [World.cell?, hRc]
        have e1 : wr.cell? ⟨R, 1, none⟩ = some (.slice q' l.length qc') := by simp [World.cell?, hRc]
        have hRz : R < wr.heap.size := HR.out.2.2.2.2.2.2.1
        by_cases hlt : i < l.length
        · obtain ⟨b, o, r, rc, rfl, hbB, d0, d1, d2, hR, _, _⟩ := HR.out.2.2.2.1.at3 i hlt
          have hlt' : i < l'.length := by have := HLL.out; omega
          obtain ⟨b', o', r', rc', rfl, hbB', d0', d1', d2', hR', _, _⟩ := HR.out.2.2.2.2.1.at3 i hlt'
          have hdr := szs_drop hlt
          have hbl : b < wr.heap.size := by omega
          have hbl' : b' < wr.heap.size := by omega
          have hdi := drop_eq_iff hlt hlt'
          have HI : Bx _ := ⟨HR.out.2.1⟩
          have HDI : Bx _ := ⟨hdi⟩
          have hA2 : A + 1 ≤ wr.heap.size := by omega
          clear hdi
          cases hsh : shI l[i].k l[i].n l[i].l.length l'[i].k l'[i].n l'[i].l.length
          · have HNE : Bx (¬ x = y) := ⟨fun h => by
              have h2 := (HDI.out.1 (HI.out.1 h).1).1
              rw [shI_iff.2 ⟨by rw [h2], by rw [h2], by rw [h2]⟩] at hsh
              cases hsh⟩
            have HB : Bx _ := ⟨HR.out.2.2.2.2.2.1⟩
            clear hR hR' HR HDI
            go_wp2_with (first | (go_at_call 35; refine Calls.mono (sameHead_any _ _ _ _ _ _ _ _ _ _ _) ?_; rintro e w3 ⟨he3, hb3⟩; rw [hsh] at he3; subst he3; obtain ⟨g2, g2', hb3', hz3⟩ := keep2 hb3))
            go_ret
            exact ⟨congrArg (fun z => Ending.returned (.bool z)) (eqB_no HNE.out).symm, HB.out.trans (hb3'.mono (by omega))⟩
          · obtain ⟨s1, s2, s3⟩ := shI_iff.1 hsh
            have hVe : l[i] = l'[i] ↔ l[i].l = l'[i].l := ⟨fun h => by rw [h], fun h => V.ext s1 s2 h⟩
            have HVE : Bx _ := ⟨hVe⟩
            have HS3 : Bx _ := ⟨s3⟩
            clear s1 s2 s3 hVe
            by_cases hkid : 0 < l[i].l.length
            · obtain ⟨xs, ho, hsl⟩ := HR.out.2.2.1.own
              have HO : Bx _ := ⟨ho⟩
              have HSL : Bx _ := ⟨hsl⟩
              have HRR : Bx _ := ⟨hR⟩
              have HRR' : Bx _ := ⟨hR'⟩
              clear ho hsl hR hR'
              go_wp2_with (first | (go_at_call 35; refine Calls.mono (sameHead_any _ _ _ _ _ _ _ _ _ _ _) ?_; rintro e w3 ⟨he3, hb3⟩; rw [hsh] at he3; subst he3; obtain ⟨g2, g2', hb3', hz3⟩ := keep2 hb3) | (at_builtin; refine wpList_append_lies _ rfl (.tmp 51) (.tmp 57) 57 rfl A 56 i0 (.agg #[.slice none 0 0, .slice none 0 0]) 2 48 Try.underlying57 hi iz0 iz1 iz2 rfl (by decide) u5 st.length xs rfl (own_new HO.out (hb3'.trans ((below1 _ _).mono hb3'.size))) ⟨w3.heap.size, 0, none⟩ 1 1 [.slice r l[i].l.length rc, .slice r' l'[i].l.length rc'] rfl rfl (pair_one _ _ _ _ 56 (World.alloc_heap_new _ _)) (pair_cell _ _ _ _ _ _) (by decide) (by unfold maxLen; omega) (by omega) (by simp; omega) (w3.heap.size + 1) (by simp) ?_; intro gg gcap w' hown' hgrow hgi hgl'; obtain ⟨p1, p2, p3, p4⟩ := pushP_all HO.out HSL.out HRR.out HRR'.out (hb3'.trans ((below1 _ _).mono hb3'.size)) hown' hgrow (by omega) (by omega); have hw9 : W2.heap[R]? = w'.heap[R]? := (HR.out.2.2.2.2.2.2.2.1.trans ((hgrow.block R (by simp; omega) (fun e => HR.out.2.2.2.2.2.2.2.2 e.symm)).trans ((hb3'.trans ((below1 _ _).mono hb3'.size)).block R (by omega))).symm); have hw8 : (Value.slice (some ⟨gg, 0, none⟩) (st.length + 1) gcap).ownBlock ≠ some R := (by rw [ownB]; rcases hgi with h | h <;> intro e <;> cases e <;> first | exact HR.out.2.2.2.2.2.2.2.2 h | omega)))
              go_roundg (l.length - (i + 1))
              case measure => omega
              case rel => exact ⟨i + 1, st ++ [(l[i].l, l'[i].l)], rfl, by omega, by simp, by simp only [stp_append, stp, List.length_append, List.length_singleton]; omega, ⟨all_snoc.2 ⟨HR.out.1, HS3.out⟩, by rw [HI.out, HDI.out, HVE.out, all_snoc]; exact ⟨fun h => ⟨h.1.2, h.2, h.1.1⟩, fun h => ⟨⟨h.2.2, h.1⟩, h.2.1⟩⟩, p1, HR.out.2.2.2.1.lo p2, HR.out.2.2.2.2.1.lo p2, HR.out.2.2.2.2.2.1.trans (p3.mono (by omega)), by omega, hw9, hw8⟩⟩
            · have hk0 : l[i].l = [] := List.eq_nil_of_length_eq_zero (by omega)
              have hk0' : l'[i].l = [] := List.eq_nil_of_length_eq_zero (by have := HS3.out; omega)
              have HK : Bx (l[i].l = l'[i].l ∧ szs l[i].l = 0) := ⟨by rw [hk0, hk0'], by rw [hk0]; simp [szs]⟩
              clear hk0 hk0' hR hR'
              go_wp2_with (first | (go_at_call 35; refine Calls.mono (sameHead_any _ _ _ _ _ _ _ _ _ _ _) ?_; rintro e w3 ⟨he3, hb3⟩; rw [hsh] at he3; subst he3; obtain ⟨g2, g2', hb3', hz3⟩ := keep2 hb3))
              go_roundg (l.length - (i + 1))
              case measure => omega
              case rel => exact ⟨i + 1, st, rfl, by omega, by simp, by have := HK.out.2; omega, ⟨HR.out.1, by rw [HI.out, HDI.out, HVE.out]; exact ⟨fun h => ⟨h.1.2, h.2⟩, fun h => ⟨⟨HK.out.1, h.1⟩, h.2⟩⟩, HR.out.2.2.1.ext (by omega) hb3', HR.out.2.2.2.1.lo (Lo.of (hb3'.mono (by omega))), HR.out.2.2.2.2.1.lo (Lo.of (hb3'.mono (by omega))), HR.out.2.2.2.2.2.1.trans (hb3'.mono (by omega)), by omega, HR.out.2.2.2.2.2.2.2.1.trans (hb3'.block _ (by omega)).symm, HR.out.2.2.2.2.2.2.2.2⟩⟩
        · have hie : i = l.length := by omega
          subst hie
          simp only [List.drop_length, szs, Nat.add_zero] at hms
          have HF : Bx (x = y ↔ ∀ q ∈ st, q.1 = q.2) := ⟨HR.out.2.1.trans (by rw [show List.drop l.length l' = [] from (by rw [HLL.out, List.drop_length]), List.drop_length]; simp)⟩
          go_wp2
          go_roundg (stp st + st.length)
          case measure => omega
          case rel => exact ⟨st, rfl, by omega, HR.out.1, ⟨HF.out, HR.out.2.2.1, HR.out.2.2.2.2.2.1, by omega⟩⟩
end Go.Proofs.Ytikijkpklneihaa
