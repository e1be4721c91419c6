import Derived.Test.YtjabdhmkibahlaaCEM
import Derived.Deep.RegionLaw
namespace Go.Proofs.Ytjabdhmkibahlaa
open Go.RowKit Go.MapKept Go.ChangeMaps Go.WideShapes
set_option linter.unusedVariables false
set_option linter.unusedSimpArgs false

theorem step_app {P : Program} {ops : Array Oper} {o : Oper} {a : Act} {w : World} {K : Act → World → Prop} {Q : Exit → Act → World → Prop} {E : Prop}
    (hg : o.guard = none) (s x : Operand) (t : TypeId) (hop : o.op = Op.call { callee := Callee.builtin Builtin.append, args := #[s, x], argTypes := #[t, t] })
    (base : Nat) (e : TypeId) (i : TypeInfo) (z : Value) (size bytes : Nat) (h1 : P.underlying t = some (.slice e)) (h2 : P.info? e = some i) (h3 : i.zero = some z) (h4 : i.size = size) (h5 : i.bytes = bytes) (h6 : z.cells.size = size) (h7 : 0 < size)
    (v : Value) (k : Nat) (xs : List Value) (hs : a.eval s = v) (hown : w.ownsRow base e size v k xs) (p : Option Addr) (m c : Nat) (news : List Value) (hx : a.eval x = .slice p m c) (hn : news.length = m * size)
    (hc : 0 < m → ∃ ad, p = some ad ∧ ∀ j u, news[j]? = some u → w.cell? (ad.add j) = some u) (h1c : ∀ u ∈ news, u.oneCell' = true) (b1 : k + m ≤ maxLen) (b2 : (k + m) * bytes ≤ 140737488355328) (b3 : base ≤ w.heap.size)
    (hK : ∀ v' w', w'.ownsRow base e size v' (k + m) (xs ++ news) → w.grownBy w' v.ownBlock → (v'.ownBlock = v.ownBlock ∨ v'.ownBlock = some w.heap.size) → K (a.put o.dst v') w') :
    if Region.wanted o (yielded ops a.tmps) = true then Oper.wp P o a w K Q else E := by
  have hw : Region.wanted o (yielded ops a.tmps) = true := by simp [Region.wanted, hg]
  rw [if_pos hw]
  by_cases b0 : 0 < m
  · obtain ⟨ad, rfl, hc'⟩ := hc b0
    obtain ⟨g, cap, w', hrun, r1, r2, r3, r4⟩ := run_append_lies (P := P) w t o.type base e i z size bytes h1 h2 h3 h4 h5 h6 h7 v k xs hown ad m c news hn hc' h1c b0 b1 b2 b3 w.heap.size rfl
    unfold Oper.wp
    simp [execOp, hop, resolve, invoke, builtin, hs, hx, hrun, Result.andThen]
    exact hK _ _ r1 r2 (by rcases r3 with r3 | rfl
                           · exact .inl r3.symm
                           · exact .inr rfl)
  · obtain rfl : m = 0 := by omega
    obtain rfl : news = [] := List.eq_nil_of_length_eq_zero (by omega)
    have hrun := run_append_zero (P := P) (w := w) base t o.type e i size h1 h2 v k xs hown p c
    unfold Oper.wp
    simp [execOp, hop, resolve, invoke, builtin, hs, hx, hrun, Result.andThen]
    exact hK v w (by simpa using hown) ⟨rfl, rfl, rfl, Nat.le_refl _, fun _ _ _ => rfl⟩ (.inl rfl)
/-! ### who waits where -/
def atArms (A : Int → List Int) (id : Int) (l : List Hd) : Int → List Int := l.foldl (fun A h => upd A h.chan (A h.chan ++ [id])) A
def atF (A : Int → List Int) (s : List Ag) : Int → List Int := s.foldl (fun A a => atArms A a.id a.arms) A
def atD (s : List Ag) : Int → List Int := atF (fun _ => []) s
theorem atArms_snoc (A : Int → List Int) (id : Int) (l : List Hd) (h : Hd) : atArms A id (l ++ [h]) = upd (atArms A id l) h.chan (atArms A id l h.chan ++ [id]) := by simp [atArms, List.foldl_append]
theorem atF_snoc (A : Int → List Int) (s : List Ag) (a : Ag) : atF A (s ++ [a]) = atArms (atF A s) a.id a.arms := by simp [atF, List.foldl_append]
structure AtW (B : Nat) (W : World) (mb n : Nat) (V : Int → Value) (A : Int → List Int) (own : Nat → Option Int) : Prop where
  map : MpI W mb n nV V (fun c => !(A c).isEmpty)
  row : ∀ c, W.ownsRow B 3 1 (V c) (A c).length (rowC (A c))
  lab : ∀ c g, (V c).ownBlock = some g → own g = some c
theorem own_blk_lt {W : World} {B : Nat} {e : TypeId} {s : Nat} {v : Value} {n : Nat} {cs : List Value} (h : W.ownsRow B e s v n cs) {g : Nat} (hg : v.ownBlock = some g) : ∃ us, W.heap[g]? = some (.cells us e (0, 0)) := by
  rcases h.2 with ⟨x1, _⟩ | ⟨g', cap, cur, x1, _, x3, _⟩
  · rw [x1] at hg; cases hg
  · rw [x1] at hg; cases hg; exact ⟨_, x3⟩
theorem AtW.new (W : World) (B : Nat) : AtW B (W.alloc (.map #[] 0)) W.heap.size 0 (fun _ => nV) (fun _ => []) (fun _ => none) :=
  ⟨mp_new W nV, fun c => ⟨rfl, .inl ⟨rfl, rfl⟩⟩, fun c g h => by cases h⟩
theorem AtW.below {B : Nat} {W X : World} {mb n : Nat} {V : Int → Value} {A : Int → List Int} {own : Nat → Option Int} (h : AtW B W mb n V A own) (hb : Below W.heap.size W X) : AtW B X mb n V A own :=
  ⟨h.map.below hb, fun c => own_new (h.row c) hb, h.lab⟩
theorem AtW.grown_map {B : Nat} {W W2 : World} {mb n : Nat} {V : Int → Value} {A : Int → List Int} {own : Nat → Option Int} (h : AtW B W mb n V A own) (c : Int) (hg : W.grownBy W2 (V c).ownBlock) : MpI W2 mb n nV V (fun c => !(A c).isEmpty) := by
  refine h.map.same (hg.block mb h.map.lt (fun e => ?_))
  obtain ⟨D, ⟨es, clock, h0, _⟩, _⟩ := h.map.ex
  obtain ⟨us, hu⟩ := own_blk_lt (h.row c) e.symm
  rw [hu] at h0
  cases h0
/-- an entry grows by one -/
theorem AtW.add {B : Nat} {W W2 W3 : World} {mb n : Nat} {V : Int → Value} {A : Int → List Int} {own : Nat → Option Int} (h : AtW B W mb n V A own) (c id : Int) {v' : Value}
    (ho : W2.ownsRow B 3 1 v' ((A c).length + 1) (rowC (A c) ++ [.int .i64 id])) (hg : W.grownBy W2 (V c).ownBlock) (hv : v'.ownBlock = (V c).ownBlock ∨ v'.ownBlock = some W.heap.size)
    (hm : MpI W3 mb (n + 1) nV (upd V c v') (upd (fun c => !(A c).isEmpty) c true)) (hg3 : W2.grownBy W3 (some mb)) :
    ∃ own', AtW B W3 mb (n + 1) (upd V c v') (upd A c (A c ++ [id])) own' := by
  have hmap : ∃ es clock, W2.heap[mb]? = some (.map es clock) := by
    obtain ⟨D, ⟨es, clock, h0, _⟩, _⟩ := h.map.ex
    have hl := (Array.getElem?_eq_some_iff.1 h0).1
    refine ⟨es, clock, (hg.block mb hl (fun e => ?_)).trans h0⟩
    obtain ⟨us, hu⟩ := own_blk_lt (h.row c) e.symm
    rw [hu] at h0
    cases h0
  obtain ⟨es, clock, hmap⟩ := hmap
  have keep3 : ∀ {v : Value} {k : Nat} {cs : List Value}, W2.ownsRow B 3 1 v k cs → W3.ownsRow B 3 1 v k cs := fun {v k cs} hr => own_same hr (fun g o hgo hgb => by
    refine (hg3.block g (Array.getElem?_eq_some_iff.1 hgb).1 (fun e => ?_)).trans hgb
    cases e
    obtain ⟨us, hu⟩ := own_blk_lt hr hgo
    rw [hmap] at hu
    cases hu)
  refine ⟨fun g => if v'.ownBlock = some g then some c else own g, ⟨hm.ext (fun d => rfl) (fun d => ?_), fun d => ?_, fun d g hd => ?_⟩⟩
  · by_cases e : d = c
    · subst e; rw [upd_same, upd_same]; simp
    · rw [upd_other _ _ e, upd_other _ _ e]
  · by_cases e : d = c
    · subst e
      rw [upd_same, upd_same, List.length_append, rowC_snoc]
      exact keep3 ho
    · rw [upd_other _ _ e, upd_other _ _ e]
      refine keep3 (own_same (h.row d) (fun g o hgo hgb => (hg.block g (Array.getElem?_eq_some_iff.1 hgb).1 (fun e' => ?_)).trans hgb))
      have h1 := h.lab d g hgo
      have h2 := h.lab c g e'.symm
      rw [h1] at h2
      cases h2
      exact e rfl
  · show (if v'.ownBlock = some g then some c else own g) = some d
    by_cases e : d = c
    · subst e
      rw [upd_same] at hd
      rw [if_pos hd]
    · rw [upd_other _ _ e] at hd
      rw [if_neg (fun e' => ?_)]
      · exact h.lab d g hd
      · rcases hv with hv | hv
        · rw [hv] at e'
          have h1 := h.lab d g hd
          have h2 := h.lab c g e'
          rw [h1] at h2
          cases h2
          exact e rfl
        · rw [hv] at e'
          cases e'
          obtain ⟨us, hu⟩ := own_blk_lt (h.row d) hd
          have := (Array.getElem?_eq_some_iff.1 hu).1
          omega
/-- what waiting answers: read in every later world -/
structure AtR (W : World) (mb n : Nat) (V : Int → Value) (A : Int → List Int) : Prop where
  map : MpI W mb n nV V (fun c => !(A c).isEmpty)
  row : ∀ c, ∃ p d, V c = .slice p (A c).length d ∧ IntsR W p d (A c)
end Go.Proofs.Ytjabdhmkibahlaa
namespace Go.Proofs.Ytjabdhmkibahlaa
open Go.RowKit
set_option linter.unusedVariables false
set_option linter.unusedSimpArgs false

/-! ### calls in a region that draws its order -/
section
variable {P : Program} {ops : Array Oper} {o : Oper} {a : Act} {w : World} {K : Act → World → Prop} {Q : Exit → Act → World → Prop} {E : Prop}
theorem step_call (hg : o.guard = none) (f : FuncId) (xs : Array Operand) (ts : Array TypeId) (hop : o.op = Op.call { callee := Callee.value (.func f), args := xs, argTypes := ts }) (args : Array Value) (hr : (execOp a.eval o).run P w = .ok (.enter f args) w) {Post : Ending → World → Prop} (hc : Calls P f args w Post) (hK : ∀ e w', Post e w' → ∃ r, e = .returned r ∧ K (a.put o.dst r) w') :
    if Region.wanted o (yielded ops a.tmps) = true then Oper.wp P o a w K Q else E := by
  have hw : Region.wanted o (yielded ops a.tmps) = true := by simp [Region.wanted, hg]
  rw [if_pos hw]
  unfold Oper.wp
  rw [hr, Oper.upon_enter]
  refine Calls.mono hc ?_
  intro e w' h
  obtain ⟨r, rfl, hk⟩ := hK e w' h
  exact hk
end
end Go.Proofs.Ytjabdhmkibahlaa
