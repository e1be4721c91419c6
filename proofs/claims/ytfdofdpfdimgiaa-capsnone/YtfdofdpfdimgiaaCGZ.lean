import Derived.Test.YtfdofdpfdimgiaaCGY
namespace Go.Proofs.Ytfdofdpfdimgiaa
open Go.RowKit Go.MapKept Go.ChangeMaps Go.WideShapes
set_option linter.unusedVariables false
set_option linter.unusedSimpArgs false

/-- a block that is none of ours -/
structure Out (own : Nat → Option Lb) (wb : Nat) (W : World) (b : Nat) : Prop where
  lt : b < W.heap.size
  own : own b = none
  wb : b ≠ wb
theorem Out.fr {own own' : Nat → Option Lb} {wb : Nat} {W W' : World} {b : Nat} (h : Out own wb W b) (f : Fr wb own own' W W') : Out own' wb W' b ∧ W'.heap[b]? = W.heap[b]? :=
  ⟨⟨Nat.lt_of_lt_of_le h.lt f.size, by
    cases hx : own' b with
    | none => rfl
    | some l =>
      rcases f.new b (by rw [hx]; simp) with h1 | h1
      · exact absurd h.own h1
      · have := h.lt
        omega, h.wb⟩, f.keep b h.lt h.own h.wb⟩
theorem Out.grow {own : Nat → Option Lb} {wb : Nat} {W W' : World} {b : Nat} (h : Out own wb W b) (hz : W.heap.size ≤ W'.heap.size) : Out own wb W' b := ⟨Nat.lt_of_lt_of_le h.lt hz, h.own, h.wb⟩
/-! ### who has been entered where -/
structure Ct (f : Int → Ag) (C : Int → Option Nat) (ids : Int → Stc → List Int) (P : Int → Int → Prop) : Prop where
  mem : ∀ c s k, k ∈ ids c s ↔ P k c ∧ waitI (f k).arms c = s
  nod : ∀ c s, (ids c s).Nodup
  has : ∀ c, C c ≠ none ↔ ∃ k, P k c
theorem Ct.ext {f : Int → Ag} {C : Int → Option Nat} {ids : Int → Stc → List Int} {P P' : Int → Int → Prop} (h : Ct f C ids P) (e : ∀ k c, P' k c ↔ P k c) : Ct f C ids P' :=
  ⟨fun c s k => by rw [h.mem, e], h.nod, fun c => by rw [h.has]; exact ⟨fun ⟨k, hk⟩ => ⟨k, (e k c).2 hk⟩, fun ⟨k, hk⟩ => ⟨k, (e k c).1 hk⟩⟩⟩
theorem Ct.step {f : Int → Ag} {C C' : Int → Option Nat} {ids : Int → Stc → List Int} {P : Int → Int → Prop} (h : Ct f C ids P) {k0 c0 : Int} (hn : ¬ P k0 c0) (hC : ∀ c, C' c ≠ none ↔ C c ≠ none ∨ c = c0) : Ct f C' (upd2 ids c0 (waitI (f k0).arms c0) (ids c0 (waitI (f k0).arms c0) ++ [k0])) (fun k c => P k c ∨ k = k0 ∧ c = c0) := by
  refine ⟨fun c s k => ?_, fun c s => ?_, fun c => ?_⟩
  · by_cases e : c = c0
    · subst e
      by_cases e2 : s = waitI (f k0).arms c
      · subst e2
        rw [upd2_same, List.mem_append, List.mem_singleton, h.mem]
        constructor
        · rintro (⟨h1, h2⟩ | rfl)
          · exact ⟨.inl h1, h2⟩
          · exact ⟨.inr ⟨rfl, rfl⟩, rfl⟩
        · rintro ⟨h1 | ⟨rfl, _⟩, h2⟩
          · exact .inl ⟨h1, h2⟩
          · exact .inr rfl
      · rw [upd2_row _ _ _ e2, h.mem]
        constructor
        · rintro ⟨h1, h2⟩; exact ⟨.inl h1, h2⟩
        · rintro ⟨h1 | ⟨rfl, _⟩, h2⟩
          · exact ⟨h1, h2⟩
          · exact absurd h2.symm e2
    · rw [upd2_other _ _ _ _ e, h.mem]
      constructor
      · rintro ⟨h1, h2⟩; exact ⟨.inl h1, h2⟩
      · rintro ⟨h1 | ⟨_, h3⟩, h2⟩
        · exact ⟨h1, h2⟩
        · exact absurd h3 e
  · by_cases e : c = c0
    · subst e
      by_cases e2 : s = waitI (f k0).arms c
      · subst e2
        rw [upd2_same]
        refine List.nodup_append.2 ⟨h.nod _ _, by simp, fun a ha b hb => ?_⟩
        rw [List.mem_singleton] at hb
        subst hb
        rintro rfl
        exact hn ((h.mem _ _ _).1 ha).1
      · rw [upd2_row _ _ _ e2]; exact h.nod _ _
    · rw [upd2_other _ _ _ _ e]; exact h.nod _ _
  · rw [hC, h.has]
    constructor
    · rintro (⟨k, hk⟩ | rfl)
      · exact ⟨k, .inl hk⟩
      · exact ⟨k0, .inr ⟨rfl, rfl⟩⟩
    · rintro ⟨k, hk | ⟨_, rfl⟩⟩
      · exact .inl ⟨k, hk⟩
      · exact .inr rfl
theorem nod_len {l ks : List Int} (hn : l.Nodup) (hs : ∀ x ∈ l, x ∈ ks) : l.length ≤ ks.length := by
  induction l generalizing ks with
  | nil => simp
  | cons x r ih =>
    obtain ⟨s, t, rfl⟩ := List.append_of_mem (hs x List.mem_cons_self)
    rw [List.nodup_cons] at hn
    have := ih (ks := s ++ t) hn.2 (fun y hy => by
      have h1 := hs y (List.mem_cons_of_mem _ hy)
      rw [List.mem_append, List.mem_cons] at h1
      rw [List.mem_append]
      rcases h1 with h1 | rfl | h1
      · exact .inl h1
      · exact absurd hy hn.1
      · exact .inr h1)
    simp only [List.length_cons, List.length_append] at this ⊢
    omega
theorem Ct.len {f : Int → Ag} {C : Int → Option Nat} {ids : Int → Stc → List Int} {P : Int → Int → Prop} (h : Ct f C ids P) {ks : List Int} (hk : ∀ k c, P k c → k ∈ ks) (c : Int) (s : Stc) : (ids c s).length ≤ ks.length := nod_len (h.nod c s) (fun x hx => hk x c ((h.mem c s x).1 hx).1)
/-- the map of those that there are, ranged over, and who stands where so far -/
structure In1 (w0 W : World) (mb r nW : Nat) (M : Int → Value) (hs left : Int → Bool) (cnt wb N : Nat) (C : Int → Option Nat) (V : Int → Stc → Value) (ids : Int → Stc → List Int) (own : Nat → Option Lb) : Prop where
  rg : RgI W mb r nW zV M hs left cnt
  cr : CrI W w0.heap.size wb N C V ids own
  bel : Below w0.heap.size w0 W
  o1 : Out own wb W mb
  o2 : Out own wb W r
theorem In1.fr {w0 W W' : World} {mb r nW : Nat} {M : Int → Value} {hs left : Int → Bool} {cnt wb N N' : Nat} {C C' : Int → Option Nat} {V V' : Int → Stc → Value} {ids ids' : Int → Stc → List Int} {own own' : Nat → Option Lb} (h : In1 w0 W mb r nW M hs left cnt wb N C V ids own) (hc : CrI W' w0.heap.size wb N' C' V' ids' own') (f : Fr wb own own' W W') : In1 w0 W' mb r nW M hs left cnt wb N' C' V' ids' own' :=
  ⟨h.rg.same (h.o1.fr f).2 (h.o2.fr f).2, hc, f.low h.bel (fun b hb => (h.cr.low b hb).1) h.cr.wbB, (h.o1.fr f).1, (h.o2.fr f).1⟩
theorem In1.below {w0 W W' : World} {mb r nW : Nat} {M : Int → Value} {hs left : Int → Bool} {cnt wb N : Nat} {C : Int → Option Nat} {V : Int → Stc → Value} {ids : Int → Stc → List Int} {own : Nat → Option Lb} (h : In1 w0 W mb r nW M hs left cnt wb N C V ids own) (hb : Below W.heap.size W W') : In1 w0 W' mb r nW M hs left cnt wb N C V ids own := h.fr (h.cr.below hb) (Fr.below hb)
/-- an iterator of another map goes on -/
theorem In1.other {w0 W W' : World} {mb r nW q : Nat} {M : Int → Value} {hs left : Int → Bool} {cnt wb N : Nat} {C : Int → Option Nat} {V : Int → Stc → Value} {ids : Int → Stc → List Int} {own : Nat → Option Lb} (h : In1 w0 W mb r nW M hs left cnt wb N C V ids own) (hg : W.grownBy W' (some q)) (hq : Out own wb W q) (h1 : q ≠ mb) (h2 : q ≠ r) (h0 : w0.heap.size ≤ q) : In1 w0 W' mb r nW M hs left cnt wb N C V ids own := by
  have hk : ∀ b, b < W.heap.size → b ≠ q → W'.heap[b]? = W.heap[b]? := fun b hb hne => hg.block b hb (fun e => hne (by injection e))
  refine ⟨h.rg.same (hk mb h.o1.lt (fun e => h1 e.symm)) (hk r h.o2.lt (fun e => h2 e.symm)), h.cr.same hg.size (fun b hb => ?_), h.bel.grown hg h.bel.size (fun x e => by cases e; exact h0), h.o1.grow hg.size, h.o2.grow hg.size⟩
  rcases hb with hb | rfl
  · exact hk b (h.cr.low b hb).2 (fun e => hb (by rw [e]; exact hq.own))
  · exact hk b h.cr.map.lt (fun e => hq.wb e.symm)
/-- its own goes on -/
theorem In1.next {w0 W W' : World} {mb r nW : Nat} {M : Int → Value} {hs left left' : Int → Bool} {cnt cnt' wb N : Nat} {C : Int → Option Nat} {V : Int → Stc → Value} {ids : Int → Stc → List Int} {own : Nat → Option Lb} (h : In1 w0 W mb r nW M hs left cnt wb N C V ids own) (hr : RgI W' mb r nW zV M hs left' cnt') (hg : W.grownBy W' (some r)) (h0 : w0.heap.size ≤ r) : In1 w0 W' mb r nW M hs left' cnt' wb N C V ids own := by
  have hk : ∀ b, b < W.heap.size → b ≠ r → W'.heap[b]? = W.heap[b]? := fun b hb hne => hg.block b hb (fun e => hne (by injection e))
  refine ⟨hr, h.cr.same hg.size (fun b hb => ?_), h.bel.grown hg h.bel.size (fun x e => by cases e; exact h0), h.o1.grow hg.size, h.o2.grow hg.size⟩
  rcases hb with hb | rfl
  · exact hk b (h.cr.low b hb).2 (fun e => hb (by rw [e]; exact h.o2.own))
  · exact hk b h.cr.map.lt (fun e => h.o2.wb e.symm)
/-- beside it, the map of one that waits, ranged over -/
structure In2 (w0 W : World) (mb r nW : Nat) (M : Int → Value) (hs left : Int → Bool) (cnt wb N : Nat) (C : Int → Option Nat) (V : Int → Stc → Value) (ids : Int → Stc → List Int) (own : Nat → Option Lb) (m2 r2 n2 : Nat) (arms : List Hd) (left2 : Int → Bool) (cnt2 : Nat) : Prop where
  in1 : In1 w0 W mb r nW M hs left cnt wb N C V ids own
  rg2 : RgI W m2 r2 n2 (stV st0) (fun c => stV (waitI arms c)) (onI arms) left2 cnt2
  o3 : Out own wb W m2
  o4 : Out own wb W r2
  n1 : r2 ≠ mb
  n2 : r2 ≠ r
  l2 : w0.heap.size ≤ r2
section
variable {w0 W W' : World} {mb r nW : Nat} {M : Int → Value} {hs left : Int → Bool} {cnt wb N N' : Nat} {C C' : Int → Option Nat} {V V' : Int → Stc → Value} {ids ids' : Int → Stc → List Int} {own own' : Nat → Option Lb} {m2 r2 n2 : Nat} {arms : List Hd} {left2 left2' : Int → Bool} {cnt2 cnt2' : Nat}
theorem In2.fr (h : In2 w0 W mb r nW M hs left cnt wb N C V ids own m2 r2 n2 arms left2 cnt2) (hc : CrI W' w0.heap.size wb N' C' V' ids' own') (f : Fr wb own own' W W') : In2 w0 W' mb r nW M hs left cnt wb N' C' V' ids' own' m2 r2 n2 arms left2 cnt2 :=
  ⟨h.in1.fr hc f, h.rg2.same (h.o3.fr f).2 (h.o4.fr f).2, (h.o3.fr f).1, (h.o4.fr f).1, h.n1, h.n2, h.l2⟩
theorem In2.below (h : In2 w0 W mb r nW M hs left cnt wb N C V ids own m2 r2 n2 arms left2 cnt2) (hb : Below W.heap.size W W') : In2 w0 W' mb r nW M hs left cnt wb N C V ids own m2 r2 n2 arms left2 cnt2 := h.fr (h.in1.cr.below hb) (Fr.below hb)
theorem In2.next (h : In2 w0 W mb r nW M hs left cnt wb N C V ids own m2 r2 n2 arms left2 cnt2) (hr : RgI W' m2 r2 n2 (stV st0) (fun c => stV (waitI arms c)) (onI arms) left2' cnt2') (hg : W.grownBy W' (some r2)) : In2 w0 W' mb r nW M hs left cnt wb N C V ids own m2 r2 n2 arms left2' cnt2' :=
  ⟨h.in1.other hg h.o4 h.n1 h.n2 h.l2, hr, h.o3.grow hg.size, h.o4.grow hg.size, h.n1, h.n2, h.l2⟩
/-- one is entered -/
theorem In2.add (h : In2 w0 W mb r nW M hs left cnt wb N C V ids own m2 r2 n2 arms left2 cnt2) {c : Int} {cb : Nat} (hc : C c = some cb) (s : Stc) (k : Int) (hn : N < maxLen) :
    ∃ (st : Nat) (X1 : World), (Instr.mapEntry 77 (.map (some cb)) (stV s)).run Try.prog (W.alloc (.cells #[.int .i64 k] 3)) = .ok (.tuple #[V c s, goInt st]) X1 ∧
      X1.ownsRow w0.heap.size 3 1 (V c s) (ids c s).length (rowC (ids c s)) ∧ X1.heap[W.heap.size]? = some (.cells #[.int .i64 k] 3 (0, 0)) ∧ X1.heap.size = W.heap.size + 1 ∧ w0.heap.size ≤ X1.heap.size ∧
      ∀ g cap w', w'.ownsRow w0.heap.size 3 1 (.slice (some ⟨g, 0, none⟩) ((ids c s).length + 1) cap) ((ids c s).length + 1) (rowC (ids c s) ++ [.int .i64 k]) → X1.grownBy w' (V c s).ownBlock → ((V c s).ownBlock = some g ∨ g = W.heap.size + 1) → g < w'.heap.size →
        ∃ w3, (Instr.entryStore 77 (.map (some cb)) (goInt st) (.slice (some ⟨g, 0, none⟩) ((ids c s).length + 1) cap)).run Try.prog w' = .ok () w3 ∧ ∃ V2 own2, In2 w0 w3 mb r nW M hs left cnt wb (N + 1) C V2 (upd2 ids c s (ids c s ++ [k])) own2 m2 r2 n2 arms left2 cnt2 := by
  obtain ⟨st, X1, h1, h2, h3, h4, h5⟩ := h.in1.cr.add hc s k hn
  refine ⟨st, X1, h1, h2, h3, h4, ?_, fun g cap w' a1 a2 a3 a4 => ?_⟩
  · have := h.in1.cr.map.lt
    have := h.in1.cr.wbB
    omega
  · obtain ⟨w3, b1, b2, b3⟩ := h5 g cap w' a1 a2 a3 a4
    exact ⟨w3, b1, _, _, h.fr b2 b3⟩
end
section
variable {w0 w : World} {mb r nW : Nat} {M : Int → Value} {hs left : Int → Bool} {cnt wb N : Nat} {C : Int → Option Nat} {V : Int → Stc → Value} {ids : Int → Stc → List Int} {own : Nat → Option Lb} {m2 r2 n2 : Nat} {arms : List Hd} {left2 : Int → Bool} {cnt2 : Nat}
variable {ops : Array Oper} {rest : List Oper} {o : Oper} {a : Act} {Q : Exit → Act → World → Prop}
theorem nextA (hg : o.guard = none) (it : Operand) (hop : o.op = Op.next it false) (hit : a.eval it = .pointer (some ⟨r, 0, none⟩)) (f : Int → Ag) (hv : WhoV w0 f M) (hr0 : w0.heap.size ≤ r) (h : In1 w0 w mb r nW M hs left cnt wb N C V ids own)
    (hDone : (∀ c, I64 c → left c = false) → wpList Try.prog ops Q rest (a.put o.dst (.tuple #[.bool false])) w)
    (hMore : ∀ (k : Int) (w' : World) (cnt' : Nat) (ap : Option Addr) (ac : Nat) (hp : Option Addr) (hc : Nat), I64 k → left k = true → hs k = true → Bx (In1 w0 w' mb r nW M hs (fun d => left d && !(d == k)) cnt' wb N C V ids own) → cnt' < cnt → Bx (AgR w0 (f k) ap ac hp hc) → (Instr.entry (.pointer (some ⟨r, 0, none⟩))).run Try.prog w' = .ok (.tuple #[.int .i64 k, .agg #[.int .i64 (f k).id, .bool (f k).awake, .slice ap (f k).arms.length ac, .slice hp (f k).held.length hc]]) w' → wpList Try.prog ops Q rest (a.put o.dst (.tuple #[.bool true, .int .i64 k, .agg #[.int .i64 (f k).id, .bool (f k).awake, .slice ap (f k).arms.length ac, .slice hp (f k).held.length hc]])) w') :
    wpList Try.prog ops Q (o :: rest) a w := by
  refine nextI hg it hop mb r nW zV M hs left cnt hit h.rg hDone (fun k w' cnt' h64 hl hh hr hlt hgr hz hen => ?_)
  obtain ⟨ap, ac, hp, hc, e, rM⟩ := hv k
  rw [e] at hen ⊢
  exact hMore k w' cnt' ap ac hp hc h64 hl hh ⟨h.next hr hgr hr0⟩ hlt ⟨rM⟩ hen
theorem nextS (hg : o.guard = none) (it : Operand) (hop : o.op = Op.next it false) (hit : a.eval it = .pointer (some ⟨r2, 0, none⟩)) (h : In2 w0 w mb r nW M hs left cnt wb N C V ids own m2 r2 n2 arms left2 cnt2)
    (hDone : (∀ c, I64 c → left2 c = false) → wpList Try.prog ops Q rest (a.put o.dst (.tuple #[.bool false])) w)
    (hMore : ∀ (c : Int) (w' : World) (cnt' : Nat), I64 c → left2 c = true → onI arms c = true → Bx (In2 w0 w' mb r nW M hs left cnt wb N C V ids own m2 r2 n2 arms (fun d => left2 d && !(d == c)) cnt') → cnt' < cnt2 → (Instr.entry (.pointer (some ⟨r2, 0, none⟩))).run Try.prog w' = .ok (.tuple #[.int .i64 c, .agg #[.bool (waitI arms c).awake, .bool (waitI arms c).sends, .bool (waitI arms c).recvs]]) w' → wpList Try.prog ops Q rest (a.put o.dst (.tuple #[.bool true, .int .i64 c, .agg #[.bool (waitI arms c).awake, .bool (waitI arms c).sends, .bool (waitI arms c).recvs]])) w') :
    wpList Try.prog ops Q (o :: rest) a w :=
  nextI hg it hop m2 r2 n2 (stV st0) (fun c => stV (waitI arms c)) (onI arms) left2 cnt2 hit h.rg2 hDone (fun c w' cnt' h64 hl hh hr hlt hgr hz hen => hMore c w' cnt' h64 hl hh ⟨h.next hr hgr⟩ hlt hen)
end
/-! ### one more is entered: all that the walk asks for -/
def AddF (w0 W : World) (cb : Nat) (s : Stc) (k : Int) (FIN : World → Prop) : Prop := ∃ (st : Nat) (X1 : World) (sp : Option Addr) (sc : Nat) (iz : List Int),
  (Instr.mapEntry 77 (.map (some cb)) (.agg #[.bool s.awake, .bool s.sends, .bool s.recvs])).run Try.prog (W.alloc (.cells #[.int .i64 k] 3)) = .ok (.tuple #[.slice sp iz.length sc, .int .i64 st]) X1 ∧ iz.length ≤ 100000 ∧
  Bx (X1.ownsRow w0.heap.size 3 1 (.slice sp iz.length sc) iz.length (rowC iz)) ∧ Bx (X1.heap[W.heap.size]? = some (.cells #[.int .i64 k] 3 (0, 0))) ∧ X1.heap.size = W.heap.size + 1 ∧ w0.heap.size ≤ X1.heap.size ∧
  Bx (∀ g cap w', w'.ownsRow w0.heap.size 3 1 (.slice (some ⟨g, 0, none⟩) (iz.length + 1) cap) (iz.length + 1) (rowC iz ++ [.int .i64 k]) → X1.grownBy w' (Value.slice sp iz.length sc).ownBlock → ((Value.slice sp iz.length sc).ownBlock = some g ∨ g = W.heap.size + 1) → g < w'.heap.size →
    ∃ w3, (Instr.entryStore 77 (.map (some cb)) (.int .i64 st) (.slice (some ⟨g, 0, none⟩) (iz.length + 1) cap)).run Try.prog w' = .ok () w3 ∧ Bx (FIN w3))
section
variable {w0 W : World} {mb r nW : Nat} {M : Int → Value} {hs left : Int → Bool} {cnt wb N : Nat} {C : Int → Option Nat} {V : Int → Stc → Value} {ids : Int → Stc → List Int} {own : Nat → Option Lb} {m2 r2 n2 : Nat} {arms : List Hd} {left2 : Int → Bool} {cnt2 : Nat}
theorem In2.addF (h : In2 w0 W mb r nW M hs left cnt wb N C V ids own m2 r2 n2 arms left2 cnt2) {c : Int} {cb : Nat} (hc : C c = some cb) (s : Stc) (k : Int) (hn : N < maxLen) (hl : (ids c s).length ≤ 100000) (FIN : World → Prop)
    (hF : ∀ w3 V2 own2, In2 w0 w3 mb r nW M hs left cnt wb (N + 1) C V2 (upd2 ids c s (ids c s ++ [k])) own2 m2 r2 n2 arms left2 cnt2 → FIN w3) : AddF w0 W cb s k FIN := by
  obtain ⟨st, X1, h1, h2, h3, h4, h5, h6⟩ := h.add hc s k hn
  have h1' : (Instr.mapEntry 77 (.map (some cb)) (.agg #[.bool s.awake, .bool s.sends, .bool s.recvs])).run Try.prog (W.alloc (.cells #[.int .i64 k] 3)) = .ok (.tuple #[V c s, .int .i64 st]) X1 := h1
  obtain ⟨sp, sc, e⟩ : ∃ sp sc, V c s = .slice sp (ids c s).length sc := by
    rcases h2.2 with ⟨x1, x2⟩ | ⟨g, cap, cur, x1, _⟩
    · exact ⟨none, 0, by rw [x1, x2]⟩
    · exact ⟨_, cap, x1⟩
  rw [e] at h1' h2 h6
  refine ⟨st, X1, sp, sc, ids c s, h1', hl, ⟨h2⟩, ⟨h3⟩, h4, h5, ⟨fun g cap w' a1 a2 a3 a4 => ?_⟩⟩
  obtain ⟨w3, b1, V2, own2, b2⟩ := h6 g cap w' a1 a2 a3 a4
  exact ⟨w3, b1, ⟨hF w3 V2 own2 b2⟩⟩
/-- .. where a stance lies in block g -/
theorem In2.enter (h : In2 w0 W mb r nW M hs left cnt wb N C V ids own m2 r2 n2 arms left2 cnt2) {f : Int → Ag} {P : Int → Int → Prop} (hct : Ct f C ids P) {c k : Int} (h64 : I64 c) (hP : ¬ P k c) (hn : N + 1 < maxLen) {ks : List Int} (hks : ∀ k c, P k c → k ∈ ks) (hkl : ks.length ≤ 100000) {g : Nat} (hg : W.heap[g]? = some (.cells #[.bool (waitI (f k).arms c).awake, .bool (waitI (f k).arms c).sends, .bool (waitI (f k).arms c).recvs] 74 (0, 0))) (hgo : Out own wb W g) (FIN : World → Prop)
    (hF : ∀ w3 C' V' ids' own', In2 w0 w3 mb r nW M hs left cnt wb (N + 2) C' V' ids' own' m2 r2 n2 arms left2 cnt2 → Ct f C' ids' (fun k' c' => P k' c' ∨ k' = k ∧ c' = c) → FIN w3) :
    ((Instr.lookup 65 (.map (some wb)) (.int .i64 c) false).run Try.prog W = .ok (.map none) W ∧ (binOp BinOp.eql 77 (Value.map none) (Value.map none)).run Try.prog W = .ok (.bool true) W ∧
      ∃ w6, (Instr.mapUpdate 65 (.map (some wb)) (.int .i64 c) (.map (some W.heap.size))).run Try.prog (W.alloc (.map #[] 0)) = .ok () w6 ∧ (Instr.lookup 65 (.map (some wb)) (.int .i64 c) false).run Try.prog w6 = .ok (.map (some W.heap.size)) w6 ∧
        (w6.cell? ⟨g, 0, none⟩ = some (.bool (waitI (f k).arms c).awake) ∧ w6.cell? ⟨g, 1, none⟩ = some (.bool (waitI (f k).arms c).sends) ∧ w6.cell? ⟨g, 2, none⟩ = some (.bool (waitI (f k).arms c).recvs)) ∧ Bx (AddF w0 w6 W.heap.size (waitI (f k).arms c) k FIN)) ∨
    (∃ cb, (Instr.lookup 65 (.map (some wb)) (.int .i64 c) false).run Try.prog W = .ok (.map (some cb)) W ∧ (binOp BinOp.eql 77 (Value.map (some cb)) (Value.map none)).run Try.prog W = .ok (.bool false) W ∧
        (W.cell? ⟨g, 0, none⟩ = some (.bool (waitI (f k).arms c).awake) ∧ W.cell? ⟨g, 1, none⟩ = some (.bool (waitI (f k).arms c).sends) ∧ W.cell? ⟨g, 2, none⟩ = some (.bool (waitI (f k).arms c).recvs)) ∧ Bx (AddF w0 W cb (waitI (f k).arms c) k FIN)) := by
  have hlk := h.in1.cr.map.look Try.underlying65 Try.zeroValue77 h64
  have hlen := fun s => Nat.le_trans (hct.len hks c s) hkl
  cases hC : C c with
  | none =>
    left
    simp only [hC] at hlk
    refine ⟨hlk, eql_map W none, ?_⟩
    obtain ⟨w6, hmu, hc6, hf6⟩ := h.in1.cr.fresh hC h64 (by omega)
    have h6 := h.fr hc6 hf6
    have hlk6 := hc6.map.look Try.underlying65 Try.zeroValue77 h64
    simp only [upd_same] at hlk6
    have hg6 := (hgo.fr hf6).2.trans hg
    refine ⟨w6, hmu, hlk6, ⟨cell_of hg6 rfl, cell_of hg6 rfl, cell_of hg6 rfl⟩, ⟨h6.addF (upd_same _ _ _) (waitI (f k).arms c) k hn (hlen _) FIN (fun w3 V2 own2 hi => hF w3 _ _ _ _ hi (hct.step hP (fun d => ?_)))⟩⟩
    by_cases e : d = c
    · subst e; rw [upd_same]; simp
    · rw [upd_other _ _ e]; simp [e]
  | some cb =>
    right
    simp only [hC] at hlk
    refine ⟨cb, hlk, eql_map W (some cb), ⟨cell_of hg rfl, cell_of hg rfl, cell_of hg rfl⟩, ⟨h.addF hC (waitI (f k).arms c) k (by omega) (hlen _) FIN (fun w3 V2 own2 hi => hF w3 C V2 _ own2 (hi.fr (hi.in1.cr.mono (Nat.le_succ _)) (Fr.refl _ _ _)) (hct.step hP (fun d => ?_)))⟩⟩
    constructor
    · exact fun x => .inl x
    · rintro (x | rfl)
      · exact x
      · rw [hC]; simp
end
end Go.Proofs.Ytfdofdpfdimgiaa
