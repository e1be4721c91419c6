import Derived.Test.YtjabdhmkibahlaaCGK
namespace Go.Proofs.Ytjabdhmkibahlaa
open Go.RowKit Go.MapKept Go.ChangeMaps Go.WideShapes
set_option linter.unusedVariables false
set_option linter.unusedSimpArgs false

/-! ### a range over a map by numbers -/
theorem kI_same (d c : Int) : (kI d).sameKey (kI c) = (d == c) := by
  by_cases e : d = c
  · subst e
    rw [WideAt.sameKey_self (kI_key d)]
    simp
  · rw [Maps.sameKey_ne (kI_ne e)]
    simp [e]
structure RgI (W : World) (mb r n : Nat) (z : Value) (M : Int → Value) (hs : Int → Bool) (left : Int → Bool) (cnt : Nat) : Prop where
  ex : ∃ D lf, W.ranges Try.prog 3 Rw mb r n D lf cnt ∧ (∀ c, I64 c → D.atKey (kI c) (.held z) = .held (M c) ∧ Maps.has D (kI c) = hs c) ∧ ∀ c, I64 c → lf (kI c) = left c
theorem RgI.lt {W : World} {mb r n : Nat} {z : Value} {M : Int → Value} {hs left : Int → Bool} {cnt : Nat} (h : RgI W mb r n z M hs left cnt) : mb < W.heap.size ∧ r < W.heap.size := by
  obtain ⟨D, lf, h1, _⟩ := h.ex
  exact ⟨h1.owns.lt, h1.lt⟩
theorem RgI.same {W W' : World} {mb r n : Nat} {z : Value} {M : Int → Value} {hs left : Int → Bool} {cnt : Nat} (h : RgI W mb r n z M hs left cnt) (h1 : W'.heap[mb]? = W.heap[mb]?) (h2 : W'.heap[r]? = W.heap[r]?) : RgI W' mb r n z M hs left cnt := by
  obtain ⟨D, lf, ⟨es, clock, since, seen, c0, hb, F, hsz, hD, hr, rest⟩, h3⟩ := h.ex
  exact ⟨D, lf, ⟨es, clock, since, seen, c0, h1.trans hb, F, hsz, hD, h2.trans hr, rest⟩, h3⟩
theorem RgI.map {W : World} {mb r n : Nat} {z : Value} {M : Int → Value} {hs left : Int → Bool} {cnt : Nat} (h : RgI W mb r n z M hs left cnt) : MpI W mb n z M hs := by
  obtain ⟨D, lf, h1, h2, _⟩ := h.ex
  exact ⟨D, h1.owns, h2⟩
theorem RgI.ext {W : World} {mb r n : Nat} {z : Value} {M : Int → Value} {hs left left' : Int → Bool} {cnt : Nat} (h : RgI W mb r n z M hs left cnt) (e : ∀ c, left' c = left c) : RgI W mb r n z M hs left' cnt := by
  obtain ⟨D, lf, h1, h2, h3⟩ := h.ex
  exact ⟨D, lf, h1, h2, fun c hc => by rw [e]; exact h3 c hc⟩
section
variable {w : World} {ops : Array Oper} {rest : List Oper} {o : Oper} {a : Act} {Q : Exit → Act → World → Prop}
theorem rangeI (hg : o.guard = none) (m : Operand) (t e : TypeId) (hop : o.op = Op.range t m) (ht : Try.prog.underlying t = some (.map 3 e)) (mb n : Nat) (z : Value) (M : Int → Value) (hs : Int → Bool)
    (hm : a.eval m = .map (some mb)) (h : MpI w mb n z M hs)
    (hK : ∀ w' cnt, cnt ≤ n → RgI w' mb w.heap.size n z M hs hs cnt → Below w.heap.size w w' → w'.heap.size = w.heap.size + 1 → wpList Try.prog ops Q rest (a.put o.dst (.pointer (some ⟨w.heap.size, 0, none⟩))) w') :
    wpList Try.prog ops Q (o :: rest) a w := by
  obtain ⟨D, h1, h2⟩ := h.ex
  refine wpList_range_own w hg m t hop 3 e (Maps.int_keyed Try.underlying3) ht Rw mb n D hm h1 (fun w' hr hgr hsz => ?_)
  exact hK w' _ h1.size_le ⟨D, _, hr, h2, fun c hc => (h2 c hc).2⟩ ⟨hgr.os, hgr.tape, hgr.output, hgr.size, fun b hb => hgr.block b hb (by simp)⟩ hsz
theorem nextI (hg : o.guard = none) (it : Operand) (hop : o.op = Op.next it false) (mb r n : Nat) (z : Value) (M : Int → Value) (hs left : Int → Bool) (cnt : Nat)
    (hit : a.eval it = .pointer (some ⟨r, 0, none⟩)) (h : RgI w mb r n z M hs left cnt)
    (hDone : (∀ c, I64 c → left c = false) → wpList Try.prog ops Q rest (a.put o.dst (.tuple #[.bool false])) w)
    (hMore : ∀ (c : Int) (w' : World) (cnt' : Nat), I64 c → left c = true → hs c = true → RgI w' mb r n z M hs (fun d => left d && !(d == c)) cnt' → cnt' < cnt → w.grownBy w' (some r) → w'.heap.size = w.heap.size → (Instr.entry (.pointer (some ⟨r, 0, none⟩))).run Try.prog w' = .ok (.tuple #[.int .i64 c, M c]) w' → wpList Try.prog ops Q rest (a.put o.dst (.tuple #[.bool true, .int .i64 c, M c])) w') :
    wpList Try.prog ops Q (o :: rest) a w := by
  obtain ⟨D, lf, h1, h2, h3⟩ := h.ex
  refine wpList_next_ranges w hg it hop 3 (Maps.int_keyed Try.underlying3) Rw (Value.int .i64) (fun v : Value => v) (fun key kl hkey => by obtain ⟨x, rfl, _⟩ := Maps.keyOf_int_inv Try.underlying3 hkey; exact ⟨x, rfl⟩) (fun v y _ => ⟨v, rfl⟩) mb r n D lf cnt hit h1 (fun _ hl => hDone (fun c hc => by rw [← h3 c hc]; exact hl _)) ?_
  intro x v kl y w' cnt' hkey hlk hRv hat hrg hlt hgr hsz hen
  obtain ⟨x', ex, rfl, hwf⟩ := Maps.keyOf_int_inv Try.underlying3 hkey
  cases ex
  have hx : I64 x := by
    have h5 : (decide (IntKind.i64.min ≤ x) && decide (x ≤ IntKind.i64.max)) = true := hwf
    rw [Bool.and_eq_true, decide_eq_true_eq, decide_eq_true_eq] at h5
    exact ⟨h5.1, h5.2⟩
  have hv : v = M x := by
    have e1 := (h2 x hx).1
    have e2 := hat (.held z)
    have e3 : (D.atKey (kI x) (.held z)) = y.1 := e2
    rw [e1] at e3
    have e4 : some ((DataW.held v : DataW Value), ([] : List MemPlace)) = some y := hRv
    rw [← Option.some.inj e4] at e3
    exact (DataW.held.inj e3).symm
  subst hv
  have hh : hs x = true := by
    rw [← (h2 x hx).2]
    exact Maps.has_true_of_atKey hat
  refine hMore x w' cnt' hx (by rw [← h3 x hx]; exact hlk) hh ⟨D, _, hrg, h2, fun c hc => ?_⟩ hlt hgr hsz hen
  show (lf (kI c) && !(kI c).sameKey (kI x)) = _
  rw [h3 c hc, kI_same]
end
end Go.Proofs.Ytjabdhmkibahlaa
