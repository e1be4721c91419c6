import Derived.Test.YtijdcplffmdijaaDoorCDHa
namespace Go.Proofs.YtijdcplffmdijaaDoor
open Go.RowKit
set_option linter.unusedVariables false
set_option linter.unusedSimpArgs false

theorem Kp.setX (w : World) (b i : Nat) (v : Value) : Kp (fun x _ => x ≠ b) w (w.setCell ⟨b, i, none⟩ v) :=
  ⟨by simp, fun x c u fz hx hu => Below.heap_setCell w ⟨b, i, none⟩ v x hu⟩
theorem LU.up {W : World} {B cut cut' xb : Nat} {pv tv cv iv : Value} {ps : List CPg} {ts : List CTy} {cl : List (List CIn)} {il : List (List Int)} (h : LU W B cut xb pv tv cv iv ps ts cl il) (h1 : cut ≤ cut') (h2 : cut' ≤ W.heap.size) : LU W B cut' xb pv tv cv iv ps ts cl il := by
  refine ⟨h.blk, h.tys, h.its, ?_, ?_, h2⟩
  · obtain ⟨cs, a, b⟩ := h.pgs.ex
    refine ⟨cs, a.mono ?_, b⟩
    rintro p c ⟨v, q1, q2, q3⟩
    exact ⟨v, q1, q2, fun g hg => Nat.lt_of_lt_of_le (q3 g hg) h1⟩
  · obtain ⟨cs, a, b⟩ := h.cds.ex
    refine ⟨cs, a.mono ?_, b⟩
    rintro p c ⟨v, q1, q2, q3⟩
    exact ⟨v, q1, q2, fun g hg => Nat.lt_of_lt_of_le (q3 g hg) h1⟩
/-- what stands ahead of the last one -/
theorem OwnL.pre {α : Type} {R : World → α → List Value → Prop} {w : World} {B s : Nat} {e : TypeId} {a : Option Addr} {n cap : Nat} {l : List α} {x : α} (h : OwnL R w B e s (.slice a n cap) (l ++ [x])) (hs : ∀ a c, R w a c → c.length = s) (hn : n = l.length + 1) : OwnL R w B e s (.slice a l.length cap) l := by
  obtain ⟨cs, h1, h2⟩ := h.ex
  have hsp : ∀ {l : List α} {cs : List (List Value)}, All2 (R w) (l ++ [x]) cs → ∃ ds d, cs = ds ++ [d] ∧ All2 (R w) l ds ∧ R w x d := by
    intro l
    induction l with
    | nil =>
      intro cs h
      match cs, h with
      | [d], h => exact ⟨[], d, rfl, trivial, h.1⟩
      | _ :: _ :: _, h => exact absurd h.2 (by simp [All2])
    | cons y l ih =>
      intro cs h
      match cs, h with
      | d :: cs, h =>
        obtain ⟨ds, d', rfl, q1, q2⟩ := ih h.2
        exact ⟨d :: ds, d', rfl, ⟨h.1, q1⟩, q2⟩
  obtain ⟨ds, d, rfl, q1, q2⟩ := hsp h1
  have hl : ds.flatten.length = l.length * s := by rw [flat_len (q1.all hs), q1.len]
  refine ⟨ds, q1, hl, ?_⟩
  have e1 : (l ++ [x]).length = l.length + 1 := by simp
  rcases h2.2 with ⟨h, _⟩ | ⟨g, cp, cur, hv, hB, hg, r1, r2, r3, r4⟩
  · injection h with _ h _
    omega
  · injection hv with ha _ hc
    subst ha hc
    refine .inr ⟨g, cap, cur, rfl, hB, hg, by omega, r2, r3, ?_⟩
    rw [e1] at r4
    have e2 := congrArg (fun z : List Value => z.take (l.length * s)) r4
    simp only [List.take_take] at e2
    rw [Nat.min_eq_left (Nat.mul_le_mul_right _ (by omega)), List.flatten_append, List.take_append_of_le_length (by omega), List.take_of_length_le (l := ds.flatten) (by omega)] at e2
    exact e2
/-- an instruction behind a code under way -/
theorem code_step {X : World} {B cut xb Hc : Nat} {pv tv cv iv v : Value} {ps : List CPg} {ts : List CTy} {cl : List (List CIn)} {il : List (List Int)} {l : List CIn} (h : LU X B cut xb pv tv cv iv ps ts cl il) (ho : OwnL InC X Hc 28 4 v l) (hc : cut ≤ Hc) (hB : B ≤ Hc) (hH : Hc ≤ X.heap.size) (hl : l.length ≤ 1099511627776) (i : CIn) (ka : Option Addr) (kc : Nat) (hk : IK X ka kc i.list) :
    ∃ g c X5, (∀ ty, (Builtin.append_ #[55, 55] ty #[v, .slice (some ⟨X.heap.size, 0, none⟩) 1 1]).run Tryd.prog (X.alloc (.cells #[.int .i64 i.op, .int .i64 i.a, .int .i64 i.b, .slice ka i.list.length kc] 28)) = .ok (.slice (some ⟨g, 0, none⟩) (l.length + 1) c) X5) ∧ OwnL InC X5 Hc 28 4 (.slice (some ⟨g, 0, none⟩) (l.length + 1) c) (l ++ [i]) ∧ LU X5 B cut xb pv tv cv iv ps ts cl il ∧ Kp (fun _ t => t ≠ 28) X X5 ∧ Below B X X5 := by
  obtain ⟨i0, hi0, hz0, hz1, hz2⟩ := info_parts infoIn
  obtain ⟨cs, hcs, hw⟩ := ho.ex
  obtain ⟨g, c, X5, r, o5, g5⟩ := app1 Tryd.underlying55 hi0 hz0 hz1 hz2 rfl (by decide) X Hc v l.length cs.flatten hw #[.int .i64 i.op, .int .i64 i.a, .int .i64 i.b, .slice ka i.list.length kc] rfl (in_oneR _ _ _ _ _ _) (by unfold maxLen; omega) (by omega) hH
  have k5 : Kp (fun x t => t ≠ 28 ∨ v.ownBlock ≠ some x) X X5 := Kp.gr g5 (owns_kind hw)
  refine ⟨g, c, X5, r, ⟨cs ++ [inCells i (.slice ka i.list.length kc)], All2.add ⟨ka, kc, rfl, hk.onp k5 fun _ => .inl (by decide)⟩ (hcs.mono (InC.on k5 fun _ => .inl (by decide))), ?_⟩, ?_, k5.mono fun _ _ ht => .inl ht, (Below.refl B X).grown g5 (by omega) fun x hx => by have := (owns_block hw hx).1; omega⟩
  · have e1 : (l ++ [i]).length = l.length + 1 := by simp
    have e2 : (cs ++ [inCells i (.slice ka i.list.length kc)]).flatten = cs.flatten ++ inCells i (.slice ka i.list.length kc) := by simp
    rw [e1, e2]
    exact o5
  · exact h.on k5 (.inl (by decide)) (fun _ => .inl (by decide)) (fun b hb => .inr fun e => by have := (owns_block hw e).1; omega) (fun _ _ => .inl (by decide)) (fun _ _ => .inl (by decide)) (fun _ _ => .inl (by decide)) fun _ _ => .inl (by decide)
/-- a store into a copy of one's own -/
theorem LU.poke {W : World} {B cut xb b i : Nat} {pv tv cv iv v : Value} {ps : List CPg} {ts : List CTy} {cl : List (List CIn)} {il : List (List Int)} {C : Array Value} {e : TypeId} (h : LU W B cut xb pv tv cv iv ps ts cl il) (hb : W.heap[b]? = some (.cells C e (0, 0))) (he : e ≠ 3 ∧ e ≠ 41) (h0 : cut ≤ b) (h1 : ∀ g, tv.ownBlock = some g → g < b) (h2 : ∀ g, iv.ownBlock = some g → g < b) (h3 : ∀ g, pv.ownBlock = some g → g < b) (h4 : ∀ g, cv.ownBlock = some g → g < b) : LU (W.setCell ⟨b, i, none⟩ v) B cut xb pv tv cv iv ps ts cl il := by
  have k : Kp (fun x t => t ≠ e ∨ x ≠ b) W (W.setCell ⟨b, i, none⟩ v) := ⟨by simp, fun x c u fz hx hu => Below.heap_setCell W ⟨b, i, none⟩ v x fun ex => by
    have ex' : x = b := ex
    rcases hu with hu | hu
    · subst ex'
      rw [hb] at hx
      injection hx with hx
      injection hx with _ hx _
      exact hu hx.symm
    · exact hu ex'⟩
  exact h.on k (.inl fun q => he.2 q.symm) (fun _ => .inl fun q => he.1 q.symm) (fun x hx => .inr (by omega)) (fun g hg => .inr (by have := h1 g hg; omega)) (fun g hg => .inr (by have := h2 g hg; omega)) (fun g hg => .inr (by have := h3 g hg; omega)) fun g hg => .inr (by have := h4 g hg; omega)
end Go.Proofs.YtijdcplffmdijaaDoor
