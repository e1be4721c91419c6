import Derived.Test.YtecpknpcjoiliaaDoorCJX
namespace Go.Proofs.YtecpknpcjoiliaaDoor
open Go.RowKit
set_option linter.unusedVariables false
set_option linter.unusedSimpArgs false

/-- an event as a value -/
abbrev evV (e : Ev) (a : Option Addr) (cap : Nat) : Value := .agg #[.int .i64 e.kind, .int .i64 e.p, .int .i64 e.i, .int .i64 e.q, .int .i64 e.j, .int .i64 e.c, .int .i64 e.num, .slice a e.list.length cap]
/-- an event in memory -/
structure EvAt (w : World) (B b o : Nat) (e : Ev) (a : Option Addr) (cap : Nat) : Prop where
  c0 : w.cell? ⟨b, o, none⟩ = some (.int .i64 e.kind)
  c1 : w.cell? ⟨b, o + 1, none⟩ = some (.int .i64 e.p)
  c2 : w.cell? ⟨b, o + 2, none⟩ = some (.int .i64 e.i)
  c3 : w.cell? ⟨b, o + 3, none⟩ = some (.int .i64 e.q)
  c4 : w.cell? ⟨b, o + 4, none⟩ = some (.int .i64 e.j)
  c5 : w.cell? ⟨b, o + 5, none⟩ = some (.int .i64 e.c)
  c6 : w.cell? ⟨b, o + 6, none⟩ = some (.int .i64 e.num)
  c7 : w.cell? ⟨b, o + 7, none⟩ = some (.slice a e.list.length cap)
  li : IntsV w B a cap e.list
theorem EvAt.below {w w' : World} {B b o : Nat} {e : Ev} {a : Option Addr} {cap : Nat} (h : EvAt w B b o e a cap) (hlt : b < B) (hb : Below B w w') : EvAt w' B b o e a cap := by
  have hc : ∀ i, w'.cell? ⟨b, i, none⟩ = w.cell? ⟨b, i, none⟩ := fun i => hb.cell (p := ⟨b, i, none⟩) hlt
  exact ⟨by rw [hc]; exact h.c0, by rw [hc]; exact h.c1, by rw [hc]; exact h.c2, by rw [hc]; exact h.c3, by rw [hc]; exact h.c4, by rw [hc]; exact h.c5, by rw [hc]; exact h.c6, by rw [hc]; exact h.c7, h.li.below hb⟩
/-- events in memory -/
structure EvsV (w : World) (B : Nat) (a : Option Addr) (es : List Ev) : Prop where
  max : es.length ≤ maxLen
  at_ : 0 < es.length → ∃ b o, a = some ⟨b, o, none⟩ ∧ b < B ∧ ∀ i (h : i < es.length), ∃ la lc, EvAt w B b (o + i * 8) es[i] la lc
theorem EvsV.below {w w' : World} {B : Nat} {a : Option Addr} {es : List Ev} (h : EvsV w B a es) (hb : Below B w w') : EvsV w' B a es := by
  refine ⟨h.max, fun h0 => ?_⟩
  obtain ⟨b, o, e, hlt, hc⟩ := h.at_ h0
  refine ⟨b, o, e, hlt, fun i hi => ?_⟩
  obtain ⟨la, lc, hi⟩ := hc i hi
  exact ⟨la, lc, hi.below hlt hb⟩
theorem EvAt.up {w : World} {B B' b o : Nat} {e : Ev} {a : Option Addr} {cap : Nat} (h : EvAt w B b o e a cap) (hb : B ≤ B') : EvAt w B' b o e a cap := ⟨h.c0, h.c1, h.c2, h.c3, h.c4, h.c5, h.c6, h.c7, h.li.up hb⟩
theorem EvsV.up {w : World} {B B' : Nat} {a : Option Addr} {es : List Ev} (h : EvsV w B a es) (hb : B ≤ B') : EvsV w B' a es := by
  refine ⟨h.max, fun h0 => ?_⟩
  obtain ⟨b, o, e, hlt, hc⟩ := h.at_ h0
  refine ⟨b, o, e, by omega, fun i hi => ?_⟩
  obtain ⟨la, lc, hi⟩ := hc i hi
  exact ⟨la, lc, hi.up hb⟩
theorem evsV_nil (w : World) (B : Nat) (a : Option Addr) : EvsV w B a [] := ⟨Nat.zero_le _, fun h => absurd h (by simp)⟩
end Go.Proofs.YtecpknpcjoiliaaDoor
