import Derived.Test.YtecpknpcjoiliabDoorCUPa
import Derived.Test.YtecpknpcjoiliabDoorCUT
import Derived.Lib.BufferRead
import Derived.Lib.BufferKept
import Derived.Lib.SlBytesRow
namespace Go.Proofs.YtecpknpcjoiliabDoor
open Go.RowKit
set_option linter.unusedVariables false
set_option linter.unusedSimpArgs false

theorem addPick_yes (w : World) (B : Nat) (v : Value) (bs : List UInt8) (p : Pk) (hp : p.Wf) (hf : fitK p = true) (hS : LW w) (hB : B ≤ w.heap.size) (ho : BO w B v bs) (hl : bs.length ≤ 140737488355000) (ht : PowAt B w) :
    Calls Tryd.prog 28 #[v, .agg #[.int .i64 p.kind, .int .i64 p.n, .int .i64 p.v]] w fun e w' => ∃ v', e = .returned (.tuple #[v', .nilIface]) ∧ Bx (BO w' B v' (bs ++ pickT p) ∧ KV B v v' w w') := by
  obtain ⟨hk, hz⟩ := fit_parts hf
  have har := ar_le p.kind
  have : (shapeI p.kind).2 = 0 ∨ (shapeI p.kind).2 = 1 ∨ (shapeI p.kind).2 = 2 := by omega
  rcases this with e | e | e
  · rw [e] at hz
    exact addPick_0y w B v bs p hp hk e (hz p.n (by simp)) (hz p.v (by simp)) hS hB ho hl ht
  · rw [e] at hz
    exact addPick_1y w B v bs p hp hk e (hz p.v (by simp)) hS hB ho hl ht
  · exact addPick_2 w B v bs p hp hk e hS hB ho hl ht
theorem addPick_bad (w : World) (B : Nat) (v : Value) (bs : List UInt8) (p : Pk) (hp : p.Wf) (hf : fitK p = false) (hS : LW w) (hB : B ≤ w.heap.size) (ho : BO w B v bs) (hl : bs.length ≤ 140737488355000) (ht : PowAt B w) :
    Calls Tryd.prog 28 #[v, .agg #[.int .i64 p.kind, .int .i64 p.n, .int .i64 p.v]] w fun e w' => e = .returned (.tuple #[.slice none 0 0, wrV 0 171]) ∧ Bx (Below w.heap.size w w') := by
  by_cases hk : 1 ≤ p.kind ∧ p.kind ≤ 4
  · have har := ar_le p.kind
    have hz : ¬ ∀ x ∈ [p.n, p.v].drop (shapeI p.kind).2, x = 0 := fun h => by
      have : fitK p = true := by
        unfold fitK
        simp only [Bool.and_eq_true, decide_eq_true_eq, List.all_eq_true, beq_iff_eq]
        exact ⟨hk.1, hk.2, h⟩
      rw [this] at hf
      cases hf
    have : (shapeI p.kind).2 = 0 ∨ (shapeI p.kind).2 = 1 ∨ (shapeI p.kind).2 = 2 := by omega
    rcases this with e | e | e
    · rw [e] at hz
      by_cases hn : p.n = 0
      · have hv : p.v ≠ 0 := fun hv => hz (by simp [hn, hv])
        exact addPick_0v w B v bs p hp hk e hn hv hS hB ho hl ht
      · exact addPick_0n w B v bs p hp hk e hn hS hB ho hl ht
    · rw [e] at hz
      have hv : p.v ≠ 0 := fun hv => hz (by simp [hv])
      exact addPick_1n w B v bs p hp hk e hv hS hB ho hl ht
    · rw [e] at hz
      exact absurd (fun x hx => by simp at hx) hz
  · exact addPick_no w v p (by omega)
/-- picks in memory -/
structure PkV (w : World) (B : Nat) (a : Option Addr) (ps : List Pk) : Prop where
  max : ps.length ≤ maxLen
  at_ : 0 < ps.length → ∃ b o, a = some ⟨b, o, none⟩ ∧ b < B ∧ ∀ i (h : i < ps.length), w.cell? ⟨b, o + i * 3, none⟩ = some (.int .i64 ps[i].kind) ∧ w.cell? ⟨b, o + i * 3 + 1, none⟩ = some (.int .i64 ps[i].n) ∧ w.cell? ⟨b, o + i * 3 + 2, none⟩ = some (.int .i64 ps[i].v)
theorem PkV.below {w w' : World} {B : Nat} {a : Option Addr} {ps : List Pk} (h : PkV w B a ps) (hb : Below B w w') : PkV w' B a ps := by
  refine ⟨h.max, fun h0 => ?_⟩
  obtain ⟨b, o, e, hlt, hc⟩ := h.at_ h0
  refine ⟨b, o, e, hlt, fun i hi => ?_⟩
  obtain ⟨c0, c1, c2⟩ := hc i hi
  exact ⟨by rw [hb.cell (p := ⟨b, _, none⟩) hlt]; exact c0, by rw [hb.cell (p := ⟨b, _, none⟩) hlt]; exact c1, by rw [hb.cell (p := ⟨b, _, none⟩) hlt]; exact c2⟩
theorem PkV.up {w : World} {B B' : Nat} {a : Option Addr} {ps : List Pk} (h : PkV w B a ps) (hb : B ≤ B') : PkV w B' a ps := by
  refine ⟨h.max, fun h0 => ?_⟩
  obtain ⟨b, o, e, hlt, hc⟩ := h.at_ h0
  exact ⟨b, o, e, by omega, hc⟩
theorem pkC_at (ps : List Pk) : ∀ (i : Nat) (h : i < ps.length), (pkC ps)[i * 3]? = some (.int .i64 ps[i].kind) ∧ (pkC ps)[i * 3 + 1]? = some (.int .i64 ps[i].n) ∧ (pkC ps)[i * 3 + 2]? = some (.int .i64 ps[i].v) := by
  induction ps with
  | nil => intro i h; simp at h
  | cons p ps ih =>
    intro i h
    have e : pkC (p :: ps) = .int .i64 p.kind :: .int .i64 p.n :: .int .i64 p.v :: pkC ps := by simp [pkC]
    rw [e]
    cases i with
    | zero => exact ⟨rfl, rfl, rfl⟩
    | succ j =>
      have := ih j (by simpa using h)
      have e1 : (j + 1) * 3 = j * 3 + 3 := by omega
      rw [e1]
      simpa using this
theorem pkC_len : ∀ ps : List Pk, (pkC ps).length = ps.length * 3
  | [] => rfl
  | p :: r => by
    have e : pkC (p :: r) = .int .i64 p.kind :: .int .i64 p.n :: .int .i64 p.v :: pkC r := by simp [pkC]
    rw [e]
    simp only [List.length_cons, pkC_len r]
    omega
theorem PkO.view {w : World} {B : Nat} {a : Option Addr} {n cap : Nat} {ps : List Pk} (h : PkO w B (.slice a n cap) ps) : PkV w w.heap.size a ps := by
  have hm := h.own.1
  rcases h.own.2 with ⟨e, hn⟩ | ⟨g, c, cur, e, hB, hg, q1, q2, q3, q4⟩
  · exact ⟨by rw [hn]; exact Nat.zero_le _, fun h0 => absurd h0 (by omega)⟩
  · simp only [Value.slice.injEq] at e
    obtain ⟨rfl, rfl, rfl⟩ := e
    refine ⟨by omega, fun _ => ⟨g, 0, rfl, heap_lt hg, fun i hi => ?_⟩⟩
    have hl := pkC_len ps
    have key : ∀ (j : Nat) (x : Value), (pkC ps)[j]? = some x → w.cell? ⟨g, 0 + j, none⟩ = some x := fun j x hj => by
      rw [Nat.zero_add]
      refine cell_blk hg ?_
      have e4 := congrArg (fun L => L[j]?) q4
      have hj2 : j < ps.length * 3 := by rw [← hl]; exact (List.getElem?_eq_some_iff.1 hj).1
      simp only [hj] at e4
      rw [List.getElem?_take_of_lt hj2, Array.getElem?_toList] at e4
      exact e4
    obtain ⟨c0, c1, c2⟩ := pkC_at ps i hi
    refine ⟨key _ _ c0, ?_, ?_⟩
    · rw [Nat.add_assoc]; exact key _ _ c1
    · rw [Nat.add_assoc]; exact key _ _ c2
theorem BO.str {w : World} {B : Nat} {v : Value} {bs : List UInt8} (h : BO w B v bs) : (convert 55 9 v).run Tryd.prog w = .ok (strV bs) w := by
  rcases h.own.2 with ⟨rfl, hn⟩ | ⟨g, cap, cur, rfl, hB, hg, q1, q2, q3, q4⟩
  · have : bs = [] := List.eq_nil_of_length_eq_zero hn
    subst this
    exact Lib.run_convert_nil_bytes w 55 9 5 0 Tryd.underlying55 Tryd.underlying5 Tryd.underlying9
  · have hsz : (⟨bs.toArray⟩ : ByteArray).size = bs.length := by simp [ByteArray.size]
    have hc : Lib.Bytes w g 0 ⟨bs.toArray⟩ := fun i hi => by
      rw [hsz] at hi
      rw [Nat.zero_add]
      refine cell_blk hg ?_
      have e := congrArg (·[i]?) q4
      simp only [Lib.byteCells, List.getElem?_map] at e
      rw [List.getElem?_take_of_lt (by omega), Array.getElem?_toList, List.getElem?_eq_getElem hi] at e
      rw [e]
      rfl
    have := Lib.run_convert_whole (P := Tryd.prog) w 55 5 9 Tryd.underlying55 Tryd.underlying5 Tryd.underlying9 g 0 ⟨bs.toArray⟩ hc cap
    rw [hsz] at this
    exact this
end Go.Proofs.YtecpknpcjoiliabDoor
