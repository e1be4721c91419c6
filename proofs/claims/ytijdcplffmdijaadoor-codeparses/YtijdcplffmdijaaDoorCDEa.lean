import Derived.Test.YtijdcplffmdijaaDoorCDTe
namespace Go.Proofs.YtijdcplffmdijaaDoor
open Go.RowKit
set_option linter.unusedVariables false
set_option linter.unusedSimpArgs false

/-- numbers in a block of kind int -/
structure IK (w : World) (a : Option Addr) (cap : Nat) (ks : List Int) : Prop where
  cap : ks.length ≤ cap
  max : ks.length ≤ maxLen
  at_ : 0 < ks.length → ∃ b o c fz, a = some ⟨b, o, none⟩ ∧ w.heap[b]? = some (.cells c 3 fz) ∧ ∀ i (h : i < ks.length), w.cell? ⟨b, o + i, none⟩ = some (.int .i64 ks[i])
theorem IK.ints {w : World} {a : Option Addr} {cap : Nat} {ks : List Int} (h : IK w a cap ks) : IntsV w w.heap.size a cap ks := by
  refine ⟨h.cap, h.max, fun h0 => ?_⟩
  obtain ⟨b, o, c, fz, e, hb, hc⟩ := h.at_ h0
  exact ⟨b, o, e, (Array.getElem?_eq_some_iff.1 hb).1, hc⟩
theorem IK.nil (w : World) (a : Option Addr) (cap : Nat) : IK w a cap [] := ⟨Nat.zero_le _, Nat.zero_le _, fun h => absurd h (by simp)⟩
/-- blocks of numbers stay -/
structure KI (w w' : World) : Prop where
  size : w.heap.size ≤ w'.heap.size
  blk : ∀ (b : Nat) (c : Array Value) (fz : Nat × Nat), w.heap[b]? = some (Obj.cells c 3 fz) → w'.heap[b]? = w.heap[b]?
theorem KI.of {w w' : World} (h : Below w.heap.size w w') : KI w w' := ⟨h.size, fun b c fz hb => h.block b (Array.getElem?_eq_some_iff.1 hb).1⟩
theorem KI.trans {a b c : World} (h : KI a b) (g : KI b c) : KI a c := ⟨Nat.le_trans h.size g.size, fun x cs fz hx => (g.blk x cs fz ((h.blk x cs fz hx).trans hx)).trans (h.blk x cs fz hx)⟩
theorem IK.on {w w' : World} {a : Option Addr} {cap : Nat} {ks : List Int} (h : IK w a cap ks) (hk : KI w w') : IK w' a cap ks := by
  refine ⟨h.cap, h.max, fun h0 => ?_⟩
  obtain ⟨b, o, c, fz, e, hb, hc⟩ := h.at_ h0
  have hb' := hk.blk b c fz hb
  exact ⟨b, o, c, fz, e, hb'.trans hb, fun i hi => by rw [World.cell?_of_block (w := w) hb']; exact hc i hi⟩
theorem IK.of_own {w : World} {B : Nat} {v : Value} {ks : List Int} (h : w.ownsRow B 3 1 v ks.length (ks.map (Value.int .i64))) : ∃ a cap, v = .slice a ks.length cap ∧ IK w a cap ks := by
  rcases h.2 with ⟨rfl, hn⟩ | ⟨g, cap, cur, rfl, hB, hg, q1, q2, q3, q4⟩
  · have : ks = [] := List.eq_nil_of_length_eq_zero hn
    subst this
    exact ⟨none, 0, rfl, IK.nil _ _ _⟩
  · refine ⟨_, _, rfl, ⟨q1, by omega, fun _ => ⟨g, 0, cur, (0, 0), rfl, hg, fun i hi => ?_⟩⟩⟩
    rw [Nat.zero_add, World.cell?]
    simp only [hg]
    have e := congrArg (·[i]?) q4
    simp only [List.getElem?_map] at e
    rw [List.getElem?_take_of_lt (by omega), Array.getElem?_toList, List.getElem?_eq_getElem hi] at e
    simpa using e
set_option maxRecDepth 100000 in
set_option maxHeartbeats 1000000 in
/-- what stands behind so many numbers -/
theorem behind_any (w : World) (a : Option Addr) (cap : Nat) (ks : List Int) (hi : IntsV w w.heap.size a cap ks) (m : Nat) (hm : m ≤ ks.length) (hl : ks.length ≤ 17592186044416) :
    Calls Tryd.prog 75 #[.slice a ks.length cap, .int .i64 m] w fun e w' => ∃ a' cap', e = .returned (.slice a' ((ks.drop m).length) cap') ∧ Bx (IK w' a' cap' (ks.drop m) ∧ Below w.heap.size w w') := by
  obtain ⟨n, hn⟩ : ∃ n, ks.length = n := ⟨_, rfl⟩
  by_cases he : m = n
  · have hd : ks.drop m = [] := List.drop_eq_nil_of_le (by omega)
    rw [hd, hn]
    have hb : ((n : Int) == (m : Int)) = true := by simp; omega
    subst he
    clear hi
    go_enter Tryd.func75, Tryd.ntmps75
    go_wp2
    go_ret
    exact ⟨none, 0, rfl, ⟨IK.nil _ _ _, Below.refl _ _⟩⟩
  · obtain ⟨b, o, rfl, hbl, hc⟩ := hi.at_ (by omega)
    have hcap := hi.cap
    rw [hn] at hm hcap
    have hlen : (ks.drop m).length = n - m := by rw [List.length_drop, hn]
    have HCL : Calls Tryd.prog 86 #[.slice (some ⟨b, o + m, none⟩) (n - m) (cap - m)] w fun e w' => ∃ a' cap', e = .returned (.slice a' (n - m) cap') ∧ Bx (IK w' a' cap' (ks.drop m) ∧ Below w.heap.size w w') := by
      have := Tryd.slices_Clone_int b (o + m) (n - m) (cap - m) (ks.drop m) w (by omega) (by omega) (fun j hj => by
        have hj' : m + j < ks.length := by rw [hlen] at hj; omega
        rw [show o + m + j = o + (m + j) by omega, hc (m + j) hj', List.getD_eq_getElem?_getD, List.getElem?_eq_getElem hj]
        simp)
      refine Calls.mono this ?_
      rintro e w' ⟨v', rfl, ho, _, hb⟩
      rw [List.take_of_length_le (by omega), ← hlen] at ho
      obtain ⟨a', cap', rfl, hk⟩ := IK.of_own ho
      exact ⟨a', cap', by rw [hlen], ⟨hk, hb⟩⟩
    rw [hlen, hn]
    have hb : ((n : Int) == (m : Int)) = false := by simp; omega
    have f1 : (0 : Int) ≤ ↑m := by omega
    have f2 : (↑m : Int) ≤ ↑n := by omega
    have f3 : m ≤ n := hm
    have f4 : n ≤ cap := hcap
    clear hi hc hl
    go_enter Tryd.func75, Tryd.ntmps75
    go_wp2_with (first
      | (go_at_call 86; refine HCL.mono ?_; rintro e w1 ⟨a', cap', rfl, HX⟩))
    go_ret
    exact ⟨a', cap', rfl, HX⟩
end Go.Proofs.YtijdcplffmdijaaDoor
