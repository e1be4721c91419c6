import Derived.Test.YtecpknpcjoiliabDoorCUT
namespace Go.Proofs.YtecpknpcjoiliabDoor
open Go.RowKit
set_option linter.unusedVariables false
set_option linter.unusedSimpArgs false

/-- read has found what is wrong -/
structure ErI (w : World) (text : List UInt8) (e : Nat × Int) (wr : World) : Prop where
  bel : Below (w.heap.size + 1) (w.alloc (.cells zrC 31)) wr
  eq : readS text = .no e
  sb : ∃ m b pa n pc, SB wr (w.heap.size + 1) m b (.slice pa n pc)
/-- behind the limits -/
structure LmI (w : World) (text : List UInt8) (m : Lm) (rest : List UInt8) (wr : World) : Prop where
  bel : Below (w.heap.size + 1) (w.alloc (.cells zrC 31)) wr
  rs : ∃ nx, RS wr (w.heap.size + 2) 1 nx rest
  sb : SB wr (w.heap.size + 1) m false (.slice none 0 0)
  eq : rdR m rest = readS text
  len : 1 + rest.length ≤ text.length
theorem scf_sb {w : World} {sb : Nat} {C : Array Value} (h : ScF C) (hs : w.heap[sb]? = some (.cells C 31 (0, 0))) : ∃ m b pa n pc, SB w sb m b (.slice pa n pc) := by
  obtain ⟨m, b, pa, n, pc, rfl⟩ := h
  exact ⟨m, b, pa, n, pc, hs⟩
def EndV (w : World) (text : List UInt8) (I : World → Prop) (e : Ending) (w' : World) : Prop := ∃ v, e = .returned v ∧ ((v = .nilIface ∧ Bx (I w')) ∨ ∃ k c, v = wrV k c ∧ Bx (ErI w text (k, c) w'))
theorem read_lim (w : World) (hL : LW w) (text : List UInt8) (hlen : text.length ≤ 281474976710656) (w0 : World) (hb : Below (w.heap.size + 1) (w.alloc (.cells zrC 31)) w0) (hr : RS w0 (w.heap.size + 2) 0 .nilFunc text) (hs : w0.heap[w.heap.size + 1]? = some (.cells zrC 31 (0, 0))) :
    Calls Tryd.prog 18 #[.pointer (some ⟨w.heap.size + 2, 0, none⟩), .pointer (some ⟨w.heap.size + 1, 0, none⟩)] w0 (EndV w text fun w' => ∃ m rest, LmI w text m rest w') := by
  have hlb : LB (w.heap.size + 1) w0 := fun w2 h2 => hL.below ((below1 w _).trans ((hb.trans h2).mono (by omega)))
  have hB0 : w.heap.size + 1 ≤ w0.heap.size := by have := heap_lt hs; omega
  by_cases h10 : (10 : UInt8) ∈ text
  · obtain ⟨l, r, rfl, hl⟩ := cut_ten h10
    refine (limits_yes w0 (w.heap.size + 1) (w.heap.size + 2) (w.heap.size + 1) 0 _ l r zrC hr hl (by omega) hlen hlb hB0 (by omega) (by omega) hs (by omega) zrC_ok).mono ?_
    rintro e w' ⟨v, rfl, H⟩
    obtain ⟨hk, hg⟩ := H.out
    have hb' : Below (w.heap.size + 1) (w.alloc (.cells zrC 31)) w' := hb.trans (hk.below hB0 fun x hx => by omega)
    have hrd := readS_cut (l := l) (r := r) hl
    refine ⟨v, rfl, ?_⟩
    unfold limG at hg
    cases hq : limL l with
    | no c =>
      rw [hq] at hg hrd
      obtain ⟨rfl, C', hF, hs'⟩ := hg
      exact Or.inr ⟨_, _, rfl, ⟨hb', hrd, scf_sb hF hs'⟩⟩
    | yes m =>
      rw [hq] at hg hrd
      obtain ⟨rfl, ⟨nx, hr'⟩, hs'⟩ := hg
      refine Or.inl ⟨rfl, ⟨m, r, hb', ⟨nx, hr'⟩, ?_, hrd.symm, by simp; omega⟩⟩
      exact hs'
  · refine (limits_no w0 (w.heap.size + 2) (w.heap.size + 1) 0 _ text zrC hs (by omega) zrC_ok hr h10 (by omega) []).mono ?_
    rintro e w' ⟨v, rfl, H⟩
    obtain ⟨hk, rfl, C', hF, hs'⟩ := H.out
    have hb' : Below (w.heap.size + 1) (w.alloc (.cells zrC 31)) w' := hb.trans (hk.below hB0 fun x hx => by omega)
    exact ⟨_, rfl, Or.inr ⟨_, _, rfl, ⟨hb', readS_none h10, scf_sb hF hs'⟩⟩⟩
theorem read_reap (w : World) (hL : LW w) (text : List UInt8) (hlen : text.length ≤ 281474976710656) (w1 : World) (m : Lm) (rest : List UInt8) (h : LmI w text m rest w1) :
    Calls Tryd.prog 19 #[.pointer (some ⟨w.heap.size + 2, 0, none⟩), .pointer (some ⟨w.heap.size + 1, 7, none⟩)] w1 (EndV w text fun w' => ∃ rest b, RdI w text 2 rest m b (.slice none 0 0) [] w') := by
  have hlb : LB (w.heap.size + 1) w1 := fun w2 h2 => hL.below ((below1 w _).trans ((h.bel.trans h2).mono (by omega)))
  have hB0 : w.heap.size + 1 ≤ w1.heap.size := by have := heap_lt h.sb; omega
  have hF : ScF #[.int .i64 m.a, .int .i64 m.b, .int .i64 m.c, .int .i64 m.d, .int .i64 m.e, .int .i64 m.f, .int .i64 m.g, .bool false, .slice none 0 0] := ⟨m, false, none, 0, 0, rfl⟩
  obtain ⟨nx, hr⟩ := h.rs
  have hln := h.len
  have heq := h.eq
  by_cases h10 : (10 : UInt8) ∈ rest
  · obtain ⟨l, r, rfl, hl⟩ := cut_ten h10
    refine (reap_yes w1 (w.heap.size + 1) (w.heap.size + 2) (w.heap.size + 1) 1 _ l r _ hr hl (by omega) (by omega) hlb hB0 (by omega) (by omega) h.sb (by omega) hF).mono ?_
    rintro e w' ⟨v, rfl, H⟩
    obtain ⟨hk, hg⟩ := H.out
    have hb' : Below (w.heap.size + 1) (w.alloc (.cells zrC 31)) w' := h.bel.trans (hk.below hB0 fun x hx => by omega)
    rw [rdR_cut hl] at heq
    refine ⟨v, rfl, ?_⟩
    unfold reapG at hg
    cases hq : reapL l with
    | no c =>
      rw [hq] at hg heq
      obtain ⟨rfl, C', hF', hs'⟩ := hg
      exact Or.inr ⟨_, _, rfl, ⟨hb', heq.symm, scf_sb hF' hs'⟩⟩
    | yes b =>
      rw [hq] at hg heq
      obtain ⟨rfl, ⟨nx', hr'⟩, hs'⟩ := hg
      refine Or.inl ⟨rfl, ⟨r, b, hb', ⟨nx', hr'⟩, ?_, World.ownsRow_nil _ _ _ _, heq, by simp at hln; omega, by simp⟩⟩
      unfold SB
      simpa using hs'
  · refine (reap_no w1 (w.heap.size + 2) (w.heap.size + 1) 1 _ rest _ h.sb (by omega) hF hr h10 (by omega) []).mono ?_
    rintro e w' ⟨v, rfl, H⟩
    obtain ⟨hk, rfl, C', hF', hs'⟩ := H.out
    have hb' : Below (w.heap.size + 1) (w.alloc (.cells zrC 31)) w' := h.bel.trans (hk.below hB0 fun x hx => by omega)
    rw [rdR_none h10] at heq
    exact ⟨_, rfl, Or.inr ⟨_, _, rfl, ⟨hb', heq.symm, scf_sb hF' hs'⟩⟩⟩
theorem read_pick (w : World) (hL : LW w) (text : List UInt8) (hlen : text.length ≤ 281474976710656) (w1 : World) (k : Nat) (rest : List UInt8) (m : Lm) (b : Bool) (pv : Value) (ps : List Pk) (h : RdI w text k rest m b pv ps w1) (hne : rest ≠ []) :
    Calls Tryd.prog 20 #[.pointer (some ⟨w.heap.size + 2, 0, none⟩), .pointer (some ⟨w.heap.size + 1, 0, none⟩)] w1 (EndV w text fun w' => ∃ rest pv ps, RdI w text (k + 1) rest m b pv ps w') := by
  have hlb : LB (w.heap.size + 1) w1 := fun w2 h2 => hL.below ((below1 w _).trans ((h.bel.trans h2).mono (by omega)))
  have hB0 : w.heap.size + 1 ≤ w1.heap.size := by have := heap_lt h.sb; omega
  obtain ⟨nx, hr⟩ := h.rs
  have hln := h.len
  have heq := h.eq
  by_cases h10 : (10 : UInt8) ∈ rest
  · obtain ⟨l, r, rfl, hl⟩ := cut_ten h10
    refine (pick_yes w1 (w.heap.size + 1) (w.heap.size + 2) (w.heap.size + 1) k _ l r m b pv ps hr hl (by omega) (by omega) hlb hB0 (by omega) (by omega) (by omega) h.sb h.pk h.ps).mono ?_
    rintro e w' ⟨v, rfl, H⟩
    obtain ⟨hk, hg⟩ := H.out
    have hb' : Below (w.heap.size + 1) (w.alloc (.cells zrC 31)) w' := h.bel.trans hk
    rw [rdP_cut hl] at heq
    refine ⟨v, rfl, ?_⟩
    unfold pickG at hg
    cases hq : pickL ps.length l with
    | no c =>
      rw [hq] at hg heq
      obtain ⟨rfl, pv', hs', pa, n, pc, rfl⟩ := hg
      exact Or.inr ⟨_, _, rfl, ⟨hb', heq.symm, ⟨m, b, pa, n, pc, hs'⟩⟩⟩
    | yes p =>
      rw [hq] at hg heq
      obtain ⟨rfl, nx', pv', hr', hs', hp'⟩ := hg
      have hpn := (pickL_yes hq).2.2.2
      exact Or.inl ⟨rfl, ⟨r, pv', ps ++ [p], hb', ⟨nx', hr'⟩, hs', hp', heq, by simp at hln; omega, by have := h.ps; simp; omega⟩⟩
  · obtain ⟨pa, pc, e⟩ := h.pk.form
    refine (pick_no w1 (w.heap.size + 1) (w.heap.size + 2) (w.heap.size + 1) k _ rest m b pv h.sb ⟨_, _, _, e⟩ (by omega) hr h10 (by omega) hB0 (by omega) []).mono ?_
    rintro e w' ⟨v, rfl, H⟩
    obtain ⟨hk, rfl, pv', hs', pa, n, pc, rfl⟩ := H.out
    have hb' : Below (w.heap.size + 1) (w.alloc (.cells zrC 31)) w' := h.bel.trans hk
    rw [rdP_open h10 hne] at heq
    exact ⟨_, rfl, Or.inr ⟨_, _, rfl, ⟨hb', heq.symm, ⟨m, b, pa, n, pc, hs'⟩⟩⟩⟩
end Go.Proofs.YtecpknpcjoiliabDoor
