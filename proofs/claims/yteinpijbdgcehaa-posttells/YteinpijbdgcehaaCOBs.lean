import Derived.Test.YteinpijbdgcehaaCOBr
import Derived.BigQuiet
namespace Go.Proofs.Yteinpijbdgcehaa
open Go.RowKit
set_option linter.unusedVariables false
set_option linter.unusedSimpArgs false

set_option maxRecDepth 100000 in
set_option maxHeartbeats 1000000 in
theorem same_eq (x y : Option Addr) (cx cy n : Nat) (l : List Q5) (w : World) (hn : l.length = n) (hm : n ≤ 30000000) (hx : QX w x cx l) (hy : QX w y cy l) :
    Calls Try.prog 20 #[.slice x n cx, .slice y n cy] w fun e w' => e = .returned (.bool true) ∧ ∃ k, w' = w.drewN k := by
  go_enter Try.func20, Try.ntmps20
  go_wp2
  go_loopw [5] (fun i wr => ∃ j k : Nat, j ≤ n ∧ i = .int .i64 j ∧ wr = w.drewN k) (fun i _ => n - (intOf i).toNat)
  case atStart => exact ⟨0, 0, Nat.zero_le _, rfl, rfl⟩
  case round =>
    obtain ⟨j, k, hj, rfl, rfl⟩ := hrel
    by_cases hlt : j < n
    · obtain ⟨g, rfl, hg, hc⟩ := hx.at_ (by omega)
      obtain ⟨g', rfl, hg', hc'⟩ := hy.at_ (by omega)
      obtain ⟨a0, a1, a2, a3, a4⟩ := hc j (by omega)
      obtain ⟨b0, b1, b2, b3, b4⟩ := hc' j (by omega)
      have hcx := hx.cap
      have hcy := hy.cap
      generalize l[j] = q at *
      clear hx hy hc hc'
      go_wp2
      go_quiet (fail)
      go_wp2
      go_roundw
      case rel => exact ⟨j + 1, k + nq, by omega, by go_num, rfl⟩
      case measure => simp [intOf]; omega
    · go_wp2
      go_ret
      exact ⟨rfl, k, rfl⟩

/-- a list that was handed out, and what it must read as -/
structure Ent where
  x : Value
  y : Value
  l : List Q5
def outR (e : Ent) : Row := ⟨47, 5, e.x, e.l.length, qsC e.l⟩
def wantR (e : Ent) : Row := ⟨47, 5, e.y, e.l.length, qsC e.l⟩
def bookR (h : Nat) (vo vw : Value) (fr : Int) : Row := ⟨28, 1, .slice (some ⟨h, 0, none⟩) 3 3, 3, [vo, vw, .int .i64 fr]⟩
def outsR (vo : Value) (es : List Ent) : Row := ⟨33, 1, vo, es.length, es.map Ent.x⟩
def wantsR (vw : Value) (es : List Ent) : Row := ⟨33, 1, vw, es.length, es.map Ent.y⟩

/-- the book as it stands -/
structure Bk (w : World) (B h : Nat) (vo vw : Value) (fr : Int) (es : List Ent) : Prop where
  book : (bookR h vo vw fr).ok w B
  outs : (outsR vo es).ok w B
  wants : (wantsR vw es).ok w B
  rows : ∀ e ∈ es, (outR e).ok w B ∧ (wantR e).ok w B
  apart : Apart vo vw
  small : ∀ e ∈ es, e.l.length ≤ 30000000
  few : es.length ≤ 100

theorem row1_of {w : World} {B : Nat} {e : TypeId} {v : Value} {n : Nat} {xs : List Value} (h : w.ownsRow B e 1 v n xs) :
    ∃ x cp, v = .slice x n cp ∧ n ≤ cp ∧ (0 < n → ∃ g, x = some ⟨g, 0, none⟩ ∧ g < w.heap.size ∧ ∀ j, j < n → w.cell? ⟨g, j, none⟩ = xs[j]?) := by
  rcases h.2 with ⟨hv, h0⟩ | ⟨g, cap, cur, hv, hb, hg, hnc, _⟩
  · exact ⟨none, 0, by rw [h0]; exact hv, by omega, fun h1 => by omega⟩
  · refine ⟨_, cap, hv, hnc, fun h1 => ⟨g, rfl, (Array.getElem?_eq_some_iff.1 hg).1, fun j hj => ?_⟩⟩
    subst hv
    exact h.cellAt j (by omega)
theorem book_cells {w : World} {B h : Nat} {vo vw : Value} {fr : Int} (hb : (bookR h vo vw fr).ok w B) : h < w.heap.size ∧ w.cell? ⟨h, 0, none⟩ = some vo ∧ w.cell? ⟨h, 1, none⟩ = some vw ∧ w.cell? ⟨h, 2, none⟩ = some (.int .i64 fr) ∧ (∀ j, w.frozen? ⟨h, j, none⟩ = false) ∧ B ≤ h := by
  have ho : w.ownsRow B 28 1 (.slice (some ⟨h, 0, none⟩) 3 3) 3 [vo, vw, .int .i64 fr] := hb.own
  refine ⟨(ho.lt h rfl).2, ho.cellAt 0 (by decide), ho.cellAt 1 (by decide), ho.cellAt 2 (by decide), fun j => ?_, (ho.lt h rfl).1⟩
  rcases ho.2 with ⟨hv, _⟩ | ⟨g, cap, cur, hv, hb, hg, _⟩
  · cases hv
  · injection hv with h1
    injection h1 with h1
    injection h1 with h1
    subst h1
    have hg' : w.heap[h]? = some (.cells cur 28 (0, 0)) := hg
    simp [World.frozen?, hg']

theorem Bk.below {w w' : World} {B h : Nat} {vo vw : Value} {fr : Int} {es : List Ent} (hB : Bk w B h vo vw fr es) (hb : Below w.heap.size w w') : Bk w' B h vo vw fr es :=
  ⟨hB.book.below hb, hB.outs.below hb, hB.wants.below hb, fun e he => ⟨(hB.rows e he).1.below hb, (hB.rows e he).2.below hb⟩, hB.apart, hB.small, hB.few⟩
theorem drawn_below (w : World) (n : Nat) : Below w.heap.size w (w.drewN n) := below_drewN (Below.refl _ _) n

set_option maxRecDepth 100000 in
set_option maxHeartbeats 1000000 in
theorem holds_any (B h : Nat) (vo vw : Value) (fr : Int) (es : List Ent) (w : World) (hB : Bk w B h vo vw fr es) :
    Calls Try.prog 30 #[.pointer (some ⟨h, 0, none⟩)] w fun e w' => e = .returned (.bool true) ∧ ∃ k, w' = w.drewN k := by
  have hfew := hB.few
  have hB0 : Bx (Bk w B h vo vw fr es) := ⟨hB⟩
  clear hB
  go_enter Try.func30, Try.ntmps30
  go_wp2
  go_loopw [3] (fun i wr => ∃ j : Nat, j ≤ es.length ∧ i = .int .i64 j ∧ ∃ k, Bx (wr = w.drewN k)) (fun i _ => es.length - (intOf i).toNat)
  case atStart => exact ⟨0, Nat.zero_le _, rfl, 0, ⟨rfl⟩⟩
  case round =>
    obtain ⟨j, hj, rfl, k, hk⟩ := hrel
    have hB : Bk wr B h vo vw fr es := by rw [hk.out]; exact hB0.out.below (drawn_below w k)
    obtain ⟨hh, c0, c1, c2, hfz, hBh⟩ := book_cells hB.book
    have ho : wr.ownsRow B 33 1 vo es.length (es.map Ent.x) := hB.outs.own
    have hw : wr.ownsRow B 33 1 vw es.length (es.map Ent.y) := hB.wants.own
    obtain ⟨xo, co, hvo, hco, Ho⟩ := row1_of ho
    obtain ⟨xw, cw, hvw, hcw, Hw⟩ := row1_of hw
    have HR := hB.rows
    have HS := hB.small
    clear hB ho hw hfz hBh c2
    rw [hvo] at c0
    rw [hvw] at c1
    clear hvo hvw
    by_cases hlt : j < es.length
    · obtain ⟨g, rfl, hg, hc⟩ := Ho (by omega)
      obtain ⟨g', rfl, hg', hc'⟩ := Hw (by omega)
      have a0 := hc j hlt
      have b0 := hc' j hlt
      simp only [List.getElem?_map, List.getElem?_eq_getElem hlt, Option.map_some] at a0 b0
      obtain ⟨r1, r2⟩ := HR es[j] (List.getElem_mem hlt)
      have hsm := HS es[j] (List.getElem_mem hlt)
      have r1' : wr.ownsRow B 47 5 es[j].x es[j].l.length (qsC es[j].l) := r1.own
      have r2' : wr.ownsRow B 47 5 es[j].y es[j].l.length (qsC es[j].l) := r2.own
      obtain ⟨xa, ca, ha, qa⟩ := qx_of_owns r1'
      obtain ⟨xb, cb, hb, qb⟩ := qx_of_owns r2'
      rw [ha] at a0
      rw [hb] at b0
      have HC : Bx (∀ p, Calls Try.prog 20 #[.slice xa es[j].l.length ca, .slice xb es[j].l.length cb] (wr.drewN p) fun e w' => e = .returned (.bool true) ∧ ∃ m, w' = (wr.drewN p).drewN m) :=
        ⟨fun p => same_eq xa xb ca cb _ es[j].l _ rfl hsm (qa.drewN p) (qb.drewN p)⟩
      generalize es[j].l.length = L at *
      clear HR HS Ho Hw hc hc' r1 r2 r1' r2' qa qb ha hb
      go_wp2
      go_quiet ((go_at_call 20; exact Calls.quiet_of (HC.out _)))
      go_wp2
      go_roundw
      case rel => exact ⟨j + 1, by omega, by go_num, k + nq, ⟨by rw [hk.out, World.drewN_drewN]⟩⟩
      case measure => simp [intOf]; omega
    · clear HR HS Ho Hw
      go_wp2
      go_ret
      exact ⟨rfl, k, hk.out⟩
end Go.Proofs.Yteinpijbdgcehaa
