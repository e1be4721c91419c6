import Derived.Test.YtecpknpcjoiliabDoorCUQ
import Derived.Test.YtecpknpcjoiliabDoorCUO
namespace Go.Proofs.YtecpknpcjoiliabDoor
open Go.RowKit
set_option linter.unusedVariables false
set_option linter.unusedSimpArgs false

def pickG (ps : List Pk) (line : List UInt8) : Got (List Pk) Int := match pickL ps.length line with
  | .no c => .no c
  | .yes p => .yes (ps ++ [p])
theorem pick_yes (w : World) (B rb sb k : Nat) (nx : Value) (line rest : List UInt8) (m : Lm) (b : Bool) (pv : Value) (ps : List Pk) (h : RS w rb k nx (line ++ 10 :: rest)) (h10 : (10 : UInt8) ∉ line) (hk : k ≤ 1152921504606846976) (hlen : (line ++ 10 :: rest).length ≤ 281474976710656)
    (hL : LB B w) (hB : B ≤ w.heap.size) (hrb : B ≤ rb) (hsB : B ≤ sb) (hne : rb ≠ sb) (hs : SB w sb m b pv) (hp : PkO w B pv ps) (hps : ps.length ≤ 4096) :
    Calls Tryd.prog 20 #[.pointer (some ⟨rb, 0, none⟩), .pointer (some ⟨sb, 0, none⟩)] w fun e w' => ∃ v, e = .returned v ∧ Bx (PkP w B rb sb (k + 1) rest m b (pickG ps line) v w') := by
  unfold pickG pickL
  by_cases h0 : kindI (pieces 32 line).1 = 0
  · rw [if_pos h0]
    obtain ⟨pa, pc, e⟩ := hp.form
    exact pick_word w B rb sb k nx line rest m b h h10 hk hlen pv hs ⟨_, _, _, e⟩ hne hL hB hrb h0
  · rw [if_neg h0]
    by_cases h1 : ps.length = 4096
    · rw [if_pos h1]
      exact pick_many w B rb sb k nx line rest m b pv ps h h10 hk hlen hL hB hrb hne hs hp h0 h1
    · rw [if_neg h1]
      cases hq : numsP (shapeI (kindI (pieces 32 line).1)).2 (pieces 32 line).2 with
      | none => exact pick_field w B rb sb k nx line rest m b pv ps h h10 hk hlen hL hB hrb hne hs hp h0 (by omega) hq
      | some l => exact pick_good w B rb sb k nx line rest m b pv ps h h10 hk hlen hL hB hrb hsB hne hs hp h0 (by omega) l hq
/-- nine cells -/
theorem cells9 {w : World} {bk : Nat} {x0 x1 x2 x3 x4 x5 x6 x7 x8 : Value} {T : TypeId} (h : w.heap[bk]? = some (.cells #[x0, x1, x2, x3, x4, x5, x6, x7, x8] T (0, 0))) :
    w.cell? ⟨bk, 0, none⟩ = some x0 ∧ w.cell? ⟨bk, 1, none⟩ = some x1 ∧ w.cell? ⟨bk, 2, none⟩ = some x2 ∧ w.cell? ⟨bk, 3, none⟩ = some x3 ∧ w.cell? ⟨bk, 4, none⟩ = some x4 ∧ w.cell? ⟨bk, 5, none⟩ = some x5 ∧ w.cell? ⟨bk, 6, none⟩ = some x6 ∧ w.cell? ⟨bk, 7, none⟩ = some x7 ∧ w.cell? ⟨bk, 8, none⟩ = some x8 :=
  ⟨cell_blk h rfl, cell_blk h rfl, cell_blk h rfl, cell_blk h rfl, cell_blk h rfl, cell_blk h rfl, cell_blk h rfl, cell_blk h rfl, cell_blk h rfl⟩
theorem frz9 {w : World} {bk : Nat} {C : Array Value} {T : TypeId} (h : w.heap[bk]? = some (.cells C T (0, 0))) :
    w.frozen? ⟨bk, 0, none⟩ = false ∧ w.frozen? ⟨bk, 1, none⟩ = false ∧ w.frozen? ⟨bk, 2, none⟩ = false ∧ w.frozen? ⟨bk, 3, none⟩ = false ∧ w.frozen? ⟨bk, 4, none⟩ = false ∧ w.frozen? ⟨bk, 5, none⟩ = false ∧ w.frozen? ⟨bk, 6, none⟩ = false ∧ w.frozen? ⟨bk, 7, none⟩ = false ∧ w.frozen? ⟨bk, 8, none⟩ = false :=
  ⟨frz_blk h, frz_blk h, frz_blk h, frz_blk h, frz_blk h, frz_blk h, frz_blk h, frz_blk h, frz_blk h⟩
abbrev set9 (w : World) (bk : Nat) (x0 x1 x2 x3 x4 x5 x6 x7 x8 : Value) : World := ((((((((w.setCell ⟨bk, 0, none⟩ x0).setCell ⟨bk, 1, none⟩ x1).setCell ⟨bk, 2, none⟩ x2).setCell ⟨bk, 3, none⟩ x3).setCell ⟨bk, 4, none⟩ x4).setCell ⟨bk, 5, none⟩ x5).setCell ⟨bk, 6, none⟩ x6).setCell ⟨bk, 7, none⟩ x7).setCell ⟨bk, 8, none⟩ x8
theorem kx9 (w : World) (bk : Nat) (x0 x1 x2 x3 x4 x5 x6 x7 x8 : Value) : Kx (fun z => z = bk) w (set9 w bk x0 x1 x2 x3 x4 x5 x6 x7 x8) := by
  have s : ∀ (X : World) (i : Nat) (v : Value), Kx (fun z => z = bk) X (X.setCell ⟨bk, i, none⟩ v) := fun X i v => Kx.set X i v rfl
  have t : ∀ {a b : World} (i : Nat) (v : Value), Kx (fun z => z = bk) a b → Kx (fun z => z = bk) a (b.setCell ⟨bk, i, none⟩ v) := fun i v h => h.trans (s _ i v) fun _ _ h => h
  exact t 8 _ (t 7 _ (t 6 _ (t 5 _ (t 4 _ (t 3 _ (t 2 _ (t 1 _ (s w 0 x0))))))))
abbrev zrC : Array Value := #[.int .i64 0, .int .i64 0, .int .i64 0, .int .i64 0, .int .i64 0, .int .i64 0, .int .i64 0, .bool false, .slice none 0 0]
theorem zrC_ok : ScF zrC := ⟨⟨0, 0, 0, 0, 0, 0, 0⟩, false, none, 0, 0, rfl⟩
abbrev scV (m : Lm) (b : Bool) (pv : Value) : Value := .agg #[.int .i64 m.a, .int .i64 m.b, .int .i64 m.c, .int .i64 m.d, .int .i64 m.e, .int .i64 m.f, .int .i64 m.g, .bool b, pv]
/-- what read answers, and leaves -/
def RdP (w : World) (g : Got Sc (Nat × Int)) (v er : Value) (w' : World) : Prop :=
  Below w.heap.size w w' ∧ match g with
  | .no e => er = wrV e.1 e.2 ∧ ∃ m b pa n pc, v = scV m b (.slice pa n pc)
  | .yes s => er = .nilIface ∧ ∃ pa pc, v = scV s.lim s.reap (.slice pa s.picks.length pc) ∧ PkO w' w.heap.size (.slice pa s.picks.length pc) s.picks
/-- in the midst of read -/
structure RdI (w : World) (text : List UInt8) (k : Nat) (rest : List UInt8) (m : Lm) (b : Bool) (pv : Value) (ps : List Pk) (wr : World) : Prop where
  bel : Below (w.heap.size + 1) (w.alloc (.cells zrC 31)) wr
  rs : ∃ nx, RS wr (w.heap.size + 2) k nx rest
  sb : SB wr (w.heap.size + 1) m b pv
  pk : PkO wr (w.heap.size + 1) pv ps
  eq : rdP m b rest ps (k + 1) = readS text
  len : k + rest.length ≤ text.length
  ps : ps.length ≤ 4096
end Go.Proofs.YtecpknpcjoiliabDoor
