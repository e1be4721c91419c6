import Derived.Test.YtikijkpklneihaaCVKp
import Derived.Test.YtikijkpklneihaaCVSx
import Derived.Test.YtikijkpklneihaaCVWp
import Derived.Test.YtikijkpklneihaaCVQe
import Derived.Test.YtikijkpklneihaaCVSp
import Derived.Test.YtikijkpklneihaaCVNu
import Derived.Test.YtikijkpklneihaaCVGt
namespace Go.Proofs.Ytikijkpklneihaa
open Go.RowKit
set_option linter.unusedVariables false
set_option linter.unusedSimpArgs false

/-! ### ValueParts: the contracts, and what stays -/
def prtA (x : V) (ks : List Int) : V := (findV x ks).getD v0
def witA (x : V) (ks : List Int) (y : V) : V := (wzV x ks y).getD v0
theorem v0_64 : I64 v0.k ∧ I64 v0.n := ⟨⟨by decide, by decide⟩, ⟨by decide, by decide⟩⟩
theorem v0_sz : v0.sz = 1 := by decide
theorem prtA_sz (x : V) (ks : List Int) : (prtA x ks).sz ≤ x.sz := by
  unfold prtA
  cases hf : findV x ks with
  | none => have := x.sz_pos; simp [v0_sz]; exact this
  | some y => exact find_sz hf
theorem witA_sz (x : V) (ks : List Int) (y : V) : (witA x ks y).sz ≤ x.sz + y.sz := by
  unfold witA
  cases hf : wzV x ks y with
  | none => have := x.sz_pos; simp [v0_sz]; omega
  | some z => exact wz_sz hf
def TupA (a : V) (ok : Bool) (e : Ending) (q : Option Addr) (c : Nat) : Prop := e = .returned (.tuple #[agV a.k a.n q a.l.length c, .bool ok])
theorem Part_all2 (w : World) (B : Nat) (v : Value) (x : V) (pp : Option Addr) (pc : Nat) (ks : List Int) (hv : IsV w B v x) (hp : Pth w B pp pc ks) (hB : B ≤ w.heap.size) (hx : x.sz ≤ 200000) :
    Calls Try.prog 7 #[v, .slice pp ks.length pc] w fun e w' => ∃ q c, TupA (prtA x ks) (findV x ks).isSome e q c ∧ (I64 (prtA x ks).k ∧ I64 (prtA x ks).n) ∧ Prv w' w.heap.size w'.heap.size 0 (prtA x ks) q c ∧ Below w.heap.size w w' := by
  unfold prtA
  cases hf : findV x ks with
  | none =>
    refine (Part_no w B v x pp pc ks hv hp hB hf).mono ?_
    rintro e w' ⟨rfl, hb⟩
    exact ⟨none, 0, rfl, v0_64, Prv.nil rfl, hb⟩
  | some y =>
    refine (Part_own w B v x y pp pc ks hv hp hB hf hx).mono ?_
    rintro e w' ⟨q, c, rfl, h1, h2, h3⟩
    exact ⟨q, c, rfl, h1, h2, h3⟩
theorem With_all2 (w : World) (B : Nat) (v u : Value) (x y : V) (pp : Option Addr) (pc : Nat) (ks : List Int) (hv : IsV w B v x) (hu : IsV w B u y) (hp : Pth w B pp pc ks) (hB : B ≤ w.heap.size) (hx : x.sz ≤ 200000) (hy : y.sz ≤ 200000) :
    Calls Try.prog 8 #[v, .slice pp ks.length pc, u] w fun e w' => ∃ q c, TupA (witA x ks y) (findV x ks).isSome e q c ∧ (I64 (witA x ks y).k ∧ I64 (witA x ks y).n) ∧ Prv w' w.heap.size w'.heap.size 0 (witA x ks y) q c ∧ Below w.heap.size w w' := by
  unfold witA wzV
  cases hf : findV x ks with
  | none =>
    refine (With_no w B v u x y pp pc ks hv hu hp hB hf).mono ?_
    rintro e w' ⟨rfl, hb⟩
    exact ⟨none, 0, rfl, v0_64, Prv.nil rfl, hb⟩
  | some z =>
    refine (With_own w B v u x y z pp pc ks hv hu hp hB hf hx hy).mono ?_
    rintro e w' ⟨q, c, rfl, h1, h2, h3⟩
    exact ⟨q, c, rfl, h1, h2, h3⟩
theorem RPp.all {w w' : World} {z : Option V} {e : Ending} (h : RPp w z e w') : ∃ q c, TupA (z.getD v0) z.isSome e q c ∧ IsV w' w'.heap.size (agV (z.getD v0).k (z.getD v0).n q (z.getD v0).l.length c) (z.getD v0) ∧ Below w.heap.size w w' := by
  obtain ⟨hb, h1⟩ := h
  rcases h1 with ⟨rfl, rfl⟩ | ⟨y, u, rfl, rfl, h2⟩
  · exact ⟨none, 0, rfl, ⟨⟨none, 0, rfl, ⟨by simp [v0, V.l], by simp [maxLen], .inl rfl⟩⟩, v0_64.1, v0_64.2⟩, hb⟩
  · have h3 := h2 w' (Mid.refl _ _ _)
    obtain ⟨⟨p, c, rfl, h4⟩, h5, h6⟩ := h3
    exact ⟨p, c, rfl, ⟨⟨p, c, rfl, h4⟩, h5, h6⟩, hb⟩
theorem wz_isSome (x : V) (ks : List Int) (y : V) : (wzV x ks y).isSome = (findV x ks).isSome := by simp [wzV]
/-- what lies below a number stays, but for one block -/
structure FZ (w0 : World) (S h : Nat) (W : World) : Prop where
  os : W.os = w0.os
  tape : W.tape = w0.tape
  output : W.output = w0.output
  size : S ≤ W.heap.size
  blk : ∀ b, b < S → b ≠ h → W.heap[b]? = w0.heap[b]?
theorem FZ.refl {w0 : World} {h : Nat} : FZ w0 w0.heap.size h w0 := ⟨rfl, rfl, rfl, Nat.le_refl _, fun _ _ _ => rfl⟩
theorem FZ.next {w0 W W' : World} {S h : Nat} (f : FZ w0 S h W) (hb : Below W.heap.size W W') : FZ w0 S h W' :=
  ⟨hb.os.trans f.os, hb.tape.trans f.tape, hb.output.trans f.output, Nat.le_trans f.size hb.size, fun b h1 h2 => (hb.block b (Nat.lt_of_lt_of_le h1 f.size)).trans (f.blk b h1 h2)⟩
theorem FZ.trans {w0 w1 W : World} {S S' h : Nat} (f : FZ w0 S h w1) (g : FZ w1 S' h W) (hs : S ≤ S') : FZ w0 S h W :=
  ⟨g.os.trans f.os, g.tape.trans f.tape, g.output.trans f.output, Nat.le_trans hs g.size, fun b h1 h2 => (g.blk b (by omega) h2).trans (f.blk b h1 h2)⟩
/-- the book, with k trees in it, whose blocks lie from S to m, or from lo on -/
def CK (w0 : World) (lo h S m k : Nat) (W : World) : Prop :=
  ∃ ρ ov wv X, Bk W lo h ρ ov wv k X ∧ (∀ j, j < k → (X j).sz ≤ 200000) ∧ FZ w0 lo h W ∧ ∀ b, ρ b ≠ none → (S ≤ b ∧ b < m) ∨ lo ≤ b
theorem CK.start {w0 : World} {h S : Nat} (hd : w0.heap[h]? = some (.cells #[.slice none 0 0, .slice none 0 0] 30 (0, 0))) : CK w0 w0.heap.size h S S 0 w0 :=
  ⟨fun _ => none, .slice none 0 0, .slice none 0 0, fun _ => v0, ⟨hd, heap_lt hd, Nat.le_refl _, ⟨[], World.ownsRow_nil _ _ _ _, fun i hi => by omega⟩, ⟨[], World.ownsRow_nil _ _ _ _, fun i hi => by omega⟩, fun b hb => absurd rfl hb, fun b id q hb => (by cases hb), fun b hb => (by cases hb)⟩, fun j hj => by omega, FZ.refl, fun b hb => absurd rfl hb⟩
theorem CK.next {w0 W W' : World} {lo h S m k : Nat} (hC : CK w0 lo h S m k W) (hb : Below W.heap.size W W') : CK w0 lo h S m k W' := by
  obtain ⟨ρ, ov, wv, X, h1, h2, h3, h4⟩ := hC
  exact ⟨ρ, ov, wv, X, h1.next hb, h2, h3.next hb, h4⟩
theorem CK.fz {w0 W : World} {lo h S m k : Nat} (hC : CK w0 lo h S m k W) : FZ w0 lo h W := by
  obtain ⟨ρ, ov, wv, X, h1, h2, h3, h4⟩ := hC
  exact h3
theorem CK.keep {w0 W : World} {h S m k : Nat} (hC : CK w0 w0.heap.size h S m k W) (hk9 : k ≤ 1000) {z : V} {q q' : Option Addr} {c c' s t : Nat} (hk : I64 z.k) (hn : I64 z.n) (hp : Prv w0 s t 0 z q c) (hms : m ≤ s) (hSm : S ≤ m) (hst : s ≤ t) (hhS : h < S) (htl : t ≤ w0.heap.size) (hno : ∀ o k, w0.cell? ⟨h, o, none⟩ ≠ some (.int .i64 k)) (hw : IsV w0 w0.heap.size (agV z.k z.n q' z.l.length c') z) (hz : z.sz ≤ 200000) :
    Calls Try.prog 11 #[.pointer (some ⟨h, 0, none⟩), agV z.k z.n q z.l.length c, agV z.k z.n q' z.l.length c'] W fun e w' => e = .returned (.bool true) ∧ Bx (CK w0 w0.heap.size h S t (k + 1) w') := by
  obtain ⟨ρ, ov, wv, X, h1, h2, h3, h4⟩ := hC
  have hpW : Prv W s t 0 z q c := hp.keep fun b a1 a2 a3 => h3.blk b (by omega) (by omega)
  have hwW : IsV W w0.heap.size (agV z.k z.n q' z.l.length c') z := hw.skip (h := h) (fun b o a1 a2 => by simp only [World.cell?, h3.blk b a1 a2]) hno
  refine (keep_any W w0.heap.size h ρ ov wv k X h1 hk9 z q c hk hn s t hpW htl (by omega) (fun b a1 a2 => ?_) w0.heap.size q' c' hwW (Nat.le_refl _) (by omega)).mono ?_
  · cases hr : ρ b with
    | none => rfl
    | some r =>
      have := h4 b (by rw [hr]; simp)
      omega
  · rintro e w' ⟨rfl, hK⟩
    obtain ⟨av, bv, ⟨ρ', k1, k2⟩, k3⟩ := hK.out
    obtain ⟨cs, o1, _⟩ := h1.orow
    obtain ⟨ds, o2, _⟩ := h1.wrow
    refine ⟨rfl, ⟨ρ', av, bv, _, k1, fun j hj => ?_, ⟨k3.os.trans h3.os, k3.tape.trans h3.tape, k3.output.trans h3.output, Nat.le_trans h3.size k3.size, fun b a1 a2 => (k3.blk b (Nat.lt_of_lt_of_le a1 h3.size) a2 (fun e => by have := own_base o1 b e; omega) (fun e => by have := own_base o2 b e; omega)).trans (h3.blk b a1 a2)⟩, fun b hb => ?_⟩⟩
    · by_cases e : j = k
      · simp only [e, if_true]; exact hz
      · simp only [if_neg e]; exact h2 j (by omega)
    · have hsz := h3.size
      rcases k2 b hb with a | a | a
      · have := h4 b a
        omega
      · exact .inl (by omega)
      · exact .inr (by omega)
theorem CK.spoil {w0 W : World} {lo h S m k : Nat} (hC : CK w0 lo h S m k W) (hk : k ≤ 8) (hSl : S ≤ lo) : Calls Try.prog 15 #[.pointer (some ⟨h, 0, none⟩)] W fun e w' => e = .returned (.bool true) ∧ Bx (FZ w0 S h w') := by
  obtain ⟨ρ, ov, wv, X, h1, h2, h3, h4⟩ := hC
  refine (spoil_any W lo h ρ ov wv k X h1 hk h2).mono ?_
  rintro e w' ⟨rfl, hS⟩
  have hs := h3.size
  refine ⟨rfl, ⟨hS.out.os.trans h3.os, hS.out.tape.trans h3.tape, hS.out.output.trans h3.output, by have := hS.out.size; omega, fun b a1 a2 => (hS.out.block b (by omega) ?_).trans (h3.blk b (by omega) a2)⟩⟩
  cases hr : ρ b with
  | none => rfl
  | some r =>
    have := h4 b (by rw [hr]; simp)
    omega
end Go.Proofs.Ytikijkpklneihaa
