import Derived.Test.YtblhklbpcalglaaGreatDoorCNum
import Derived.Deep.RegionHeld
import Derived.Deep.DrawnRows
import Derived.Deep.QuietTactic
import Derived.BigQuiet
import Derived.Deep.DeepFit
import Derived.Deep.DeepMust
namespace Go.Proofs.YtblhklbpcalglaaGreatDoor
open Go.RowKit
set_option linter.unusedVariables false
set_option linter.unusedSimpArgs false
def bestFrom : List (List UInt8) → Nat → Nat × Nat → List UInt8 → Nat × Nat
  | [], _, acc, _ => acc
  | s :: r, n, acc, l => bestFrom r (n + 1) (if acc.2 < s.length ∧ s.isPrefixOf l = true then (n, s.length) else acc) l
def bestS (l : List UInt8) : Nat × Nat := bestFrom signsT 40 (0, 0) l
def signR (xs : List UInt8) (k : Nat) : Tok × Nat :=
  if (bestS (xs.drop k)).2 = 0 then (tok0, 11) else (⟨(bestS (xs.drop k)).1, k, (bestS (xs.drop k)).2, 0⟩, 0)
theorem bestFrom_step (T : List (List UInt8)) (j n : Nat) (acc : Nat × Nat) (l : List UInt8) (h : j < T.length) :
    bestFrom (T.drop j) n acc l = bestFrom (T.drop (j + 1)) (n + 1) (if acc.2 < (T.getD j []).length ∧ (T.getD j []).isPrefixOf l = true then (n, (T.getD j []).length) else acc) l := by
  rw [List.drop_eq_getElem_cons h]
  simp only [bestFrom, List.getD, List.getElem?_eq_getElem h, Option.getD_some]
theorem bestFrom_yes (T : List (List UInt8)) (j n : Nat) (acc : Nat × Nat) (l : List UInt8) (h : j < T.length) (h1 : acc.2 < (T.getD j []).length) (h2 : (T.getD j []).isPrefixOf l = true) :
    bestFrom (T.drop j) n acc l = bestFrom (T.drop (j + 1)) (n + 1) (n, (T.getD j []).length) l := by
  rw [bestFrom_step T j n acc l h, if_pos ⟨h1, h2⟩]
theorem bestFrom_no (T : List (List UInt8)) (j n : Nat) (acc : Nat × Nat) (l : List UInt8) (h : j < T.length) (h1 : ¬ (acc.2 < (T.getD j []).length ∧ (T.getD j []).isPrefixOf l = true)) :
    bestFrom (T.drop j) n acc l = bestFrom (T.drop (j + 1)) (n + 1) acc l := by
  rw [bestFrom_step T j n acc l h, if_neg h1]
def intsOf (l : List UInt8) : List Int := l.map fun c => (c.toNat : Int)
theorem bytes_ints (l : List UInt8) : Lib.bytesOf (intsOf l) = l := by
  unfold Lib.bytesOf intsOf
  rw [List.map_map]
  conv => rhs; rw [← List.map_id l]
  apply List.map_congr_left
  intro x _
  simp
theorem hasPrefix_at (W : World) (b o k c d : Nat) (xs s : List UInt8) (hs : Src W b o xs) (hb : b < W.heap.size) (hk : k ≤ xs.length) (hc : xs.length - k ≤ c) :
    Calls Tryz.prog 31 #[.slice (some ⟨b, o + k, none⟩) (xs.length - k) c, .slice (some ⟨W.heap.size, 0, none⟩) s.length d] (Lib.bytesWorld W 5 ⟨s.toArray⟩)
      fun e w' => e = .returned (.bool (s.isPrefixOf (xs.drop k))) ∧ Lib.bytesWorld W 5 ⟨s.toArray⟩ = w' := by
  refine (Tryz.bytes_HasPrefix_all (some ⟨b, o + k, none⟩) (some ⟨W.heap.size, 0, none⟩) (xs.length - k) c s.length d (intsOf (xs.drop k)) (intsOf s) _ (by simp [intsOf]) (by simp [intsOf]) hc ?_ ?_).mono ?_
  · intro hn
    refine ⟨b, o + k, rfl, fun i hi => ?_⟩
    rw [Lib.bytesWorld_old _ _ _ _ hb, Nat.add_assoc, hs (k + i) (by omega)]
    have hi' : k + i < xs.length := by omega
    simp [intsOf, List.getD, hi']
  · intro hn
    refine ⟨W.heap.size, 0, rfl, fun i hi => ?_⟩
    rw [Nat.zero_add, Lib.bytesWorld_cell _ _ _ _ (by simpa [ByteArray.size] using hi)]
    simp [intsOf, List.getD, hi]
  · rintro e w' ⟨h1, h2⟩
    rw [bytes_ints, bytes_ints] at h1
    exact ⟨h1, h2.symm⟩
theorem conv_bytes (s : ByteArray) (W : World) : (convert 9 22 (.string s)).run Tryz.prog W = .ok (.slice (some ⟨W.heap.size, 0, none⟩) s.size (grownCap W s.size 0 5)) (Lib.bytesWorld W 5 s) :=
  Lib.run_convert_string_bytes (P := Tryz.prog) W 9 22 5 s Tryz.underlying9 Tryz.underlying22 Tryz.underlying5
theorem slice_from (W : World) (b o n cap k : Nat) (hk : k < n) (hc : n ≤ cap) :
    (Instr.slice 22 (.slice (some ⟨b, o, none⟩) n cap) (some (.int .i64 (k : Int))) none none).run Tryz.prog W = .ok (.slice (some ⟨b, o + k, none⟩) (n - k) (cap - k)) W := by
  have ht' : Tryz.prog.underlying 22 = some (.slice (Tryz.prog.elem 22)) := by simp [Program.elem, Tryz.underlying22]
  have he : Tryz.prog.elem 22 = 5 := by simp [Program.elem, Tryz.underlying22]
  rw [run_slice_l W 22 _ _ _ ht' .i64 _ (by omega) (by omega), he, sizeOf5]
  have hne : ¬ cap = k := by omega
  by_cases h0 : k = 0
  · subst h0
    simp [Result.andThen, sliced, Addr.add, hne]
  · simp [Result.andThen, sliced, Addr.add, hne, h0]
end Go.Proofs.YtblhklbpcalglaaGreatDoor
namespace Go.Proofs.YtblhklbpcalglaaGreatDoor
open Go.RowKit
set_option linter.unusedVariables false
set_option linter.unusedSimpArgs false
def SignInv (xs : List UInt8) (k j K L : Nat) : Prop := bestS (xs.drop k) = bestFrom (signsT.drop j) (40 + j) (K, L) (xs.drop k) ∧ K ≤ 67 ∧ L ≤ 3
def SignMem (w wr : World) : Prop := Below (w.heap.size + 1) (w.alloc (.cells #[.int .i64 0, .int .i64 0, .int .i64 0, .int .i64 0] 34)) wr
theorem SignMem.below {w wr : World} (h : SignMem w wr) : Below w.heap.size w wr :=
  ((Below.refl w.heap.size w).alloc (Nat.le_refl _) _).trans (Below.mono h (by omega))
theorem SignMem.drewN {w wr : World} (h : SignMem w wr) (n : Nat) : SignMem w (wr.drewN n) := below_drewN h n
theorem sign_len (j : Nat) (h : j < 27) : (signsT.getD j []).length ≤ 3 := by
  have : ∀ i : Fin 27, (signsT.getD i []).length ≤ 3 := by decide
  exact this ⟨j, h⟩
structure Box (p : Prop) : Prop where
  out : p
def SignS (w : World) (b o k K : Nat) (xs : List UInt8) (wr : World) : Prop := Src wr b o xs ∧ b < wr.heap.size ∧ wr.cell? ⟨w.heap.size + 1, 0, none⟩ = some (.int .i64 K) ∧ wr.cell? ⟨w.heap.size + 1, 1, none⟩ = some (.int .i64 k)
  ∧ wr.cell? ⟨w.heap.size + 1, 3, none⟩ = some (.int .i64 0) ∧ wr.frozen? ⟨w.heap.size + 1, 0, none⟩ = false ∧ wr.frozen? ⟨w.heap.size + 1, 2, none⟩ = false ∧ w.heap.size + 1 < wr.heap.size ∧ SignMem w wr
theorem SignS.later {w wr w2 : World} {b o k K : Nat} {xs : List UInt8} (h : SignS w b o k K xs wr) (hb : Below wr.heap.size wr w2) : SignS w b o k K xs w2 := by
  obtain ⟨a1, a2, a3, a4, a5, a6, a7, a8, a9⟩ := h
  have hz := hb.size
  refine ⟨a1.below a2 hb, by omega, by rw [hb.cell a8]; exact a3, by rw [hb.cell a8]; exact a4, by rw [hb.cell a8]; exact a5, by rw [hb.frozen a8]; exact a6, by rw [hb.frozen a8]; exact a7, by omega, ?_⟩
  exact Below.trans a9 (hb.mono (by omega))
theorem SignS.drew {w wr : World} {b o k K : Nat} {xs : List UInt8} (h : SignS w b o k K xs wr) : SignS w b o k K xs wr.drew := h.later (Below.refl _ _).drew
theorem SignS.bytes {w wr : World} {b o k K : Nat} {xs : List UInt8} (h : SignS w b o k K xs wr) (s : ByteArray) : SignS w b o k K xs (Lib.bytesWorld wr 5 s) := h.later (below_bytes wr s)
theorem bw_cell (W : World) (s : ByteArray) (b i : Nat) (hb : b < W.heap.size) : (Lib.bytesWorld W 5 s).cell? ⟨b, i, none⟩ = W.cell? ⟨b, i, none⟩ := Lib.bytesWorld_old W 5 s ⟨b, i, none⟩ hb
theorem bw_frozen (W : World) (s : ByteArray) (b i : Nat) (hb : b < W.heap.size) : (Lib.bytesWorld W 5 s).frozen? ⟨b, i, none⟩ = W.frozen? ⟨b, i, none⟩ := (below_bytes W s).frozen (p := ⟨b, i, none⟩) hb
theorem sc_far (W : World) (T i b o : Nat) (v : Value) (h : T ≠ b) : (W.setCell ⟨T, i, none⟩ v).cell? ⟨b, o, none⟩ = W.cell? ⟨b, o, none⟩ :=
  World.cell?_setCell_other _ _ _ _ (fun e => h (by injection e))
theorem sc_off (W : World) (T i j : Nat) (v : Value) (h : i ≠ j) : (W.setCell ⟨T, i, none⟩ v).cell? ⟨T, j, none⟩ = W.cell? ⟨T, j, none⟩ :=
  World.cell?_setCell_other _ _ _ _ (fun e => h (by injection e))
theorem wrap_small (x : Int) (h0 : 0 ≤ x) (h1 : x ≤ 1000000) : IntKind.i64.wrap x = x := by
  rw [IntKind.wrap_i64]; omega
attribute [local go_sem ↓] Go.wp_at_zero Go.wp_at_succ
attribute [local simp] SignS.drew SignS.bytes bw_cell bw_frozen Lib.bytesWorld_size
theorem sign_call (w wr : World) (b o k K L j cap : Nat) (xs s : List UInt8) (p : Bool) (hp : s.isPrefixOf (xs.drop k) = p) (hk : k < xs.length) (hcap : xs.length ≤ cap) (h : SignS w b o k K xs wr) (hc : wr.cell? ⟨0, j, none⟩ = some (.string ⟨s.toArray⟩)) (h1 : 0 < wr.heap.size)
    (c2 : wr.cell? ⟨w.heap.size + 1, 2, none⟩ = some (.int .i64 L)) (d : Nat) :
    Calls Tryz.prog 31 #[.slice (some ⟨b, o + k, none⟩) (xs.length - k) (cap - k), .slice (some ⟨wr.heap.size, 0, none⟩) s.length d] (Lib.bytesWorld wr.drew 5 ⟨s.toArray⟩)
      fun e w' => e = .returned (.bool p) ∧ SignS w b o k K xs w' ∧ w'.cell? ⟨0, j, none⟩ = some (.string ⟨s.toArray⟩) ∧ w'.cell? ⟨w.heap.size + 1, 2, none⟩ = some (.int .i64 L) ∧ 0 < w'.heap.size := by
  have hb : Below wr.heap.size wr (Lib.bytesWorld wr.drew 5 ⟨s.toArray⟩) := (Below.refl _ _).drew.trans (below_bytes wr.drew _)
  refine (hasPrefix_at wr.drew b o k (cap - k) d xs s h.drew.1 h.2.1 (by omega) (by omega)).mono ?_
  rintro e w' ⟨rfl, rfl⟩
  have := hb.size
  exact ⟨by rw [hp], h.later hb, by rw [hb.cell h1]; exact hc, by rw [hb.cell h.2.2.2.2.2.2.2.1]; exact c2, by omega⟩
theorem sign_put (w w1 : World) (k K L : Nat) (x y : Int) (d0 : w1.cell? ⟨w.heap.size + 1, 0, none⟩ = some (.int .i64 K)) (d1 : w1.cell? ⟨w.heap.size + 1, 1, none⟩ = some (.int .i64 k)) (d2 : w1.cell? ⟨w.heap.size + 1, 2, none⟩ = some (.int .i64 L))
    (d3 : w1.cell? ⟨w.heap.size + 1, 3, none⟩ = some (.int .i64 0)) (g0 : w1.frozen? ⟨w.heap.size + 1, 0, none⟩ = false) (g2 : w1.frozen? ⟨w.heap.size + 1, 2, none⟩ = false) (hz : w.heap.size + 1 < w1.heap.size) (hm : SignMem w w1) :
    ((w1.setCell ⟨w.heap.size + 1, 0, none⟩ (.int .i64 x)).setCell ⟨w.heap.size + 1, 2, none⟩ (.int .i64 y)).drew.cell? ⟨w.heap.size + 1, 0, none⟩ = some (.int .i64 x) ∧
    ((w1.setCell ⟨w.heap.size + 1, 0, none⟩ (.int .i64 x)).setCell ⟨w.heap.size + 1, 2, none⟩ (.int .i64 y)).drew.cell? ⟨w.heap.size + 1, 1, none⟩ = some (.int .i64 k) ∧
    ((w1.setCell ⟨w.heap.size + 1, 0, none⟩ (.int .i64 x)).setCell ⟨w.heap.size + 1, 2, none⟩ (.int .i64 y)).drew.cell? ⟨w.heap.size + 1, 2, none⟩ = some (.int .i64 y) ∧
    ((w1.setCell ⟨w.heap.size + 1, 0, none⟩ (.int .i64 x)).setCell ⟨w.heap.size + 1, 2, none⟩ (.int .i64 y)).drew.cell? ⟨w.heap.size + 1, 3, none⟩ = some (.int .i64 0) ∧
    ((w1.setCell ⟨w.heap.size + 1, 0, none⟩ (.int .i64 x)).setCell ⟨w.heap.size + 1, 2, none⟩ (.int .i64 y)).drew.frozen? ⟨w.heap.size + 1, 0, none⟩ = false ∧
    ((w1.setCell ⟨w.heap.size + 1, 0, none⟩ (.int .i64 x)).setCell ⟨w.heap.size + 1, 2, none⟩ (.int .i64 y)).drew.frozen? ⟨w.heap.size + 1, 2, none⟩ = false ∧
    w.heap.size + 1 < ((w1.setCell ⟨w.heap.size + 1, 0, none⟩ (.int .i64 x)).setCell ⟨w.heap.size + 1, 2, none⟩ (.int .i64 y)).drew.heap.size ∧
    SignMem w ((w1.setCell ⟨w.heap.size + 1, 0, none⟩ (.int .i64 x)).setCell ⟨w.heap.size + 1, 2, none⟩ (.int .i64 y)).drew := by
  have e1 : (w1.setCell ⟨w.heap.size + 1, 0, none⟩ (.int .i64 x)).cell? ⟨w.heap.size + 1, 2, none⟩ = some (.int .i64 L) := by rw [sc_off _ _ _ _ _ (by omega)]; exact d2
  refine ⟨?_, ?_, ?_, ?_, ?_, ?_, ?_, ?_⟩
  · show ((w1.setCell ⟨w.heap.size + 1, 0, none⟩ (.int .i64 x)).setCell ⟨w.heap.size + 1, 2, none⟩ (.int .i64 y)).cell? _ = _
    rw [sc_off _ _ _ _ _ (by omega)]; exact World.cell?_setCell_same _ _ _ d0
  · show ((w1.setCell ⟨w.heap.size + 1, 0, none⟩ (.int .i64 x)).setCell ⟨w.heap.size + 1, 2, none⟩ (.int .i64 y)).cell? _ = _
    rw [sc_off _ _ _ _ _ (by omega), sc_off _ _ _ _ _ (by omega)]; exact d1
  · exact World.cell?_setCell_same _ _ _ e1
  · show ((w1.setCell ⟨w.heap.size + 1, 0, none⟩ (.int .i64 x)).setCell ⟨w.heap.size + 1, 2, none⟩ (.int .i64 y)).cell? _ = _
    rw [sc_off _ _ _ _ _ (by omega), sc_off _ _ _ _ _ (by omega)]; exact d3
  · show ((w1.setCell ⟨w.heap.size + 1, 0, none⟩ (.int .i64 x)).setCell ⟨w.heap.size + 1, 2, none⟩ (.int .i64 y)).frozen? _ = _
    rw [World.frozen?_setCell, World.frozen?_setCell]; exact g0
  · show ((w1.setCell ⟨w.heap.size + 1, 0, none⟩ (.int .i64 x)).setCell ⟨w.heap.size + 1, 2, none⟩ (.int .i64 y)).frozen? _ = _
    rw [World.frozen?_setCell, World.frozen?_setCell]; exact g2
  · simpa [World.setCell] using hz
  · exact ((Below.setCell hm (Nat.le_refl _) _).setCell (Nat.le_refl _) _).drew
set_option maxHeartbeats 1000000 in
theorem sign_loop (b o cap : Nat) (xs : List UInt8) (k : Nat) (w : World) (hs : Src w b o xs) (hb : b < w.heap.size) (hl : xs.length ≤ maxLen) (hcap : xs.length ≤ cap) (hk : k < xs.length) (hT : TabAt w 0 signsT) (h1 : 0 < w.heap.size) :
    Calls Tryz.prog 22 #[.slice (some ⟨b, o, none⟩) xs.length cap, .int .i64 k] w fun e w' => e = .returned (.tuple #[tokV (signR xs k).1, .int .i64 (signR xs k).2]) ∧ Below w.heap.size w w' := by
  unfold maxLen at hl
  go_enter Tryz.func22, Tryz.ntmps22
  go_wp2
  go_loopw [10] (fun i wr => ∃ j K L : Nat, j ≤ 27 ∧ i = .int .i64 j ∧ wr.cell? ⟨w.heap.size + 1, 0, none⟩ = some (.int .i64 K) ∧ wr.cell? ⟨w.heap.size + 1, 1, none⟩ = some (.int .i64 k)
      ∧ wr.cell? ⟨w.heap.size + 1, 2, none⟩ = some (.int .i64 L) ∧ wr.cell? ⟨w.heap.size + 1, 3, none⟩ = some (.int .i64 0) ∧ wr.frozen? ⟨w.heap.size + 1, 0, none⟩ = false ∧ wr.frozen? ⟨w.heap.size + 1, 2, none⟩ = false
      ∧ w.heap.size + 1 < wr.heap.size ∧ SignMem w wr ∧ SignInv xs k j K L)
    (fun i _ => 27 - (intOf i).toNat)
  case atStart =>
    refine ⟨0, 0, 0, by omega, rfl, by simp, by simp, by simp, by simp, by simp, by simp, by simp, ?_, rfl, by omega, by omega⟩
    exact (Below.refl _ _).alloc (by simp) _
  case round =>
    obtain ⟨j, K, L, hj, rfl, c0, c1, c2, c3, f0, f2, hsz, HB, HE⟩ := hrel
    by_cases hlt : j < 27
    · have hc := hT.below h1 HB.below j hlt
      have hsl := sign_len j hlt
      have hL := HE.2.2
      have hN : ¬ (L < (signsT.getD j []).length ∧ (signsT.getD j []).isPrefixOf (xs.drop k) = true) → SignInv xs k (j + 1) K L := fun h =>
        ⟨HE.1.trans (bestFrom_no signsT j (40 + j) (K, L) (xs.drop k) hlt h), HE.2⟩
      have hY : L < (signsT.getD j []).length → (signsT.getD j []).isPrefixOf (xs.drop k) = true → SignInv xs k (j + 1) (40 + j) (signsT.getD j []).length := fun h h' =>
        ⟨HE.1.trans (bestFrom_yes signsT j (40 + j) (K, L) (xs.drop k) hlt h h'), by omega, hsl⟩
      have hsr : Src wr b o xs := hs.below hb HB.below
      have hbr : b < wr.heap.size := by have := HB.below.size; omega
      clear HE
      generalize signsT.getD j [] = s at *
      by_cases hg : L < s.length
      · have hgd : decide (L < s.length) = true := by simpa using hg
        have hcv := conv_bytes ⟨s.toArray⟩
        have hslc := fun W => slice_from W b o xs.length cap k hk hcap
        have hSS : SignS w b o k K xs wr := ⟨hsr, hbr, c0, c1, c3, f0, f2, hsz, HB⟩
        have h1r : 0 < wr.heap.size := by omega
        have HC : (Lib.bytesWorld wr.drew 5 ⟨s.toArray⟩).cell? ⟨0, j, none⟩ = some (.string ⟨s.toArray⟩) ∧ (Lib.bytesWorld wr.drew 5 ⟨s.toArray⟩).cell? ⟨w.heap.size + 1, 2, none⟩ = some (.int .i64 L) ∧ SignS w b o k K xs (Lib.bytesWorld wr.drew 5 ⟨s.toArray⟩) ∧ 0 < (Lib.bytesWorld wr.drew 5 ⟨s.toArray⟩).heap.size ∧ w.heap.size + 1 < (Lib.bytesWorld wr.drew 5 ⟨s.toArray⟩).heap.size := by
          have hb : Below wr.heap.size wr (Lib.bytesWorld wr.drew 5 ⟨s.toArray⟩) := (Below.refl _ _).drew.trans (below_bytes wr.drew _)
          have := hb.size
          exact ⟨by rw [hb.cell h1r]; exact hc, by rw [hb.cell hsz]; exact c2, hSS.later hb, by omega, by omega⟩
        cases hpre : s.isPrefixOf (xs.drop k)
        · have hN := hN (by rw [hpre]; simp)
          have HP : Hid _ := sign_call w wr b o k K L j cap xs s false hpre hk hcap hSS hc h1r c2
          clear hs hT hY hsr hbr c0 c1 c3 f0 f2 HB hpre
          go_wp2
          go_region_held (fun w' => w'.cell? ⟨0, j, none⟩ = some (.string ⟨s.toArray⟩) ∧ w'.cell? ⟨w.heap.size + 1, 2, none⟩ = some (.int .i64 L) ∧ SignS w b o k K xs w' ∧ 0 < w'.heap.size ∧ w.heap.size + 1 < w'.heap.size) ((first | exact ⟨hc, c2, hSS.drew, h1r, hsz⟩ | exact ⟨HC.1, HC.2.1, HC.2.2.1, HC.2.2.2.1, HC.2.2.2.2⟩ | exact ⟨k1, k2, hS1, hz3, hS1.2.2.2.2.2.2.2.1⟩))
            ((first | (go_at_call 31; refine Calls.mono (HP.out _) ?_; rintro e w1 ⟨rfl, hS1, k1, k2, hz3⟩)))
          go_wp2
          obtain ⟨_, _, d0, d1, d3, g0, g2, hz1, hm1⟩ := hS1
          go_roundw
          case rel => exact ⟨j + 1, K, L, by omega, by go_num, d0, d1, k2, d3, g0, g2, hz1, hm1, hN⟩
          case measure => simp [intOf]; omega
        · have hY := hY hg hpre
          have HP : Hid _ := sign_call w wr b o k K L j cap xs s true hpre hk hcap hSS hc h1r c2
          clear hs hT hN hsr hbr c0 c1 c3 f0 f2 HB hpre
          go_wp2
          go_region_held (fun w' => w'.cell? ⟨0, j, none⟩ = some (.string ⟨s.toArray⟩) ∧ w'.cell? ⟨w.heap.size + 1, 2, none⟩ = some (.int .i64 L) ∧ SignS w b o k K xs w' ∧ 0 < w'.heap.size ∧ w.heap.size + 1 < w'.heap.size) ((first | exact ⟨hc, c2, hSS.drew, h1r, hsz⟩ | exact ⟨HC.1, HC.2.1, HC.2.2.1, HC.2.2.2.1, HC.2.2.2.2⟩ | exact ⟨k1, k2, hS1, hz3, hS1.2.2.2.2.2.2.2.1⟩))
            ((first | (go_at_call 31; refine Calls.mono (HP.out _) ?_; rintro e w1 ⟨rfl, hS1, k1, k2, hz3⟩)))
          go_wp2
          obtain ⟨_, _, d0, d1, d3, g0, g2, hz1, hm1⟩ := hS1
          have hne : w.heap.size + 1 ≠ 0 := by omega
          have hwr : IntKind.i64.wrap (40 + (j : Int)) = 40 + (j : Int) := wrap_small _ (by omega) (by omega)
          clear HC HP
          go_region_held (fun w' => w'.cell? ⟨0, j, none⟩ = some (.string ⟨s.toArray⟩))
            (first | exact k1 | simp [sc_far _ _ _ _ _ _ hne, *]) (fail)
          go_wp2
          have R := sign_put w w1 k K L (40 + (j : Int)) (s.length : Int) d0 d1 k2 d3 g0 g2 hz1 hm1
          go_roundw
          case rel => exact ⟨j + 1, 40 + j, s.length, by omega, by go_num, by rw [R.1]; go_num, R.2.1, R.2.2.1, R.2.2.2.1, R.2.2.2.2.1, R.2.2.2.2.2.1, R.2.2.2.2.2.2.1, R.2.2.2.2.2.2.2, hY⟩
          case measure => simp [intOf]; omega
      · have hgd : decide (L < s.length) = false := by simp; omega
        have hN := hN (fun h => hg h.1)
        clear hY hg hs hT
        go_wp2
        go_quiet (fail)
        go_wp2
        go_roundw
        case rel => exact ⟨j + 1, K, L, by omega, by go_num, by simpa using c0, by simpa using c1, by simpa using c2, by simpa using c3, by simpa using f0, by simpa using f2, by simpa using hsz, HB.drewN nq, hN⟩
        case measure => simp [intOf]; omega
    · have hbest : bestS (xs.drop k) = (K, L) := by
        rw [HE.1, List.drop_eq_nil_of_le (show signsT.length ≤ j from Nat.le_of_not_lt hlt)]; rfl
      have hK := HE.2.1
      have hL := HE.2.2
      have hr0 : ∀ i, i < 4 → wr.cell? ⟨w.heap.size, i, none⟩ = some (.int .i64 0) := fun i hi => by
        rw [Below.cell HB (by simp)]
        match i, hi with
        | 0, _ => simp
        | 1, _ => simp
        | 2, _ => simp
        | 3, _ => simp
      have hf : ∀ i, wr.frozen? ⟨w.heap.size, i, none⟩ = false := fun i => by
        rw [Below.frozen HB (by simp)]; simp
      have r0 := hr0 0 (by omega)
      have r1 := hr0 1 (by omega)
      have r2 := hr0 2 (by omega)
      have r3 := hr0 3 (by omega)
      have q0 := hf 0
      have q1 := hf 1
      have q2 := hf 2
      have q3 := hf 3
      have hR : signR xs k = if L = 0 then (tok0, 11) else (⟨K, k, L, 0⟩, 0) := by unfold signR; rw [hbest]
      clear HE hbest hr0 hf hs hT
      by_cases h0 : L = 0
      · rw [if_pos h0] at hR
        have hq : ((L : Int) == 0) = true := by rw [h0]; rfl
        have HR : Box (signR xs k = (tok0, 11)) := ⟨hR⟩
        clear hR h0
        go_wp2
        refine bodyPost_ret (v := .tuple #[tokV tok0, .int .i64 11]) (by simp [results, Tryz.results22, go_sem, tokV, tok0, r0, r1, r2, r3]) rfl ⟨by rw [HR.out]; rfl, ?_⟩
        exact (((HB.below.setCell (Nat.le_refl _) _).setCell (Nat.le_refl _) _).setCell (Nat.le_refl _) _).setCell (Nat.le_refl _) _
      · rw [if_neg h0] at hR
        have hq : ((L : Int) == 0) = false := by rw [beq_eq_false_iff_ne]; omega
        have HR : Box (signR xs k = (⟨K, k, L, 0⟩, 0)) := ⟨hR⟩
        clear hR h0
        go_wp2
        refine bodyPost_ret (v := .tuple #[tokV ⟨K, k, L, 0⟩, .int .i64 0]) (by simp [results, Tryz.results22, go_sem, tokV, r0, r1, r2, r3]) rfl ⟨by rw [HR.out]; rfl, ?_⟩
        exact (((HB.below.setCell (Nat.le_refl _) _).setCell (Nat.le_refl _) _).setCell (Nat.le_refl _) _).setCell (Nat.le_refl _) _
end Go.Proofs.YtblhklbpcalglaaGreatDoor
