import Derived.Test.YtllgaholkminnaaDoorCTChk
import Derived.Test.YtllgaholkminnaaDoorCKP
import Derived.Deep.AppendLies
import Derived.Deep.LoopGhost
import Derived.Deep.RegionHeld
namespace Go.Proofs.YtllgaholkminnaaDoor
open Go.RowKit
set_option linter.unusedVariables false
set_option linter.unusedSimpArgs false

/-- a row of types in memory -/
structure TyAt (w : World) (B b o : Nat) (n : Ty) (ka : Option Addr) (kc : Nat) : Prop where
  c0 : w.cell? ⟨b, o, none⟩ = some (.int .i64 n.kind)
  c1 : w.cell? ⟨b, o + 1, none⟩ = some (.slice ka n.kids.length kc)
  c2 : w.cell? ⟨b, o + 2, none⟩ = some (.bool n.res)
  kids : IntsV w B (.slice ka n.kids.length kc) n.kids
structure TyWf (n : Ty) : Prop where
  kind : I64 n.kind
  kids : ∀ k ∈ n.kids, I64 k
/-- types in memory, below a block's number -/
structure Types (w : World) (B nb no nc : Nat) (l : List Ty) : Prop where
  at_ : ∀ j, j < l.length → ∃ ka kc, TyAt w B nb (no + j * 3) (tyN l j) ka kc
  wf : ∀ j, j < l.length → TyWf (tyN l j)
  lo : nb < B
  hi : B ≤ w.heap.size
  max : l.length ≤ maxLen
  cap : l.length ≤ nc
theorem TyAt.below {w w' : World} {B b o : Nat} {n : Ty} {ka : Option Addr} {kc : Nat} (h : TyAt w B b o n ka kc) (hb : Below B w w') (hlt : b < B) : TyAt w' B b o n ka kc := by
  have hc : ∀ i, w'.cell? ⟨b, i, none⟩ = w.cell? ⟨b, i, none⟩ := fun i => hb.cell (p := ⟨b, i, none⟩) hlt
  exact ⟨by rw [hc]; exact h.c0, by rw [hc]; exact h.c1, by rw [hc]; exact h.c2, h.kids.below hb⟩
theorem Types.below {w w' : World} {B nb no nc : Nat} {l : List Ty} (h : Types w B nb no nc l) (hb : Below B w w') : Types w' B nb no nc l := by
  refine ⟨fun j hj => ?_, h.wf, h.lo, Nat.le_trans h.hi hb.size, h.max, h.cap⟩
  obtain ⟨ka, kc, hn⟩ := h.at_ j hj
  exact ⟨ka, kc, hn.below hb h.lo⟩
/-- types, as a slice's value has them: none, or some -/
structure IsTypes (w : World) (B : Nat) (a : Option Addr) (cap : Nat) (l : List Ty) : Prop where
  at_ : 0 < l.length → ∃ nb no, a = some ⟨nb, no, none⟩ ∧ Types w B nb no cap l
  hi : B ≤ w.heap.size
theorem IsTypes.below {w w' : World} {B cap : Nat} {a : Option Addr} {l : List Ty} (h : IsTypes w B a cap l) (hb : Below B w w') : IsTypes w' B a cap l := by
  refine ⟨fun h0 => ?_, Nat.le_trans h.hi hb.size⟩
  obtain ⟨nb, no, e, hn⟩ := h.at_ h0
  exact ⟨nb, no, e, hn.below hb⟩

/-- a whole row of numbers that is written in place -/
structure NRow (W : World) (fb : Nat) (xs : List Nat) : Prop where
  ex : ∃ C : Array Value, W.heap[fb]? = some (.cells C 3 (0, 0)) ∧ C.size = xs.length ∧ ∀ j, j < xs.length → C[j]? = some (.int .i64 (xs.getD j 0 : Nat))
theorem NRow.cell {W : World} {fb : Nat} {xs : List Nat} (h : NRow W fb xs) (j : Nat) (hj : j < xs.length) : W.cell? ⟨fb, j, none⟩ = some (.int .i64 (xs.getD j 0 : Nat)) := by
  obtain ⟨C, h1, h2, h3⟩ := h.ex
  rw [cell_of_row W fb j C 3 (0, 0) h1]
  exact h3 j hj
theorem NRow.frozen {W : World} {fb : Nat} {xs : List Nat} (h : NRow W fb xs) (j : Nat) : W.frozen? ⟨fb, j, none⟩ = false := by
  obtain ⟨C, h1, _⟩ := h.ex
  simp [World.frozen?, h1]
theorem NRow.lt {W : World} {fb : Nat} {xs : List Nat} (h : NRow W fb xs) : fb < W.heap.size := by
  obtain ⟨C, h1, _⟩ := h.ex
  rcases Nat.lt_or_ge fb W.heap.size with h' | h'
  · exact h'
  · simp [Array.getElem?_eq_none h'] at h1
theorem NRow.same {W W' : World} {fb : Nat} {xs : List Nat} (h : NRow W fb xs) (hb : W'.heap[fb]? = W.heap[fb]?) : NRow W' fb xs := by
  obtain ⟨C, h1, h2⟩ := h.ex
  exact ⟨C, by rw [hb]; exact h1, h2⟩
theorem NRow.below {W W' : World} {fb : Nat} {xs : List Nat} (h : NRow W fb xs) (hb : Below W.heap.size W W') : NRow W' fb xs := h.same (hb.block fb h.lt)
theorem NRow.set {W : World} {fb : Nat} {xs : List Nat} (h : NRow W fb xs) (i x : Nat) (hi : i < xs.length) : NRow (W.setCell ⟨fb, i, none⟩ (.int .i64 x)) fb (xs.set i x) := by
  obtain ⟨C, h1, h2, h3⟩ := h.ex
  refine ⟨C.setIfInBounds i (.int .i64 x), heap_setCell_same W fb i C 3 _ h1, by simp [h2], fun j hj => ?_⟩
  simp only [List.length_set] at hj
  rw [Array.getElem?_setIfInBounds, getD_set hi]
  by_cases e : i = j
  · rw [if_pos e, if_pos (by omega), if_pos e]
  · rw [if_neg e, if_neg e, h3 j hj]
theorem NRow.of_full {W : World} {fb N : Nat} {fs : List Nat} (h : FRow W fb N fs) (hN : fs.length = N) : NRow W fb fs := by
  obtain ⟨C, h1, h2, h3, _⟩ := h.ex
  exact ⟨C, h1, by omega, h3⟩
/-- one block is written, nothing else -/
structure Only (fb : Nat) (w w' : World) : Prop where
  size : w'.heap.size = w.heap.size
  block : ∀ x, x ≠ fb → w'.heap[x]? = w.heap[x]?
  bel : ∀ B w0, B ≤ fb → Below B w0 w → Below B w0 w'
theorem Only.refl (fb : Nat) (w : World) : Only fb w w := ⟨rfl, fun _ _ => rfl, fun _ _ _ h => h⟩
theorem Only.trans {fb : Nat} {w w1 w2 : World} (h : Only fb w w1) (g : Only fb w1 w2) : Only fb w w2 := ⟨g.size.trans h.size, fun x hx => (g.block x hx).trans (h.block x hx), fun B w0 hB hb => g.bel B w0 hB (h.bel B w0 hB hb)⟩
theorem Only.set (fb : Nat) (w : World) (i : Nat) (v : Value) : Only fb w (w.setCell ⟨fb, i, none⟩ v) := by
  refine ⟨?_, fun x hx => ?_, fun B w0 hB hb => Below.setCell (p := ⟨fb, i, none⟩) hb hB v⟩
  · simp
  · exact heap_setCell_other w _ x v hx
end Go.Proofs.YtllgaholkminnaaDoor
namespace Go.Proofs.YtllgaholkminnaaDoor
open Go.RowKit
set_option linter.unusedVariables false
set_option linter.unusedSimpArgs false

set_option maxRecDepth 100000 in
set_option maxHeartbeats 1000000 in
/-- **eachItself** -/
theorem eachItself_any (w : World) (n : Nat) (hn : n ≤ 2147483647) :
    Calls Tryd.prog 23 #[.int .i64 n] w fun e w' => e = .returned (.slice (some ⟨w.heap.size, 0, none⟩) n n) ∧ NRow w' w.heap.size (List.range n) ∧ Below w.heap.size w w' := by
  have hmk := make_ints w n hn
  have HZ : Bx _ := ⟨zeros_row w n⟩
  go_enter Tryd.func23, Tryd.ntmps23
  go_wp2
  go_loopw [9] (fun x wr => ∃ k : Nat, k ≤ n ∧ x = .int .i64 k ∧ Bx (FRow wr w.heap.size n (List.range k) ∧ Below w.heap.size w wr)) (fun x _ => n - (intOf x).toNat)
  case atStart => exact ⟨0, Nat.zero_le _, rfl, ⟨HZ.out, below1 w _⟩⟩
  case round =>
    obtain ⟨k, hk, rfl, HS⟩ := hrel
    have g4 : k < n → ∃ x : Int, wr.cell? ⟨w.heap.size, k, none⟩ = some (.int .i64 x) := fun h => HS.out.1.cell k h
    have g5 := HS.out.1.frozen k
    have g6 := HS.out.1.lt
    by_cases hlt : k < n
    · obtain ⟨x0, g4⟩ := g4 hlt
      have HX : Bx (FRow (wr.setCell ⟨w.heap.size, k, none⟩ (.int .i64 (k : Nat))) w.heap.size n (List.range (k + 1)) ∧ Below w.heap.size w (wr.setCell ⟨w.heap.size, k, none⟩ (.int .i64 (k : Nat)))) := ⟨by
        have := HS.out.1.set (by simpa using hlt) k
        rw [List.length_range, ← List.range_succ] at this
        exact this, Below.setCell (p := ⟨w.heap.size, k, none⟩) HS.out.2 (Nat.le_refl _) _⟩
      go_wp2
      go_roundw
      case rel => exact ⟨k + 1, by omega, by go_num, HX⟩
      case measure => simp [intOf]; omega
    · have e : k = n := by omega
      clear g4
      go_wp2
      go_ret
      exact ⟨rfl, by subst e; exact NRow.of_full HS.out.1 (by simp), HS.out.2⟩

set_option maxRecDepth 100000 in
set_option maxHeartbeats 1000000 in
/-- **last** -/
theorem last_any (w : World) (fb N : Nat) (xs : List Nat) (ρ d : Nat → Nat) (i : Nat) (hN : xs.length = N) (hr : NRow w fb xs) (hu : UF xs ρ d) (hi : i < N) (hm : N ≤ 2147483647) :
    Calls Tryd.prog 24 #[.slice (some ⟨fb, 0, none⟩) N N, .int .i64 i] w fun e w' => e = .returned (.int .i64 (ρ i : Nat)) ∧ ∃ xs', xs'.length = N ∧ NRow w' fb xs' ∧ UF xs' ρ d ∧ Only fb w w' := by
  have HI : Bx (NRow w fb xs ∧ UF xs ρ d ∧ xs.length = N) := ⟨hr, hu, hN⟩
  clear hr hu hN
  go_enter Tryd.func24, Tryd.ntmps24
  go_wp2
  go_loopw [1] (fun x wr => ∃ (j : Nat) (ys : List Nat), j < N ∧ x = .int .i64 j ∧ Bx (NRow wr fb ys ∧ UF ys ρ d ∧ ys.length = N ∧ ρ j = ρ i ∧ Only fb w wr)) (fun x _ => d (intOf x).toNat)
  case atStart => exact ⟨i, xs, hi, rfl, ⟨HI.out.1, HI.out.2.1, HI.out.2.2, rfl, Only.refl _ _⟩⟩
  case round =>
    obtain ⟨j, ys, hj, rfl, HS⟩ := hrel
    clear HI
    have hl := HS.out.2.2.1
    have c1 := HS.out.1.cell j (by omega)
    have f1 := HS.out.1.frozen j
    have f2 := HS.out.1.lt
    have hp := HS.out.2.1.lt j (by omega)
    by_cases he : ys.getD j 0 = j
    · have HE : Bx (ρ i = j) := ⟨by rw [← HS.out.2.2.2.1]; exact HS.out.2.1.fx j (by omega) he⟩
      rw [he] at c1
      clear hp he
      go_wp2
      go_ret
      exact ⟨ret_int (by rw [HE.out]), ys, hl, HS.out.1, HS.out.2.1, HS.out.2.2.2.2⟩
    · have c2 := HS.out.1.cell _ hp
      obtain ⟨u1, u2, u3, u4⟩ := HS.out.2.1.halve (by omega) he
      rw [hl] at hp u2
      generalize hq : ys.getD (ys.getD j 0) 0 = q at *
      generalize ys.getD j 0 = p at *
      have HX : Bx (NRow (wr.setCell ⟨fb, j, none⟩ (.int .i64 (q : Nat))) fb (ys.set j q) ∧ UF (ys.set j q) ρ d ∧ (ys.set j q).length = N ∧ ρ q = ρ i ∧ Only fb w (wr.setCell ⟨fb, j, none⟩ (.int .i64 (q : Nat)))) :=
        ⟨HS.out.1.set j q (by omega), u1, by simpa using hl, by rw [u4]; exact HS.out.2.2.2.1, HS.out.2.2.2.2.trans (Only.set _ _ _ _)⟩
      have he2 : ((p : Int) != (j : Int)) = true := by rw [bne_iff_ne]; omega
      clear HS u1 u4 hq he hl
      go_wp2
      go_roundw
      case rel => exact ⟨q, ys.set j q, u2, rfl, HX⟩
      case measure => simp [intOf]; omega
end Go.Proofs.YtllgaholkminnaaDoor
namespace Go.Proofs.YtllgaholkminnaaDoor
open Go.RowKit
set_option linter.unusedVariables false
set_option linter.unusedSimpArgs false

def fitsN (kd : Int) (n : Nat) (res : Bool) : Bool :=
  if kd = 1 ∨ kd = 2 then n == 0 && !res
  else if kd = 3 ∨ kd = 5 then n == 1 && !res
  else if kd = 4 then decide (2 ≤ n) && !res
  else if kd = 6 then decide (1 ≤ n) || !res
  else false
theorem fits_eq (r : Ty) : fitsI r = fitsN r.kind r.kids.length r.res := rfl

set_option maxHeartbeats 1000000 in
theorem fits_any (w : World) (kd : Int) (ka : Option Addr) (n kc : Nat) (r : Bool) :
    Calls Tryd.prog 20 #[.agg #[.int .i64 kd, .slice ka n kc, .bool r]] w fun e w' => e = .returned (.bool (fitsN kd n r)) ∧ Below w.heap.size w w' := by
  go_enter Tryd.func20, Tryd.ntmps20
  go_wp2
  all_goals
    go_ret
    refine ⟨ret_bool ?_, below1 _ _⟩
    unfold fitsN
    simp at *
    first | (simp [*]; done) | (cases r <;> simp_all <;> omega)
theorem isRow_any (w : World) (a : Option Addr) (n cap : Nat) (k : Int) :
    Calls Tryd.prog 21 #[.slice a n cap, .int .i64 k] w fun e w' => e = .returned (.bool (isRowI n k)) ∧ w = w' := by
  unfold isRowI
  cases e1 : decide (0 ≤ k)
  · go_enter Tryd.func21, Tryd.ntmps21
    go_wp2
    go_ret
    exact ⟨ret_bool (by simp), rfl⟩
  · go_enter Tryd.func21, Tryd.ntmps21
    go_wp2
    go_ret
    exact ⟨ret_bool (by simp), rfl⟩

theorem valid_false {t : List Ty} {i : Nat} (hi : i < t.length) (h : rowOk t.length (tyN t i) = false) : validI t = false := by
  unfold validI
  rw [List.all_eq_false]
  refine ⟨tyN t i, ?_, by simp [h]⟩
  unfold tyN; rw [List.getD_eq_getElem?_getD, List.getElem?_eq_getElem hi]; exact List.getElem_mem hi
theorem valid_true {t : List Ty} (h : ∀ i, i < t.length → rowOk t.length (tyN t i) = true) : validI t = true := by
  unfold validI
  rw [List.all_eq_true]
  intro x hx
  obtain ⟨i, hi, rfl⟩ := List.getElem_of_mem hx
  have := h i hi
  unfold tyN at this
  rw [List.getD_eq_getElem?_getD, List.getElem?_eq_getElem hi] at this
  exact this

set_option maxRecDepth 100000 in
set_option maxHeartbeats 2000000 in
theorem Valid_some (w : World) (B nb no nc : Nat) (t : List Ty) (hn : Types w B nb no nc t) (h0 : 0 < t.length) :
    Calls Tryd.prog 12 #[.slice (some ⟨nb, no, none⟩) t.length nc] w fun e w' => e = .returned (.bool (validI t)) ∧ Below w.heap.size w w' := by
  have HN : Bx (Types w B nb no nc t) := ⟨hn⟩
  have hmax := hn.max
  unfold maxLen at hmax
  have hnb : nb < w.heap.size := Nat.lt_of_lt_of_le hn.lo hn.hi
  generalize hR : validI t = R
  have HR : Bx _ := ⟨hR⟩
  clear hn hR
  go_enter Tryd.func12, Tryd.ntmps12
  go_wp2
  go_loopw [9] (fun x wr => ∃ i : Nat, i ≤ t.length ∧ x = .int .i64 i ∧ Bx (Below w.heap.size w wr ∧ ∀ j, j < i → rowOk t.length (tyN t j) = true)) (fun x _ => t.length - (intOf x).toNat)
  case atStart => exact ⟨0, Nat.zero_le _, rfl, ⟨Below.refl _ _, fun j hj => absurd hj (by omega)⟩⟩
  case round =>
    obtain ⟨i, hi, rfl, HS⟩ := hrel
    by_cases hlt : i < t.length
    · have hsz := HS.out.1.size
      have hB := HN.out.hi
      obtain ⟨ka, kc, hnd⟩ := (HN.out.below (HS.out.1.mono HN.out.hi)).at_ i hlt
      have HO : Bx (∀ b, rowOk t.length (tyN t i) = b → (b = false → R = false)) := ⟨fun b hb hf => by rw [← HR.out]; exact valid_false hlt (by rw [hb, hf])⟩
      have HP : Bx (rowOk t.length (tyN t i) = true → ∀ j, j < i + 1 → rowOk t.length (tyN t j) = true) := ⟨fun h j hj => by
        by_cases e : j < i
        · exact HS.out.2 j e
        · have : j = i := by omega
          subst this
          exact h⟩
      have hbel := HS.out.1
      have c0 := hnd.c0
      have c1 := hnd.c1
      have c2 := hnd.c2
      have HK : Bx _ := ⟨hnd.kids⟩
      clear hnd HS
      unfold rowOk at HO HP
      rw [fits_eq] at HO HP
      have HF : Bx _ := ⟨fun W => fits_any W (tyN t i).kind ka (tyN t i).kids.length kc (tyN t i).res⟩
      generalize (tyN t i).kind = kd at *
      generalize (tyN t i).kids = ks at *
      generalize (tyN t i).res = rs at *
      obtain ⟨a, cap, he, h1, h2, h3⟩ := HK.out.ex
      simp only [Value.slice.injEq, true_and] at he
      obtain ⟨rfl, rfl⟩ := he
      unfold maxLen at h2
      have H3 : Bx _ := ⟨h3⟩
      clear h3
      cases ef : fitsN kd ks.length rs
      · rw [ef] at HF
        have HE : Bx (R = false) := ⟨HO.out _ rfl (by rw [ef]; rfl)⟩
        go_wp2_with (first | (go_at_call 20; refine Calls.mono (HF.out _) ?_; rintro e w1 ⟨rfl, hb1⟩))
        go_ret
        exact ⟨ret_bool (by rw [HE.out]), hbel.trans (((below1 wr _).trans (hb1.mono (by simp))).mono hsz)⟩
      · rw [ef] at HF
        have HB : Bx (∀ o w1, Below (wr.alloc o).heap.size (wr.alloc o) w1 → Below wr.heap.size wr w1) := ⟨fun o w1 hb1 => (below1 wr o).trans (hb1.mono (by simp))⟩
        have HC : Bx (∀ w1, Below wr.heap.size wr w1 → ∀ (p : Nat) (hp : p < ks.length), ∃ b o, ka = some ⟨b, o, none⟩ ∧ w1.cell? ⟨b, o + p, none⟩ = some (.int .i64 ks[p])) := ⟨fun w1 hb1 p hp => by
          obtain ⟨b, o, e, hbB, hcell⟩ := H3.out (by omega)
          exact ⟨b, o, e, by rw [hb1.cell (p := ⟨b, o + p, none⟩) (by show b < wr.heap.size; omega)]; exact hcell p hp⟩⟩
        clear HK
        have HCell : Bx (∀ o w1, Below (wr.alloc o).heap.size (wr.alloc o) w1 → ∀ k v, (wr.alloc o).cell? ⟨wr.heap.size, k, none⟩ = some v → w1.cell? ⟨wr.heap.size, k, none⟩ = some v) := ⟨fun o w1 hb1 k v hv => by rw [hb1.cell (p := ⟨wr.heap.size, k, none⟩) (by simp)]; exact hv⟩
        go_wp2_with (first | (go_at_call 20; refine Calls.mono (HF.out _) ?_; rintro e w1 ⟨rfl, hb1⟩; have g1 := HCell.out _ _ hb1 1 (.slice ka ks.length kc) (by rw [cell_of_row _ _ 1 _ _ _ (heap_alloc_new wr _)]; rfl); have g2 := HB.out _ _ hb1; have g3 := hb1.size; clear hb1))
        have hbel2 := hbel.trans (g2.mono hsz)
        go_loop [19] (fun x => ∃ p : Nat, p ≤ ks.length ∧ x = .int .i64 p ∧ Bx (∀ q (h : q < ks.length), q < p → isRowI t.length ks[q] = true)) (fun x => ks.length - (intOf x).toNat)
        case atStart => exact ⟨0, Nat.zero_le _, rfl, ⟨fun q _ h => absurd h (by omega)⟩⟩
        case round =>
          obtain ⟨p, hp, rfl, HP2⟩ := hrel
          by_cases hplt : p < ks.length
          · obtain ⟨b, o, rfl, hc⟩ := HC.out w1 g2 p hplt
            have HQ : Bx (isRowI t.length ks[p] = false → R = false) := ⟨fun hf => HO.out _ rfl (by
              rw [ef, Bool.true_and, List.all_eq_false]
              exact ⟨ks[p], List.getElem_mem hplt, by simp [hf]⟩)⟩
            have HP3 : Bx (isRowI t.length ks[p] = true → ∀ q (h : q < ks.length), q < p + 1 → isRowI t.length ks[q] = true) := ⟨fun hf q hq hqp => by
              by_cases e : q < p
              · exact HP2.out q hq e
              · have : q = p := by omega
                subst this
                exact hf⟩
            generalize ks[p] = x at *
            have HI : Bx _ := ⟨isRow_any w1 (some ⟨nb, no, none⟩) t.length nc x⟩
            cases er : isRowI t.length x
            · rw [er] at HI
              have HE : Bx (R = false) := ⟨HQ.out er⟩
              clear HP2 HQ HP3
              go_wp2_with (first | (go_at_call 21; refine Calls.mono HI.out ?_; rintro e w2 ⟨rfl, rfl⟩))
              go_ret
              exact ⟨ret_bool (by rw [HE.out]), hbel2⟩
            · rw [er] at HI
              have HP4 : Bx _ := ⟨HP3.out er⟩
              clear HP2 HQ HP3
              go_wp2_with (first | (go_at_call 21; refine Calls.mono HI.out ?_; rintro e w2 ⟨rfl, rfl⟩))
              go_round
              case rel => exact ⟨p + 1, by omega, by go_num, HP4⟩
              case measure => simp [intOf]; omega
          · have HX : Bx (∀ j, j < i + 1 → rowOk t.length (tyN t j) = true) := ⟨HP.out (by
              rw [ef, Bool.true_and, List.all_eq_true]
              intro x hx
              obtain ⟨q, hq, rfl⟩ := List.getElem_of_mem hx
              exact HP2.out q hq (by omega))⟩
            clear HP2
            go_wp2
            go_roundw
            case rel => exact ⟨i + 1, by omega, by go_num, ⟨hbel2, HX.out⟩⟩
            case measure => simp [intOf]; omega
    · have HE : Bx (R = true) := ⟨by rw [← HR.out]; exact valid_true fun j hj => HS.out.2 j (by omega)⟩
      go_wp2
      go_ret
      exact ⟨ret_bool (by rw [HE.out]), HS.out.1⟩

set_option maxRecDepth 100000 in
theorem Valid_none (w : World) (a : Option Addr) (cap : Nat) :
    Calls Tryd.prog 12 #[.slice a 0 cap] w fun e w' => e = .returned (.bool true) ∧ Below w.heap.size w w' := by
  go_enter Tryd.func12, Tryd.ntmps12
  go_wp2
  go_loopw [9] (fun x wr => x = .int .i64 0 ∧ Below w.heap.size w wr) (fun _ _ => 0)
  case atStart => exact ⟨rfl, Below.refl _ _⟩
  case round =>
    obtain ⟨rfl, hbel⟩ := hrel
    go_wp2
    go_ret
    exact ⟨rfl, hbel⟩
/-- **Valid** -/
theorem Valid_any (w : World) (B : Nat) (a : Option Addr) (cap : Nat) (t : List Ty) (hn : IsTypes w B a cap t) :
    Calls Tryd.prog 12 #[.slice a t.length cap] w fun e w' => e = .returned (.bool (validI t)) ∧ Below w.heap.size w w' := by
  by_cases h0 : 0 < t.length
  · obtain ⟨nb, no, rfl, h⟩ := hn.at_ h0
    exact Valid_some w B nb no cap t h h0
  · have hx : t = [] := List.eq_nil_of_length_eq_zero (by omega)
    subst hx
    exact Valid_none w a cap
end Go.Proofs.YtllgaholkminnaaDoor
namespace Go.Proofs.YtllgaholkminnaaDoor
open Go.RowKit
set_option linter.unusedVariables false
set_option linter.unusedSimpArgs false

set_option maxHeartbeats 1000000 in
theorem headOf_any (w : World) (kd : Int) (ka : Option Addr) (n kc : Nat) (r : Bool) :
    Calls Tryd.prog 25 #[.agg #[.int .i64 kd, .slice ka n kc, .bool r]] w fun e w' => e = .returned (.agg #[.int .i64 kd, .int .i64 n, .bool r]) ∧ Below w.heap.size w w' := by
  have hb1 := below1 w (.cells #[.int .i64 kd, .slice ka n kc, .bool r] 32)
  have HB : Bx (∀ o, Below w.heap.size w ((w.alloc (.cells #[.int .i64 kd, .slice ka n kc, .bool r] 32)).alloc o)) := ⟨fun o => hb1.trans ((below1 _ o).mono (by simp))⟩
  clear hb1
  go_enter Tryd.func25, Tryd.ntmps25
  go_wp2
  try simp only [Exit.inBlock, Exit.then]
  refine bodyPost_ret (v := .agg #[.int .i64 kd, .int .i64 n, .bool r]) (by simp [results, Tryd.results25, go_sem]) rfl ⟨rfl, ?_⟩
  exact HB.out _

def pairC (p : Nat × Nat) : List Value := [.int .i64 (p.1 : Nat), .int .i64 (p.2 : Nat)]
def pairsC (ps : List (Nat × Nat)) : List Value := ps.flatMap pairC
theorem pairsC_len (ps : List (Nat × Nat)) : (pairsC ps).length = ps.length * 2 := by
  induction ps with
  | nil => rfl
  | cons p r ih => simp [pairsC, pairC] at *; omega
theorem pairsC_snoc (ps : List (Nat × Nat)) (p : Nat × Nat) : pairsC (ps ++ [p]) = pairsC ps ++ pairC p := by simp [pairsC]
theorem infoPair : (Tryd.prog.info? 50).map (fun i => (i.zero, i.size, i.bytes)) = some (some (.agg #[.int .i64 0, .int .i64 0]), 2, 16) := by kernel_rfl
theorem pair_news (X : World) (H : Nat) (hH : X.heap.size = H) (a b : Value) : ∀ (j : Nat) (u : Value), [a, b][j]? = some u → (X.alloc (.cells #[a, b] 50)).cell? ((⟨H, 0, none⟩ : Addr).add j) = some u := by
  subst hH
  exact World.news_of_block (w := X.alloc (.cells #[a, b] 50)) (cs := #[a, b]) (heap_alloc_new X (.cells #[a, b] 50))
theorem pair_one (x y : Int) : ∀ u ∈ [Value.int .i64 x, Value.int .i64 y], u.oneCell' = true := by
  intro u hu
  simp at hu
  rcases hu with rfl | rfl <;> rfl
theorem owns_same {W W' : World} {B : Nat} {e : TypeId} {s : Nat} {v : Value} {n : Nat} {cs : List Value} (h : W.ownsRow B e s v n cs) (hb : ∀ g, B ≤ g → g < W.heap.size → W'.heap[g]? = W.heap[g]?) : W'.ownsRow B e s v n cs := by
  refine ⟨h.1, ?_⟩
  rcases h.2 with hn | ⟨g, cap, cur, rfl, hB, hgg, rest⟩
  · exact .inl hn
  · exact .inr ⟨g, cap, cur, rfl, hB, by rw [hb g hB (Array.getElem?_eq_some_iff.1 hgg).1]; exact hgg, rest⟩
theorem owns_block {W : World} {B : Nat} {e : TypeId} {s : Nat} {v : Value} {n : Nat} {cs : List Value} (h : W.ownsRow B e s v n cs) {g : Nat} (hg : v.ownBlock = some g) : B ≤ g ∧ g < W.heap.size := by
  rcases h.2 with ⟨rfl, _⟩ | ⟨g', cap, cur, rfl, hB, hgg, rest⟩
  · cases hg
  · simp only [Value.ownBlock, Option.some.injEq] at hg
    subst hg
    exact ⟨hB, (Array.getElem?_eq_some_iff.1 hgg).1⟩

/-- the memory in the midst of Same: the table below fb, the row of roots at fb, the pairs behind it -/
structure SmW (w0 W : World) (fb N : Nat) (v : Value) (ys : List Nat) (ps : List (Nat × Nat)) : Prop where
  bel : Below fb w0 W
  row : NRow W fb ys
  len : ys.length = N
  own : W.ownsRow (fb + 1) 50 2 v ps.length (pairsC ps)
theorem SmW.ext {w0 W W' : World} {fb N : Nat} {v : Value} {ys : List Nat} {ps : List (Nat × Nat)} (h : SmW w0 W fb N v ys ps) (hb : Below W.heap.size W W') : SmW w0 W' fb N v ys ps :=
  ⟨h.bel.trans (hb.mono (Nat.le_of_lt h.row.lt)), h.row.below hb, h.len, owns_same h.own fun g _ hg => hb.block g hg⟩
theorem SmW.only {w0 W W' : World} {fb N : Nat} {v : Value} {ys zs : List Nat} {ps : List (Nat × Nat)} (h : SmW w0 W fb N v ys ps) (ho : Only fb W W') (hr : NRow W' fb zs) (hl : zs.length = N) : SmW w0 W' fb N v zs ps :=
  ⟨ho.bel fb w0 (Nat.le_refl _) h.bel, hr, hl, owns_same h.own fun g hB _ => ho.block g (by omega)⟩
theorem SmW.pop {w0 W : World} {fb N : Nat} {v : Value} {ys : List Nat} {ps : List (Nat × Nat)} {p : Nat × Nat} (h : SmW w0 W fb N v ys (ps ++ [p])) :
    ∃ g cap, v = .slice (some ⟨g, 0, none⟩) (ps.length + 1) cap ∧ ps.length + 1 ≤ cap ∧ cap ≤ maxLen ∧ g < W.heap.size ∧ W.cell? ⟨g, ps.length * 2, none⟩ = some (.int .i64 (p.1 : Nat)) ∧ W.cell? ⟨g, ps.length * 2 + 1, none⟩ = some (.int .i64 (p.2 : Nat)) ∧ SmW w0 W fb N (.slice (some ⟨g, 0, none⟩) ps.length cap) ys ps := by
  obtain ⟨h1, h2, h3, h4, h5⟩ := h
  rcases h5 with ⟨_, hn⟩ | ⟨g, cap, cur, rfl, hB, hgg, q1, q2, q3, q4⟩
  · simp at hn
  · simp only [List.length_append, List.length_singleton] at *
    rw [pairsC_snoc] at q4
    have hat : ∀ j, j < (ps.length + 1) * 2 → cur[j]? = (pairsC ps ++ pairC p)[j]? := fun j hj => by
      rw [← q4, List.getElem?_take_of_lt hj, Array.getElem?_toList]
    have e0 : (pairsC ps ++ pairC p)[ps.length * 2]? = some (.int .i64 (p.1 : Nat)) := by
      rw [← pairsC_len, List.getElem?_append_right (Nat.le_refl _)]; simp [pairC]
    have e1 : (pairsC ps ++ pairC p)[ps.length * 2 + 1]? = some (.int .i64 (p.2 : Nat)) := by
      rw [← pairsC_len, List.getElem?_append_right (by omega)]; simp [pairC]
    refine ⟨g, cap, rfl, q1, q2, (Array.getElem?_eq_some_iff.1 hgg).1, ?_, ?_, h1, h2, h3, pairsC_len ps, .inr ⟨g, cap, cur, rfl, hB, hgg, by omega, q2, q3, ?_⟩⟩
    · rw [cell_of_row W g _ cur _ (0, 0) hgg, hat _ (by omega), e0]
    · rw [cell_of_row W g _ cur _ (0, 0) hgg, hat _ (by omega), e1]
    · have : cur.toList.take (ps.length * 2) = (cur.toList.take ((ps.length + 1) * 2)).take (ps.length * 2) := by
        rw [List.take_take]; congr 1; omega
      rw [this, q4, ← pairsC_len, List.take_left]
theorem SmW.push {w0 W w4 : World} {fb N : Nat} {v : Value} {ys : List Nat} {ps : List (Nat × Nat)} {p : Nat × Nat} {o : Obj} (h : SmW w0 W fb N v ys ps) (hg : (W.alloc o).grownBy w4 v.ownBlock) {g cap : Nat}
    (hown : w4.ownsRow (fb + 1) 50 2 (.slice (some ⟨g, 0, none⟩) (ps.length + 1) cap) (ps.length + 1) (pairsC ps ++ pairC p)) : SmW w0 w4 fb N (.slice (some ⟨g, 0, none⟩) (ps.length + 1) cap) ys (ps ++ [p]) := by
  have hlt := h.row.lt
  have hz := hg.size
  have hne : some fb ≠ v.ownBlock := fun e => by have := (owns_block h.own e.symm).1; omega
  refine ⟨?_, h.row.same ?_, h.len, ?_⟩
  · exact (h.bel.trans ((below1 W o).mono (by omega))).grown hg (by simp; omega) (fun k hk => by have := (owns_block h.own hk).1; omega)
  · rw [hg.block fb (by simp; omega) hne, (below1 W o).block fb hlt]
  · rw [pairsC_snoc, List.length_append]
    exact hown
theorem SmW.setc {w0 W : World} {fb N : Nat} {v : Value} {ys : List Nat} {ps : List (Nat × Nat)} (h : SmW w0 W fb N v ys ps) (x y : Nat) (hx : x < N) : SmW w0 (W.setCell ⟨fb, x, none⟩ (.int .i64 (y : Nat))) fb N v (ys.set x y) ps :=
  h.only (Only.set _ _ _ _) (h.row.set x y (by rw [h.len]; exact hx)) (by simpa using h.len)
end Go.Proofs.YtllgaholkminnaaDoor
