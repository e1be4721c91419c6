import Derived.Test.YtllgaholkminnaaDoorCKMem
namespace Go.Proofs.YtllgaholkminnaaDoor
open Go.RowKit
set_option linter.unusedVariables false
set_option linter.unusedSimpArgs false

def fitsN (kd : Int) (n : Nat) (res : Bool) : Bool :=
  if kd = 1 ∨ kd = 2 then n == 0 && !res
  else if kd = 3 ∨ kd = 5 then n == 1 && !res
  else if kd = 4 then decide (2 ≤ n) && !res
  else if kd = 6 then decide (1 ≤ n) || !res
  else false
theorem fits_eq (r : Ty) : fitsI r = fitsN r.kind r.kids.length r.res := rfl

set_option maxHeartbeats 1000000 in
theorem fits_any (w : World) (kd : Int) (ka : Option Addr) (n kc : Nat) (r : Bool) :
    Calls Tryd.prog 20 #[.agg #[.int .i64 kd, .slice ka n kc, .bool r]] w fun e w' => e = .returned (.bool (fitsN kd n r)) ∧ Below w.heap.size w w' := by
  go_enter Tryd.func20, Tryd.ntmps20
  go_wp2
  all_goals
    go_ret
    refine ⟨ret_bool ?_, below1 _ _⟩
    unfold fitsN
    simp at *
    first | (simp [*]; done) | (cases r <;> simp_all <;> omega)
theorem isRow_any (w : World) (a : Option Addr) (n cap : Nat) (k : Int) :
    Calls Tryd.prog 21 #[.slice a n cap, .int .i64 k] w fun e w' => e = .returned (.bool (isRowI n k)) ∧ w = w' := by
  unfold isRowI
  cases e1 : decide (0 ≤ k)
  · go_enter Tryd.func21, Tryd.ntmps21
    go_wp2
    go_ret
    exact ⟨ret_bool (by simp), rfl⟩
  · go_enter Tryd.func21, Tryd.ntmps21
    go_wp2
    go_ret
    exact ⟨ret_bool (by simp), rfl⟩

theorem valid_false {t : List Ty} {i : Nat} (hi : i < t.length) (h : rowOk t.length (tyN t i) = false) : validI t = false := by
  unfold validI
  rw [List.all_eq_false]
  refine ⟨tyN t i, ?_, by simp [h]⟩
  unfold tyN; rw [List.getD_eq_getElem?_getD, List.getElem?_eq_getElem hi]; exact List.getElem_mem hi
theorem valid_true {t : List Ty} (h : ∀ i, i < t.length → rowOk t.length (tyN t i) = true) : validI t = true := by
  unfold validI
  rw [List.all_eq_true]
  intro x hx
  obtain ⟨i, hi, rfl⟩ := List.getElem_of_mem hx
  have := h i hi
  unfold tyN at this
  rw [List.getD_eq_getElem?_getD, List.getElem?_eq_getElem hi] at this
  exact this

set_option maxRecDepth 100000 in
set_option maxHeartbeats 2000000 in
theorem Valid_some (w : World) (B nb no nc : Nat) (t : List Ty) (hn : Types w B nb no nc t) (h0 : 0 < t.length) :
    Calls Tryd.prog 12 #[.slice (some ⟨nb, no, none⟩) t.length nc] w fun e w' => e = .returned (.bool (validI t)) ∧ Below w.heap.size w w' := by
  have HN : Bx (Types w B nb no nc t) := ⟨hn⟩
  have hmax := hn.max
  unfold maxLen at hmax
  have hnb : nb < w.heap.size := Nat.lt_of_lt_of_le hn.lo hn.hi
  generalize hR : validI t = R
  have HR : Bx _ := ⟨hR⟩
  clear hn hR
  go_enter Tryd.func12, Tryd.ntmps12
  go_wp2
  go_loopw [9] (fun x wr => ∃ i : Nat, i ≤ t.length ∧ x = .int .i64 i ∧ Bx (Below w.heap.size w wr ∧ ∀ j, j < i → rowOk t.length (tyN t j) = true)) (fun x _ => t.length - (intOf x).toNat)
  case atStart => exact ⟨0, Nat.zero_le _, rfl, ⟨Below.refl _ _, fun j hj => absurd hj (by omega)⟩⟩
  case round =>
    obtain ⟨i, hi, rfl, HS⟩ := hrel
    by_cases hlt : i < t.length
    · have hsz := HS.out.1.size
      have hB := HN.out.hi
      obtain ⟨ka, kc, hnd⟩ := (HN.out.below (HS.out.1.mono HN.out.hi)).at_ i hlt
      have HO : Bx (∀ b, rowOk t.length (tyN t i) = b → (b = false → R = false)) := ⟨fun b hb hf => by rw [← HR.out]; exact valid_false hlt (by rw [hb, hf])⟩
      have HP : Bx (rowOk t.length (tyN t i) = true → ∀ j, j < i + 1 → rowOk t.length (tyN t j) = true) := ⟨fun h j hj => by
        by_cases e : j < i
        · exact HS.out.2 j e
        · have : j = i := by omega
          subst this
          exact h⟩
      have hbel := HS.out.1
      have c0 := hnd.c0
      have c1 := hnd.c1
      have c2 := hnd.c2
      have HK : Bx _ := ⟨hnd.kids⟩
      clear hnd HS
      unfold rowOk at HO HP
      rw [fits_eq] at HO HP
      have HF : Bx _ := ⟨fun W => fits_any W (tyN t i).kind ka (tyN t i).kids.length kc (tyN t i).res⟩
      generalize (tyN t i).kind = kd at *
      generalize (tyN t i).kids = ks at *
      generalize (tyN t i).res = rs at *
      obtain ⟨a, cap, he, h1, h2, h3⟩ := HK.out.ex
      simp only [Value.slice.injEq, true_and] at he
      obtain ⟨rfl, rfl⟩ := he
      unfold maxLen at h2
      have H3 : Bx _ := ⟨h3⟩
      clear h3
      cases ef : fitsN kd ks.length rs
      · rw [ef] at HF
        have HE : Bx (R = false) := ⟨HO.out _ rfl (by rw [ef]; rfl)⟩
        go_wp2_with (first | (go_at_call 20; refine Calls.mono (HF.out _) ?_; rintro e w1 ⟨rfl, hb1⟩))
        go_ret
        exact ⟨ret_bool (by rw [HE.out]), hbel.trans (((below1 wr _).trans (hb1.mono (by simp))).mono hsz)⟩
      · rw [ef] at HF
        have HB : Bx (∀ o w1, Below (wr.alloc o).heap.size (wr.alloc o) w1 → Below wr.heap.size wr w1) := ⟨fun o w1 hb1 => (below1 wr o).trans (hb1.mono (by simp))⟩
        have HC : Bx (∀ w1, Below wr.heap.size wr w1 → ∀ (p : Nat) (hp : p < ks.length), ∃ b o, ka = some ⟨b, o, none⟩ ∧ w1.cell? ⟨b, o + p, none⟩ = some (.int .i64 ks[p])) := ⟨fun w1 hb1 p hp => by
          obtain ⟨b, o, e, hbB, hcell⟩ := H3.out (by omega)
          exact ⟨b, o, e, by rw [hb1.cell (p := ⟨b, o + p, none⟩) (by show b < wr.heap.size; omega)]; exact hcell p hp⟩⟩
        clear HK
        have HCell : Bx (∀ o w1, Below (wr.alloc o).heap.size (wr.alloc o) w1 → ∀ k v, (wr.alloc o).cell? ⟨wr.heap.size, k, none⟩ = some v → w1.cell? ⟨wr.heap.size, k, none⟩ = some v) := ⟨fun o w1 hb1 k v hv => by rw [hb1.cell (p := ⟨wr.heap.size, k, none⟩) (by simp)]; exact hv⟩
        go_wp2_with (first | (go_at_call 20; refine Calls.mono (HF.out _) ?_; rintro e w1 ⟨rfl, hb1⟩; have g1 := HCell.out _ _ hb1 1 (.slice ka ks.length kc) (by rw [cell_of_row _ _ 1 _ _ _ (heap_alloc_new wr _)]; rfl); have g2 := HB.out _ _ hb1; have g3 := hb1.size; clear hb1))
        have hbel2 := hbel.trans (g2.mono hsz)
        go_loop [19] (fun x => ∃ p : Nat, p ≤ ks.length ∧ x = .int .i64 p ∧ Bx (∀ q (h : q < ks.length), q < p → isRowI t.length ks[q] = true)) (fun x => ks.length - (intOf x).toNat)
        case atStart => exact ⟨0, Nat.zero_le _, rfl, ⟨fun q _ h => absurd h (by omega)⟩⟩
        case round =>
          obtain ⟨p, hp, rfl, HP2⟩ := hrel
          by_cases hplt : p < ks.length
          · obtain ⟨b, o, rfl, hc⟩ := HC.out w1 g2 p hplt
            have HQ : Bx (isRowI t.length ks[p] = false → R = false) := ⟨fun hf => HO.out _ rfl (by
              rw [ef, Bool.true_and, List.all_eq_false]
              exact ⟨ks[p], List.getElem_mem hplt, by simp [hf]⟩)⟩
            have HP3 : Bx (isRowI t.length ks[p] = true → ∀ q (h : q < ks.length), q < p + 1 → isRowI t.length ks[q] = true) := ⟨fun hf q hq hqp => by
              by_cases e : q < p
              · exact HP2.out q hq e
              · have : q = p := by omega
                subst this
                exact hf⟩
            generalize ks[p] = x at *
            have HI : Bx _ := ⟨isRow_any w1 (some ⟨nb, no, none⟩) t.length nc x⟩
            cases er : isRowI t.length x
            · rw [er] at HI
              have HE : Bx (R = false) := ⟨HQ.out er⟩
              clear HP2 HQ HP3
              go_wp2_with (first | (go_at_call 21; refine Calls.mono HI.out ?_; rintro e w2 ⟨rfl, rfl⟩))
              go_ret
              exact ⟨ret_bool (by rw [HE.out]), hbel2⟩
            · rw [er] at HI
              have HP4 : Bx _ := ⟨HP3.out er⟩
              clear HP2 HQ HP3
              go_wp2_with (first | (go_at_call 21; refine Calls.mono HI.out ?_; rintro e w2 ⟨rfl, rfl⟩))
              go_round
              case rel => exact ⟨p + 1, by omega, by go_num, HP4⟩
              case measure => simp [intOf]; omega
          · have HX : Bx (∀ j, j < i + 1 → rowOk t.length (tyN t j) = true) := ⟨HP.out (by
              rw [ef, Bool.true_and, List.all_eq_true]
              intro x hx
              obtain ⟨q, hq, rfl⟩ := List.getElem_of_mem hx
              exact HP2.out q hq (by omega))⟩
            clear HP2
            go_wp2
            go_roundw
            case rel => exact ⟨i + 1, by omega, by go_num, ⟨hbel2, HX.out⟩⟩
            case measure => simp [intOf]; omega
    · have HE : Bx (R = true) := ⟨by rw [← HR.out]; exact valid_true fun j hj => HS.out.2 j (by omega)⟩
      go_wp2
      go_ret
      exact ⟨ret_bool (by rw [HE.out]), HS.out.1⟩

set_option maxRecDepth 100000 in
theorem Valid_none (w : World) (a : Option Addr) (cap : Nat) :
    Calls Tryd.prog 12 #[.slice a 0 cap] w fun e w' => e = .returned (.bool true) ∧ Below w.heap.size w w' := by
  go_enter Tryd.func12, Tryd.ntmps12
  go_wp2
  go_loopw [9] (fun x wr => x = .int .i64 0 ∧ Below w.heap.size w wr) (fun _ _ => 0)
  case atStart => exact ⟨rfl, Below.refl _ _⟩
  case round =>
    obtain ⟨rfl, hbel⟩ := hrel
    go_wp2
    go_ret
    exact ⟨rfl, hbel⟩
/-- **Valid** -/
theorem Valid_any (w : World) (B : Nat) (a : Option Addr) (cap : Nat) (t : List Ty) (hn : IsTypes w B a cap t) :
    Calls Tryd.prog 12 #[.slice a t.length cap] w fun e w' => e = .returned (.bool (validI t)) ∧ Below w.heap.size w w' := by
  by_cases h0 : 0 < t.length
  · obtain ⟨nb, no, rfl, h⟩ := hn.at_ h0
    exact Valid_some w B nb no cap t h h0
  · have hx : t = [] := List.eq_nil_of_length_eq_zero (by omega)
    subst hx
    exact Valid_none w a cap
end Go.Proofs.YtllgaholkminnaaDoor
