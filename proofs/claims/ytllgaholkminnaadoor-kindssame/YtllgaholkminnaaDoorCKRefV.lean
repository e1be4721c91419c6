import Derived.Test.YtllgaholkminnaaDoorCKMem
namespace Go.Proofs.YtllgaholkminnaaDoor
open Go.RowKit
set_option linter.unusedVariables false
set_option linter.unusedSimpArgs false

set_option maxRecDepth 100000 in
set_option maxHeartbeats 8000000 in
theorem refValid_some (w : World) (B nb no nc : Nat) (t : List Ty) (hn : Types w B nb no nc t) :
    Calls Tryd.prog 14 #[.slice (some ⟨nb, no, none⟩) t.length nc] w fun e w' => e = .returned (.bool (validI t)) ∧ w = w' := by
  have HN : Bx (Types w B nb no nc t) := ⟨hn⟩
  have hmax := hn.max
  unfold maxLen at hmax
  have hnb : nb < w.heap.size := Nat.lt_of_lt_of_le hn.lo hn.hi
  generalize hR : validI t = R
  have HR : Bx _ := ⟨hR⟩
  clear hn hR
  go_enter Tryd.func14, Tryd.ntmps14
  go_wp2
  go_loop [3] (fun x => ∃ i : Nat, i ≤ t.length ∧ x = .int .i64 i ∧ Bx (∀ j, j < i → rowOk t.length (tyN t j) = true)) (fun x => t.length - (intOf x).toNat)
  case atStart => exact ⟨0, Nat.zero_le _, rfl, ⟨fun j hj => absurd hj (by omega)⟩⟩
  case round =>
    obtain ⟨i, hi, rfl, HS⟩ := hrel
    by_cases hlt : i < t.length
    · obtain ⟨ka, kc, hnd⟩ := HN.out.at_ i hlt
      have HO : Bx (rowOk t.length (tyN t i) = false → R = false) := ⟨fun hb => by rw [← HR.out]; exact valid_false hlt hb⟩
      have HP : Bx (rowOk t.length (tyN t i) = true → ∀ j, j < i + 1 → rowOk t.length (tyN t j) = true) := ⟨fun h j hj => by
        by_cases e : j < i
        · exact HS.out j e
        · have : j = i := by omega
          subst this
          exact h⟩
      have c0 := hnd.c0
      have c1 := hnd.c1
      have c2 := hnd.c2
      obtain ⟨a, cap, he, h1, h2, h3⟩ := hnd.kids.ex
      simp only [Value.slice.injEq, true_and] at he
      obtain ⟨rfl, rfl⟩ := he
      unfold maxLen at h2
      unfold rowOk at HO HP
      rw [fits_eq] at HO HP
      have H3 : Bx _ := ⟨h3⟩
      clear h3 hnd HS
      generalize (tyN t i).kind = kd at *
      generalize (tyN t i).kids = ks at *
      generalize (tyN t i).res = rs at *
      cases ef : fitsN kd ks.length rs
      · have HE : Bx (R = false) := ⟨HO.out (by rw [ef]; rfl)⟩
        have HF : Bx _ := ⟨ef⟩
        clear HO HP H3 ef
        generalize ks.length = n at *
        go_wp2
        all_goals first
          | (go_ret; exact ⟨ret_bool HE.out.symm, rfl⟩)
          | (exfalso; have := HF.out; unfold fitsN at this; simp at *; simp_all; done)
          | (exfalso; have := HF.out; unfold fitsN at this; simp at *; simp_all; omega)
      · have HF : Bx _ := ⟨ef⟩
        have HO2 : Bx (∀ p (h : p < ks.length), isRowI t.length ks[p] = false → R = false) := ⟨fun p h hf => HO.out (by
          rw [ef, Bool.true_and, List.all_eq_false]
          exact ⟨ks[p], List.getElem_mem h, by simp [hf]⟩)⟩
        have HP2 : Bx ((∀ p (h : p < ks.length), isRowI t.length ks[p] = true) → ∀ j, j < i + 1 → rowOk t.length (tyN t j) = true) := ⟨fun hh => HP.out (by
          rw [ef, Bool.true_and, List.all_eq_true]
          intro x hx
          obtain ⟨q, hq, rfl⟩ := List.getElem_of_mem hx
          exact hh q hq)⟩
        clear HO HP ef
        obtain ⟨n, hkn⟩ : ∃ n, n = ks.length := ⟨_, rfl⟩
        rw [← hkn] at c1 h1 h2 HF
        have HKN : Bx _ := ⟨hkn⟩
        clear hkn
        go_wp2
        all_goals first
          | (exfalso; have := HF.out; unfold fitsN at this; simp at *; simp_all; done)
          | (exfalso; have := HF.out; unfold fitsN at this; simp at *; simp_all; omega)
          | (go_loop [6] (fun x => ∃ p : Nat, p ≤ n ∧ x = .int .i64 p ∧ Bx (∀ q (h : q < ks.length), q < p → isRowI t.length ks[q] = true)) (fun x => n - (intOf x).toNat)
             case atStart => exact ⟨0, Nat.zero_le _, rfl, ⟨fun q _ h => absurd h (by omega)⟩⟩
             case round =>
               obtain ⟨p, hp, rfl, HQ⟩ := hrel
               by_cases hplt : p < n
               · have hpk : p < ks.length := by rw [← HKN.out]; exact hplt
                 obtain ⟨b, o, rfl, hbB, hcell⟩ := H3.out (by omega)
                 have hc := hcell p hpk
                 have hbw : b < w.heap.size := World.block_lt_of_cell? w _ hc
                 have HQ1 : Bx (isRowI t.length ks[p] = false → R = false) := ⟨HO2.out p hpk⟩
                 have HQ2 : Bx (isRowI t.length ks[p] = true → ∀ q (h : q < ks.length), q < p + 1 → isRowI t.length ks[q] = true) := ⟨fun hf q hq hqp => by
                   by_cases e : q < p
                   · exact HQ.out q hq e
                   · have : q = p := by omega
                     subst this
                     exact hf⟩
                 clear HQ hcell
                 unfold isRowI at HQ1
                 generalize ks[p] = x at *
                 by_cases e1 : x < 0
                 · have HE : Bx (R = false) := ⟨HQ1.out (by simp; omega)⟩
                   have e1' : decide (x < 0) = true := by simpa using e1
                   go_wp2
                   all_goals
                     go_ret
                     exact ⟨ret_bool HE.out.symm, rfl⟩
                 · have e1' : decide (x < 0) = false := by simpa using e1
                   by_cases e2 : (t.length : Int) ≤ x
                   · have HE : Bx (R = false) := ⟨HQ1.out (by simp; omega)⟩
                     have e2' : decide ((t.length : Int) ≤ x) = true := by simpa using e2
                     go_wp2
                     all_goals
                       go_ret
                       exact ⟨ret_bool HE.out.symm, rfl⟩
                   · have e2' : decide ((t.length : Int) ≤ x) = false := by simpa using e2
                     have HQ3 : Bx _ := ⟨HQ2.out (by unfold isRowI; simp; omega)⟩
                     clear HQ1 HQ2
                     go_wp2
                     all_goals
                       go_round
                       case rel => exact ⟨p + 1, by omega, by go_num, HQ3⟩
                       case measure => simp [intOf]; omega
               · have HX : Bx (∀ j, j < i + 1 → rowOk t.length (tyN t j) = true) := ⟨HP2.out fun q hq => HQ.out q hq (by have := HKN.out; omega)⟩
                 clear HQ
                 go_wp2
                 go_round
                 case rel => exact ⟨i + 1, by omega, by go_num, HX⟩
                 case measure => simp [intOf]; omega)
    · have HE : Bx (R = true) := ⟨by rw [← HR.out]; exact valid_true fun j hj => HS.out j (by omega)⟩
      go_wp2
      go_ret
      exact ⟨ret_bool HE.out.symm, rfl⟩
end Go.Proofs.YtllgaholkminnaaDoor
