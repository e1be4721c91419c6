import Derived.Test.YtjabdhmkibahlaaCHHb
namespace Go.Proofs.Ytjabdhmkibahlaa
open Go.RowKit
set_option linter.unusedVariables false
set_option linter.unusedSimpArgs false

theorem len_totA : ∀ l : List Ag, l.length ≤ totA l
  | [] => by simp
  | a :: r => by have := len_totA r; simp only [totA, List.length_cons]; omega
theorem arm_totA : ∀ (l : List Ag) (i : Nat) (h : i < l.length), l[i].arms.length ≤ totA l ∧ l[i].held.length ≤ totA l
  | a :: r, 0, h => by simp only [List.getElem_cons_zero, totA]; omega
  | a :: r, i + 1, h => by
    have := arm_totA r i (by simpa using h)
    simp only [List.getElem_cons_succ, totA]; omega
theorem agB_cells {w : World} {b : Nat} {a : Ag} {x y : Value} (h : w.heap[b]? = some (agB a x y)) : w.cell? ⟨b, 0, none⟩ = some (.int .i64 a.id) ∧ w.cell? ⟨b, 1, none⟩ = some (.bool a.awake) ∧ w.cell? ⟨b, 2, none⟩ = some x ∧ w.cell? ⟨b, 3, none⟩ = some y := ⟨cell_blk h rfl, cell_blk h rfl, cell_blk h rfl, cell_blk h rfl⟩
set_option maxRecDepth 100000 in
set_option maxHeartbeats 4000000 in
theorem lend_any (w : World) (p : Option Addr) (cap : Nat) (s : List Ag) (h : AgsR w p cap s) (ht : totA s ≤ 2147483647) :
    Calls Try.prog 8 #[.slice p s.length cap] w fun e w' => ∃ va vm vh gs, e = .returned (.agg #[va, vm, vh]) ∧ Bx (Below w.heap.size w w' ∧ Lent w' (w.heap.size + 2) s va vm vh gs) := by
  obtain ⟨H, hH⟩ : ∃ H, w.heap.size = H := ⟨_, rfl⟩
  rw [hH]
  have hlc := h.len
  have hcm := h.max
  unfold maxLen at hcm
  have HP : Bx _ := ⟨h⟩
  have hlen := len_totA s
  have HT : Bx (∀ i (h : i < s.length), s[i].arms.length ≤ 2147483647 ∧ s[i].held.length ≤ 2147483647) := ⟨fun i hi => by have := arm_totA s i hi; omega⟩
  clear h
  go_enter Try.func8, Try.ntmps8
  go_wp2
  go_loopw [4] (fun x wr => ∃ (k : Nat), k ≤ s.length ∧ x = .int .i64 k ∧ Bx (∃ va vm vh gs, Lst w wr H (s.take k) va vm vh gs)) (fun x _ => s.length - (intOf x).toNat)
  case atStart => exact ⟨0, Nat.zero_le _, rfl, ⟨_, _, _, _, lst_start w H hH _ rfl⟩⟩
  case round =>
    obtain ⟨k, hk, rfl, HI⟩ := hrel
    obtain ⟨va, vm, vh, gs, hI⟩ := HI.out
    clear HI
    by_cases hlt : k < s.length
    · obtain ⟨b, o, ap, ac, hp, hc, rfl, hA, hcl⟩ := HP.out.at_ k hlt
      obtain ⟨c0, c1, c2, c3⟩ := hcl wr (by rw [hH]; exact hI.bel)
      have htk := HT.out k hlt
      have htake : s.take (k + 1) = s.take k ++ [s[k]] := List.take_succ_eq_append_getElem hlt
      generalize s[k] = a at *
      obtain ⟨n, hn⟩ : ∃ n, n = a.arms.length := ⟨_, rfl⟩
      obtain ⟨m, hm⟩ : ∃ m, m = a.held.length := ⟨_, rfl⟩
      obtain ⟨W2, W3, W4, W5, W6, W7, W8, v3, v6, g, RA⟩ := rnd_a (W0 := wr) H a n m hn hm ap ac hp hc (hA.later (by rw [hH]; exact hI.bel)) (by omega) (by omega)
      obtain ⟨W9, Wa, Wb, Wc, Wd, We, va', vm', vh', RB, hEc⟩ := rnd_b hI hH a g RA.bel RA.two wr.heap.size rfl n m hn hm RA.b8 (by rw [List.length_take]; omega)
      obtain ⟨w2, d2, r3, r4, cp, w5, d5, r6, r7, cq, d7, e7, f7, g7, w8, b8, _, _⟩ := RA
      obtain ⟨d8, r9, d9, f9, wa, da, rb, db, fb, wc, dc, rd, dd, fd, we, st⟩ := RB
      obtain ⟨p0, p1, p2, p3⟩ := agB_cells hEc
      obtain ⟨_, _, _, hvm⟩ := owns_sl st.lnd.arms
      obtain ⟨_, _, _, hvh⟩ := owns_sl st.lnd.held
      obtain ⟨_, _, _, hva⟩ := owns_sl st.lnd.all
      subst hvm
      subst hvh
      subst hva
      rw [← hn] at c2
      rw [← hm] at c3
      have hz := hI.sz
      have HN : Bx (∃ va vm vh gs, Lst w We H (s.take (k + 1)) va vm vh gs) := ⟨_, _, _, _, by rw [htake]; exact st⟩
      have hkI : (k : Int) < (s.length : Int) := by omega
      have hnl : n ≤ 2147483647 := by omega
      have hml : m ≤ 2147483647 := by omega
      clear hI hcl hA htake htk st b8 hEc hn hm HP HT
      obtain ⟨⟨ga, cga⟩, ⟨gh, cgh⟩⟩ := g
      simp only at *
      go_wp2_with (first
        | (at_builtin; refine wpList_appI rfl (.tmp 20) (.tmp 22) 51 rfl rfl rfl r3 ?_)
        | (at_builtin; refine wpList_appI rfl (.tmp 24) (.tmp 26) 51 rfl rfl rfl r4 ?_)
        | (at_builtin; refine wpList_appI rfl (.tmp 29) (.tmp 31) 45 rfl rfl rfl r6 ?_)
        | (at_builtin; refine wpList_appI rfl (.tmp 33) (.tmp 34) 45 rfl rfl rfl r7 ?_)
        | (at_builtin; refine wpList_appI rfl (.tmp 49) (.tmp 51) 28 rfl rfl rfl r9 ?_)
        | (at_builtin; refine wpList_appI rfl (.tmp 55) (.tmp 57) 29 rfl rfl rfl rb ?_)
        | (at_builtin; refine wpList_appI rfl (.tmp 61) (.tmp 63) 22 rfl rfl rfl rd ?_))
      go_roundw
      case rel => exact ⟨k + 1, hlt, by go_num, HN⟩
      case measure => simp [intOf]; omega
    · have hke : k = s.length := by omega
      subst hke
      rw [List.take_of_length_le (Nat.le_refl _)] at hI
      obtain ⟨W1, W2, W3, va', hF⟩ := hI.last (by omega)
      obtain ⟨c0, r1, c1, f1, w2, c2, d2, e2, k0, k1, k2, q0, q1, q2, w3, c3, d3, e3, b3, bel, lent⟩ := hF
      have HF : Bx (Below H w W3 ∧ Lent W3 (H + 2) s va' vm vh gs) := ⟨bel, lent⟩
      obtain ⟨_, _, _, hvm⟩ := owns_sl lent.arms
      obtain ⟨_, _, _, hvh⟩ := owns_sl lent.held
      obtain ⟨_, _, _, hva⟩ := owns_sl lent.all
      subst hvm
      subst hvh
      subst hva
      clear hI bel lent HP HT
      go_wp2_with (at_builtin; refine wpList_appI rfl (.tmp 67) (.tmp 69) 22 rfl rfl rfl r1 ?_)
      (try simp only [Exit.inBlock, Exit.then])
      refine bodyPost_ret (results_cell_row rfl _ _ H 31 _ (0, 0) _ rfl b3 Try.underlying31 rfl (by kernel_rfl)) rfl ?_
      exact ⟨_, _, _, gs, rfl, HF⟩
end Go.Proofs.Ytjabdhmkibahlaa
