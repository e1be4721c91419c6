import Derived.Test.YtapmeidmmobpcaaDoorCTCur
namespace Go.Proofs.YtapmeidmmobpcaaDoor
open Go.RowKit
set_option linter.unusedVariables false
set_option linter.unusedSimpArgs false

/-- the row of the firsts -/
def FirstsAt (w : World) (fb : Nat) (fs : List Nat) : Prop := ∀ j, j < fs.length → w.cell? ⟨fb, j, none⟩ = some (.int .i64 (fs.getD j 0 : Nat))

theorem rev_take {kids : List Int} {m : Nat} (h : m < kids.length) : (kids.take (m + 1)).reverse = kids[m] :: (kids.take m).reverse := by
  rw [List.take_succ_eq_append_getElem h]
  simp

set_option maxHeartbeats 1000000 in
theorem inOrder_any (kids : List Int) (fs : List Nat) (ka : Option Addr) (kc fb N fc B : Nat) (w : World) (hk : IntsV w B (.slice ka kids.length kc) kids) (hf : FirstsAt w fb fs) (hle : ∀ j, j < fs.length → fs.getD j 0 ≤ j) (hN : fs.length ≤ N) (hNm : N ≤ maxLen) :
    Calls Tryd.prog 37 #[.slice ka kids.length kc, .slice (some ⟨fb, 0, none⟩) N fc, .int .i64 fs.length] w fun e w' => e = .returned (.bool (orderI fs fs.length kids)) ∧ w = w' := by
  obtain ⟨a, cap, he, h1, h2, h3⟩ := hk.ex
  simp only [Value.slice.injEq, true_and] at he
  obtain ⟨rfl, rfl⟩ := he
  clear hk
  unfold maxLen at *
  generalize hF : orderI fs fs.length kids = F
  have HF : Bx _ := ⟨hF⟩
  clear hF
  go_enter Tryd.func37, Tryd.ntmps37
  go_wp2
  go_loop [7, 8] (fun x i => ∃ m nx : Nat, m ≤ kids.length ∧ nx ≤ fs.length ∧ x = .int .i64 nx ∧ i = .int .i64 ((m : Int) - 1) ∧ Bx (orderGo fs nx (kids.take m).reverse = F)) (fun _ i => ((intOf i) + 1).toNat)
  case atStart => exact ⟨kids.length, fs.length, Nat.le_refl _, Nat.le_refl _, rfl, by go_num, ⟨by rw [← HF.out]; unfold orderI; simp⟩⟩
  case round =>
    obtain ⟨m, nx, hm, hnx, rfl, rfl, HO⟩ := hrel
    match m, hm, HO with
    | 0, hm, HO =>
      go_wp2
      go_ret
      exact ⟨ret_bool (by rw [← HO.out]; rfl), rfl⟩
    | m + 1, hm, HO =>
      obtain ⟨b, o, rfl, hbB, hcell⟩ := h3 (by omega)
      have hc := hcell m (by omega)
      have HO' : Bx (orderGo fs nx (kids[m] :: (kids.take m).reverse) = F) := ⟨by rw [← rev_take (by omega)]; exact HO.out⟩
      have hm1 : ((m + 1 : Nat) : Int) - 1 = (m : Int) := by omega
      rw [hm1]
      generalize hx : kids[m] = x at *
      clear HO hcell h3 hm1 hx
      by_cases e1 : x = (nx : Int) - 1
      · subst e1
        by_cases e2 : nx = 0
        · subst e2
          go_wp2
          go_ret
          exact ⟨ret_bool (by rw [← HO'.out]; rfl), rfl⟩
        · obtain ⟨y, rfl⟩ : ∃ y, nx = y + 1 := ⟨nx - 1, by omega⟩
          have hy : ((y + 1 : Nat) : Int) - 1 = (y : Int) := by omega
          rw [hy] at hc HO'
          have hcf := hf y (by omega)
          have hly := hle y (by omega)
          have HO2 : Bx (orderGo fs (fs.getD y 0) (kids.take m).reverse = F) := ⟨by rw [← HO'.out, orderGo]; rw [if_pos ⟨by omega, by omega⟩]; simp⟩
          clear HO' hf hle
          generalize fs.getD y 0 = z at *
          go_wp2
          go_round
          case rel => exact ⟨m, z, by omega, by omega, rfl, by go_num, HO2⟩
          case measure => simp [intOf]
      · have e3 : (x != (nx : Int) - 1) = true := by rw [bne_iff_ne]; exact e1
        have HO2 : Bx (false = F) := ⟨by rw [← HO'.out, orderGo]; rw [if_neg (fun h => e1 h.1)]⟩
        clear HO' hf hle
        go_wp2
        go_ret
        exact ⟨ret_bool HO2.out, rfl⟩
end Go.Proofs.YtapmeidmmobpcaaDoor
