import Derived.Test.YtfdofdpfdimgiaaCGIb
namespace Go.Proofs.Ytfdofdpfdimgiaa
open Go.RowKit
set_option linter.unusedVariables false
set_option linter.unusedSimpArgs false

/-- all that stands about once a link is picked -/
structure KpP (w1 w4 Y : World) (p : Option Addr) (c : Nat) (s : List Ag) (L : List Lk) (x : Lk) : Prop where
  bel1 : Below w1.heap.size w1 Y
  bel4 : Below w4.heap.size w4 Y
  cel : ∀ X, Below Y.heap.size Y X → X.cell? ⟨w4.heap.size, 0, none⟩ = some (.int .i64 x.waker) ∧ X.cell? ⟨w4.heap.size, 1, none⟩ = some (.int .i64 x.woken) ∧ X.cell? ⟨w4.heap.size, 2, none⟩ = some (.int .i64 x.chan)
  tak : Calls Try.prog 21 #[.slice p s.length c, .agg #[.int .i64 x.waker, .int .i64 x.woken, .int .i64 x.chan]] Y fun e w' => ∃ tp tc, e = .returned (.tuple #[.slice tp s.length tc, .int .i64 0]) ∧ AgsR w' tp tc (s.map (tkA x)) ∧ Below Y.heap.size Y w'
  chk : ∀ W tp tc, AgsR W tp tc (s.map (tkA x)) → Calls Try.prog 12 #[.slice tp s.length tc] W fun e w' => e = .returned (.int .i64 0) ∧ Below W.heap.size W w'
  fit : ∀ W, Below w1.heap.size w1 W → Calls Try.prog 13 #[.slice p s.length c, .agg #[.int .i64 x.waker, .int .i64 x.woken, .int .i64 x.chan]] W fun e w' => e = .returned (.bool true) ∧ Below W.heap.size W w'
  one : ∀ q (hq : q < L.length), ∃ i, ∃ hi : i < s.length, L[q].woken = s[i].id ∧
    (∀ W tp tc, AgsR W tp tc (s.map (tkA x)) → Calls Try.prog 27 #[.slice tp s.length tc, .int .i64 L[q].woken] W fun e w' => e = .returned (.int .i64 i) ∧ w' = W) ∧
    ((tkA x s[i]).awake = false → ∀ W tp tc, AgsR W tp tc (s.map (tkA x)) → Calls Try.prog 13 #[.slice tp s.length tc, .agg #[.int .i64 L[q].waker, .int .i64 L[q].woken, .int .i64 L[q].chan]] W fun e w' => e = .returned (.bool true) ∧ Below W.heap.size W w')
theorem keeps_prep {w1 w4 Y : World} {p : Option Addr} {c : Nat} {s : List Ag} {L : List Lk} {x : Lk} (hs : AgsR w1 p c s) (hok : stOk s = true) (ht : totA s ≤ 2147483647) (hL : linksI s = L) (h14 : Below w1.heap.size w1 w4) (hx : x ∈ L)
    (hY : w4.alloc (.cells #[.int .i64 x.waker, .int .i64 x.woken, .int .i64 x.chan] 24) = Y) : KpP w1 w4 Y p c s L x := by
  subst hL
  have hbY : Below w4.heap.size w4 Y := by rw [← hY]; exact below1 _ _
  have h1Y := h14.trans (hbY.mono h14.size)
  have hkY : Y.heap[w4.heap.size]? = some (.cells #[.int .i64 x.waker, .int .i64 x.woken, .int .i64 x.chan] 24 (0, 0)) := by rw [← hY]; exact World.alloc_heap_new _ _
  have h64 := links_64 hs hok
  have hfx := link_fits hok hx
  have hlen : (s.map (tkA x)).length = s.length := List.length_map _
  have htk := took_ok x hok
  have htt := Nat.le_trans (took_tot (s := s) x) ht
  refine ⟨h1Y, hbY, fun X hX => ?_, Take_r Y p c s x (hs.later h1Y) ht hok (h64 x hx) hfx, fun W tp tc hW => ?_, fun W hW => ?_, fun q hq => ?_⟩
  · have e := (hX.block w4.heap.size (Array.getElem?_eq_some_iff.1 hkY).1).trans hkY
    exact ⟨cell_of e rfl, cell_of e rfl, cell_of e rfl⟩
  · have := Check_any W tp tc _ hW (few_of htt)
    rw [hlen, show chkI (s.map (tkA x)) = 0 by simp [chkI, htk]] at this
    exact this
  · have := Fits_yes W p c s x (hs.later hW) (few_of ht) (h64 x hx) hok
    rw [hfx] at this
    exact this
  · obtain ⟨i, hi, hw, _⟩ := link_parts hok (List.getElem_mem hq)
    refine ⟨i, hi, hw, fun W tp tc hW => ?_, fun hn W tp tc hW => ?_⟩
    · have := at_yes W tp tc _ hW i (by rw [hlen]; exact hi) (fun j hj e => by
        simp only [List.getElem_map, tkA_id] at e
        exact st_ids hok (by rw [hlen] at hj; exact hj) hi e)
      simp only [List.getElem_map, tkA_id, hlen] at this
      rw [hw]
      exact this
    · have := Fits_yes W tp tc _ _ hW (few_of htt) (h64 _ (List.getElem_mem hq)) htk
      rw [keeps hok (List.getElem_mem hq) hi hw hn, hlen] at this
      exact this
end Go.Proofs.Ytfdofdpfdimgiaa
