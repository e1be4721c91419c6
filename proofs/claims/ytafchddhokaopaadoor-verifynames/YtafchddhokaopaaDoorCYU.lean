import Derived.Test.YtafchddhokaopaaDoorCYT
namespace Go.Proofs.YtafchddhokaopaaDoor
open Go.RowKit
set_option linter.unusedVariables false
set_option linter.unusedSimpArgs false

set_option maxRecDepth 100000 in
set_option maxHeartbeats 4000000 in
theorem wrongWay_ex (w : World) (hV : VW w) (pb cb : Nat) (l : List (Int × Int)) (hE : l = exA ∨ l = exB ∨ l = exC) (hU : UE w pb cb l) : Calls Tryd.prog 22 #[unE pb] w fun e w' => e = .returned (.tuple #[.int .i64 0, .int .i64 (if l = exB then 1 else 0), .int .i64 (if l = exB then 94 else 0)]) ∧ Below w.heap.size w w' := by
  obtain ⟨n, hn⟩ : ∃ n, l.length = n := ⟨_, rfl⟩
  obtain ⟨H, hH⟩ : ∃ H, w.heap.size = H := ⟨_, rfl⟩
  have hn3 : n ≤ 3 := hn ▸ hU.len
  have hn0 : 0 < n := hn ▸ hU.pos
  have hpl : pb < H := hH ▸ hU.lt.1
  obtain ⟨w0, hw0⟩ : ∃ w0, w.alloc (.cells #[.slice (some ⟨pb, 0, none⟩) 1 1, .slice none 0 0] 25) = w0 := ⟨_, rfl⟩
  have b0 : Below H w w0 := by rw [← hw0, ← hH]; exact below1 w _
  have s0 : w0.heap.size = H + 1 := by rw [← hw0]; simp [hH]
  have q0 : w0.heap[H]? = some (.cells #[.slice (some ⟨pb, 0, none⟩) 1 1, .slice none 0 0] 25 (0, 0)) := by rw [← hw0, ← hH]; exact heap_alloc_new w _
  have e0 : w0.cell? ⟨H, 0, none⟩ = some (.slice (some ⟨pb, 0, none⟩) 1 1) := (cell_of_row w0 _ 0 _ _ _ q0).trans rfl
  have hlt0 : H < w0.heap.size := by omega
  obtain ⟨p0, p1, p2, p3, p4⟩ := (hU.below (hH ▸ b0)).prog hn
  have hpl0 : pb < w0.heap.size := by omega
  have HN : Bx (∀ o, Calls Tryd.prog 27 #[.int .i64 n] (w0.alloc o) fun e w' => ∃ wb kb db eb dc, e = .returned (.pointer (some ⟨wb, 0, none⟩)) ∧ w'.cell? ⟨H, 0, none⟩ = some (.slice (some ⟨pb, 0, none⟩) 1 1) ∧ w'.cell? ⟨pb, 0, none⟩ = some (.int .i64 0) ∧ w'.cell? ⟨pb, 1, none⟩ = some (.int .i64 1) ∧ w'.cell? ⟨pb, 2, none⟩ = some (.int .i64 2) ∧ w'.cell? ⟨pb, 3, none⟩ = some (.bool false) ∧ w'.cell? ⟨pb, 4, none⟩ = some (.slice (some ⟨cb, 0, none⟩) n n) ∧ pb < w'.heap.size ∧ Bx (∀ o2, Calls Tryd.prog 28 #[.pointer (some ⟨wb, 0, none⟩), .agg #[.int .i64 0, .int .i64 1, .int .i64 2, .bool false, .slice (some ⟨cb, 0, none⟩) n n]] (w'.alloc o2) fun e w'' => e = .returned (.tuple #[.int .i64 (if l = exB then 1 else 0), .int .i64 (if l = exB then 94 else 0)]) ∧ Bx (Below H w w''))) := ⟨fun o => by
    refine (newWalker_any (w0.alloc o) n hn0 hn3).mono ?_
    rintro e w' ⟨wb, kb, db, eb, dc, rfl, hh⟩
    obtain ⟨h1, h2, g1, g2, g3, g4⟩ := hh.out
    have sa : (w0.alloc o).heap.size = H + 2 := by simp [s0]
    rw [sa] at h2 g1 g2 g3 g4
    have b1 : Below (H + 1) w0 (w0.alloc o) := s0 ▸ below1 w0 o
    have hbw : Below H w w' := b0.trans ((b1.mono (by omega)).trans (h2.mono (by omega)))
    obtain ⟨y0, y1, y2, y3, y4⟩ := (hU.below (hH ▸ hbw)).prog hn
    have hs := hbw.size
    have hq := ((h2.block H (by omega)).trans (b1.block H (by omega))).trans q0
    refine ⟨wb, kb, db, eb, dc, rfl, (cell_of_row w' _ 0 _ _ _ hq).trans rfl, y0, y1, y2, y3, y4, by omega, ⟨fun o2 => ?_⟩⟩
    have b9 := below1 w' o2
    refine Calls.mono (follow_ex (w0 := w) (w := w'.alloc o2) (pb := pb) hU hV hn hE (h1.fx (Fx.no b9) id id id id) (hH ▸ hbw.trans (b9.mono (by omega))) (by omega) (by omega) (by omega) (by omega)) ?_
    rintro e w'' ⟨rfl, hf⟩
    exact ⟨rfl, ⟨hH ▸ hf.out.1⟩⟩⟩
  rw [hH]
  clear hU hV q0 hn
  go_enter Tryd.func22, Tryd.ntmps22
  go_wp2
  refine wp_loop_rounds 2 ?_
  rw [rounds_succ]
  go_wp2
  rw [rounds_succ]
  go_wp2_with (first
    | (go_at_call 27; refine (HN.out _).mono ?_; rintro e w2 ⟨wb, kb, db, eb, dc, rfl, k0, y0, y1, y2, y3, y4, hpl2, HFO⟩))
  refine wp_loop_rounds 2 ?_
  rw [rounds_succ]
  by_cases hB : l = exB
  · simp only [if_pos hB] at HFO ⊢
    clear p0 p1 p2 p3 p4 e0 HN hE
    go_wp2_with (first
      | (go_at_call 28; refine (HFO.out _).mono ?_; rintro e w3 ⟨rfl, HB3⟩))
    go_returns
    exact ⟨rfl, HB3.out⟩
  · simp only [if_neg hB] at HFO ⊢
    clear p0 p1 p2 p3 p4 e0 HN hE
    go_wp2_with (first
      | (go_at_call 28; refine (HFO.out _).mono ?_; rintro e w3 ⟨rfl, HB3⟩))
    rw [rounds_succ]
    go_wp2
    go_returns
    exact ⟨rfl, HB3.out⟩
end Go.Proofs.YtafchddhokaopaaDoor
