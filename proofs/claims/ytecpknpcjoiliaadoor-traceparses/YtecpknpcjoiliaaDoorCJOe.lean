import Derived.Test.YtecpknpcjoiliaaDoorCJO0
import Derived.Test.YtecpknpcjoiliaaDoorCJO1
import Derived.Test.YtecpknpcjoiliaaDoorCJO2
import Derived.Test.YtecpknpcjoiliaaDoorCJO3
import Derived.Test.YtecpknpcjoiliaaDoorCJO4
namespace Go.Proofs.YtecpknpcjoiliaaDoor
open Go.RowKit Go.Shelf
set_option linter.unusedVariables false
set_option linter.unusedSimpArgs false

theorem tail_le (k : Int) : (tsh k).2.2 ≤ 4 := by
  unfold tsh tshT
  match k.toNat - 1 with
  | 0 => decide
  | 1 => decide
  | 2 => decide
  | 3 => decide
  | 4 => decide
  | 5 => decide
  | 6 => decide
  | 7 => decide
  | 8 => decide
  | 9 => decide
  | 10 => decide
  | n + 11 => simp [noTsh]
set_option maxRecDepth 100000 in
set_option maxHeartbeats 4000000 in
theorem eventOf_none (tx : List UInt8) (w : World) (hL : LW w) (hl : tx.length ≤ 8796093022000) (hk0 : tkind (pieces 32 tx).1 = 0) :
    Calls Tryd.prog 36 #[strV tx] w (EvP w (evOf tx)) := by
  obtain ⟨Q, hQ⟩ : ∃ Q, Q = EvP w (evOf tx) := ⟨_, rfl⟩
  rw [← hQ]
  obtain ⟨H, hH⟩ : ∃ H, w.heap.size = H := ⟨_, rfl⟩
  obtain ⟨wd, hwd⟩ : ∃ wd, wd = (pieces 32 tx).1 := ⟨_, rfl⟩
  obtain ⟨ws, hws⟩ : ∃ ws, ws = (pieces 32 tx).2 := ⟨_, rfl⟩
  have hres : evOf tx = none := by unfold evOf evW; rw [if_pos hk0]
  rw [hres] at hQ
  have hno := pieces_no 32 tx
  have hjo := pieces_join 32 tx
  rw [← hwd] at hk0 hno hjo
  rw [← hws] at hno hjo
  have hjw : joinP (wd :: ws) = tx := hjo
  have HQ : Bx (∀ W, Below H w W → Q (.returned (.tuple #[evW8 noEv (.slice none 0 0), .bool false])) W) := ⟨fun W hb => by rw [hQ]; exact ⟨⟨by rw [hH]; exact hb⟩, noEv, none, 0, 0, rfl⟩⟩
  obtain ⟨W2, hW2⟩ : ∃ W2, (w.alloc (.cells #[.int .i64 0, .int .i64 0, .int .i64 0, .int .i64 0, .int .i64 0, .int .i64 0, .int .i64 0, .slice none 0 0] 24 (0, 0))).alloc (.cells #[strV tx, .bool false, .bool false] 69 (0, 0)) = W2 := ⟨_, rfl⟩
  have hb2 : Below H w W2 := by rw [← hW2, ← hH]; exact (below1 _ _).alloc (by simp) _
  have hr2 : W2.heap[H]? = some (evB noEv (.slice none 0 0)) := by
    rw [← hW2, Below.heap_alloc _ _ _ (by simp; omega)]
    exact heap_newH w _ H hH
  have hl2 : W2.heap[H + 1]? = some (lnB tx false false) := by
    rw [← hW2]
    exact heap_newH _ _ _ (by simp [hH])
  have HLS : Bx (∀ W, Below H w W → Shp W) := ⟨fun W hb => hL.shp.below (by rw [hH]; exact hb)⟩
  have HWD : Bx (Calls Tryd.prog 46 #[.pointer (some ⟨H + 1, 0, none⟩)] W2 fun e w' => e = .returned (strV wd) ∧ (Below H w w' ∧ w'.heap[H]? = some (evB noEv (.slice none 0 0)))) := ⟨by
    refine (word_any W2 (H + 1) (wd :: ws) false ⟨⟨false, by rw [hjw]; exact hl2⟩, fun p hp => ?_, by rw [hjw]; omega⟩).mono fun e w' ⟨h1, h2⟩ => ⟨h1, hb2.trans (h2.out.1.below (by have := heap_lt hr2; omega) (fun x hx => by omega)), h2.out.1.at_ hr2 (by omega)⟩
    rcases List.mem_cons.1 hp with rfl | hp
    · exact hno.1
    · exact hno.2 p hp⟩
  have HKD : Bx (∀ W, Below H w W → Calls Tryd.prog 45 #[strV wd] W fun e w' => e = .returned (.int .i64 0) ∧ Below W.heap.size W w') := ⟨fun W hb => by have := kindOf_any wd W (HLS.out W hb); rw [hk0] at this; exact this⟩
  have HSO : Bx (∀ W, Calls Tryd.prog 23 #[.int .i64 0] W fun e w' => e = .returned (.tuple #[.agg #[strV [], .int .i64 0, .int .i64 0], .bool false]) ∧ Below W.heap.size W w') := ⟨fun W => shapeOf_no 0 W (by omega)⟩
  have HEN : Bx (∀ W W2 v, Below H w W → W.heap[H]? = some (evB noEv (.slice none 0 0)) → W2 = (W.alloc v) → W2.heap[H]? = some (evB noEv (.slice none 0 0)) ∧ Below H w W2) := ⟨fun W W2 v hb hr e => by
    subst e
    have hz := heap_lt hr
    exact ⟨below_heap (below1 W v) hr, hb.trans ((below1 W v).mono (by omega))⟩⟩
  clear hQ hL hwd hws hno hjo hjw hb2 hr2 hl2 hl hk0 hres
  subst hW2
  go_enter Tryd.func36, Tryd.ntmps36
  go_wp2_with (first
    | (go_at_call 46; refine HWD.out.mono ?_; rintro e1 w3 ⟨rfl, hb3, hr3⟩; have HB3 : Bx _ := ⟨hb3⟩; have HR3 : Bx _ := ⟨hr3⟩; clear hb3 hr3)
    | (go_at_call 45; refine (HKD.out _ HB3.out).mono ?_; rintro e1 w4 ⟨rfl, hb4⟩; have hz3 := heap_lt HR3.out; have HB4 : Bx (Below H w w4) := ⟨HB3.out.trans (hb4.mono (by omega))⟩; have HR4 : Bx _ := ⟨below_heap hb4 HR3.out⟩; clear hb4 HB3 HR3)
    | (go_at_call 23; refine (HSO.out _).mono ?_; rintro e1 w5 ⟨rfl, hb5⟩; have hz4 := heap_lt HR4.out; have HB5 : Bx (Below H w w5) := ⟨HB4.out.trans (hb5.mono (by omega))⟩; have HR5 : Bx _ := ⟨below_heap hb5 HR4.out⟩; have HE5 : Bx _ := ⟨HEN.out w5 _ (.cells #[.string ⟨#[]⟩, .int .i64 0, .int .i64 0] 45 (0, 0)) HB5.out HR5.out rfl⟩; obtain ⟨p0, p1, p2, p3, p4, p5, p6, p7⟩ := evB_cells HE5.out.1; have f0 := evB_frz HE5.out.1 0; have f1 := evB_frz HE5.out.1 1; have f2 := evB_frz HE5.out.1 2; have f3 := evB_frz HE5.out.1 3; have f4 := evB_frz HE5.out.1 4; have f5 := evB_frz HE5.out.1 5; have f6 := evB_frz HE5.out.1 6; have f7 := evB_frz HE5.out.1 7; clear hb5 HB4 HR4))
  have hn := evB_cells (st8_blk HE5.out.1 noEv (.slice none 0 0))
  have HK : Bx _ := ⟨st8_kx (w5.alloc (.cells #[.string ⟨#[]⟩, .int .i64 0, .int .i64 0] 45 (0, 0))) H noEv (.slice none 0 0)⟩
  have hz6 := heap_lt HE5.out.1
  have HF : Bx _ := ⟨HQ.out _ (HE5.out.2.trans (HK.out.below (by omega) (fun x hx => by omega)))⟩
  clear HK HE5 p0 p1 p2 p3 p4 p5 p6 p7 f0 f1 f2 f3 f4 f5 f6 f7
  simp only [st8, noEv] at hn HF
  obtain ⟨n0, n1, n2, n3, n4, n5, n6, n7⟩ := hn
  exact bodyPost_ret (v := .tuple #[.agg #[.int .i64 0, .int .i64 0, .int .i64 0, .int .i64 0, .int .i64 0, .int .i64 0, .int .i64 0, .slice none 0 0], .bool false]) (by simp [results, Tryd.results36, go_sem, n0, n1, n2, n3, n4, n5, n6, n7]) rfl HF.out
theorem eventOf_any (tx : List UInt8) (w : World) (hL : LW w) (hl : tx.length ≤ 8796093022000) : Calls Tryd.prog 36 #[strV tx] w (EvP w (evOf tx)) := by
  by_cases hk : tkind (pieces 32 tx).1 = 0
  · exact eventOf_none tx w hL hl hk
  · have ht := tail_le (tkind (pieces 32 tx).1)
    have : (tsh (tkind (pieces 32 tx).1)).2.2 = 0 ∨ (tsh (tkind (pieces 32 tx).1)).2.2 = 1 ∨ (tsh (tkind (pieces 32 tx).1)).2.2 = 2 ∨ (tsh (tkind (pieces 32 tx).1)).2.2 = 3 ∨ (tsh (tkind (pieces 32 tx).1)).2.2 = 4 := by omega
    rcases this with h | h | h | h | h
    · exact eventOf_0 tx w hL hl hk h
    · exact eventOf_1 tx w hL hl hk h
    · exact eventOf_2 tx w hL hl hk h
    · exact eventOf_3 tx w hL hl hk h
    · exact eventOf_4 tx w hL hl hk h
end Go.Proofs.YtecpknpcjoiliaaDoor
