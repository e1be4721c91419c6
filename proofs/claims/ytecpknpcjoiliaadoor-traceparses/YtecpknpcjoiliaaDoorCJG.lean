import Derived.Test.YtecpknpcjoiliaaDoorCJF
namespace Go.Proofs.YtecpknpcjoiliaaDoor
open Go.RowKit
set_option linter.unusedVariables false
set_option linter.unusedSimpArgs false

theorem tsh_lt (k : Int) : (tsh k).2.1 < 32 := by
  unfold tsh tshT
  match k.toNat - 1 with
  | 0 => decide
  | 1 => decide
  | 2 => decide
  | 3 => decide
  | 4 => decide
  | 5 => decide
  | 6 => decide
  | 7 => decide
  | 8 => decide
  | 9 => decide
  | 10 => decide
  | n + 11 => simp [noTsh]
/-- an event in a box, and a shape in a box somewhere behind it -/
structure Bxt (w W : World) (H G : Nat) (s : TSh) (e : Ev) (v : Value) : Prop where
  bel : Below H w W
  sz : H < W.heap.size
  ev : W.heap[H]? = some (evB e v)
  gt : H < G
  sh : W.heap[G]? = some (shB s)
theorem Bxt.on {w W W' : World} {H G : Nat} {s : TSh} {e : Ev} {v : Value} (h : Bxt w W H G s e v) (hb : Below W.heap.size W W') : Bxt w W' H G s e v := by
  have hz := h.sz
  exact ⟨h.bel.trans (hb.mono (by omega)), Nat.lt_of_lt_of_le hz hb.size, below_heap hb h.ev, h.gt, below_heap hb h.sh⟩
def chkE (e : Ev) : Int := if evOk e then 0 else 180
set_option maxRecDepth 100000 in
set_option maxHeartbeats 4000000 in
theorem Check_any (e : Ev) (a : Option Addr) (cap : Nat) (w : World) (hL : Shp w) (hi : IntsV w w.heap.size a cap e.list) :
    Calls Tryd.prog 10 #[evW8 e (.slice a e.list.length cap)] w fun e' w' => e' = .returned (.int .i64 (chkE e)) ∧ Below w.heap.size w w' := by
  obtain ⟨H, hH⟩ : ∃ H, w.heap.size = H := ⟨_, rfl⟩
  rw [hH] at hi ⊢
  obtain ⟨v, hv⟩ : ∃ v, v = Value.slice a e.list.length cap := ⟨_, rfl⟩
  have hv1 : v.oneCell' = true := by rw [hv]; rfl
  obtain ⟨W1, hW1⟩ : ∃ W1, w.alloc (evB e v) = W1 := ⟨_, rfl⟩
  have hb1 : Below H w W1 := by rw [← hW1, ← hH]; exact below1 _ _
  have he1 : W1.heap[H]? = some (evB e v) := by rw [← hW1]; exact heap_newH w _ H hH
  have hz1 := heap_lt he1
  have hs1 : Shp W1 := hL.below (by rw [hH]; exact hb1)
  obtain ⟨q0, q1, q2, q3, q4, q5, q6, q7⟩ := evB_cells he1
  have HB1 : Bx (Below H w W1) := ⟨hb1⟩
  have HE1 : Bx (W1.heap[H]? = some (evB e v)) := ⟨he1⟩
  by_cases hk : 1 ≤ e.kind ∧ e.kind ≤ 11
  · obtain ⟨s, hs⟩ : ∃ s, s = tsh e.kind := ⟨_, rfl⟩
    have hlt : s.2.1 < 32 := by rw [hs]; exact tsh_lt _
    have HSO : Bx (Calls Tryd.prog 23 #[.int .i64 e.kind] W1 fun e' w' => e' = .returned (.tuple #[shV s, .bool true]) ∧ Below W1.heap.size W1 w') := ⟨by rw [hs]; exact shapeOf_yes e.kind W1 hs1 hk⟩
    have HPF : Bx (∀ W G, Bxt w W H G s e v → Calls Tryd.prog 24 #[shV s, evW8 e v] W fun e' w' => e' = .returned (.bool (plOk s.2.1 0 (plL e))) ∧ Bxt w w' H G s e v) := ⟨fun W G hx => (placesFit_any s e v hv1 W hlt).mono fun e' w' h => ⟨h.1, hx.on h.2⟩⟩
    have HTF : Bx (∀ W G, Bxt w W H G s e v → Calls Tryd.prog 25 #[shV s, evW8 e v] W fun e' w' => e' = .returned (.bool (tlOk s.2.2 e.num e.list)) ∧ Bxt w w' H G s e v) := ⟨fun W G hx => by
      rw [hv]
      refine (tailFits_any s e a cap W ((hi.below hx.bel).up (by have := hx.sz; omega))).mono fun e' w' h => ⟨h.1, ?_⟩
      rw [← hv]; exact hx.on h.2⟩
    have hC : chkE e = if plOk s.2.1 0 (plL e) && tlOk s.2.2 e.num e.list then 0 else 180 := by
      unfold chkE evOk
      rw [decide_eq_true hk.1, decide_eq_true hk.2, hs]
      rfl
    have HN : Bx (∀ W2, Below W1.heap.size W1 W2 → Bxt w (W2.alloc (shB s)) H W2.heap.size s e v) := ⟨fun W2 hb => by
      have hz2 := hb.size
      refine ⟨HB1.out.trans ((hb.trans ((below1 W2 _).mono hz2)).mono (by omega)), by simp; omega, ?_, by omega, heap_newH _ _ _ rfl⟩
      rw [Below.heap_alloc _ _ _ (by omega)]
      exact below_heap hb HE1.out⟩
    rw [hC]
    have hHv : Value.slice a e.list.length cap = v := hv.symm
    rw [hHv]
    clear hC hi hL hs1 he1 hb1 hv hHv hs q1 q2 q3 q4 q5 q6 q7
    generalize plOk s.2.1 0 (plL e) = b1 at *
    generalize tlOk s.2.2 e.num e.list = b2 at *
    cases b1
    · rw [show (if (false && b2) = true then (0 : Int) else 180) = 180 from by simp]
      go_enter Tryd.func10, Tryd.ntmps10
      go_wp2_with (first
        | (go_at_call 23; refine HSO.out.mono ?_; rintro e1 W2 ⟨rfl, hb2⟩; have HB2 : Bx _ := ⟨HN.out W2 hb2⟩; obtain ⟨z0, z1, z2⟩ := shB_cells HB2.out.sh; obtain ⟨q0, q1, q2, q3, q4, q5, q6, q7⟩ := evB_cells HB2.out.ev; clear hb2)
        | (go_at_call 24; refine (HPF.out _ _ HB2.out).mono ?_; rintro e1 W3 ⟨rfl, hb3⟩; have HB3 : Bx _ := ⟨hb3⟩; obtain ⟨y0, y1, y2⟩ := shB_cells hb3.sh; obtain ⟨x0, x1, x2, x3, x4, x5, x6, x7⟩ := evB_cells hb3.ev; clear hb3 HB2 z0 z1 z2 q0 q1 q2 q3 q4 q5 q6 q7))
      go_ret
      exact ⟨rfl, HB3.out.bel⟩
    · cases b2
      · rw [show (if (true && false) = true then (0 : Int) else 180) = 180 from by simp]
        go_enter Tryd.func10, Tryd.ntmps10
        go_wp2_with (first
          | (go_at_call 23; refine HSO.out.mono ?_; rintro e1 W2 ⟨rfl, hb2⟩; have HB2 : Bx _ := ⟨HN.out W2 hb2⟩; obtain ⟨z0, z1, z2⟩ := shB_cells HB2.out.sh; obtain ⟨q0, q1, q2, q3, q4, q5, q6, q7⟩ := evB_cells HB2.out.ev; clear hb2)
          | (go_at_call 24; refine (HPF.out _ _ HB2.out).mono ?_; rintro e1 W3 ⟨rfl, hb3⟩; have HB3 : Bx _ := ⟨hb3⟩; obtain ⟨y0, y1, y2⟩ := shB_cells hb3.sh; obtain ⟨x0, x1, x2, x3, x4, x5, x6, x7⟩ := evB_cells hb3.ev; clear hb3 HB2 z0 z1 z2 q0 q1 q2 q3 q4 q5 q6 q7)
          | (go_at_call 25; refine (HTF.out _ _ HB3.out).mono ?_; rintro e1 W4 ⟨rfl, hb4⟩; have HB4 : Bx _ := ⟨hb4⟩; clear hb4 HB3 x0 x1 x2 x3 x4 x5 x6 x7 y0 y1 y2))
        go_ret
        exact ⟨rfl, HB4.out.bel⟩
      · rw [show (if (true && true) = true then (0 : Int) else 180) = 0 from by simp]
        go_enter Tryd.func10, Tryd.ntmps10
        go_wp2_with (first
          | (go_at_call 23; refine HSO.out.mono ?_; rintro e1 W2 ⟨rfl, hb2⟩; have HB2 : Bx _ := ⟨HN.out W2 hb2⟩; obtain ⟨z0, z1, z2⟩ := shB_cells HB2.out.sh; obtain ⟨q0, q1, q2, q3, q4, q5, q6, q7⟩ := evB_cells HB2.out.ev; clear hb2)
          | (go_at_call 24; refine (HPF.out _ _ HB2.out).mono ?_; rintro e1 W3 ⟨rfl, hb3⟩; have HB3 : Bx _ := ⟨hb3⟩; obtain ⟨y0, y1, y2⟩ := shB_cells hb3.sh; obtain ⟨x0, x1, x2, x3, x4, x5, x6, x7⟩ := evB_cells hb3.ev; clear hb3 HB2 z0 z1 z2 q0 q1 q2 q3 q4 q5 q6 q7)
          | (go_at_call 25; refine (HTF.out _ _ HB3.out).mono ?_; rintro e1 W4 ⟨rfl, hb4⟩; have HB4 : Bx _ := ⟨hb4⟩; clear hb4 HB3 x0 x1 x2 x3 x4 x5 x6 x7 y0 y1 y2))
        go_ret
        exact ⟨rfl, HB4.out.bel⟩
  · have HSO : Bx (Calls Tryd.prog 23 #[.int .i64 e.kind] W1 fun e' w' => e' = .returned (.tuple #[.agg #[strV [], .int .i64 0, .int .i64 0], .bool false]) ∧ Below W1.heap.size W1 w') := ⟨shapeOf_no e.kind W1 (by omega)⟩
    have hC : chkE e = 180 := by
      unfold chkE evOk
      by_cases h1 : 1 ≤ e.kind
      · rw [decide_eq_false (show ¬ e.kind ≤ 11 by omega)]; simp
      · rw [decide_eq_false h1]; simp
    have HN : Bx (∀ W2 o, Below W1.heap.size W1 W2 → Below H w (W2.alloc o)) := ⟨fun W2 o hb => HB1.out.trans ((hb.trans ((below1 W2 _).mono hb.size)).mono (by omega))⟩
    rw [hC]
    have hHv : Value.slice a e.list.length cap = v := hv.symm
    rw [hHv]
    clear hC hi hL hs1 he1 hb1 hv hHv q1 q2 q3 q4 q5 q6 q7 hk
    go_enter Tryd.func10, Tryd.ntmps10
    go_wp2_with (go_at_call 23; refine HSO.out.mono ?_; rintro e1 W2 ⟨rfl, hb2⟩; have HB2 : Bx _ := ⟨hb2⟩; clear hb2)
    go_ret
    exact ⟨rfl, HN.out _ _ HB2.out⟩
end Go.Proofs.YtecpknpcjoiliaaDoor
