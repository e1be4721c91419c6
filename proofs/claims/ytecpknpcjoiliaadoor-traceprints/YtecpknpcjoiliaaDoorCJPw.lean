import Derived.Test.YtecpknpcjoiliaaDoorCJLf
import Derived.Test.YtecpknpcjoiliaaDoorCJLh
import Derived.Test.YtecpknpcjoiliaaDoorCJTb
import Derived.Test.YtecpknpcjoiliaaDoorCJSh
import Derived.Test.YtecpknpcjoiliaaDoorCJRg
namespace Go.Proofs.YtecpknpcjoiliaaDoor
open Go.RowKit Go.Shelf
set_option linter.unusedVariables false
set_option linter.unusedSimpArgs false

/-- what is asked of events that are lent -/
structure Ask (H : Nat) (w Y1 : World) (n : Nat) (a : Option Addr) (cap : Nat) (T : ByteArray) (E : Int) (aa : Option Addr) (ca : Nat) (vl : Value) : Prop where
  size : H ≤ Y1.heap.size
  bel : Below H w Y1
  room : n ≤ ca
  print : ∀ Y2, Below Y1.heap.size Y1 Y2 → ∀ Z, Below Y2.heap.size Y2 Z → Calls Tryd.prog 14 #[.slice aa n ca] Z fun e w' => e = .returned (.tuple #[.string T, .int .i64 E]) ∧ Bx (Below Y2.heap.size Y2 w')
  refp : ∀ Y2, Below Y1.heap.size Y1 Y2 → ∀ Z, Below Y2.heap.size Y2 Z → Calls Tryd.prog 15 #[.slice a n cap] Z fun e w' => e = .returned (.tuple #[.string T, .int .i64 E]) ∧ Bx (Below Y2.heap.size Y2 w')
  still : ∀ Y2, Below Y1.heap.size Y1 Y2 → ∀ Z, Below Y2.heap.size Y2 Z → Calls Tryd.prog 16 #[.agg #[.slice aa (n + 1) ca, vl], .slice a n cap] Z fun e w' => e = .returned (.bool true) ∧ Bx (Below Y2.heap.size Y2 w')
  wipe : ∀ Y2, Below Y1.heap.size Y1 Y2 → ∀ Z, Below Y2.heap.size Y2 Z → Calls Tryd.prog 17 #[.agg #[.slice aa (n + 1) ca, vl]] Z fun e w' => e = .returned (.tuple #[]) ∧ Bx (Below H w w')
theorem tot_list {es : List Ev} (ht : totE es ≤ 8796093022000) : ∀ e ∈ es, e.list.length ≤ 8796093022000 := fun e he => by
  obtain ⟨i, hi, rfl⟩ := List.mem_iff_getElem.1 he
  have := totE_at hi
  omega
set_option maxRecDepth 100000 in
set_option maxHeartbeats 2000000 in
theorem lend_ask (w : World) (H : Nat) (hH : w.heap.size = H) (hL : LW w) (a : Option Addr) (cap : Nat) (es : List Ev) (hp : EvsV w H a es) (hw : ∀ e ∈ es, e.Wf) (ht : totE es ≤ 8796093022000) (Y : World) (hY : Below H w Y) :
    Calls Tryd.prog 13 #[.slice a es.length cap] Y fun e w' => ∃ aa ca a2 n2 c2, e = .returned (.agg #[.slice aa (es.length + 1) ca, .slice a2 n2 c2]) ∧ Bx (Ask H w w' es.length a cap ⟨(printE es).1.toArray⟩ (printE es).2 aa ca (.slice a2 n2 c2)) := by
  have hz := hY.size
  have hlen := totE_len es
  refine (lend_any Y a cap es ((hp.below hY).up (by omega)) ht).mono ?_
  rintro e Y1 ⟨va, vl, gs, rfl, hB⟩
  obtain ⟨hb, hLt⟩ := hB.out
  obtain ⟨a2, n2, c2, rfl⟩ := owns_slice hLt.row
  obtain ⟨aa, an, ca, rfl⟩ := owns_slice hLt.evo.row
  have hga : an = es.length + 1 ∧ es.length + 1 ≤ ca := by
    rcases hLt.evo.row.2 with ⟨_, q⟩ | ⟨g, cap, cur, q, _, _, q3, q4, _⟩
    · simp at q
    · simp only [Value.slice.injEq] at q
      rw [List.length_append] at q3
      obtain ⟨q5, q6, q7⟩ := q
      exact ⟨by simpa using q6, by rw [q7]; exact q3⟩
  obtain ⟨rfl, hca⟩ := hga
  have hs1 := hb.size
  have hw1 : Below H w Y1 := hY.trans (hb.mono (by omega))
  have hp1 : EvsV Y1 H a es := hp.below hw1
  have hv1 := evs_pre (hLt.evo.view).2
  refine ⟨aa, ca, a2, n2, c2, rfl, ⟨⟨by omega, hw1, by omega, fun Y2 h2 Z hZ => ?_, fun Y2 h2 Z hZ => ?_, fun Y2 h2 Z hZ => ?_, fun Y2 h2 Z hZ => ?_⟩⟩⟩
  all_goals
    have hs2 := h2.size
    have hs3 := hZ.size
    have h1Z : Below Y1.heap.size Y1 Z := h2.trans (hZ.mono (by omega))
    have hwZ : Below H w Z := hw1.trans (h1Z.mono (by omega))
  · exact (Print_any Z (hL.below (by rw [hH]; exact hwZ)) aa ca es ((hv1.below h1Z).up (by omega)) hw ht).mono fun e w' h => ⟨h.1, ⟨hZ.trans (h.2.out.mono (by omega))⟩⟩
  · exact (rPrint_any Z a cap es ((hp.below hwZ).up (by omega)) hw ht).mono fun e w' h => ⟨h.1, ⟨hZ.trans (h.2.out.mono (by omega))⟩⟩
  · exact (still_any Z (Y.heap.size + 2) es _ _ gs (hLt.on fun y _ hy => h1Z.block y hy) a cap ((hp.below hwZ).up (by omega)) (by omega) (tot_list ht)).mono fun e w' h => ⟨h.1, ⟨hZ.trans (h.2.mono (by omega))⟩⟩
  · have hY2 : Y.heap.size + 2 ≤ Z.heap.size := by
      rcases hLt.evo.row.2 with ⟨_, q⟩ | ⟨g, cap, cur, q, hBg, hg, _⟩
      · simp at q
      · have := heap_lt hg
        omega
    exact (wipe_any Z (Y.heap.size + 2) es _ _ gs (hLt.on fun y _ hy => h1Z.block y hy) hY2 (by omega) (tot_list ht)).mono fun e w' h => ⟨h.1, ⟨hwZ.trans (h.2.mono (by omega))⟩⟩
set_option maxRecDepth 100000 in
set_option maxHeartbeats 8000000 in
theorem prints_walk (w : World) (a1 : Option Addr) (cap1 : Nat) (es1 : List Ev) (hp1 : EvsV w w.heap.size a1 es1) (hw1 : ∀ e ∈ es1, e.Wf) (a2 : Option Addr) (cap2 : Nat) (es2 : List Ev) (hp2 : EvsV w w.heap.size a2 es2) (hw2 : ∀ e ∈ es2, e.Wf) (hL : LW w) :
    Calls Tryd.prog 4 #[.slice a1 es1.length cap1, .slice a2 es2.length cap2] w fun e w' => e = .returned (.bool true) ∧ Below w.heap.size w w' := by
  obtain ⟨Q, hQ⟩ : ∃ Q : Ending → World → Prop, Q = fun e w' => e = .returned (.bool true) ∧ Below w.heap.size w w' := ⟨_, rfl⟩
  rw [← hQ]
  obtain ⟨H, hH⟩ : ∃ H, w.heap.size = H := ⟨_, rfl⟩
  have HQ : Bx (∀ W, Below H w W → Q (.returned (.bool true)) W) := ⟨fun W hb => by rw [hQ, hH]; exact ⟨rfl, hb⟩⟩
  have HB1 : Bx _ := ⟨beyond_any w a1 cap1 es1 hp1⟩
  have HB2 : Bx _ := ⟨beyond_any w a2 cap2 es2 hp2⟩
  by_cases hb1 : 2147483647 < totB es1
  · rw [decide_eq_true hb1] at HB1
    have HE := HQ.out w (Below.refl _ _)
    clear hQ hp1 hp2 hw1 hw2 hL HB2
    generalize es1.length = n1 at *
    generalize es2.length = n2 at *
    go_enter Tryd.func4, Tryd.ntmps4
    go_wp2_with (go_at_call 12; refine HB1.out.mono ?_; rintro e w1 ⟨rfl, rfl⟩)
    exact HE
  · rw [decide_eq_false hb1] at HB1
    by_cases hb2 : 2147483647 < totB es2
    · rw [decide_eq_true hb2] at HB2
      have HE : Bx _ := ⟨HQ.out w (Below.refl _ _)⟩
      clear hQ hp1 hp2 hw1 hw2 hL
      generalize es1.length = n1 at *
      generalize es2.length = n2 at *
      go_enter Tryd.func4, Tryd.ntmps4
      go_wp2_with (first
        | (go_at_call 12; refine HB1.out.mono ?_; rintro e w1 ⟨rfl, rfl⟩; clear HB1)
        | (go_at_call 12; refine HB2.out.mono ?_; rintro e w1 ⟨rfl, rfl⟩))
      exact HE.out
    · rw [decide_eq_false hb2] at HB2
      have hl1 := totB_len es1
      have hl2 := totB_len es2
      have t1 := totB_E es1
      have t2 := totB_E es2
      rw [hH] at hp1 hp2
      have HSH : Bx (Calls Tryd.prog 9 #[] w fun e w' => e = .returned (.bool true) ∧ Bx (Below H w w')) := ⟨(shown_any w hL).mono fun e w' h => ⟨h.1, ⟨by rw [← hH]; exact h.2.out⟩⟩⟩
      have HA1 : Bx (∀ Y, Below H w Y → Calls Tryd.prog 13 #[.slice a1 es1.length cap1] Y _) := ⟨fun Y hY => lend_ask w H hH hL a1 cap1 es1 hp1 hw1 (by omega) Y hY⟩
      have HA2 : Bx (∀ Y, Below H w Y → Calls Tryd.prog 13 #[.slice a2 es2.length cap2] Y _) := ⟨fun Y hY => lend_ask w H hH hL a2 cap2 es2 hp2 hw2 (by omega) Y hY⟩
      have m1 : es1.length ≤ 2147483647 := by omega
      have m2 : es2.length ≤ 2147483647 := by omega
      clear hQ hp1 hp2 hw1 hw2 hL t1 t2 hl1 hl2 hb1 hb2
      generalize es1.length = n1 at *
      generalize es2.length = n2 at *
      generalize (printE es1).2 = E1 at *
      generalize (printE es2).2 = E2 at *
      generalize (⟨(printE es1).1.toArray⟩ : ByteArray) = T1 at *
      generalize (⟨(printE es2).1.toArray⟩ : ByteArray) = T2 at *
      go_enter Tryd.func4, Tryd.ntmps4
      go_wp2_with (first
        | (go_at_call 12; refine HB1.out.mono ?_; rintro e w1 ⟨rfl, hh⟩; subst w1; clear HB1)
        | (go_at_call 12; refine HB2.out.mono ?_; rintro e w1 ⟨rfl, hh⟩; subst w1; clear HB2)
        | (go_at_call 9; refine HSH.out.mono ?_; rintro e w4 ⟨rfl, HB4⟩; clear HSH))
      go_loopw [5] (fun x wr => ∃ k : Nat, k ≤ 3 ∧ x = .int .i64 k ∧ Bx (Below H w wr)) (fun x _ => 3 - (intOf x).toNat)
      case atStart => exact ⟨0, Nat.zero_le _, rfl, HB4⟩
      case round =>
        obtain ⟨k, hk, rfl, HJ⟩ := hrel
        clear HB4
        obtain rfl | rfl | rfl | rfl : k = 0 ∨ k = 1 ∨ k = 2 ∨ k = 3 := by omega
        · go_wp2_with (first
            | (go_at_call 13; refine (HA1.out _ HJ.out).mono ?_; rintro e Y1 ⟨aa, ca, al, nl, cl, rfl, HK⟩; have hcap := HK.out.room
               obtain ⟨Y2, hY2⟩ : ∃ Y2, Y2 = Y1.alloc (lnX (.slice aa (n1 + 1) ca) (.slice al nl cl)) := ⟨_, rfl⟩
               have h12 : Below Y1.heap.size Y1 Y2 := by rw [hY2]; exact below1 _ _
               have hx2 : Y2.heap[Y1.heap.size]? = some (lnX (.slice aa (n1 + 1) ca) (.slice al nl cl)) := by rw [hY2]; exact heap_newH _ _ _ rfl
               have HC : Bx (∀ Z, Below Y2.heap.size Y2 Z → Z.cell? ⟨Y1.heap.size, 0, none⟩ = some (.slice aa (n1 + 1) ca) ∧ Z.cell? ⟨Y1.heap.size, 1, none⟩ = some (.slice al nl cl)) := ⟨fun Z hZ => by
                 have := hZ.block _ (heap_lt hx2)
                 rw [hx2] at this
                 exact ⟨cell_blk this rfl, cell_blk this rfl⟩⟩
               have H12 : Bx _ := ⟨h12⟩
               have HR2 : Bx (Below Y2.heap.size Y2 Y2) := ⟨Below.refl _ _⟩
               clear h12 hx2
               subst hY2)
            | (go_at_call 14; refine (HK.out.print _ H12.out _ HR2.out).mono ?_; rintro e z1 ⟨rfl, HZ1⟩)
            | (go_at_call 15; refine (HK.out.refp _ H12.out _ HZ1.out).mono ?_; rintro e z2 ⟨rfl, HZ2⟩; obtain ⟨u0, u1⟩ := HC.out _ HZ2.out)
            | (go_at_call 16; refine (HK.out.still _ H12.out _ HZ2.out).mono ?_; rintro e z3 ⟨rfl, HZ3⟩; clear u0 u1; obtain ⟨u0, u1⟩ := HC.out _ HZ3.out)
            | (go_at_call 17; refine (HK.out.wipe _ H12.out _ HZ3.out).mono ?_; rintro e z4 ⟨rfl, HZ4⟩))
          go_roundw
          case rel => exact ⟨0 + 1, by omega, by first | rfl | go_num, HZ4⟩
          case measure => simp [intOf]
        · go_wp2_with (first
            | (go_at_call 13; refine (HA2.out _ HJ.out).mono ?_; rintro e Y1 ⟨aa, ca, al, nl, cl, rfl, HK⟩; have hcap := HK.out.room
               obtain ⟨Y2, hY2⟩ : ∃ Y2, Y2 = Y1.alloc (lnX (.slice aa (n2 + 1) ca) (.slice al nl cl)) := ⟨_, rfl⟩
               have h12 : Below Y1.heap.size Y1 Y2 := by rw [hY2]; exact below1 _ _
               have hx2 : Y2.heap[Y1.heap.size]? = some (lnX (.slice aa (n2 + 1) ca) (.slice al nl cl)) := by rw [hY2]; exact heap_newH _ _ _ rfl
               have HC : Bx (∀ Z, Below Y2.heap.size Y2 Z → Z.cell? ⟨Y1.heap.size, 0, none⟩ = some (.slice aa (n2 + 1) ca) ∧ Z.cell? ⟨Y1.heap.size, 1, none⟩ = some (.slice al nl cl)) := ⟨fun Z hZ => by
                 have := hZ.block _ (heap_lt hx2)
                 rw [hx2] at this
                 exact ⟨cell_blk this rfl, cell_blk this rfl⟩⟩
               have H12 : Bx _ := ⟨h12⟩
               have HR2 : Bx (Below Y2.heap.size Y2 Y2) := ⟨Below.refl _ _⟩
               clear h12 hx2
               subst hY2)
            | (go_at_call 14; refine (HK.out.print _ H12.out _ HR2.out).mono ?_; rintro e z1 ⟨rfl, HZ1⟩)
            | (go_at_call 15; refine (HK.out.refp _ H12.out _ HZ1.out).mono ?_; rintro e z2 ⟨rfl, HZ2⟩; obtain ⟨u0, u1⟩ := HC.out _ HZ2.out)
            | (go_at_call 16; refine (HK.out.still _ H12.out _ HZ2.out).mono ?_; rintro e z3 ⟨rfl, HZ3⟩; clear u0 u1; obtain ⟨u0, u1⟩ := HC.out _ HZ3.out)
            | (go_at_call 17; refine (HK.out.wipe _ H12.out _ HZ3.out).mono ?_; rintro e z4 ⟨rfl, HZ4⟩))
          go_roundw
          case rel => exact ⟨1 + 1, by omega, by first | rfl | go_num, HZ4⟩
          case measure => simp [intOf]
        · go_wp2_with (first
            | (go_at_call 13; refine (HA1.out _ HJ.out).mono ?_; rintro e Y1 ⟨aa, ca, al, nl, cl, rfl, HK⟩; have hcap := HK.out.room
               obtain ⟨Y2, hY2⟩ : ∃ Y2, Y2 = Y1.alloc (lnX (.slice aa (n1 + 1) ca) (.slice al nl cl)) := ⟨_, rfl⟩
               have h12 : Below Y1.heap.size Y1 Y2 := by rw [hY2]; exact below1 _ _
               have hx2 : Y2.heap[Y1.heap.size]? = some (lnX (.slice aa (n1 + 1) ca) (.slice al nl cl)) := by rw [hY2]; exact heap_newH _ _ _ rfl
               have HC : Bx (∀ Z, Below Y2.heap.size Y2 Z → Z.cell? ⟨Y1.heap.size, 0, none⟩ = some (.slice aa (n1 + 1) ca) ∧ Z.cell? ⟨Y1.heap.size, 1, none⟩ = some (.slice al nl cl)) := ⟨fun Z hZ => by
                 have := hZ.block _ (heap_lt hx2)
                 rw [hx2] at this
                 exact ⟨cell_blk this rfl, cell_blk this rfl⟩⟩
               have H12 : Bx _ := ⟨h12⟩
               have HR2 : Bx (Below Y2.heap.size Y2 Y2) := ⟨Below.refl _ _⟩
               clear h12 hx2
               subst hY2)
            | (go_at_call 14; refine (HK.out.print _ H12.out _ HR2.out).mono ?_; rintro e z1 ⟨rfl, HZ1⟩)
            | (go_at_call 15; refine (HK.out.refp _ H12.out _ HZ1.out).mono ?_; rintro e z2 ⟨rfl, HZ2⟩; obtain ⟨u0, u1⟩ := HC.out _ HZ2.out)
            | (go_at_call 16; refine (HK.out.still _ H12.out _ HZ2.out).mono ?_; rintro e z3 ⟨rfl, HZ3⟩; clear u0 u1; obtain ⟨u0, u1⟩ := HC.out _ HZ3.out)
            | (go_at_call 17; refine (HK.out.wipe _ H12.out _ HZ3.out).mono ?_; rintro e z4 ⟨rfl, HZ4⟩))
          go_roundw
          case rel => exact ⟨2 + 1, by omega, by first | rfl | go_num, HZ4⟩
          case measure => simp [intOf]
        · have HE := HQ.out _ HJ.out
          go_wp2
          exact HE
end Go.Proofs.YtecpknpcjoiliaaDoor
