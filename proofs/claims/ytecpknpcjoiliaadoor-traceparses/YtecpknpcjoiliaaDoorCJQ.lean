import Derived.Test.YtecpknpcjoiliaaDoorCJH
import Derived.Test.YtecpknpcjoiliaaDoorCJJ
namespace Go.Proofs.YtecpknpcjoiliaaDoor
open Go.RowKit Go.Shelf
set_option linter.unusedVariables false
set_option linter.unusedSimpArgs false

theorem flat_len : ∀ (ws : List (List UInt8)), (∀ w ∈ ws, w.length ≤ 20) → (ws.flatMap (32 :: ·)).length ≤ 21 * ws.length
  | [], _ => by simp
  | w :: r, h => by
    have h1 := flat_len r fun x hx => h x (List.mem_cons_of_mem _ hx)
    have h2 := h w List.mem_cons_self
    rw [List.flatMap_cons, List.length_append, List.length_cons, List.length_cons]
    omega
theorem nw_len (tail k : Nat) : ((nwords tail).getD k []).length ≤ 20 := by
  unfold nwords
  split
  · match k with
    | 0 => decide
    | 1 => decide
    | 2 => decide
    | 3 => decide
    | 4 => decide
    | n + 5 => simp [trapW]
  · split
    · match k with
      | 0 => decide
      | 1 => decide
      | 2 => decide
      | 3 => decide
      | 4 => decide
      | 5 => decide
      | n + 6 => simp [spentW]
    · simp
theorem plW_20 (has : Nat) : ∀ (l : List Int) (k : Nat), (∀ n ∈ l, I64 n) → ∀ w ∈ plW has k l, w.length ≤ 20
  | [], _, _, w, hw => by cases hw
  | n :: r, k, h, w, hw => by
    rw [plW] at hw
    split at hw
    · rcases List.mem_cons.1 hw with rfl | hw
      · exact itoa_len (h n List.mem_cons_self)
      · exact plW_20 has r (k + 1) (fun x hx => h x (List.mem_cons_of_mem _ hx)) w hw
    · exact plW_20 has r (k + 1) (fun x hx => h x (List.mem_cons_of_mem _ hx)) w hw
theorem tlW_20 {tail : Nat} {num : Int} {list : List Int} (hn : I64 num) (hl : ∀ n ∈ list, I64 n) : (∀ w ∈ tlW tail num list, w.length ≤ 20) ∧ (tlW tail num list).length ≤ 1 + list.length := by
  unfold tlW
  split
  · exact ⟨fun w hw => by rw [List.mem_singleton] at hw; subst hw; exact itoa_len hn, by simp⟩
  · split
    · exact ⟨fun w hw => by rw [List.mem_singleton] at hw; subst hw; exact nw_len _ _, by simp⟩
    · split
      · refine ⟨fun w hw => ?_, by simp⟩
        rw [List.mem_map] at hw
        obtain ⟨n, h1, rfl⟩ := hw
        exact itoa_len (hl n h1)
      · exact ⟨fun w hw => (by cases hw), by simp⟩
theorem tword_len (k : Int) : (tsh k).1.length ≤ 5 := by
  unfold tsh tshT
  match k.toNat - 1 with
  | 0 => decide
  | 1 => decide
  | 2 => decide
  | 3 => decide
  | 4 => decide
  | 5 => decide
  | 6 => decide
  | 7 => decide
  | 8 => decide
  | 9 => decide
  | 10 => decide
  | n + 11 => simp [noTsh]
theorem more_len {e : Ev} (h : e.Wf) : (∀ w ∈ moreW e, w.length ≤ 20) ∧ (moreW e).length ≤ 6 + e.list.length := by
  obtain ⟨h1, h2⟩ := tlW_20 (tail := (tsh e.kind).2.2) h.num h.list
  have h3 := plW_len (tsh e.kind).2.1 (plL e) 0
  have h5 : (plL e).length = 5 := rfl
  unfold moreW
  refine ⟨fun w hw => ?_, by rw [List.length_append]; omega⟩
  rcases List.mem_append.1 hw with hw | hw
  · exact plW_20 _ _ _ (plL_wf h) w hw
  · exact h1 w hw
theorem evL_len {e : Ev} (h : e.Wf) : (evL e).length ≤ 131 + 21 * e.list.length := by
  obtain ⟨h1, h2⟩ := more_len h
  have h3 := flat_len (moreW e) h1
  have h4 := tword_len e.kind
  unfold evL joinW
  rw [List.length_append]
  omega
/-- what events take -/
def totE : List Ev → Nat
  | [] => 0
  | e :: r => 140 + 21 * e.list.length + totE r
theorem evs_len : ∀ {l : List Ev}, (∀ e ∈ l, e.Wf) → (evsT l).length ≤ totE l
  | [], _ => by simp [evsT, totE]
  | e :: r, h => by
    have h1 := evs_len (l := r) fun x hx => h x (List.mem_cons_of_mem _ hx)
    have h2 := evL_len (h e List.mem_cons_self)
    rw [evs_app, List.length_append, List.length_cons, totE]
    omega
theorem totE_app (a b : List Ev) : totE (a ++ b) = totE a + totE b := by
  induction a with
  | nil => simp [totE]
  | cons x r ih => rw [List.cons_append, totE, totE, ih]; omega
theorem totE_at {l : List Ev} {k : Nat} (h : k < l.length) : totE (l.take k) + (140 + 21 * l[k].list.length) ≤ totE l := by
  have e : l.take k ++ l[k] :: l.drop (k + 1) = l := by rw [← List.drop_eq_getElem_cons h, List.take_append_drop]
  have h2 : totE (l.take k ++ l[k] :: l.drop (k + 1)) = totE l := congrArg totE e
  rw [totE_app, totE] at h2
  omega
theorem totE_len (l : List Ev) : 140 * l.length ≤ totE l := by
  induction l with
  | nil => simp [totE]
  | cons x r ih => rw [List.length_cons, totE]; omega
theorem evs_snoc {l : List Ev} {k : Nat} (h : k < l.length) : evsT (l.take (k + 1)) = evsT (l.take k) ++ joinA (lineWs l[k]) ++ [10] := by
  rw [List.take_succ_eq_append_getElem h, evs_two]
  simp [evsT, evT, evL, joinA, lineWs]
theorem chk_ok {e : Ev} (h : evOk e = true) : chkE e = 0 := by unfold chkE; rw [if_pos h]
theorem chk_no {e : Ev} (h : evOk e = false) : chkE e = 180 := by unfold chkE; rw [h]; simp
/-- what Print does in the midst of events -/
structure Prt (w W : World) (H : Nat) (vv : Value) (bs : List UInt8) : Prop where
  bo : BO W H vv bs
  bel : Below H w W
theorem Prt.sz {w W : World} {H : Nat} {vv : Value} {bs : List UInt8} (h : Prt w W H vv bs) (hH : w.heap.size = H) : H ≤ W.heap.size := by have := h.bel.size; omega
theorem Prt.on {w W W' : World} {H : Nat} {vv : Value} {bs : List UInt8} (h : Prt w W H vv bs) (hH : w.heap.size = H) (hb : Below W.heap.size W W') : Prt w W' H vv bs :=
  ⟨owns_same h.bo fun g _ hg => hb.block g hg, h.bel.trans (hb.mono (h.sz hH))⟩
set_option maxRecDepth 100000 in
set_option maxHeartbeats 4000000 in
theorem Print_any (w : World) (hL : LW w) (a : Option Addr) (cap : Nat) (es : List Ev) (hp : EvsV w w.heap.size a es) (hw : ∀ e ∈ es, e.Wf) (ht : totE es ≤ 8796093022000) :
    Calls Tryd.prog 14 #[.slice a es.length cap] w fun e w' => e = .returned (.tuple #[strV (printE es).1, .int .i64 (printE es).2]) ∧ Bx (Below w.heap.size w w') := by
  obtain ⟨H, hH⟩ : ∃ H, w.heap.size = H := ⟨_, rfl⟩
  rw [hH] at hp ⊢
  obtain ⟨T, hT⟩ : ∃ T, T = printE es := ⟨_, rfl⟩
  rw [← hT]
  have HT : Bx (T = printE es) := ⟨hT⟩
  have HP : Bx _ := ⟨hp⟩
  have HW : Bx _ := ⟨hw⟩
  have HL : Bx (∀ W, Below H w W → LW W) := ⟨fun W hb => hL.below (by rw [hH]; exact hb)⟩
  have hlen := totE_len es
  clear hT hp hw hL
  go_enter Tryd.func14, Tryd.ntmps14
  go_wp2
  go_loopw [9, 4] (fun x y wr => ∃ (k : Nat) (vv : Value), k ≤ es.length ∧ x = .int .i64 k ∧ vv = y ∧ Bx (Prt w wr H vv (evsT (es.take k)) ∧ ∀ e ∈ es.take k, evOk e = true)) (fun x _ _ => es.length - (intOf x).toNat)
  case atStart => exact ⟨0, _, Nat.zero_le _, rfl, rfl, ⟨⟨⟨rfl, .inl ⟨rfl, rfl⟩⟩, Below.refl _ _⟩, fun e he => by simp at he⟩⟩
  case round =>
    obtain ⟨k, vv, hk, rfl, rfl, HI⟩ := hrel
    by_cases hlt : k < es.length
    · obtain ⟨b, o, rfl, hb, hc⟩ := (HP.out.below HI.out.1.bel).at_ (by omega)
      obtain ⟨la, lc, hev⟩ := hc k hlt
      have hwf := HW.out es[k] (List.getElem_mem hlt)
      have htk := totE_at hlt
      have hlk := evs_len (l := es.take k) fun e he => HW.out e (List.mem_of_mem_take he)
      have hlT := evL_len hwf
      have hsn := evs_snoc hlt
      have htake : es.take (k + 1) = es.take k ++ [es[k]] := List.take_succ_eq_append_getElem hlt
      have hmem := List.getElem_mem hlt
      generalize es[k] = e at *
      obtain ⟨c0, c1, c2, c3, c4, c5, c6, c7, hli⟩ := hev
      have hwr := HI.out.1.sz hH
      obtain ⟨n, hn⟩ : ∃ n, n = e.list.length := ⟨_, rfl⟩
      obtain ⟨W1, hW1⟩ : ∃ W1, wr.alloc (evB e (.slice la n lc)) = W1 := ⟨_, rfl⟩
      have hb1 : Below wr.heap.size wr W1 := by rw [← hW1]; exact below1 _ _
      have he1 : W1.heap[wr.heap.size]? = some (evB e (.slice la n lc)) := by rw [← hW1]; exact heap_newH _ _ _ rfl
      have hbw1 : Below H w W1 := HI.out.1.bel.trans (hb1.mono hwr)
      have hli1 : IntsV W1 W1.heap.size la lc e.list := (hli.below (hb1.mono hwr)).up (by have := hb1.size; omega)
      have HCK : Bx (Calls Tryd.prog 10 #[evW8 e (.slice la n lc)] W1 fun e' w' => e' = .returned (.int .i64 (chkE e)) ∧ Below W1.heap.size W1 w') := ⟨by rw [hn]; exact Check_any e la lc W1 (HL.out W1 hbw1).shp hli1⟩
      obtain ⟨q0, q1, q2, q3, q4, q5, q6, q7⟩ := evB_cells he1
      have HE1 : Bx _ := ⟨he1⟩
      have HP1 : Bx (Prt w W1 H vv (evsT (es.take k))) := ⟨HI.out.1.on hH hb1⟩
      rw [← hn] at c7
      cases hok : evOk e
      · have hc180 := chk_no hok
        rw [hc180] at HCK
        have hTv : T = ([], 180) := by
          rw [HT.out]; unfold printE
          rw [if_neg]
          intro h
          have := (List.all_eq_true.1 h) e hmem
          rw [hok] at this
          cases this
        subst hTv
        have HFB : Bx (∀ w', Below W1.heap.size W1 w' → Below H w w') := ⟨fun w' h => hbw1.trans (h.mono (by have := hb1.size; omega))⟩
        clear HI hc hc180 hli hli1 hsn htake hlT hlk htk hmem HP1 HT hwf he1 hbw1 hb1 hok hn
        go_wp2_with (go_at_call 10; refine HCK.out.mono ?_; rintro e1 w2 ⟨rfl, hb2⟩; have HB2 : Bx _ := ⟨HFB.out _ hb2⟩; clear hb2)
        go_ret2
        exact ⟨rfl, HB2⟩
      · rw [chk_ok hok] at HCK
        have HWO : Bx (∀ W2, Below W1.heap.size W1 W2 → Calls Tryd.prog 33 #[evW8 e (.slice la n lc)] W2 fun e' w' => ∃ g cp, e' = .returned (.slice (some ⟨g, 0, none⟩) (lineWs e).length cp) ∧ WdV w' g (lineWs e) ∧ Prt w w' H vv (evsT (es.take k))) := ⟨fun W2 hb2 => by
          have hbw2 : Below H w W2 := hbw1.trans (hb2.mono (by have := hb1.size; omega))
          rw [hn]
          refine (wordsOf_any e la lc W2 (HL.out W2 hbw2) ((hli1.below hb2).up hb2.size) hwf hok (by omega)).mono ?_
          rintro e' w' ⟨v', rfl, h⟩
          obtain ⟨g, cp, rfl, h2⟩ := h.out.1.wd (by simp [lineWs])
          exact ⟨g, cp, rfl, h2, (HP1.out.on hH hb2).on hH h.out.2⟩⟩
        have HLL : Bx (∀ W3 g cp, WdV W3 g (lineWs e) → Prt w W3 H vv (evsT (es.take k)) → Calls Tryd.prog 32 #[vv, .slice (some ⟨g, 0, none⟩) (lineWs e).length cp] W3 fun e' w' => ∃ v', e' = .returned v' ∧ Bx (Prt w w' H v' (evsT (es.take (k + 1))))) := ⟨fun W3 g cp h1 h2 => by
          have hjl : (joinA (lineWs e)).length = (evL e).length := rfl
          refine (layLine_any W3 H g cp vv (evsT (es.take k)) (lineWs e) (h2.sz hH) h2.bo h1 (by omega) (by
            obtain ⟨_, h5⟩ := more_len hwf
            simp only [lineWs, List.length_cons]
            omega)).mono ?_
          rintro e' w' ⟨v', rfl, h⟩
          refine ⟨v', rfl, ⟨?_, h2.bel.trans h.out.2.ku.bel⟩⟩
          rw [hsn]
          exact h.out.1⟩
        have HOK : Bx (∀ x ∈ es.take (k + 1), evOk x = true) := ⟨fun x hx => by
          rw [htake] at hx
          rcases List.mem_append.1 hx with hx | hx
          · exact HI.out.2 x hx
          · rw [List.mem_singleton] at hx; subst hx; exact hok⟩
        have HCE : Bx (∀ W2, Below W1.heap.size W1 W2 → W2.heap[wr.heap.size]? = some (evB e (.slice la n lc))) := ⟨fun W2 h => below_heap h HE1.out⟩
        clear HI hc hli hli1 hsn htake hlT hlk htk hmem HP1 HT hwf he1 hbw1 hb1 hok HE1 hn
        generalize (lineWs e).length = nw at *
        go_wp2_with (first
          | (go_at_call 10; refine HCK.out.mono ?_; rintro e1 w2 ⟨rfl, hb2⟩; have HB2 : Bx _ := ⟨hb2⟩; obtain ⟨p0, p1, p2, p3, p4, p5, p6, p7⟩ := evB_cells (HCE.out w2 hb2); clear hb2)
          | (go_at_call 33; refine (HWO.out _ HB2.out).mono ?_; rintro e1 w3 ⟨g3, cp3, rfl, hw3, hp3⟩; have HB3 : Bx _ := ⟨HLL.out w3 g3 cp3 hw3 hp3⟩; clear hw3 hp3)
          | (go_at_call 32; refine HB3.out.mono ?_; rintro e1 w4 ⟨v4, rfl, H4⟩))
        go_roundw
        case rel => exact ⟨k + 1, v4, hlt, by go_num, rfl, ⟨H4.out, HOK.out⟩⟩
        case measure => simp [intOf]; omega
    · have hke : k = es.length := by omega
      subst hke
      have HF := HI.out
      rw [List.take_of_length_le (Nat.le_refl _)] at HF
      have hTv : T = (evsT es, 0) := by
        rw [HT.out]; unfold printE
        rw [if_pos (List.all_eq_true.2 HF.2)]
      subst hTv
      have hcv := HF.1.bo.str
      have HB : Bx _ := ⟨HF.1.bel⟩
      clear HI HF HT
      go_wp2
      go_ret2
      exact ⟨rfl, HB⟩
end Go.Proofs.YtecpknpcjoiliaaDoor
