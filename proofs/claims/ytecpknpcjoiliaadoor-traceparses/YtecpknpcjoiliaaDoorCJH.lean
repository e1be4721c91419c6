import Derived.Test.YtecpknpcjoiliaaDoorCJG
import Derived.Test.YtecpknpcjoiliaaDoorCJE
import Derived.Deep.RegionLaw
namespace Go.Proofs.YtecpknpcjoiliaaDoor
open Go.RowKit Go.Shelf
set_option linter.unusedVariables false
set_option linter.unusedSimpArgs false

/-- an append whose run is given, in a region that draws -/
theorem step_appI {P : Program} {ops : Array Oper} {o : Oper} {a : Act} {w w' : World} {K : Act → World → Prop} {Q : Exit → Act → World → Prop} {E : Prop}
    (hg : o.guard = none) (s x : Operand) (t : TypeId) (hop : o.op = Op.call { callee := Callee.builtin Builtin.append, args := #[s, x], argTypes := #[t, t] })
    {v u r : Value} (hs : a.eval s = v) (hx : a.eval x = u) (hr : ∀ ty, (Builtin.append_ #[t, t] ty #[v, u]).run P w = .ok r w') (hK : K (a.put o.dst r) w') :
    if Region.wanted o (yielded ops a.tmps) = true then Oper.wp P o a w K Q else E := by
  have hw : Region.wanted o (yielded ops a.tmps) = true := by simp [Region.wanted, hg]
  rw [if_pos hw]
  unfold Oper.wp
  simp [execOp, hop, resolve, invoke, builtin, hs, hx, hr, Result.andThen]
  exact hK
theorem step_call {P : Program} {ops : Array Oper} {o : Oper} {a : Act} {w : World} {K : Act → World → Prop} {Q : Exit → Act → World → Prop} {E : Prop} (hg : o.guard = none) (f : FuncId) (xs : Array Operand) (ts : Array TypeId) (hop : o.op = Op.call { callee := Callee.value (.func f), args := xs, argTypes := ts }) (args : Array Value) (hr : (execOp a.eval o).run P w = .ok (.enter f args) w) {Post : Ending → World → Prop} (hc : Calls P f args w Post) (hK : ∀ e w', Post e w' → ∃ r, e = .returned r ∧ K (a.put o.dst r) w') :
    if Region.wanted o (yielded ops a.tmps) = true then Oper.wp P o a w K Q else E := by
  have hw : Region.wanted o (yielded ops a.tmps) = true := by simp [Region.wanted, hg]
  rw [if_pos hw]
  unfold Oper.wp
  rw [hr, Oper.upon_enter]
  refine Calls.mono hc ?_
  intro e w' h
  obtain ⟨r, rfl, hk⟩ := hK e w' h
  exact hk
theorem plW_snoc (has : Nat) : ∀ (l : List Int) (k0 k : Nat), k < l.length → plW has k0 (l.take (k + 1)) = plW has k0 (l.take k) ++ (if hasB has (k0 + k) then [Lib.itoa (l.getD k 0)] else [])
  | [], _, k, h => by simp at h
  | x :: r, k0, 0, _ => by simp [plW]
  | x :: r, k0, k + 1, h => by
    have ih := plW_snoc has r (k0 + 1) k (by simpa using h)
    have e : k0 + (k + 1) = k0 + 1 + k := by omega
    rw [List.take_succ_cons, plW, ih, List.take_succ_cons, plW, e]
    split <;> simp [List.getD]
theorem plW_len (has : Nat) : ∀ (l : List Int) (k : Nat), (plW has k l).length ≤ l.length
  | [], _ => by simp [plW]
  | x :: r, k => by
    have := plW_len has r (k + 1)
    rw [plW]
    split <;> simp <;> omega
theorem Bxt.on2 {w W W' : World} {H G : Nat} {s : TSh} {e : Ev} {v : Value} (h : Bxt w W H G s e v) (hb : Below (G + 1) W W') : Bxt w W' H G s e v := by
  have hg := h.gt
  refine ⟨h.bel.trans (hb.mono (by omega)), Nat.lt_of_lt_of_le h.sz hb.size, ?_, h.gt, ?_⟩
  · rw [hb.block H (by omega)]; exact h.ev
  · rw [hb.block G (by omega)]; exact h.sh
/-- words under way -/
structure Wst (w W : World) (H G : Nat) (s : TSh) (e : Ev) (v vv : Value) (ws : List (List UInt8)) : Prop where
  bx : Bxt w W H G s e v
  sr : SRo W (G + 1) vv ws
theorem Wst.sz {w W : World} {H G : Nat} {s : TSh} {e : Ev} {v vv : Value} {ws : List (List UInt8)} (h : Wst w W H G s e v vv ws) : G + 1 ≤ W.heap.size := heap_lt h.bx.sh
theorem Wst.on {w W W' : World} {H G : Nat} {s : TSh} {e : Ev} {v vv : Value} {ws : List (List UInt8)} (h : Wst w W H G s e v vv ws) (hb : Below W.heap.size W W') : Wst w W' H G s e v vv ws := ⟨h.bx.on hb, h.sr.below hb⟩
theorem Wst.app {w W : World} {H G : Nat} {s : TSh} {e : Ev} {v vv : Value} {ws : List (List UInt8)} (h : Wst w W H G s e v vv ws) (x : List UInt8) (hl : ws.length ≤ 8796093022200) :
    ∃ v' W3, (∀ ty, (Builtin.append_ #[52, 52] ty #[vv, .slice (some ⟨W.heap.size, 0, none⟩) 1 1]).run Tryd.prog (W.alloc (.cells #[strV x] 9)) = .ok v' W3) ∧ Wst w W3 H G s e v v' (ws ++ [x]) := by
  obtain ⟨v', W3, r1, r2, r3⟩ := app_sro W (G + 1) vv ws h.sr x h.sz hl
  exact ⟨v', W3, r1, ⟨h.bx.on2 ((Below.refl _ _).grown r3 h.sz fun k hk => (h.sr.lt hk).1), r2⟩⟩
theorem Wst.start {w W : World} {H G : Nat} {s : TSh} {e : Ev} {v : Value} (h : Bxt w W H G s e v) : Wst w (W.alloc (.cells #[strV s.1] 9)) H G s e v (.slice (some ⟨W.heap.size, 0, none⟩) 1 1) [s.1] := by
  have hg := heap_lt h.sh
  refine ⟨h.on (below1 W _), ⟨rfl, .inr ⟨W.heap.size, 1, #[strV s.1], rfl, by omega, heap_alloc_new W _, Nat.le_refl _, by simp [maxLen], rfl, rfl⟩⟩⟩
/-- the words of a line, in a row of one's own -/
def lineWs (e : Ev) : List (List UInt8) := (tsh e.kind).1 :: moreW e
set_option maxRecDepth 100000 in
set_option maxHeartbeats 4000000 in
theorem wordsOf_any (e : Ev) (a : Option Addr) (cap : Nat) (w : World) (hL : LW w) (hi : IntsV w w.heap.size a cap e.list) (hw : e.Wf) (hok : evOk e = true) (hll : e.list.length ≤ 8796093022000) :
    Calls Tryd.prog 33 #[evW8 e (.slice a e.list.length cap)] w fun e' w' => ∃ v', e' = .returned v' ∧ Bx (SRo w' w.heap.size v' (lineWs e) ∧ Below w.heap.size w w') := by
  obtain ⟨Q, hQ⟩ : ∃ Q : Ending → World → Prop, Q = fun e' w' => ∃ v', e' = .returned v' ∧ Bx (SRo w' w.heap.size v' (lineWs e) ∧ Below w.heap.size w w') := ⟨_, rfl⟩
  rw [← hQ]
  obtain ⟨H, hH⟩ : ∃ H, w.heap.size = H := ⟨_, rfl⟩
  rw [hH] at hi hQ
  obtain ⟨v, hv⟩ : ∃ v, v = Value.slice a e.list.length cap := ⟨_, rfl⟩
  have hv1 : v.oneCell' = true := by rw [hv]; rfl
  obtain ⟨W1, hW1⟩ : ∃ W1, w.alloc (evB e v) = W1 := ⟨_, rfl⟩
  have hb1 : Below H w W1 := by rw [← hW1, ← hH]; exact below1 _ _
  have he1 : W1.heap[H]? = some (evB e v) := by rw [← hW1]; exact heap_newH w _ H hH
  have hz1 := heap_lt he1
  have hs1 : Shp W1 := hL.shp.below (by rw [hH]; exact hb1)
  obtain ⟨q0, q1, q2, q3, q4, q5, q6, q7⟩ := evB_cells he1
  have HB1 : Bx (Below H w W1) := ⟨hb1⟩
  have HE1 : Bx (W1.heap[H]? = some (evB e v)) := ⟨he1⟩
  obtain ⟨hk, hpl, htl⟩ := ev_parts hok
  obtain ⟨s, hs⟩ : ∃ s, s = tsh e.kind := ⟨_, rfl⟩
  have hlt : s.2.1 < 32 := by rw [hs]; exact tsh_lt _
  have HLW : Bx (lineWs e = s.1 :: (plW s.2.1 0 (plL e) ++ tlW s.2.2 e.num e.list)) := ⟨by rw [hs]; rfl⟩
  rw [HLW.out] at hQ
  rw [← hs] at htl
  have HSO : Bx (Calls Tryd.prog 23 #[.int .i64 e.kind] W1 fun e' w' => e' = .returned (.tuple #[shV s, .bool true]) ∧ Below W1.heap.size W1 w') := ⟨by rw [hs]; exact shapeOf_yes e.kind W1 hs1 hk⟩
  have HPO : Bx (∀ W G vv ws, Wst w W H G s e v vv ws → Calls Tryd.prog 39 #[evW8 e v] W fun e' w' => e' = .returned (plA e) ∧ Wst w w' H G s e v vv ws) := ⟨fun W G vv ws hx => (placesOf_any e v hv1 W).mono fun e' w' h => ⟨h.1, hx.on h.2⟩⟩
  have HHP : Bx (∀ k W G vv ws, k < 5 → Wst w W H G s e v vv ws → Calls Tryd.prog 40 #[shV s, .int .i64 (k : Nat)] W fun e' w' => e' = .returned (.bool (hasB s.2.1 k)) ∧ Wst w w' H G s e v vv ws) := ⟨fun k W G vv ws hk hx => (hasPlace_any s k W hlt hk).mono fun e' w' h => ⟨h.1, hx.on h.2⟩⟩
  have HIT : Bx (∀ n W G vv ws, I64 n → Wst w W H G s e v vv ws → Calls Tryd.prog 43 #[.int .i64 n] W fun e' w' => e' = .returned (strV (Lib.itoa n)) ∧ Wst w w' H G s e v vv ws) := ⟨fun n W G vv ws hn hx => (Itoa_any n W (hL.below (by rw [hH]; exact hx.bx.bel)) hn).mono fun e' w' h => ⟨h.1, hx.on h.2⟩⟩
  have HN : Bx (∀ W2, Below W1.heap.size W1 W2 → Bxt w (W2.alloc (shB s)) H W2.heap.size s e v) := ⟨fun W2 hb => by
    have hz2 := hb.size
    refine ⟨HB1.out.trans ((hb.trans ((below1 W2 _).mono hz2)).mono (by omega)), by simp; omega, ?_, by omega, heap_newH _ _ _ rfl⟩
    rw [Below.heap_alloc _ _ _ (by omega)]
    exact below_heap hb HE1.out⟩
  have HIX : Bx (∀ k, k < 5 → ∀ W, (Instr.index 63 (plA e) (.int .i64 (k : Nat))).run Tryd.prog W = .ok (.int .i64 ((plL e).getD k 0)) W) := ⟨plA_ix e⟩
  have HPW : Bx (∀ k, k < 5 → plW s.2.1 0 ((plL e).take (k + 1)) = plW s.2.1 0 ((plL e).take k) ++ (if hasB s.2.1 k then [Lib.itoa ((plL e).getD k 0)] else [])) := ⟨fun k hk => by have := plW_snoc s.2.1 (plL e) 0 k hk; rwa [Nat.zero_add] at this⟩
  have HPI : Bx (∀ k, k < 5 → I64 ((plL e).getD k 0)) := ⟨fun k hk => plL_wf hw _ (by rw [List.getD_eq_getElem?_getD, List.getElem?_eq_getElem (show k < (plL e).length from hk)]; exact List.getElem_mem _)⟩
  have HP5 : Bx ((plL e).take 5 = plL e) := ⟨rfl⟩
  have HP0 : Bx (∀ k, (plW s.2.1 0 ((plL e).take k)).length ≤ 5) := ⟨fun k => Nat.le_trans (plW_len _ _ _) (by rw [List.length_take]; have : (plL e).length = 5 := rfl; omega)⟩
  have HIL : Bx (∀ W G vv ws, Wst w W H G s e v vv ws → IntsV W W.heap.size a cap e.list) := ⟨fun W G vv ws hx => (hi.below hx.bx.bel).up (by have := hx.bx.sz; omega)⟩
  have HWL : Bx (∀ n ∈ e.list, I64 n) := ⟨hw.list⟩
  have hnum : I64 e.num := hw.num
  have HTL : Bx (tlOk s.2.2 e.num e.list = true) := ⟨htl⟩
  have HVV : Bx (v = Value.slice a e.list.length cap) := ⟨hv⟩
  have HEND : Bx (∀ W G vv, Wst w W H G s e v vv (s.1 :: (plW s.2.1 0 (plL e) ++ tlW s.2.2 e.num e.list)) → Q (.returned vv) W) := ⟨fun W G vv hx => by
    rw [hQ]
    refine ⟨vv, rfl, ⟨⟨hx.sr.1, ?_⟩, hx.bx.bel⟩⟩
    have := hx.bx.gt
    rcases hx.sr.2 with h | ⟨g, cap, cur, h1, h2, h3⟩
    · exact .inl h
    · exact .inr ⟨g, cap, cur, h1, by omega, h3⟩⟩
  have hHv : Value.slice a e.list.length cap = v := hv.symm
  rw [hHv]
  clear hi hL hs1 he1 hb1 hv hHv hs q1 q2 q3 q4 q5 q6 q7 hpl htl HLW hw hok hlt hQ
  go_enter Tryd.func33, Tryd.ntmps33
  go_wp2_with (first
    | (go_at_call 23; refine HSO.out.mono ?_; rintro e1 W2 ⟨rfl, hb2⟩; have HB2 : Bx _ := ⟨Wst.start (HN.out W2 hb2)⟩; obtain ⟨z0, z1, z2⟩ := shB_cells (HN.out W2 hb2).sh; obtain ⟨q0, q1, q2, q3, q4, q5, q6, q7⟩ := evB_cells HB2.out.bx.ev; clear hb2)
    | (go_at_call 39; refine (HPO.out _ _ _ _ HB2.out).mono ?_; rintro e1 W3 ⟨rfl, hb3⟩; have HB3 : Bx _ := ⟨hb3⟩; clear hb3 HB2 z0 z1 z2 q0 q1 q2 q3 q4 q5 q6 q7))
  clear HSO HPO HN HB1 HE1 q0 hW1 hz1
  have HB3' := HB3
  clear HB3
  obtain ⟨G, hG⟩ : ∃ G, G = W2.heap.size := ⟨_, rfl⟩
  have HB4 : Bx (Wst w W3 H G s e v (.slice (some ⟨G + 1, 0, none⟩) 1 1) [s.1]) := ⟨by rw [hG]; have := HB3'.out; rwa [show (W2.alloc (shB s)).heap.size = W2.heap.size + 1 by simp] at this⟩
  rw [← hG]
  clear HB3' hG
  generalize plA e = A at *
  generalize plL e = l at *
  go_loopw [21, 5] (fun x y wr => ∃ (k : Nat) (vv : Value), k ≤ 5 ∧ x = .int .i64 k ∧ vv = y ∧ Bx (Wst w wr H G s e v vv (s.1 :: plW s.2.1 0 (l.take k)))) (fun x _ _ => 5 - (intOf x).toNat)
  case atStart => exact ⟨0, _, by omega, rfl, rfl, ⟨HB4.out⟩⟩
  case round =>
    obtain ⟨k, vv, hk5, rfl, rfl, HI⟩ := hrel
    clear HB4
    by_cases hlt : k < 5
    · have hix : ∀ W, (Instr.index 63 A (.int .i64 (k : Int))).run Tryd.prog W = .ok (.int .i64 (l.getD k 0)) W := fun W => HIX.out k hlt W
      have hk5' : (k : Int) < 5 := by omega
      have hn := HPI.out k hlt
      have hpw := HPW.out k hlt
      have hlen := HP0.out k
      obtain ⟨z0, z1, z2⟩ := shB_cells HI.out.bx.sh
      have HC := HHP.out k wr G _ _ hlt HI.out
      cases hb : hasB s.2.1 k
      · rw [hb] at HC hpw
        have HN2 : Bx (plW s.2.1 0 (l.take (k + 1)) = plW s.2.1 0 (l.take k)) := ⟨by rw [hpw]; simp⟩
        clear hpw HI
        generalize l.getD k 0 = n at *
        go_wp2_with (go_at_call 40; refine HC.mono ?_; rintro e1 w4 ⟨rfl, hb4⟩; have HB4 : Bx _ := ⟨hb4⟩; clear hb4)
        go_roundw
        case rel => exact ⟨k + 1, vv, hlt, by go_num, rfl, ⟨by rw [HN2.out]; exact HB4.out⟩⟩
        case measure => simp [intOf]; omega
      · rw [hb] at HC hpw
        have HN2 : Bx (s.1 :: plW s.2.1 0 (l.take (k + 1)) = (s.1 :: plW s.2.1 0 (l.take k)) ++ [Lib.itoa (l.getD k 0)]) := ⟨by rw [hpw]; simp⟩
        clear hpw HI
        generalize l.getD k 0 = n at *
        go_wp2_with (first
          | (go_at_call 40; refine HC.mono ?_; rintro e1 w4 ⟨rfl, hb4⟩; have HB4 : Bx _ := ⟨hb4⟩; clear hb4)
          | (go_at_call 43; refine (HIT.out _ _ _ _ _ hn HB4.out).mono ?_; rintro e1 w5 ⟨rfl, hb5⟩; obtain ⟨v6, W6, r6, hb6⟩ := hb5.app (Lib.itoa n) (by simp only [List.length_cons]; omega); have HB6 : Bx _ := ⟨hb6⟩; clear hb5 hb6)
          | (at_builtin; refine wpList_appI rfl (.tmp 28) (.tmp 31) 52 rfl rfl rfl r6 ?_))
        go_roundw
        case rel => exact ⟨k + 1, v6, hlt, by go_num, rfl, ⟨by rw [HN2.out]; exact HB6.out⟩⟩
        case measure => simp [intOf]; omega
    · have : k = 5 := by omega
      subst this
      rw [show ((5 : Nat) : Int) = 5 from rfl]
      rw [HP5.out] at HI
      have hlen := HP0.out 5
      rw [HP5.out] at hlen
      obtain ⟨z0, z1, z2⟩ := shB_cells HI.out.bx.sh
      obtain ⟨q0, q1, q2, q3, q4, q5, q6, q7⟩ := evB_cells HI.out.bx.ev
      clear HIX HPI HPW HP0 HHP HP5 q0 q1 q2 q3 q4 q5 z0 z1
      generalize plW s.2.1 0 l = pw at *
      have htl := HTL.out
      have HTE : Bx (∀ W vv, Wst w W H G s e v vv (s.1 :: (pw ++ tlW s.2.2 e.num e.list)) → Q (.returned vv) W) := ⟨fun W vv h => HEND.out W G vv h⟩
      clear HEND
      by_cases h1 : s.2.2 = 1
      · have i1 : ((s.2.2 : Nat) : Int) = 1 := by omega
        have HT : Bx (s.1 :: (pw ++ tlW s.2.2 e.num e.list) = (s.1 :: pw) ++ [Lib.itoa e.num]) := ⟨by unfold tlW; rw [if_pos h1]; rfl⟩
        rw [HT.out] at HTE
        rw [i1] at z2
        clear h1 i1 HT HTL htl
        go_wp2_with (first
          | (go_at_call 43; refine (HIT.out _ _ _ _ _ hnum HI.out).mono ?_; rintro e1 w5 ⟨rfl, hb5⟩; obtain ⟨v6, W6, r6, hb6⟩ := hb5.app (Lib.itoa e.num) (by simp only [List.length_cons]; omega); have HB6 : Bx _ := ⟨HTE.out _ _ hb6⟩; clear hb5 hb6)
          | (at_builtin; refine wpList_appI rfl (.tmp 38) (.tmp 42) 52 rfl rfl rfl r6 ?_))
        exact HB6.out
      · have i1 : ¬ ((s.2.2 : Nat) : Int) = 1 := by omega
        have j1 : (((s.2.2 : Nat) : Int) == 1) = false := by simpa using i1
        by_cases h23 : s.2.2 = 2 ∨ s.2.2 = 3
        · unfold tlOk at htl
          rw [if_neg (by omega), if_neg h1, if_pos h23] at htl
          simp only [Bool.and_eq_true, decide_eq_true_eq] at htl
          obtain ⟨wd, hwd⟩ : ∃ wd, wd = (nwords s.2.2).getD (e.num.toNat - 1) [] := ⟨_, rfl⟩
          have HT : Bx (s.1 :: (pw ++ tlW s.2.2 e.num e.list) = (s.1 :: pw) ++ [wd]) := ⟨by unfold tlW; rw [if_neg h1, if_pos h23, hwd]; rfl⟩
          rw [HT.out] at HTE
          obtain ⟨m, hm⟩ : ∃ m : Nat, e.num = (m : Int) + 1 := ⟨e.num.toNat - 1, by omega⟩
          have hml : m < (nwords s.2.2).length := by omega
          have HNW : Bx (Calls Tryd.prog 42 #[.int .i64 (s.2.2 : Nat)] (wr.drewN 1) fun e' w' => e' = .returned (.slice (some ⟨wr.heap.size, 0, none⟩) (nwords s.2.2).length (nwords s.2.2).length) ∧ w'.cell? ⟨wr.heap.size, m, none⟩ = some (strV wd) ∧ Wst w w' H G s e v vv (s.1 :: pw)) := ⟨(numWords_any s.2.2 (wr.drewN 1)).mono fun e' w' ⟨v', a1, a2⟩ => by
            have hx := (HI.out.on (below_drewN (Below.refl _ _) 1)).on a2.bel
            rcases a2.val with ⟨a3, _⟩ | ⟨a3, a4⟩
            · rw [a3] at hml; simp at hml
            · refine ⟨by rw [a1, a3]; rfl, ?_, hx⟩
              rw [a4]
              have e1 : e.num.toNat - 1 = m := by omega
              refine cell_blk (heap_newH (wr.drewN 1) _ wr.heap.size rfl) ?_
              rw [hwd, e1, List.getD_eq_getElem?_getD, List.getElem?_eq_getElem hml]
              simp [hml]⟩
          have HF : Bx (∀ W vk ws, Wst w W H G s e v vk ws → W.cell? ⟨H, 6, none⟩ = some (.int .i64 e.num) ∧ W.cell? ⟨G, 2, none⟩ = some (.int .i64 (s.2.2 : Nat))) := ⟨fun W vk ws hx => ⟨(evB_cells hx.bx.ev).2.2.2.2.2.2.1, (shB_cells hx.bx.sh).2.2⟩⟩
          have HF2 : Bx ((wr.drewN 1).cell? ⟨H, 6, none⟩ = some (.int .i64 e.num) ∧ (wr.drewN 1).cell? ⟨G, 2, none⟩ = some (.int .i64 (s.2.2 : Nat))) := ⟨HF.out _ _ _ (HI.out.on (below_drewN (Below.refl _ _) 1))⟩
          have hwr : IntKind.i64.wrap (e.num - 1) = (m : Int) := by rw [IntKind.wrap_i64]; have := hnum.2; omega
          have hwm : IntKind.i64.wrap (m : Int) = (m : Int) := by rw [IntKind.wrap_i64]; have := hnum.2; omega
          have hm0 : (0 : Int) ≤ (m : Int) := by omega
          have hm1 : (m : Int) < ((nwords s.2.2).length : Int) := by omega
          have hl6 : (s.1 :: pw).length ≤ 8796093022200 := by simp only [List.length_cons]; omega
          clear h1 i1 HT HTL htl hm hwd
          generalize (nwords s.2.2).length = nl at *
          rcases h23 with h2 | h2
          · have i2 : ((s.2.2 : Nat) : Int) = 2 := by omega
            rw [i2] at z2 HNW HF HF2
            clear h2 i2
            go_wp2_with fail
            go_region_law (first
                | (refine step_call rfl 42 #[.tmp 49] #[3] rfl #[.int .i64 2] (by simp only [execOp]; go_simp) HNW.out ?_; rintro e1 z5 ⟨rfl, hc5, hz⟩; obtain ⟨v6, W6, r6, hb6⟩ := hz.app wd hl6; have HB6 : Bx _ := ⟨hb6⟩; obtain ⟨c6, c2⟩ := HF.out _ _ _ hz; clear hz hb6; refine ⟨_, rfl, ?_⟩)
                | (refine step_appI rfl (.tmp 47) (.tmp 56) 52 rfl (by simp [Act.eval, Act.put]) (by simp [Act.eval, Act.put]) r6 ?_))
            all_goals
              go_wp2
              exact HTE.out _ _ HB6.out
          · have i2 : ((s.2.2 : Nat) : Int) = 3 := by omega
            rw [i2] at z2 HNW HF HF2
            clear h2 i2
            go_wp2_with fail
            go_region_law (first
                | (refine step_call rfl 42 #[.tmp 49] #[3] rfl #[.int .i64 3] (by simp only [execOp]; go_simp) HNW.out ?_; rintro e1 z5 ⟨rfl, hc5, hz⟩; obtain ⟨v6, W6, r6, hb6⟩ := hz.app wd hl6; have HB6 : Bx _ := ⟨hb6⟩; obtain ⟨c6, c2⟩ := HF.out _ _ _ hz; clear hz hb6; refine ⟨_, rfl, ?_⟩)
                | (refine step_appI rfl (.tmp 47) (.tmp 56) 52 rfl (by simp [Act.eval, Act.put]) (by simp [Act.eval, Act.put]) r6 ?_))
            all_goals
              go_wp2
              exact HTE.out _ _ HB6.out
        · have i2 : ¬ ((s.2.2 : Nat) : Int) = 2 := by omega
          have j2 : (((s.2.2 : Nat) : Int) == 2) = false := by simpa using i2
          have i3 : ¬ ((s.2.2 : Nat) : Int) = 3 := by omega
          have j3 : (((s.2.2 : Nat) : Int) == 3) = false := by simpa using i3
          by_cases h4 : s.2.2 = 4
          · have i4 : ((s.2.2 : Nat) : Int) = 4 := by omega
            have HT : Bx (tlW s.2.2 e.num e.list = e.list.map Lib.itoa) := ⟨by unfold tlW; rw [if_neg h1, if_neg h23, if_pos h4]⟩
            rw [HT.out] at HTE
            rw [i4] at z2
            have hv := HVV.out
            rw [hv] at q7
            clear h1 i1 i2 i3 j1 j2 j3 h23 i4 HT HTL htl hv
            have hmax := (HIL.out _ _ _ _ HI.out).max
            unfold maxLen at hmax
            go_wp2
            go_loopw [63, 5] (fun x y wx => ∃ (k : Nat) (vk : Value), k ≤ e.list.length ∧ x = .int .i64 k ∧ vk = y ∧ Bx (Wst w wx H G s e v vk (s.1 :: (pw ++ (e.list.take k).map Lib.itoa)))) (fun x _ _ => e.list.length - (intOf x).toNat)
            case atStart => exact ⟨0, _, Nat.zero_le _, rfl, rfl, ⟨by rw [List.take_zero, List.map_nil, List.append_nil]; exact HI.out⟩⟩
            case round =>
              obtain ⟨k, vk, hk, rfl, rfl, HK⟩ := hrel
              clear HI q6 q7 z2
              by_cases hkl : k < e.list.length
              · obtain ⟨b, o, rfl, hb, hc⟩ := (HIL.out _ _ _ _ HK.out).at_ (by omega)
                have c := hc k hkl
                have hn := HWL.out e.list[k] (List.getElem_mem hkl)
                have HN2 : Bx (s.1 :: (pw ++ (e.list.take (k + 1)).map Lib.itoa) = (s.1 :: (pw ++ (e.list.take k).map Lib.itoa)) ++ [Lib.itoa e.list[k]]) := ⟨by rw [List.take_succ_eq_append_getElem hkl, List.map_append, List.map_singleton, ← List.append_assoc]; rfl⟩
                have hpl : (s.1 :: (pw ++ (e.list.take k).map Lib.itoa)).length ≤ 8796093022200 := by
                  simp only [List.length_cons, List.length_append, List.length_map, List.length_take]
                  omega
                clear hc
                generalize e.list[k] = n at *
                go_wp2_with (first
                  | (go_at_call 43; refine (HIT.out _ _ _ _ _ hn HK.out).mono ?_; rintro e1 w5 ⟨rfl, hb5⟩; obtain ⟨v6, W6, r6, hb6⟩ := hb5.app (Lib.itoa n) hpl; have HB6 : Bx _ := ⟨hb6⟩; clear hb5 hb6)
                  | (at_builtin; refine wpList_appI rfl (.tmp 67) (.tmp 70) 52 rfl rfl rfl r6 ?_))
                go_roundw
                case rel => exact ⟨k + 1, v6, hkl, by go_num, rfl, ⟨by rw [HN2.out]; exact HB6.out⟩⟩
                case measure => simp [intOf]; omega
              · have hke : k = e.list.length := by omega
                subst hke
                have HK2 := HK.out
                rw [List.take_of_length_le (Nat.le_refl _)] at HK2
                have HB6 : Bx _ := ⟨HTE.out _ _ HK2⟩
                clear HK HK2
                go_wp2
                exact HB6.out
          · have i4 : ¬ ((s.2.2 : Nat) : Int) = 4 := by omega
            have j4 : (((s.2.2 : Nat) : Int) == 4) = false := by simpa using i4
            have HT : Bx (s.1 :: (pw ++ tlW s.2.2 e.num e.list) = s.1 :: pw) := ⟨by unfold tlW; rw [if_neg h1, if_neg h23, if_neg h4, List.append_nil]⟩
            rw [HT.out] at HTE
            clear h1 h23 h4 HT HTL htl
            have HB6 : Bx _ := ⟨HTE.out _ _ HI.out⟩
            go_wp2
            exact HB6.out
end Go.Proofs.YtecpknpcjoiliaaDoor
