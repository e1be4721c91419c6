import Derived.Test.YtecpknpcjoiliaaDoorCJOp
import Derived.Deep.RegionHeld3
namespace Go.Proofs.YtecpknpcjoiliaaDoor
open Go.RowKit Go.Shelf
set_option linter.unusedVariables false
set_option linter.unusedSimpArgs false

set_option maxRecDepth 100000 in
set_option maxHeartbeats 8000000 in
theorem eventOf_3 (tx : List UInt8) (w : World) (hL : LW w) (hl : tx.length ≤ 8796093022000) (hk0 : tkind (pieces 32 tx).1 ≠ 0) (ht : (tsh (tkind (pieces 32 tx).1)).2.2 = 3) :
    Calls Tryd.prog 36 #[strV tx] w (EvP w (evOf tx)) := by
  obtain ⟨Q, hQ⟩ : ∃ Q, Q = EvP w (evOf tx) := ⟨_, rfl⟩
  rw [← hQ]
  obtain ⟨H, hH⟩ : ∃ H, w.heap.size = H := ⟨_, rfl⟩
  obtain ⟨wd, hwd⟩ : ∃ wd, wd = (pieces 32 tx).1 := ⟨_, rfl⟩
  obtain ⟨ws, hws⟩ : ∃ ws, ws = (pieces 32 tx).2 := ⟨_, rfl⟩
  have hev : evOf tx = evW wd ws := by rw [hwd, hws]; rfl
  have hno := pieces_no 32 tx
  have hjo := pieces_join 32 tx
  have hpl := pieces_len 32 tx
  rw [← hwd] at hk0 ht hno hjo
  rw [← hws] at hno hjo hpl
  have hjw : joinP (wd :: ws) = tx := hjo
  obtain ⟨kd, hkd⟩ : ∃ kd : Nat, kd = tkind wd := ⟨_, rfl⟩
  have hk11 := tkind_le wd
  rw [← hkd] at hk0 ht hk11
  obtain ⟨s, hs⟩ : ∃ s, s = tsh kd := ⟨_, rfl⟩
  rw [← hs] at ht
  have hlt : s.2.1 < 32 := by rw [hs]; exact tsh_lt _
  have hRes : evW wd ws = resW s.2.1 3 kd ws := by
    unfold evW resW
    rw [← hkd, if_neg hk0, ← hs, ht]
    rfl
  obtain ⟨res, hres⟩ : ∃ res, res = evOf tx := ⟨_, rfl⟩
  rw [← hres] at hQ
  rw [← hres] at hev
  rw [hRes] at hev
  -- the two blocks
  obtain ⟨W2, hW2⟩ : ∃ W2, (w.alloc (.cells #[.int .i64 0, .int .i64 0, .int .i64 0, .int .i64 0, .int .i64 0, .int .i64 0, .int .i64 0, .slice none 0 0] 24 (0, 0))).alloc (.cells #[strV tx, .bool false, .bool false] 69 (0, 0)) = W2 := ⟨_, rfl⟩
  have hb2 : Below H w W2 := by rw [← hW2, ← hH]; exact (below1 _ _).alloc (by simp) _
  have hr2 : W2.heap[H]? = some (evB noEv (.slice none 0 0)) := by
    rw [← hW2, Below.heap_alloc _ _ _ (by simp; omega)]
    exact heap_newH w _ H hH
  have hl2 : W2.heap[H + 1]? = some (lnB tx false false) := by
    rw [← hW2]
    exact heap_newH _ _ _ (by simp [hH])
  have hLB : LB H w := by rw [← hH]; exact hL.lb
  have HLB : Bx (∀ W, Below H w W → LB H W) := ⟨fun W hb => hLB.on hb⟩
  have HWD : Bx (Calls Tryd.prog 46 #[.pointer (some ⟨H + 1, 0, none⟩)] W2 fun e w' => e = .returned (strV wd) ∧ (Below H w w' ∧ w'.heap[H]? = some (evB noEv (.slice none 0 0)) ∧ w'.heap[H + 1]? = some (lnB (joinP ws) (!ws.isEmpty) false))) := ⟨by
    refine (word_any W2 (H + 1) (wd :: ws) false ⟨⟨false, by rw [hjw]; exact hl2⟩, fun p hp => ?_, by rw [hjw]; omega⟩).mono fun e w' ⟨h1, h2⟩ => ⟨h1, hb2.trans (h2.out.1.below (by have := heap_lt hr2; omega) (fun x hx => by omega)), h2.out.1.at_ hr2 (by omega), h2.out.2⟩
    rcases List.mem_cons.1 hp with rfl | hp
    · exact hno.1
    · exact hno.2 p hp⟩
  have HKD : Bx (∀ W, Below H w W → Calls Tryd.prog 45 #[strV wd] W fun e w' => e = .returned (.int .i64 kd) ∧ Below W.heap.size W w') := ⟨fun W hb => by rw [hkd]; exact kindOf_any wd W ((HLB.out W hb).here.shp)⟩
  have HSO : Bx (∀ W, Below H w W → Calls Tryd.prog 23 #[.int .i64 kd] W fun e w' => e = .returned (.tuple #[shV s, .bool true]) ∧ Below W.heap.size W w') := ⟨fun W hb => by rw [hs]; exact shapeOf_yes kd W ((HLB.out W hb).here.shp) (by omega)⟩
  have HEV : Bx (∀ W, Below H w W → W.heap[H]? = some (evB noEv (.slice none 0 0)) → W.heap[H + 1]? = some (lnB (joinP ws) (!ws.isEmpty) false) → EvS w ((W.alloc (shB s)).alloc (.cells #[.int .i64 0, .int .i64 0, .int .i64 0, .int .i64 0, .int .i64 0] 63 (0, 0))) H W.heap.size (W.heap.size + 1) s [0, 0, 0, 0, 0] ws false) := ⟨fun W hb h1 h2 => by
    have hz := heap_lt h2
    have hb3 : Below W.heap.size W ((W.alloc (shB s)).alloc (.cells #[.int .i64 0, .int .i64 0, .int .i64 0, .int .i64 0, .int .i64 0] 63 (0, 0))) := (below1 _ _).alloc (by simp) _
    refine ⟨hb.trans (hb3.mono (by omega)), below_heap hb3 h1, below_heap hb3 h2, by omega, ?_, by omega, heap_newH _ _ _ (by simp), hno.2, ?_, by omega⟩
    · rw [Below.heap_alloc _ _ _ (by simp)]
      exact heap_newH _ _ _ rfl
    · have := joinP_tail (wd :: ws)
      rw [hjw] at this
      simp only [List.tail_cons] at this
      omega⟩
  have HHP : Bx (∀ k W S A xs ws' f, k < 5 → EvS w W H S A s xs ws' f → Calls Tryd.prog 40 #[shV s, .int .i64 (k : Nat)] W fun e' w' => e' = .returned (.bool (hasB s.2.1 k)) ∧ EvS w w' H S A s xs ws' f) := ⟨fun k W S A xs ws' f hk hx => (hasPlace_any s k W hlt hk).mono fun e' w' h => ⟨h.1, hx.on h.2⟩⟩
  have HNM : Bx (∀ W S A xs ws' f, EvS w W H S A s xs ws' f → Calls Tryd.prog 47 #[.pointer (some ⟨H + 1, 0, none⟩)] W fun e' w' => ∃ n : Int, e' = .returned (.int .i64 n) ∧ EvS w w' H S A s xs ws'.tail (if (numOf (ws'.headD [])).isSome then f else true) ∧ (∀ m, numOf (ws'.headD []) = some m → n = m) ∧ Kx (fun x => x = H + 1) W w') := ⟨fun W S A xs ws' f hx => (number_any W (H + 1) H ws' f hx.lft (HLB.out W hx.bel) (by omega)).mono fun e' w' ⟨n, h1, h2⟩ => ⟨n, h1, hx.next h2.out.1 h2.out.2.1, h2.out.2.2, h2.out.1⟩⟩
  have HEVR : Bx (res = resW s.2.1 3 kd ws) := ⟨hev⟩
  have HQQ : Bx (Q = EvP w res) := ⟨hQ⟩
  have HLL : Bx (LB H w) := ⟨hLB⟩
  have HS4 : Bx (s = tsh kd) := ⟨hs⟩
  have HI0 : Bx (((s.2.2 : Nat) : Int) = 3) := ⟨by rw [ht]; rfl⟩
  clear hQ hL hkd hs hev hRes hres hwd hws hno hjo hpl hjw hb2 hr2 hl2 hLB hlt hl ht
  subst hW2
  go_enter Tryd.func36, Tryd.ntmps36
  go_wp2_with (first
    | (go_at_call 46; refine HWD.out.mono ?_; rintro e1 w3 ⟨rfl, hb3, hr3, hl3⟩; have HB3 : Bx _ := ⟨hb3⟩; have HR3 : Bx _ := ⟨hr3⟩; have HL3 : Bx _ := ⟨hl3⟩; clear hb3 hr3 hl3)
    | (go_at_call 45; refine (HKD.out _ HB3.out).mono ?_; rintro e1 w4 ⟨rfl, hb4⟩; have hz3 := heap_lt HR3.out; have HB4 : Bx (Below H w w4) := ⟨HB3.out.trans (hb4.mono (by omega))⟩; have HR4 : Bx _ := ⟨below_heap hb4 HR3.out⟩; have HL4 : Bx _ := ⟨below_heap hb4 HL3.out⟩; clear hb4 HB3 HR3 HL3)
    | (go_at_call 23; refine (HSO.out _ HB4.out).mono ?_; rintro e1 w5 ⟨rfl, hb5⟩; have hz4 := heap_lt HR4.out; have HB5 : Bx (Below H w w5) := ⟨HB4.out.trans (hb5.mono (by omega))⟩; have HR5 : Bx _ := ⟨below_heap hb5 HR4.out⟩; have HL5 : Bx _ := ⟨below_heap hb5 HL4.out⟩; have HE5 : Bx _ := ⟨HEV.out _ HB5.out HR5.out HL5.out⟩; clear hb5 HB4 HR4 HL4))
  clear HWD HKD HSO HEV HB5 HR5 HL5
  obtain ⟨S, hS⟩ : ∃ S, S = w5.heap.size := ⟨_, rfl⟩
  rw [← hS] at HE5 ⊢
  clear hS
  have HP5 : Bx (Pls s.2.1 ws 0 [0, 0, 0, 0, 0] ws false) := ⟨Pls.start s.2.1 ws⟩
  go_loopw [23] (fun x wr => ∃ (k : Nat) (xs : List Int) (ws' : List (List UInt8)) (f : Bool), k ≤ 5 ∧ x = .int .i64 k ∧ Bx (EvS w wr H S (S + 1) s xs ws' f ∧ Pls s.2.1 ws k xs ws' f)) (fun x _ => 5 - (intOf x).toNat)
  case atStart => exact ⟨0, _, _, _, by omega, rfl, ⟨HE5.out, HP5.out⟩⟩
  case round =>
    obtain ⟨k, xs, ws', f, hk5, rfl, HI⟩ := hrel
    clear HE5 HP5
    by_cases hlt : k < 5
    · have hk5' : (k : Int) < 5 := by omega
      obtain ⟨z0, z1, z2⟩ := shB_cells HI.out.1.sh
      have HC := HHP.out k wr _ _ _ _ _ hlt HI.out.1
      cases hb : hasB s.2.1 k
      · rw [hb] at HC
        have HP : Bx _ := ⟨HI.out.2.skip hlt hb⟩
        clear HI
        go_wp2_with (go_at_call 40; refine HC.mono ?_; rintro e1 w6 ⟨rfl, hb6⟩; have HB6 : Bx _ := ⟨hb6⟩; clear hb6)
        go_roundw
        case rel => exact ⟨k + 1, xs, ws', f, hlt, by go_num, ⟨HB6.out, HP.out⟩⟩
        case measure => simp [intOf]; omega
      · rw [hb] at HC
        have HP : Bx (∀ n, (∀ m, numOf (ws'.headD []) = some m → n = m) → Pls s.2.1 ws (k + 1) (xs.set k n) ws'.tail (if (numOf (ws'.headD [])).isSome then f else true)) := ⟨fun n hn => HI.out.2.num hlt hb hn⟩
        have hxl : xs.length = 5 := HI.out.2.1
        have HCL : Bx (∀ W, EvS w W H S (S + 1) s xs ws'.tail (if (numOf (ws'.headD [])).isSome then f else true) → (∃ v, W.cell? ⟨S + 1, k, none⟩ = some v) ∧ W.frozen? ⟨S + 1, k, none⟩ = false) := ⟨fun W h => ⟨⟨.int .i64 (xs.getD k 0), cell_blk h.ar (by simp [List.getD, show k < xs.length by omega])⟩, frz_blk h.ar⟩⟩
        clear HI
        go_wp2_with (first
          | (go_at_call 40; refine HC.mono ?_; rintro e1 w6 ⟨rfl, hb6⟩; have HB6 : Bx _ := ⟨hb6⟩; clear hb6)
          | (go_at_call 47; refine (HNM.out _ _ _ _ _ _ HB6.out).mono ?_; rintro e1 w7 ⟨n, rfl, hb7, hn7, hk7⟩; obtain ⟨⟨v7, c7⟩, f7⟩ := HCL.out _ hb7; have HB7 : Bx _ := ⟨hb7.set k n⟩; have HN7 : Bx _ := ⟨HP.out n hn7⟩; clear hb7 hn7 hk7))
        go_roundw
        case rel => exact ⟨k + 1, _, _, _, hlt, by go_num, ⟨HB7.out, HN7.out⟩⟩
        case measure => simp [intOf]; omega
    · have : k = 5 := by omega
      subst this
      rw [show ((5 : Nat) : Int) = 5 from rfl]
      obtain ⟨hxl, hpd⟩ := HI.out.2.done
      obtain ⟨x1, x2, x3, x4, x5, rfl⟩ : ∃ x1 x2 x3 x4 x5, xs = [x1, x2, x3, x4, x5] := by
        match xs, hxl with
        | [a, b, c, d, e], _ => exact ⟨a, b, c, d, e, rfl⟩
      obtain ⟨E, hE⟩ : ∃ E, wr.heap.size = E := ⟨_, rfl⟩
      have r0 : wr.cell? ⟨S + 1, 0, none⟩ = some (.int .i64 x1) := cell_blk HI.out.1.ar rfl
      have r1 : wr.cell? ⟨S + 1, 1, none⟩ = some (.int .i64 x2) := cell_blk HI.out.1.ar rfl
      have r2 : wr.cell? ⟨S + 1, 2, none⟩ = some (.int .i64 x3) := cell_blk HI.out.1.ar rfl
      have r3 : wr.cell? ⟨S + 1, 3, none⟩ = some (.int .i64 x4) := cell_blk HI.out.1.ar rfl
      have r4 : wr.cell? ⟨S + 1, 4, none⟩ = some (.int .i64 x5) := cell_blk HI.out.1.ar rfl
      have hHE : H + 1 < E := by have := heap_lt HI.out.1.ln; omega
      have hSE : S + 1 < E := by have := heap_lt HI.out.1.ar; omega
      obtain ⟨HE1, HE2⟩ : Bx _ ∧ Bx _ := ⟨⟨(fin_new HI.out.1 ⟨kd, x1, x2, x3, x4, x5, 0, []⟩).1⟩, ⟨(fin_new HI.out.1 ⟨kd, x1, x2, x3, x4, x5, 0, []⟩).2⟩⟩
      rw [hE] at HE2
      have z2 := (shB_cells HE1.out.sh).2.2
      rw [HI0.out] at z2
      clear HI
      have HNW : Bx (∀ W, EvS w W H S (S + 1) s [x1, x2, x3, x4, x5] ws' f → W.heap[E]? = some (evB ⟨kd, x1, x2, x3, x4, x5, 0, []⟩ (.slice none 0 0)) → W.heap.size = E + 1 → Calls Tryd.prog 42 #[.int .i64 3] W fun e' w' => e' = .returned (.slice (some ⟨E + 1, 0, none⟩) 6 6) ∧ (EvS w w' H S (S + 1) s [x1, x2, x3, x4, x5] ws' f ∧ w'.heap[E]? = some (evB ⟨kd, x1, x2, x3, x4, x5, 0, []⟩ (.slice none 0 0)) ∧ w'.heap[E + 1]? = some (.cells ((nwords 3).map strV).toArray 9))) := ⟨fun W h1 h2 hWE => (numWords_any 3 W).mono fun e' w' ⟨v, a1, a2⟩ => by
        rcases a2.val with ⟨a3, _⟩ | ⟨a3, a4⟩
        · cases a3
        · exact ⟨by rw [a1, a3, hWE]; rfl, h1.on a2.bel, below_heap a2.bel h2, by rw [a4]; exact heap_newH _ _ _ hWE⟩⟩
      have HWRD : Bx (∀ W, EvS w W H S (S + 1) s [x1, x2, x3, x4, x5] ws' f → W.heap[E]? = some (evB ⟨kd, x1, x2, x3, x4, x5, 0, []⟩ (.slice none 0 0)) → W.heap[E + 1]? = some (.cells ((nwords 3).map strV).toArray 9) → Calls Tryd.prog 46 #[.pointer (some ⟨H + 1, 0, none⟩)] W fun e' w' => e' = .returned (strV (ws'.headD [])) ∧ (EvS w w' H S (S + 1) s [x1, x2, x3, x4, x5] ws'.tail f ∧ w'.heap[E]? = some (evB ⟨kd, x1, x2, x3, x4, x5, 0, []⟩ (.slice none 0 0)) ∧ w'.heap[E + 1]? = some (.cells ((nwords 3).map strV).toArray 9))) := ⟨fun W h1 h2 h3 => (word_any W (H + 1) ws' f h1.lft).mono fun e' w' ⟨a1, a2⟩ => ⟨a1, h1.next a2.out.1 a2.out.2, a2.out.1.at_ h2 (by omega), a2.out.1.at_ h3 (by omega)⟩⟩
      have HIDX : Bx (∀ W, W.heap[E + 1]? = some (.cells ((nwords 3).map strV).toArray 9) → Calls Tryd.prog 48 #[.slice (some ⟨E + 1, 0, none⟩) 6 6, strV (ws'.headD [])] W fun e' w' => e' = .returned (.int .i64 ((place (ws'.headD []) (nwords 3) : Int) - 1)) ∧ w' = W) := ⟨fun W h => index_any W (E + 1) 6 (nwords 3) (ws'.headD []) (fun j hj => cell_blk h (by simp [hj])) (by decide)⟩
      have HR : Bx (res = if (!(!ws'.tail.isEmpty) && !f && evOk ⟨kd, x1, x2, x3, x4, x5, (place (ws'.headD []) (nwords 3) : Int), []⟩) then some ⟨kd, x1, x2, x3, x4, x5, (place (ws'.headD []) (nwords 3) : Int), []⟩ else none) := ⟨by rw [HEVR.out]; exact res_23 (by omega) (by have := HI0.out; rw [HS4.out] at this; omega) hpd⟩
      have hple : place (ws'.headD []) (nwords 3) ≤ 6 := place_le _ _
      clear hpd
      generalize place (ws'.headD []) (nwords 3) = P at *
      generalize ws'.headD [] = hd at *
      have hPI : (P : Int) ≤ 6 := by omega
      have hP1 : (P : Int) - 1 + 1 = (P : Int) := by omega
      go_wp2_with (first
        | (go_at_call 42; refine (HNW.out _ HE1.out HE2.out (by simp [hE])).mono ?_; rintro e1 w6 ⟨rfl, ha6, hb6, hc6⟩; have HA6 : Bx _ := ⟨ha6⟩; have HB6 : Bx _ := ⟨hb6⟩; have HC6 : Bx _ := ⟨hc6⟩; clear ha6 hb6 hc6)
        | (go_at_call 46; refine (HWRD.out _ HA6.out HB6.out HC6.out).mono ?_; rintro e1 w7 ⟨rfl, ha7, hb7, hc7⟩; have HA7 : Bx _ := ⟨ha7⟩; have HB7 : Bx _ := ⟨hb7⟩; have HC7 : Bx _ := ⟨HIDX.out _ hc7⟩; obtain ⟨q0, q1, q2, q3, q4, q5, q6, q7⟩ := evB_cells hb7; have y6 := evB_frz hb7 6; obtain ⟨W8, hW8⟩ : ∃ W8, w7.setCell ⟨E, 6, none⟩ (.int .i64 (P : Int)) = W8 := ⟨_, rfl⟩; clear ha7 hb7 hc7)
        | (go_at_call 48; refine HC7.out.mono ?_; rintro e1 w9 ⟨rfl, rfl⟩))
      have HF : Bx _ := ⟨(evS_fin HA7.out HB7.out rfl hHE).num (P : Int)⟩
      rw [hW8] at HF
      clear q0 q1 q2 q3 q4 q5 q6 q7 y6 hW8 HNW HWRD HIDX HA6 HB6 HC6 HA7 HB7 HC7 HE1 HE2 r0 r1 r2 r3 r4 z2
      generalize (!ws'.tail.isEmpty) = m8 at *
      generalize hf8 : f = f8 at *
      generalize joinP ws'.tail = t8 at *
      obtain ⟨e8, he8⟩ : ∃ e8 : Ev, e8 = ⟨kd, x1, x2, x3, x4, x5, (P : Int), []⟩ := ⟨_, rfl⟩
      obtain ⟨a8, ha8⟩ : ∃ a8 : Option Addr, a8 = none := ⟨_, rfl⟩
      obtain ⟨n8, hn8⟩ : ∃ n8 : Nat, n8 = 0 := ⟨_, rfl⟩
      obtain ⟨c8, hc8⟩ : ∃ c8 : Nat, c8 = 0 := ⟨_, rfl⟩
      have HF2 : Bx (Fin w W8 H E e8 a8 n8 c8 t8 m8 f8) := ⟨by rw [he8, ha8, hn8, hc8]; exact HF.out⟩
      have HR2 : Bx (res = if (!m8 && !f8 && evOk e8) then some e8 else none) := ⟨by rw [he8]; exact HR.out⟩
      clear HF HR he8 ha8 hn8 hc8
      have HF := HF2
      have HR := HR2
      clear HF2 HR2
      obtain ⟨l0, l1, l2, g0, g1, g2⟩ := lnB_cells HF.out.ln
      obtain ⟨q0, q1, q2, q3, q4, q5, q6, q7⟩ := evB_cells HF.out.ev
      cases m8 with
      | true =>
        obtain ⟨p0, p1, p2, p3, p4, p5, p6, p7⟩ := evB_cells HF.out.re
        have f0 := evB_frz HF.out.re 0; have f1 := evB_frz HF.out.re 1; have f2 := evB_frz HF.out.re 2; have f3 := evB_frz HF.out.re 3
        have f4 := evB_frz HF.out.re 4; have f5 := evB_frz HF.out.re 5; have f6 := evB_frz HF.out.re 6; have f7 := evB_frz HF.out.re 7
        simp only [noEv] at p0 p1 p2 p3 p4 p5 p6 p7
        obtain ⟨W9, hW9⟩ : ∃ W9, st8 W8 H e8 (.slice a8 n8 c8) = W9 := ⟨_, rfl⟩
        have HK9 : Bx (Kx (fun x => x = H) W8 W9) := ⟨by rw [← hW9]; exact st8_kx W8 H e8 (.slice a8 n8 c8)⟩
        have HC9 := st8_cells HF.out.re e8 (.slice a8 n8 c8)
        have HEN : Bx (∀ b, b = (!true && !f8 && evOk e8) → Q (.returned (.tuple #[evW8 e8 (.slice a8 n8 c8), .bool b])) W9.drew) := ⟨fun b hb => by rw [HQQ.out, ← hW9]; exact (HF.out.fin hH res b hb (by rw [HR.out, hb])).drew⟩
        rw [hW9] at HC9
        have HC9B : Bx _ := ⟨HC9⟩
        unfold st8 at hW9
        clear HC9
        have HSA : Bx (W9.drew.cell? ⟨H + 1, 1, none⟩ = some (.bool true) ∧ W9.drew.cell? ⟨E, 0, none⟩ = some (.int .i64 e8.kind) ∧ W9.drew.cell? ⟨E, 1, none⟩ = some (.int .i64 e8.p) ∧ W9.drew.cell? ⟨E, 2, none⟩ = some (.int .i64 e8.i) ∧ W9.drew.cell? ⟨E, 3, none⟩ = some (.int .i64 e8.q) ∧ W9.drew.cell? ⟨E, 4, none⟩ = some (.int .i64 e8.j) ∧ W9.drew.cell? ⟨E, 5, none⟩ = some (.int .i64 e8.c) ∧ W9.drew.cell? ⟨E, 6, none⟩ = some (.int .i64 e8.num) ∧ W9.drew.cell? ⟨E, 7, none⟩ = some (.slice a8 n8 c8)) := ⟨(lnB_cells (w := W9.drew) (HK9.out.at_ HF.out.ln (by omega))).2.1, evB_cells (w := W9.drew) (HK9.out.at_ HF.out.ev (by omega))⟩
        refine wp_region_held_drew (S := (fun w' : World => w'.cell? ⟨H + 1, 1, none⟩ = some (.bool true) ∧ w'.cell? ⟨E, 0, none⟩ = some (.int .i64 e8.kind) ∧ w'.cell? ⟨E, 1, none⟩ = some (.int .i64 e8.p) ∧ w'.cell? ⟨E, 2, none⟩ = some (.int .i64 e8.i) ∧ w'.cell? ⟨E, 3, none⟩ = some (.int .i64 e8.q) ∧ w'.cell? ⟨E, 4, none⟩ = some (.int .i64 e8.j) ∧ w'.cell? ⟨E, 5, none⟩ = some (.int .i64 e8.c) ∧ w'.cell? ⟨E, 6, none⟩ = some (.int .i64 e8.num) ∧ w'.cell? ⟨E, 7, none⟩ = some (.slice a8 n8 c8))) (by kernel_rfl) ⟨l1, q0, q1, q2, q3, q4, q5, q6, q7⟩ (fun hHeld => ?_)
        try simp only [List.size_toArray, List.length_cons, List.length_nil]
        refine wpAnyH_take (i := 0) (oi := ⟨some 65, Op.load 24 (Operand.tmp 10), 24, _, _, _⟩) (v := ?_) rfl (by decide +kernel) (by decide +kernel) (by decide +kernel) (fun _ _ _ h => h) (Or.inl ⟨by first | rfl | simp [Region.wanted, yielded], ?_⟩) (by assumption) ?_
        case refine_2 => intro w hSw; obtain ⟨s0, s1, s2, s3, s4, s5, s6, s7, s8⟩ := hSw; go_simp; try rfl
        try simp only [Act.put, List.setIfInBounds_toArray, List.set_cons_zero, List.set_cons_succ]
        refine wpAnyH_take (i := 1) (oi := ⟨some 66, Op.fieldAddr 69 (Operand.tmp 4) 1, 0, _, _, _⟩) (v := ?_) rfl (by decide +kernel) (by decide +kernel) (by decide +kernel) (fun _ _ _ h => h) (Or.inl ⟨by first | rfl | simp [Region.wanted, yielded], ?_⟩) (by assumption) ?_
        case refine_2 => intro w hSw; obtain ⟨s0, s1, s2, s3, s4, s5, s6, s7, s8⟩ := hSw; go_simp; try rfl
        try simp only [Act.put, List.setIfInBounds_toArray, List.set_cons_zero, List.set_cons_succ]
        refine wpAnyH_take (i := 2) (oi := ⟨some 67, Op.load 4 (Operand.tmp 66), 4, _, _, _⟩) (v := ?_) rfl (by decide +kernel) (by decide +kernel) (by decide +kernel) (fun _ _ _ h => h) (Or.inl ⟨by first | rfl | simp [Region.wanted, yielded], ?_⟩) (by assumption) ?_
        case refine_2 => intro w hSw; obtain ⟨s0, s1, s2, s3, s4, s5, s6, s7, s8⟩ := hSw; go_simp; try rfl
        try simp only [Act.put, List.setIfInBounds_toArray, List.set_cons_zero, List.set_cons_succ]
        refine wpAnyH_take (i := 3) (oi := ⟨some 68, Op.unOp UnOp.not 4 (Operand.tmp 67), 4, _, _, _⟩) (v := ?_) rfl (by decide +kernel) (by decide +kernel) (by decide +kernel) (fun _ _ _ h => h) (Or.inl ⟨by first | rfl | simp [Region.wanted, yielded], ?_⟩) (by assumption) ?_
        case refine_2 => intro w hSw; obtain ⟨s0, s1, s2, s3, s4, s5, s6, s7, s8⟩ := hSw; go_simp; try rfl
        try simp only [Act.put, List.setIfInBounds_toArray, List.set_cons_zero, List.set_cons_succ]
        refine wpAnyH_take (i := 4) (oi := ⟨some 69, Op.move (Operand.tmp 68), 4, _, _, _⟩) (v := ?_) rfl (by decide +kernel) (by decide +kernel) (by decide +kernel) (fun _ _ _ h => h) (Or.inl ⟨by first | rfl | simp [Region.wanted, yielded], ?_⟩) (by assumption) ?_
        case refine_2 => intro w hSw; obtain ⟨s0, s1, s2, s3, s4, s5, s6, s7, s8⟩ := hSw; go_simp; try rfl
        try simp only [Act.put, List.setIfInBounds_toArray, List.set_cons_zero, List.set_cons_succ]
        refine wpAnyH_take (i := 5) (oi := ⟨some 70, Op.fieldAddr 69 (Operand.tmp 4) 2, 0, _, _, _⟩) (v := undef) rfl (by decide +kernel) (by decide +kernel) (by decide +kernel) (fun _ _ _ h => h) (Or.inr ⟨by first | kernel_rfl | simp [Region.wanted, yielded, undef], rfl⟩) (by assumption) ?_
        try simp only [Act.put, List.setIfInBounds_toArray, List.set_cons_zero, List.set_cons_succ]
        refine wpAnyH_take (i := 6) (oi := ⟨some 71, Op.load 4 (Operand.tmp 70), 4, _, _, _⟩) (v := undef) rfl (by decide +kernel) (by decide +kernel) (by decide +kernel) (fun _ _ _ h => h) (Or.inr ⟨by first | kernel_rfl | simp [Region.wanted, yielded, undef], rfl⟩) (by assumption) ?_
        try simp only [Act.put, List.setIfInBounds_toArray, List.set_cons_zero, List.set_cons_succ]
        refine wpAnyH_take (i := 7) (oi := ⟨some 72, Op.unOp UnOp.not 4 (Operand.tmp 71), 4, _, _, _⟩) (v := undef) rfl (by decide +kernel) (by decide +kernel) (by decide +kernel) (fun _ _ _ h => h) (Or.inr ⟨by first | kernel_rfl | simp [Region.wanted, yielded, undef], rfl⟩) (by assumption) ?_
        try simp only [Act.put, List.setIfInBounds_toArray, List.set_cons_zero, List.set_cons_succ]
        refine wpAnyH_take (i := 8) (oi := ⟨some 73, Op.pick (Operand.tmp 69) (Operand.tmp 72) (Operand.const (Value.bool false)), 4, _, _, _⟩) (v := ?_) rfl (by decide +kernel) (by decide +kernel) (by decide +kernel) (fun _ _ _ h => h) (Or.inl ⟨by first | rfl | simp [Region.wanted, yielded], ?_⟩) (by assumption) ?_
        case refine_2 => intro w hSw; obtain ⟨s0, s1, s2, s3, s4, s5, s6, s7, s8⟩ := hSw; go_simp; try rfl
        try simp only [Act.put, List.setIfInBounds_toArray, List.set_cons_zero, List.set_cons_succ]
        refine wpAnyH_take (i := 9) (oi := ⟨some 74, Op.move (Operand.tmp 73), 4, _, _, _⟩) (v := ?_) rfl (by decide +kernel) (by decide +kernel) (by decide +kernel) (fun _ _ _ h => h) (Or.inl ⟨by first | rfl | simp [Region.wanted, yielded], ?_⟩) (by assumption) ?_
        case refine_2 => intro w hSw; obtain ⟨s0, s1, s2, s3, s4, s5, s6, s7, s8⟩ := hSw; go_simp; try rfl
        try simp only [Act.put, List.setIfInBounds_toArray, List.set_cons_zero, List.set_cons_succ]
        refine wpAnyH_take (i := 10) (oi := ⟨some 75, Op.load 24 (Operand.tmp 10), 24, _, _, _⟩) (v := undef) rfl (by decide +kernel) (by decide +kernel) (by decide +kernel) (fun _ _ _ h => h) (Or.inr ⟨by first | kernel_rfl | simp [Region.wanted, yielded, undef], rfl⟩) (by assumption) ?_
        try simp only [Act.put, List.setIfInBounds_toArray, List.set_cons_zero, List.set_cons_succ]
        refine wpAnyH_take (i := 11) (oi := ⟨some 76, Op.call { callee := Callee.value (Operand.func 10), args := #[Operand.tmp 75], argTypes := #[24] }, 26, _, _, _⟩) (v := undef) rfl (by decide +kernel) (by decide +kernel) (by decide +kernel) (fun _ _ _ h => h) (Or.inr ⟨by first | kernel_rfl | simp [Region.wanted, yielded, undef], rfl⟩) (by assumption) ?_
        try simp only [Act.put, List.setIfInBounds_toArray, List.set_cons_zero, List.set_cons_succ]
        refine wpAnyH_take (i := 12) (oi := ⟨some 77, Op.binOp BinOp.eql 26 (Operand.tmp 76) (Operand.const (Value.int IntKind.i64 0)) 26, 4, _, _, _⟩) (v := undef) rfl (by decide +kernel) (by decide +kernel) (by decide +kernel) (fun _ _ _ h => h) (Or.inr ⟨by first | kernel_rfl | simp [Region.wanted, yielded, undef], rfl⟩) (by assumption) ?_
        try simp only [Act.put, List.setIfInBounds_toArray, List.set_cons_zero, List.set_cons_succ]
        refine wpAnyH_take (i := 13) (oi := ⟨some 78, Op.pick (Operand.tmp 74) (Operand.tmp 77) (Operand.const (Value.bool false)), 4, _, _, _⟩) (v := ?_) rfl (by decide +kernel) (by decide +kernel) (by decide +kernel) (fun _ _ _ h => h) (Or.inl ⟨by first | rfl | simp [Region.wanted, yielded], ?_⟩) (by assumption) ?_
        case refine_2 => intro w hSw; obtain ⟨s0, s1, s2, s3, s4, s5, s6, s7, s8⟩ := hSw; go_simp; try rfl
        try simp only [Act.put, List.setIfInBounds_toArray, List.set_cons_zero, List.set_cons_succ]
        refine wpAnyH_ready (rs := [14]) (by decide +kernel) (by simp) ?_
        refine AllReadyH.cons rfl (fun K hK => ?_) AllReadyH.nil
        go_simp
        refine hK.out _ _ HSA.out (fun hHeld => ?_)
        clear hK K
        try simp only [Act.put, List.setIfInBounds_toArray, List.set_cons_zero, List.set_cons_succ]
        refine wpAnyH_take (i := 15) (oi := ⟨some 3, Op.assign (Operand.tmp 78), 4, _, _, _⟩) (v := ?_) rfl (by decide +kernel) (by decide +kernel) (by decide +kernel) (fun _ _ _ h => h) (Or.inl ⟨by first | rfl | simp [Region.wanted, yielded], ?_⟩) (by assumption) ?_
        case refine_2 => intro w hSw; obtain ⟨s0, s1, s2, s3, s4, s5, s6, s7, s8⟩ := hSw; go_simp; try rfl
        try simp only [Act.put, List.setIfInBounds_toArray, List.set_cons_zero, List.set_cons_succ]
        refine wpAnyH_done (by decide +kernel) ?_ _
        obtain ⟨n0, n1, n2, n3, n4, n5, n6, n7⟩ := HC9B.out
        clear hW9 hHeld p0 p1 p2 p3 p4 p5 p6 p7 f0 f1 f2 f3 f4 f5 f6 f7 q0 q1 q2 q3 q4 q5 q6 q7 l0 l1 l2 g0 g1 g2
        go_wp2
        refine bodyPost_ret (v := .tuple #[evW8 e8 (.slice a8 n8 c8), .bool false]) (by simp [results, Tryd.results36, go_sem, n0, n1, n2, n3, n4, n5, n6, n7]) rfl (HEN.out false (by simp))
      | false =>
        cases f8 with
        | true =>
          obtain ⟨p0, p1, p2, p3, p4, p5, p6, p7⟩ := evB_cells HF.out.re
          have f0 := evB_frz HF.out.re 0; have f1 := evB_frz HF.out.re 1; have f2 := evB_frz HF.out.re 2; have f3 := evB_frz HF.out.re 3
          have f4 := evB_frz HF.out.re 4; have f5 := evB_frz HF.out.re 5; have f6 := evB_frz HF.out.re 6; have f7 := evB_frz HF.out.re 7
          simp only [noEv] at p0 p1 p2 p3 p4 p5 p6 p7
          obtain ⟨W9, hW9⟩ : ∃ W9, st8 W8 H e8 (.slice a8 n8 c8) = W9 := ⟨_, rfl⟩
          have HK9 : Bx (Kx (fun x => x = H) W8 W9) := ⟨by rw [← hW9]; exact st8_kx W8 H e8 (.slice a8 n8 c8)⟩
          have HC9 := st8_cells HF.out.re e8 (.slice a8 n8 c8)
          have HEN : Bx (∀ b, b = (!false && !true && evOk e8) → Q (.returned (.tuple #[evW8 e8 (.slice a8 n8 c8), .bool b])) W9.drew) := ⟨fun b hb => by rw [HQQ.out, ← hW9]; exact (HF.out.fin hH res b hb (by rw [HR.out, hb])).drew⟩
          rw [hW9] at HC9
          have HC9B : Bx _ := ⟨HC9⟩
          unfold st8 at hW9
          clear HC9
          have HSA : Bx (W9.drew.cell? ⟨H + 1, 1, none⟩ = some (.bool false) ∧ W9.drew.cell? ⟨H + 1, 2, none⟩ = some (.bool true) ∧ W9.drew.cell? ⟨E, 0, none⟩ = some (.int .i64 e8.kind) ∧ W9.drew.cell? ⟨E, 1, none⟩ = some (.int .i64 e8.p) ∧ W9.drew.cell? ⟨E, 2, none⟩ = some (.int .i64 e8.i) ∧ W9.drew.cell? ⟨E, 3, none⟩ = some (.int .i64 e8.q) ∧ W9.drew.cell? ⟨E, 4, none⟩ = some (.int .i64 e8.j) ∧ W9.drew.cell? ⟨E, 5, none⟩ = some (.int .i64 e8.c) ∧ W9.drew.cell? ⟨E, 6, none⟩ = some (.int .i64 e8.num) ∧ W9.drew.cell? ⟨E, 7, none⟩ = some (.slice a8 n8 c8)) := ⟨(lnB_cells (w := W9.drew) (HK9.out.at_ HF.out.ln (by omega))).2.1, (lnB_cells (w := W9.drew) (HK9.out.at_ HF.out.ln (by omega))).2.2.1, evB_cells (w := W9.drew) (HK9.out.at_ HF.out.ev (by omega))⟩
          refine wp_region_held_drew (S := (fun w' : World => w'.cell? ⟨H + 1, 1, none⟩ = some (.bool false) ∧ w'.cell? ⟨H + 1, 2, none⟩ = some (.bool true) ∧ w'.cell? ⟨E, 0, none⟩ = some (.int .i64 e8.kind) ∧ w'.cell? ⟨E, 1, none⟩ = some (.int .i64 e8.p) ∧ w'.cell? ⟨E, 2, none⟩ = some (.int .i64 e8.i) ∧ w'.cell? ⟨E, 3, none⟩ = some (.int .i64 e8.q) ∧ w'.cell? ⟨E, 4, none⟩ = some (.int .i64 e8.j) ∧ w'.cell? ⟨E, 5, none⟩ = some (.int .i64 e8.c) ∧ w'.cell? ⟨E, 6, none⟩ = some (.int .i64 e8.num) ∧ w'.cell? ⟨E, 7, none⟩ = some (.slice a8 n8 c8))) (by kernel_rfl) ⟨l1, l2, q0, q1, q2, q3, q4, q5, q6, q7⟩ (fun hHeld => ?_)
          try simp only [List.size_toArray, List.length_cons, List.length_nil]
          refine wpAnyH_take (i := 0) (oi := ⟨some 65, Op.load 24 (Operand.tmp 10), 24, _, _, _⟩) (v := ?_) rfl (by decide +kernel) (by decide +kernel) (by decide +kernel) (fun _ _ _ h => h) (Or.inl ⟨by first | rfl | simp [Region.wanted, yielded], ?_⟩) (by assumption) ?_
          case refine_2 => intro w hSw; obtain ⟨s0, s1, s2, s3, s4, s5, s6, s7, s8, s9⟩ := hSw; go_simp; try rfl
          try simp only [Act.put, List.setIfInBounds_toArray, List.set_cons_zero, List.set_cons_succ]
          refine wpAnyH_take (i := 1) (oi := ⟨some 66, Op.fieldAddr 69 (Operand.tmp 4) 1, 0, _, _, _⟩) (v := ?_) rfl (by decide +kernel) (by decide +kernel) (by decide +kernel) (fun _ _ _ h => h) (Or.inl ⟨by first | rfl | simp [Region.wanted, yielded], ?_⟩) (by assumption) ?_
          case refine_2 => intro w hSw; obtain ⟨s0, s1, s2, s3, s4, s5, s6, s7, s8, s9⟩ := hSw; go_simp; try rfl
          try simp only [Act.put, List.setIfInBounds_toArray, List.set_cons_zero, List.set_cons_succ]
          refine wpAnyH_take (i := 2) (oi := ⟨some 67, Op.load 4 (Operand.tmp 66), 4, _, _, _⟩) (v := ?_) rfl (by decide +kernel) (by decide +kernel) (by decide +kernel) (fun _ _ _ h => h) (Or.inl ⟨by first | rfl | simp [Region.wanted, yielded], ?_⟩) (by assumption) ?_
          case refine_2 => intro w hSw; obtain ⟨s0, s1, s2, s3, s4, s5, s6, s7, s8, s9⟩ := hSw; go_simp; try rfl
          try simp only [Act.put, List.setIfInBounds_toArray, List.set_cons_zero, List.set_cons_succ]
          refine wpAnyH_take (i := 3) (oi := ⟨some 68, Op.unOp UnOp.not 4 (Operand.tmp 67), 4, _, _, _⟩) (v := ?_) rfl (by decide +kernel) (by decide +kernel) (by decide +kernel) (fun _ _ _ h => h) (Or.inl ⟨by first | rfl | simp [Region.wanted, yielded], ?_⟩) (by assumption) ?_
          case refine_2 => intro w hSw; obtain ⟨s0, s1, s2, s3, s4, s5, s6, s7, s8, s9⟩ := hSw; go_simp; try rfl
          try simp only [Act.put, List.setIfInBounds_toArray, List.set_cons_zero, List.set_cons_succ]
          refine wpAnyH_take (i := 4) (oi := ⟨some 69, Op.move (Operand.tmp 68), 4, _, _, _⟩) (v := ?_) rfl (by decide +kernel) (by decide +kernel) (by decide +kernel) (fun _ _ _ h => h) (Or.inl ⟨by first | rfl | simp [Region.wanted, yielded], ?_⟩) (by assumption) ?_
          case refine_2 => intro w hSw; obtain ⟨s0, s1, s2, s3, s4, s5, s6, s7, s8, s9⟩ := hSw; go_simp; try rfl
          try simp only [Act.put, List.setIfInBounds_toArray, List.set_cons_zero, List.set_cons_succ]
          refine wpAnyH_take (i := 5) (oi := ⟨some 70, Op.fieldAddr 69 (Operand.tmp 4) 2, 0, _, _, _⟩) (v := ?_) rfl (by decide +kernel) (by decide +kernel) (by decide +kernel) (fun _ _ _ h => h) (Or.inl ⟨by first | rfl | simp [Region.wanted, yielded], ?_⟩) (by assumption) ?_
          case refine_2 => intro w hSw; obtain ⟨s0, s1, s2, s3, s4, s5, s6, s7, s8, s9⟩ := hSw; go_simp; try rfl
          try simp only [Act.put, List.setIfInBounds_toArray, List.set_cons_zero, List.set_cons_succ]
          refine wpAnyH_take (i := 6) (oi := ⟨some 71, Op.load 4 (Operand.tmp 70), 4, _, _, _⟩) (v := ?_) rfl (by decide +kernel) (by decide +kernel) (by decide +kernel) (fun _ _ _ h => h) (Or.inl ⟨by first | rfl | simp [Region.wanted, yielded], ?_⟩) (by assumption) ?_
          case refine_2 => intro w hSw; obtain ⟨s0, s1, s2, s3, s4, s5, s6, s7, s8, s9⟩ := hSw; go_simp; try rfl
          try simp only [Act.put, List.setIfInBounds_toArray, List.set_cons_zero, List.set_cons_succ]
          refine wpAnyH_take (i := 7) (oi := ⟨some 72, Op.unOp UnOp.not 4 (Operand.tmp 71), 4, _, _, _⟩) (v := ?_) rfl (by decide +kernel) (by decide +kernel) (by decide +kernel) (fun _ _ _ h => h) (Or.inl ⟨by first | rfl | simp [Region.wanted, yielded], ?_⟩) (by assumption) ?_
          case refine_2 => intro w hSw; obtain ⟨s0, s1, s2, s3, s4, s5, s6, s7, s8, s9⟩ := hSw; go_simp; try rfl
          try simp only [Act.put, List.setIfInBounds_toArray, List.set_cons_zero, List.set_cons_succ]
          refine wpAnyH_take (i := 8) (oi := ⟨some 73, Op.pick (Operand.tmp 69) (Operand.tmp 72) (Operand.const (Value.bool false)), 4, _, _, _⟩) (v := ?_) rfl (by decide +kernel) (by decide +kernel) (by decide +kernel) (fun _ _ _ h => h) (Or.inl ⟨by first | rfl | simp [Region.wanted, yielded], ?_⟩) (by assumption) ?_
          case refine_2 => intro w hSw; obtain ⟨s0, s1, s2, s3, s4, s5, s6, s7, s8, s9⟩ := hSw; go_simp; try rfl
          try simp only [Act.put, List.setIfInBounds_toArray, List.set_cons_zero, List.set_cons_succ]
          refine wpAnyH_take (i := 9) (oi := ⟨some 74, Op.move (Operand.tmp 73), 4, _, _, _⟩) (v := ?_) rfl (by decide +kernel) (by decide +kernel) (by decide +kernel) (fun _ _ _ h => h) (Or.inl ⟨by first | rfl | simp [Region.wanted, yielded], ?_⟩) (by assumption) ?_
          case refine_2 => intro w hSw; obtain ⟨s0, s1, s2, s3, s4, s5, s6, s7, s8, s9⟩ := hSw; go_simp; try rfl
          try simp only [Act.put, List.setIfInBounds_toArray, List.set_cons_zero, List.set_cons_succ]
          refine wpAnyH_take (i := 10) (oi := ⟨some 75, Op.load 24 (Operand.tmp 10), 24, _, _, _⟩) (v := undef) rfl (by decide +kernel) (by decide +kernel) (by decide +kernel) (fun _ _ _ h => h) (Or.inr ⟨by first | kernel_rfl | simp [Region.wanted, yielded, undef], rfl⟩) (by assumption) ?_
          try simp only [Act.put, List.setIfInBounds_toArray, List.set_cons_zero, List.set_cons_succ]
          refine wpAnyH_take (i := 11) (oi := ⟨some 76, Op.call { callee := Callee.value (Operand.func 10), args := #[Operand.tmp 75], argTypes := #[24] }, 26, _, _, _⟩) (v := undef) rfl (by decide +kernel) (by decide +kernel) (by decide +kernel) (fun _ _ _ h => h) (Or.inr ⟨by first | kernel_rfl | simp [Region.wanted, yielded, undef], rfl⟩) (by assumption) ?_
          try simp only [Act.put, List.setIfInBounds_toArray, List.set_cons_zero, List.set_cons_succ]
          refine wpAnyH_take (i := 12) (oi := ⟨some 77, Op.binOp BinOp.eql 26 (Operand.tmp 76) (Operand.const (Value.int IntKind.i64 0)) 26, 4, _, _, _⟩) (v := undef) rfl (by decide +kernel) (by decide +kernel) (by decide +kernel) (fun _ _ _ h => h) (Or.inr ⟨by first | kernel_rfl | simp [Region.wanted, yielded, undef], rfl⟩) (by assumption) ?_
          try simp only [Act.put, List.setIfInBounds_toArray, List.set_cons_zero, List.set_cons_succ]
          refine wpAnyH_take (i := 13) (oi := ⟨some 78, Op.pick (Operand.tmp 74) (Operand.tmp 77) (Operand.const (Value.bool false)), 4, _, _, _⟩) (v := ?_) rfl (by decide +kernel) (by decide +kernel) (by decide +kernel) (fun _ _ _ h => h) (Or.inl ⟨by first | rfl | simp [Region.wanted, yielded], ?_⟩) (by assumption) ?_
          case refine_2 => intro w hSw; obtain ⟨s0, s1, s2, s3, s4, s5, s6, s7, s8, s9⟩ := hSw; go_simp; try rfl
          try simp only [Act.put, List.setIfInBounds_toArray, List.set_cons_zero, List.set_cons_succ]
          refine wpAnyH_ready (rs := [14]) (by decide +kernel) (by simp) ?_
          refine AllReadyH.cons rfl (fun K hK => ?_) AllReadyH.nil
          go_simp
          refine hK.out _ _ HSA.out (fun hHeld => ?_)
          clear hK K
          try simp only [Act.put, List.setIfInBounds_toArray, List.set_cons_zero, List.set_cons_succ]
          refine wpAnyH_take (i := 15) (oi := ⟨some 3, Op.assign (Operand.tmp 78), 4, _, _, _⟩) (v := ?_) rfl (by decide +kernel) (by decide +kernel) (by decide +kernel) (fun _ _ _ h => h) (Or.inl ⟨by first | rfl | simp [Region.wanted, yielded], ?_⟩) (by assumption) ?_
          case refine_2 => intro w hSw; obtain ⟨s0, s1, s2, s3, s4, s5, s6, s7, s8, s9⟩ := hSw; go_simp; try rfl
          try simp only [Act.put, List.setIfInBounds_toArray, List.set_cons_zero, List.set_cons_succ]
          refine wpAnyH_done (by decide +kernel) ?_ _
          obtain ⟨n0, n1, n2, n3, n4, n5, n6, n7⟩ := HC9B.out
          clear hW9 hHeld p0 p1 p2 p3 p4 p5 p6 p7 f0 f1 f2 f3 f4 f5 f6 f7 q0 q1 q2 q3 q4 q5 q6 q7 l0 l1 l2 g0 g1 g2
          go_wp2
          refine bodyPost_ret (v := .tuple #[evW8 e8 (.slice a8 n8 c8), .bool false]) (by simp [results, Tryd.results36, go_sem, n0, n1, n2, n3, n4, n5, n6, n7]) rfl (HEN.out false (by simp))
        | false =>
          have HCK : Bx (Calls Tryd.prog 10 #[evW8 e8 (.slice a8 n8 c8)] W8.drew fun e' w' => e' = .returned (.int .i64 (chkE e8)) ∧ Fin w w' H E e8 a8 n8 c8 t8 false false) := ⟨by
            have hfd : Fin w W8.drew H E e8 a8 n8 c8 t8 false false := HF.out.on (below_drewN (Below.refl _ _) 1)
            have hnl := HF.out.nl
            subst hnl
            exact (Check_any e8 a8 c8 W8.drew (HLB.out _ hfd.bel).here.shp (hfd.row.iv rfl)).mono fun e' w' h => ⟨h.1, hfd.on h.2⟩⟩
          have HCB : Bx ((chkE e8 == 0) = evOk e8) := ⟨chk_bool e8⟩
          generalize chkE e8 = ck at *
          refine wp_region_held_drew (S := (fun w' : World => w'.cell? ⟨H + 1, 1, none⟩ = some (.bool false) ∧ w'.cell? ⟨H + 1, 2, none⟩ = some (.bool false) ∧ w'.cell? ⟨E, 0, none⟩ = some (.int .i64 e8.kind) ∧ w'.cell? ⟨E, 1, none⟩ = some (.int .i64 e8.p) ∧ w'.cell? ⟨E, 2, none⟩ = some (.int .i64 e8.i) ∧ w'.cell? ⟨E, 3, none⟩ = some (.int .i64 e8.q) ∧ w'.cell? ⟨E, 4, none⟩ = some (.int .i64 e8.j) ∧ w'.cell? ⟨E, 5, none⟩ = some (.int .i64 e8.c) ∧ w'.cell? ⟨E, 6, none⟩ = some (.int .i64 e8.num) ∧ w'.cell? ⟨E, 7, none⟩ = some (.slice a8 n8 c8))) (by kernel_rfl) ⟨l1, l2, q0, q1, q2, q3, q4, q5, q6, q7⟩ (fun hHeld => ?_)
          try simp only [List.size_toArray, List.length_cons, List.length_nil]
          refine wpAnyH_take (i := 0) (oi := ⟨some 65, Op.load 24 (Operand.tmp 10), 24, _, _, _⟩) (v := ?_) rfl (by decide +kernel) (by decide +kernel) (by decide +kernel) (fun _ _ _ h => h) (Or.inl ⟨by first | rfl | simp [Region.wanted, yielded], ?_⟩) (by assumption) ?_
          case refine_2 => intro w hSw; obtain ⟨s0, s1, s2, s3, s4, s5, s6, s7, s8, s9⟩ := hSw; go_simp; try rfl
          try simp only [Act.put, List.setIfInBounds_toArray, List.set_cons_zero, List.set_cons_succ]
          refine wpAnyH_take (i := 1) (oi := ⟨some 66, Op.fieldAddr 69 (Operand.tmp 4) 1, 0, _, _, _⟩) (v := ?_) rfl (by decide +kernel) (by decide +kernel) (by decide +kernel) (fun _ _ _ h => h) (Or.inl ⟨by first | rfl | simp [Region.wanted, yielded], ?_⟩) (by assumption) ?_
          case refine_2 => intro w hSw; obtain ⟨s0, s1, s2, s3, s4, s5, s6, s7, s8, s9⟩ := hSw; go_simp; try rfl
          try simp only [Act.put, List.setIfInBounds_toArray, List.set_cons_zero, List.set_cons_succ]
          refine wpAnyH_take (i := 2) (oi := ⟨some 67, Op.load 4 (Operand.tmp 66), 4, _, _, _⟩) (v := ?_) rfl (by decide +kernel) (by decide +kernel) (by decide +kernel) (fun _ _ _ h => h) (Or.inl ⟨by first | rfl | simp [Region.wanted, yielded], ?_⟩) (by assumption) ?_
          case refine_2 => intro w hSw; obtain ⟨s0, s1, s2, s3, s4, s5, s6, s7, s8, s9⟩ := hSw; go_simp; try rfl
          try simp only [Act.put, List.setIfInBounds_toArray, List.set_cons_zero, List.set_cons_succ]
          refine wpAnyH_take (i := 3) (oi := ⟨some 68, Op.unOp UnOp.not 4 (Operand.tmp 67), 4, _, _, _⟩) (v := ?_) rfl (by decide +kernel) (by decide +kernel) (by decide +kernel) (fun _ _ _ h => h) (Or.inl ⟨by first | rfl | simp [Region.wanted, yielded], ?_⟩) (by assumption) ?_
          case refine_2 => intro w hSw; obtain ⟨s0, s1, s2, s3, s4, s5, s6, s7, s8, s9⟩ := hSw; go_simp; try rfl
          try simp only [Act.put, List.setIfInBounds_toArray, List.set_cons_zero, List.set_cons_succ]
          refine wpAnyH_take (i := 4) (oi := ⟨some 69, Op.move (Operand.tmp 68), 4, _, _, _⟩) (v := ?_) rfl (by decide +kernel) (by decide +kernel) (by decide +kernel) (fun _ _ _ h => h) (Or.inl ⟨by first | rfl | simp [Region.wanted, yielded], ?_⟩) (by assumption) ?_
          case refine_2 => intro w hSw; obtain ⟨s0, s1, s2, s3, s4, s5, s6, s7, s8, s9⟩ := hSw; go_simp; try rfl
          try simp only [Act.put, List.setIfInBounds_toArray, List.set_cons_zero, List.set_cons_succ]
          refine wpAnyH_take (i := 5) (oi := ⟨some 70, Op.fieldAddr 69 (Operand.tmp 4) 2, 0, _, _, _⟩) (v := ?_) rfl (by decide +kernel) (by decide +kernel) (by decide +kernel) (fun _ _ _ h => h) (Or.inl ⟨by first | rfl | simp [Region.wanted, yielded], ?_⟩) (by assumption) ?_
          case refine_2 => intro w hSw; obtain ⟨s0, s1, s2, s3, s4, s5, s6, s7, s8, s9⟩ := hSw; go_simp; try rfl
          try simp only [Act.put, List.setIfInBounds_toArray, List.set_cons_zero, List.set_cons_succ]
          refine wpAnyH_take (i := 6) (oi := ⟨some 71, Op.load 4 (Operand.tmp 70), 4, _, _, _⟩) (v := ?_) rfl (by decide +kernel) (by decide +kernel) (by decide +kernel) (fun _ _ _ h => h) (Or.inl ⟨by first | rfl | simp [Region.wanted, yielded], ?_⟩) (by assumption) ?_
          case refine_2 => intro w hSw; obtain ⟨s0, s1, s2, s3, s4, s5, s6, s7, s8, s9⟩ := hSw; go_simp; try rfl
          try simp only [Act.put, List.setIfInBounds_toArray, List.set_cons_zero, List.set_cons_succ]
          refine wpAnyH_take (i := 7) (oi := ⟨some 72, Op.unOp UnOp.not 4 (Operand.tmp 71), 4, _, _, _⟩) (v := ?_) rfl (by decide +kernel) (by decide +kernel) (by decide +kernel) (fun _ _ _ h => h) (Or.inl ⟨by first | rfl | simp [Region.wanted, yielded], ?_⟩) (by assumption) ?_
          case refine_2 => intro w hSw; obtain ⟨s0, s1, s2, s3, s4, s5, s6, s7, s8, s9⟩ := hSw; go_simp; try rfl
          try simp only [Act.put, List.setIfInBounds_toArray, List.set_cons_zero, List.set_cons_succ]
          refine wpAnyH_take (i := 8) (oi := ⟨some 73, Op.pick (Operand.tmp 69) (Operand.tmp 72) (Operand.const (Value.bool false)), 4, _, _, _⟩) (v := ?_) rfl (by decide +kernel) (by decide +kernel) (by decide +kernel) (fun _ _ _ h => h) (Or.inl ⟨by first | rfl | simp [Region.wanted, yielded], ?_⟩) (by assumption) ?_
          case refine_2 => intro w hSw; obtain ⟨s0, s1, s2, s3, s4, s5, s6, s7, s8, s9⟩ := hSw; go_simp; try rfl
          try simp only [Act.put, List.setIfInBounds_toArray, List.set_cons_zero, List.set_cons_succ]
          refine wpAnyH_take (i := 9) (oi := ⟨some 74, Op.move (Operand.tmp 73), 4, _, _, _⟩) (v := ?_) rfl (by decide +kernel) (by decide +kernel) (by decide +kernel) (fun _ _ _ h => h) (Or.inl ⟨by first | rfl | simp [Region.wanted, yielded], ?_⟩) (by assumption) ?_
          case refine_2 => intro w hSw; obtain ⟨s0, s1, s2, s3, s4, s5, s6, s7, s8, s9⟩ := hSw; go_simp; try rfl
          try simp only [Act.put, List.setIfInBounds_toArray, List.set_cons_zero, List.set_cons_succ]
          refine wpAnyH_take (i := 10) (oi := ⟨some 75, Op.load 24 (Operand.tmp 10), 24, _, _, _⟩) (v := ?_) rfl (by decide +kernel) (by decide +kernel) (by decide +kernel) (fun _ _ _ h => h) (Or.inl ⟨by first | rfl | simp [Region.wanted, yielded], ?_⟩) (by assumption) ?_
          case refine_2 => intro w hSw; obtain ⟨s0, s1, s2, s3, s4, s5, s6, s7, s8, s9⟩ := hSw; go_simp; try rfl
          try simp only [Act.put, List.setIfInBounds_toArray, List.set_cons_zero, List.set_cons_succ]
          refine wpAnyH_ready (rs := [11]) (by decide +kernel) (by simp) ?_
          refine AllReadyH.cons rfl (fun K hK => ?_) AllReadyH.nil
          refine step_callG (by first | rfl | simp [Region.wanted, yielded]) 10 #[evW8 e8 (.slice a8 n8 c8)] (by simp only [execOp]; go_simp) HCK.out ?_
          rintro e1 wC ⟨rfl, hC⟩
          refine ⟨_, rfl, ?_⟩
          have HFC : Bx _ := ⟨hC⟩
          clear hC
          refine hK.out _ _ ⟨(lnB_cells HFC.out.ln).2.1, (lnB_cells HFC.out.ln).2.2.1, evB_cells HFC.out.ev⟩ (fun hHeld => ?_)
          clear hK K
          try simp only [Act.put, List.setIfInBounds_toArray, List.set_cons_zero, List.set_cons_succ]
          clear l0 l1 l2 g0 g1 g2 q0 q1 q2 q3 q4 q5 q6 q7
          refine wpAnyH_take (i := 12) (oi := ⟨some 77, Op.binOp BinOp.eql 26 (Operand.tmp 76) (Operand.const (Value.int IntKind.i64 0)) 26, 4, _, _, _⟩) (v := ?_) rfl (by decide +kernel) (by decide +kernel) (by decide +kernel) (fun _ _ _ h => h) (Or.inl ⟨by first | rfl | simp [Region.wanted, yielded], ?_⟩) (by assumption) ?_
          case refine_2 => intro w hSw; obtain ⟨s0, s1, s2, s3, s4, s5, s6, s7, s8, s9⟩ := hSw; go_simp; try rfl
          try simp only [Act.put, List.setIfInBounds_toArray, List.set_cons_zero, List.set_cons_succ]
          refine wpAnyH_take (i := 13) (oi := ⟨some 78, Op.pick (Operand.tmp 74) (Operand.tmp 77) (Operand.const (Value.bool false)), 4, _, _, _⟩) (v := ?_) rfl (by decide +kernel) (by decide +kernel) (by decide +kernel) (fun _ _ _ h => h) (Or.inl ⟨by first | rfl | simp [Region.wanted, yielded], ?_⟩) (by assumption) ?_
          case refine_2 => intro w hSw; obtain ⟨s0, s1, s2, s3, s4, s5, s6, s7, s8, s9⟩ := hSw; go_simp; try rfl
          try simp only [Act.put, List.setIfInBounds_toArray, List.set_cons_zero, List.set_cons_succ]
          obtain ⟨p0, p1, p2, p3, p4, p5, p6, p7⟩ := evB_cells HFC.out.re
          have f0 := evB_frz HFC.out.re 0; have f1 := evB_frz HFC.out.re 1; have f2 := evB_frz HFC.out.re 2; have f3 := evB_frz HFC.out.re 3
          have f4 := evB_frz HFC.out.re 4; have f5 := evB_frz HFC.out.re 5; have f6 := evB_frz HFC.out.re 6; have f7 := evB_frz HFC.out.re 7
          simp only [noEv] at p0 p1 p2 p3 p4 p5 p6 p7
          obtain ⟨W9, hW9⟩ : ∃ W9, st8 wC H e8 (.slice a8 n8 c8) = W9 := ⟨_, rfl⟩
          have HK9 : Bx (Kx (fun x => x = H) wC W9) := ⟨by rw [← hW9]; exact st8_kx wC H e8 (.slice a8 n8 c8)⟩
          have HC9 : W9.heap[H]? = some (evB e8 (.slice a8 n8 c8)) := by rw [← hW9]; exact st8_blk HFC.out.re e8 (.slice a8 n8 c8)
          have HEN : Bx (Q (.returned (.tuple #[evW8 e8 (.slice a8 n8 c8), .bool (ck == 0)])) W9) := ⟨by rw [HQQ.out, ← hW9]; exact HFC.out.fin hH res (ck == 0) (by rw [HCB.out]; rfl) (by rw [HR.out, HCB.out]; rfl)⟩
          have HC9B : Bx _ := ⟨evB_cells HC9⟩
          unfold st8 at hW9
          clear HC9
          have HSA : Bx (W9.cell? ⟨H + 1, 1, none⟩ = some (.bool false) ∧ W9.cell? ⟨H + 1, 2, none⟩ = some (.bool false) ∧ W9.cell? ⟨E, 0, none⟩ = some (.int .i64 e8.kind) ∧ W9.cell? ⟨E, 1, none⟩ = some (.int .i64 e8.p) ∧ W9.cell? ⟨E, 2, none⟩ = some (.int .i64 e8.i) ∧ W9.cell? ⟨E, 3, none⟩ = some (.int .i64 e8.q) ∧ W9.cell? ⟨E, 4, none⟩ = some (.int .i64 e8.j) ∧ W9.cell? ⟨E, 5, none⟩ = some (.int .i64 e8.c) ∧ W9.cell? ⟨E, 6, none⟩ = some (.int .i64 e8.num) ∧ W9.cell? ⟨E, 7, none⟩ = some (.slice a8 n8 c8)) := ⟨(lnB_cells (HK9.out.at_ HFC.out.ln (by omega))).2.1, (lnB_cells (HK9.out.at_ HFC.out.ln (by omega))).2.2.1, evB_cells (HK9.out.at_ HFC.out.ev (by omega))⟩
          refine wpAnyH_ready (rs := [14]) (by decide +kernel) (by simp) ?_
          refine AllReadyH.cons rfl (fun K hK => ?_) AllReadyH.nil
          go_simp
          refine hK.out _ _ HSA.out (fun hHeld => ?_)
          clear hK K
          try simp only [Act.put, List.setIfInBounds_toArray, List.set_cons_zero, List.set_cons_succ]
          refine wpAnyH_take (i := 15) (oi := ⟨some 3, Op.assign (Operand.tmp 78), 4, _, _, _⟩) (v := ?_) rfl (by decide +kernel) (by decide +kernel) (by decide +kernel) (fun _ _ _ h => h) (Or.inl ⟨by first | rfl | simp [Region.wanted, yielded], ?_⟩) (by assumption) ?_
          case refine_2 => intro w hSw; obtain ⟨s0, s1, s2, s3, s4, s5, s6, s7, s8, s9⟩ := hSw; go_simp; try rfl
          try simp only [Act.put, List.setIfInBounds_toArray, List.set_cons_zero, List.set_cons_succ]
          refine wpAnyH_done (by decide +kernel) ?_ _
          obtain ⟨n0, n1, n2, n3, n4, n5, n6, n7⟩ := HC9B.out
          clear hW9 hHeld p0 p1 p2 p3 p4 p5 p6 p7 f0 f1 f2 f3 f4 f5 f6 f7
          go_wp2
          refine bodyPost_ret (v := .tuple #[evW8 e8 (.slice a8 n8 c8), .bool (ck == 0)]) (by simp [results, Tryd.results36, go_sem, n0, n1, n2, n3, n4, n5, n6, n7]) rfl HEN.out
end Go.Proofs.YtecpknpcjoiliaaDoor
