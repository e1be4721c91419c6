import Derived.Test.YtecpknpcjoiliabDoorCUXo
import Derived.Test.YtecpknpcjoiliabDoorCUBa
import Derived.Deep.RegionHeld
import Derived.Deep.RegionHeld3
import Derived.Deep.Draws
import Derived.OwnWalk
namespace Go.Proofs.YtecpknpcjoiliabDoor
open Go.RowKit Go.Shelf
set_option linter.unusedVariables false
set_option linter.unusedSimpArgs false

theorem step_call {P : Program} {ops : Array Oper} {o : Oper} {a : Act} {w : World} {K : Act → World → Prop} {Q : Exit → Act → World → Prop} {E : Prop} (hg : o.guard = none) (f : FuncId) (xs : Array Operand) (ts : Array TypeId) (hop : o.op = Op.call { callee := Callee.value (.func f), args := xs, argTypes := ts }) (args : Array Value) (hr : (execOp a.eval o).run P w = .ok (.enter f args) w) {Post : Ending → World → Prop} (hc : Calls P f args w Post) (hK : ∀ e w', Post e w' → ∃ r, e = .returned r ∧ K (a.put o.dst r) w') :
    if Region.wanted o (yielded ops a.tmps) = true then Oper.wp P o a w K Q else E := step_callG (by simp [Region.wanted, hg]) f args hr hc hK
/-- where Parse stands, with what is left -/
structure RpI (w W : World) (H : Nat) (t : List UInt8) (L : List (List UInt8)) (vl : Value) (i : Nat) (s : Sc) (pv : Value) : Prop where
  rp : RpS w W H s pv vl L
  go : ∀ h : i < L.length, readS t = goS L[i] (L.drop (i + 1)) i s
  ed : i = L.length → readS t = .yes s
  few : s.picks.length ≤ 4096
  sl : ∃ a n c, pv = .slice a n c
theorem goS_at {L : List (List UInt8)} {i : Nat} (h : i + 1 < L.length) (s : Sc) : goS (L[i]'(by omega)) (L.drop (i + 1)) i s = (match stepS i s (L[i]'(by omega)) with
    | .no c => .no (i + 1, c)
    | .yes s' => goS L[i + 1] (L.drop (i + 1 + 1)) (i + 1) s') := by
  rw [List.drop_eq_getElem_cons h, goS]
  cases stepS i s (L[i]'(by omega)) <;> rfl
theorem rline_ne {i : Nat} {s : Sc} {l : List UInt8} {c : Int} (h : stepS i s l = .no c) : c ≠ 0 := by
  unfold stepS at h
  split at h
  · cases hq : limL l with
    | yes k => rw [hq] at h; cases h
    | no k =>
      rw [hq] at h
      injection h with h
      subst h
      unfold limL at hq
      split at hq
      · split at hq
        · injection hq with hq; rw [← hq]; decide
        · cases hq
      · injection hq with hq; rw [← hq]; decide
  · split at h
    · cases hq : reapL l with
      | yes k => rw [hq] at h; cases h
      | no k =>
        rw [hq] at h
        injection h with h
        subst h
        unfold reapL at hq
        split at hq
        · split at hq
          · injection hq with hq; rw [← hq]; decide
          · cases hq
        · injection hq with hq; rw [← hq]; decide
    · cases hq : pickL s.picks.length l with
      | yes k => rw [hq] at h; cases h
      | no k =>
        rw [hq] at h
        injection h with h
        subst h
        unfold pickL at hq
        split at hq
        · injection hq with hq; rw [← hq]; decide
        · split at hq
          · injection hq with hq; rw [← hq]; decide
          · split at hq
            · injection hq with hq; rw [← hq]; decide
            · cases hq
theorem step_few {i : Nat} {s s' : Sc} {l : List UInt8} (h : stepS i s l = .yes s') (hf : s.picks.length ≤ 4096) : s'.picks.length ≤ 4096 := by
  unfold stepS at h
  split at h
  · split at h
    · cases h
    · injection h with h; subst h; exact hf
  · split at h
    · split at h
      · cases h
      · injection h with h; subst h; exact hf
    · cases hq : pickL s.picks.length l with
      | no c => rw [hq] at h; cases h
      | yes p =>
        rw [hq] at h
        injection h with h
        subst h
        have : s.picks.length ≠ 4096 := fun e => by
          unfold pickL at hq
          rw [if_pos e] at hq
          split at hq <;> cases hq
        simp
        omega
set_option maxRecDepth 100000 in
set_option maxHeartbeats 8000000 in
theorem rParse_any (t : List UInt8) (w : World) (hl : t.length ≤ 1099511627776) : Calls Tryd.prog 6 #[strV t] w fun e w' => ∃ v k c, e = .returned (.tuple #[v, .int .i64 ((k : Nat) : Int), .int .i64 c]) ∧ Bx (ParP w (readS t) v k c w') := by
  obtain ⟨Q, hQ⟩ : ∃ Q : Ending → World → Prop, Q = fun e w' => ∃ v k c, e = .returned (.tuple #[v, .int .i64 ((k : Nat) : Int), .int .i64 c]) ∧ Bx (ParP w (readS t) v k c w') := ⟨_, rfl⟩
  rw [← hQ]
  obtain ⟨H, hH⟩ : ∃ H, w.heap.size = H := ⟨_, rfl⟩
  have HQN0 : Bx (∀ (k : Nat) c W, readS t = .no (k, c) → Below H w W → Q (.returned (.tuple #[scV zrM false (.slice none 0 0), .int .i64 ((k : Nat) : Int), .int .i64 c])) (st9 W H zrM false (.slice none 0 0))) := ⟨fun k c W h hb => by
    rw [hQ]
    refine ⟨_, k, c, rfl, ⟨?_, ?_⟩⟩
    · rw [hH]; exact hb.trans ((st9_kx W H zrM false (.slice none 0 0)).below (by have := hb.size; omega) (fun x hx => by omega))
    · rw [h]; exact ⟨rfl, rfl, rfl⟩⟩
  have HQY : Bx (∀ s W a n c vl L, readS t = .yes s → RpS w W H s (.slice a n c) vl L → Q (.returned (.tuple #[scV s.lim s.reap (.slice a n c), .int .i64 0, .int .i64 0])) (st9 W H s.lim s.reap (.slice a n c))) := ⟨fun s W a n c vl L h hR => by
    rw [hQ]
    have hk := st9_kx W H s.lim s.reap (.slice a n c)
    have hz := hR.sz
    have hn : n = s.picks.length := by
      rcases hR.pk.own.2 with ⟨q, q2⟩ | ⟨g, cap, cur, q, _⟩
      · simp only [Value.slice.injEq] at q; omega
      · simp only [Value.slice.injEq] at q; exact q.2.1
    subst hn
    refine ⟨_, 0, 0, rfl, ⟨?_, ?_⟩⟩
    · rw [hH]; exact hR.bel.trans (hk.below (by omega) (fun x hx => by omega))
    · rw [h, hH]
      exact ⟨rfl, rfl, a, c, rfl, PkO.low (kx_own hR.pk.own hk hR.re (by decide)) (by omega)⟩⟩
  obtain ⟨L, hL⟩ : ∃ L, L = wordsL 10 t := ⟨_, rfl⟩
  have hpos : 0 < L.length := by rw [hL]; unfold wordsL; simp
  have hlL : L.length ≤ 1099511627777 := by
    have := pieces_len 10 t
    rw [hL]
    unfold wordsL
    simp only [List.length_cons]
    omega
  have hle : ∀ x ∈ L, x.length ≤ 1099511627776 := fun x hx => by
    have hp := piece_le 10 t
    rw [hL] at hx
    unfold wordsL at hx
    rcases List.mem_cons.1 hx with rfl | hx
    · have := hp.1; omega
    · have := hp.2 x hx; omega
  have HGO : Bx (∀ h : 0 < L.length, readS t = goS L[0] (L.drop 1) 0 ⟨zrM, false, []⟩) := ⟨fun h => by subst hL; exact readS_go t⟩
  obtain ⟨N, hN⟩ : ∃ N, N = L.length := ⟨_, rfl⟩
  have HCT : Bx (Calls Tryd.prog 13 #[strV t, .int .u8 10] ((w.alloc (scB zrM false (.slice none 0 0))).alloc (scB zrM false (.slice none 0 0))) fun e w' => ∃ gl cl, e = .returned (.slice (some ⟨gl, 0, none⟩) N cl) ∧ Bx (RpI w w' H t L (.slice (some ⟨gl, 0, none⟩) N cl) 0 ⟨zrM, false, []⟩ (.slice none 0 0))) := ⟨(rcut_any t 10 ((w.alloc (scB zrM false (.slice none 0 0))).alloc (scB zrM false (.slice none 0 0))) hl).mono fun e w' ⟨v, h1, h2⟩ => by
    obtain ⟨hs, hb⟩ := h2.out
    rw [← hL] at hs
    obtain ⟨g, cap, rfl, _⟩ := hs.at_ hpos
    have hz : ((w.alloc (scB zrM false (.slice none 0 0))).alloc (scB zrM false (.slice none 0 0))).heap.size = H + 2 := by simp; omega
    rw [hz] at hs
    rw [← hN] at h1 hs
    refine ⟨g, cap, h1, ⟨RpS.start hH hb hs, HGO.out, fun e => by omega, by show 0 ≤ 4096; omega, ⟨_, _, _, rfl⟩⟩⟩⟩
  have HLE : Bx _ := ⟨hle⟩
  have HNL : Bx (N = L.length) := ⟨hN⟩
  rw [← hN] at hpos hlL
  clear hL hN hle HGO hQ
  go_enter Tryd.func6, Tryd.ntmps6
  go_wp2_with (first
    | (go_at_call 13; refine HCT.out.mono ?_; rintro e1 w1 ⟨gl, cl, rfl, HB1⟩; clear HCT))
  go_loopw [7] (fun x wr => ∃ (i : Nat) (s : Sc) (pv : Value), i ≤ N ∧ x = .int .i64 i ∧ Bx (RpI w wr H t L (.slice (some ⟨gl, 0, none⟩) N cl) i s pv)) (fun x _ => N - (intOf x).toNat)
  case atStart => exact ⟨0, _, _, Nat.zero_le _, rfl, HB1⟩
  case round =>
    obtain ⟨i, s, pv, hi, rfl, HP⟩ := hrel
    clear HB1
    obtain ⟨pa, np, pc, hpv⟩ := HP.out.sl
    subst hpv
    by_cases hlt : i < N
    · have hiI : (i : Int) < (N : Int) := by omega
      have hiL : i < L.length := by rw [← HNL.out]; exact hlt
      have HCL : Bx (∀ W, RpS w W H s (.slice pa np pc) (.slice (some ⟨gl, 0, none⟩) N cl) L → W.cell? ⟨gl, i, none⟩ = some (strV L[i])) := ⟨fun W h => by
        obtain ⟨g, cap, e, _, _, h5⟩ := h.ln.at_ (by omega)
        simp only [Value.slice.injEq, Option.some.injEq, Addr.mk.injEq] at e
        obtain ⟨⟨rfl, _⟩, _⟩ := e
        exact h5 i hiL⟩
      have HCS : Bx (∀ W, SRo W (H + 2) (.slice (some ⟨gl, 0, none⟩) N cl) L → W.cell? ⟨gl, i, none⟩ = some (strV L[i])) := ⟨fun W h => by
        obtain ⟨g, cap, e, _, _, h5⟩ := h.at_ (by omega)
        simp only [Value.slice.injEq, Option.some.injEq, Addr.mk.injEq] at e
        obtain ⟨⟨rfl, _⟩, _⟩ := e
        exact h5 i hiL⟩
      have HCG : Bx (∀ W, RpS w W H s (.slice pa np pc) (.slice (some ⟨gl, 0, none⟩) N cl) L → gl < W.heap.size) := ⟨fun W h => by
        obtain ⟨g, cap, e, _, h4, h5⟩ := h.ln.at_ (by omega)
        simp only [Value.slice.injEq, Option.some.injEq, Addr.mk.injEq] at e
        obtain ⟨⟨rfl, _⟩, _⟩ := e
        exact h4⟩
      have hcap : N ≤ cl := by
        have hs : wr.ownsRow (H + 2) 9 1 (.slice (some ⟨gl, 0, none⟩) N cl) L.length (L.map strV) := HP.out.rp.ln
        rcases hs.2 with ⟨q, _⟩ | ⟨g, cap, cur, q, _, _, q3, _⟩
        · cases q
        · simp only [Value.slice.injEq] at q
          rw [HNL.out]
          omega
      have hw0 : wrap64 ((N : Int) - 1) = (N : Int) - 1 := by unfold wrap64; omega
      have hw1 : IntKind.i64.wrap ((N : Int) - 1) = (N : Int) - 1 := by rw [IntKind.wrap_i64]; omega
      by_cases hla : i + 1 = N
      · subst hla
        have hwA : wrap64 (i : Int) = (i : Int) := by unfold wrap64; omega
        have hwB : IntKind.i64.wrap (i : Int) = (i : Int) := by rw [IntKind.wrap_i64]; omega
        have hwC : wrap64 ((i : Int) + 1 - 1) = (i : Int) := by unfold wrap64; omega
        have hwD : IntKind.i64.wrap ((i : Int) + 1 - 1) = (i : Int) := by rw [IntKind.wrap_i64]; omega
        clear hw0 hw1
        have hgo := HP.out.go hiL
        have hdr : L.drop (i + 1) = [] := List.drop_of_length_le (by rw [← HNL.out]; omega)
        rw [hdr, goS] at hgo
        have c6 := HCL.out _ HP.out.rp
        by_cases hem : L[i] = [] ∧ 2 ≤ i
        · rw [if_pos hem] at hgo
          rw [hem.1] at c6
          have hi2I : ¬ (i : Int) < 2 := by omega
          have hi2d : decide ((i : Int) < 2) = false := by simp; omega
          have HNX2 : Bx (RpI w wr H t L (.slice (some ⟨gl, 0, none⟩) (i + 1) cl) (i + 1) s (.slice pa np pc)) := ⟨HP.out.rp, fun h => by have := HNL.out; omega, fun _ => hgo, HP.out.few, ⟨_, _, _, rfl⟩⟩
          have c8 : wr.cell? ⟨gl, i, none⟩ = some (.string ⟨#[]⟩) := c6
          clear hgo HP HCL HCS HCG HLE HNL hiL hdr hem c6 HQN0 HQY
          go_wp2
          go_roundw
          case rel => exact ⟨i + 1, s, _, hlt, by go_num, HNX2⟩
          case measure => first | (simp [intOf]; done) | (simp [intOf]; omega)
        · rw [if_neg hem] at hgo
          have hq9 := HQN0.out (i + 1) 170 _ hgo HP.out.rp.bel
          obtain ⟨p0, p1, p2, p3, p4, p5, p6, p7, p8⟩ := cells9 HP.out.rp.re
          obtain ⟨f0, f1, f2, f3, f4, f5, f6, f7, f8⟩ := frz9 HP.out.rp.re
          simp only [zrM] at p0 p1 p2 p3 p4 p5 p6
          have hHl := heap_lt HP.out.rp.re
          have hz9 := st9_blk HP.out.rp.re zrM false (.slice none 0 0)
          obtain ⟨W8, hW8⟩ : ∃ W8, st9 wr H zrM false (.slice none 0 0) = W8 := ⟨_, rfl⟩
          rw [hW8] at hz9 hq9
          have HZ9 : Bx _ := ⟨hz9⟩
          have HQ9 : Bx _ := ⟨hq9⟩
          clear hz9 hq9 hgo HP HCL HCS HCG HLE HNL hdr HQN0 HQY
          unfold st9 set9 at hW8
          simp only [zrM] at hW8
          by_cases hl1 : L[i] = []
          · have hi2I : (i : Int) < 2 := by have : ¬ 2 ≤ i := fun e => hem ⟨hl1, e⟩; omega
            rw [hl1] at c6
            have c8 : wr.cell? ⟨gl, i, none⟩ = some (.string ⟨#[]⟩) := c6
            clear c6 hem hl1
            go_wp2
            obtain ⟨r0, r1, r2, r3, r4, r5, r6, r7, r8⟩ := cells9 HZ9.out
            simp only [zrM] at r0 r1 r2 r3 r4 r5 r6
            refine bodyPost_ret (v := .tuple #[scV zrM false (.slice none 0 0), .int .i64 (((i + 1 : Nat)) : Int), .int .i64 170]) (by simp [results, Tryd.results6, go_sem, zrM, r0, r1, r2, r3, r4, r5, r6, r7, r8]) rfl HQ9.out
          · have hb1 : (L[i] == []) = false := by simpa using hl1
            have hb2 : (L[i] != []) = true := by simpa using hl1
            generalize L[i] = lx at *
            clear hem
            go_wp2
            obtain ⟨r0, r1, r2, r3, r4, r5, r6, r7, r8⟩ := cells9 HZ9.out
            simp only [zrM] at r0 r1 r2 r3 r4 r5 r6
            refine bodyPost_ret (v := .tuple #[scV zrM false (.slice none 0 0), .int .i64 (((i + 1 : Nat)) : Int), .int .i64 170]) (by simp [results, Tryd.results6, go_sem, zrM, r0, r1, r2, r3, r4, r5, r6, r7, r8]) rfl HQ9.out
      · have hne : ((i : Int) == (N : Int) - 1) = false := by simp; omega
        have hnn : ¬ (i : Int) = (N : Int) - 1 := by omega
        have hi2 : i + 1 < L.length := by rw [← HNL.out]; omega
        have hgo := HP.out.go hiL
        rw [goS_at hi2] at hgo
        have hll := HLE.out L[i] (List.getElem_mem hiL)
        have hfew := HP.out.few
        have HR0 : Bx _ := ⟨HP.out.rp⟩
        obtain ⟨l, hl0⟩ : ∃ l, l = L[i] := ⟨_, rfl⟩
        rw [← hl0] at hgo hll HCL HCS
        have HCUT : Bx (∀ W, RpS w W H s (.slice pa np pc) (.slice (some ⟨gl, 0, none⟩) N cl) L → Calls Tryd.prog 13 #[strV l, .int .u8 32] W fun e w' => ∃ gc cc, e = .returned (.slice (some ⟨gc, 0, none⟩) ((pieces 32 l).2.length + 1) cc) ∧ Bx (Below W.heap.size W w') ∧ Bx (Wds w' gc cc (pieces 32 l).1 (pieces 32 l).2)) := ⟨fun W h => (rcut_any l 32 W hll).mono fun e w' ⟨v, h1, h2⟩ => by
          obtain ⟨hs, hb⟩ := h2.out
          have hcp : ∃ g cap, v = .slice (some ⟨g, 0, none⟩) (wordsL 32 l).length cap ∧ (wordsL 32 l).length ≤ cap := by
            have hs' : w'.ownsRow W.heap.size 9 1 v (wordsL 32 l).length ((wordsL 32 l).map strV) := hs
            rcases hs'.2 with ⟨_, q⟩ | ⟨g, cap, cur, q, _, _, q3, _⟩
            · unfold wordsL at q; simp at q
            · exact ⟨g, cap, q, q3⟩
          obtain ⟨g, cap, rfl, h3⟩ := hcp
          obtain ⟨g2, cap2, e2, _, h4, h5⟩ := hs.at_ (by unfold wordsL; simp)
          simp only [Value.slice.injEq, Option.some.injEq, Addr.mk.injEq] at e2
          obtain ⟨⟨rfl, _⟩, _, rfl⟩ := e2
          have hlen : (wordsL 32 l).length = (pieces 32 l).2.length + 1 := by unfold wordsL; simp
          refine ⟨g, cap, by rw [h1, hlen], ⟨hb⟩, ⟨Wds.of h4 (by omega) h5⟩⟩⟩
        cases hq : stepS i s l with
        | no cd =>
          rw [hq] at hgo
          have HQN : Bx (∀ W, Below H w W → Q (.returned (.tuple #[scV zrM false (.slice none 0 0), .int .i64 ((i : Int) + 1), .int .i64 cd])) (st9 W H zrM false (.slice none 0 0))) := ⟨fun W hb => by have := HQN0.out (i + 1) cd W hgo hb; simpa using this⟩
          have HLIN : Bx (∀ W gc cc, RpS w W H s (.slice pa np pc) (.slice (some ⟨gl, 0, none⟩) N cl) L → Wds W gc cc (pieces 32 l).1 (pieces 32 l).2 → Calls Tryd.prog 14 #[scV s.lim s.reap (.slice pa np pc), .int .i64 (i : Int), .slice (some ⟨gc, 0, none⟩) ((pieces 32 l).2.length + 1) cc] W fun e w' => ∃ m' b' a' n' c', e = .returned (.tuple #[scV m' b' (.slice a' n' c'), .int .i64 cd]) ∧ Bx (RpT w w' H s (.slice pa np pc) (.slice (some ⟨gl, 0, none⟩) N cl) L (.no cd) m' b' (.slice a' n' c')) ∧ Bx (W.grownBy w' (Value.slice pa np pc).ownBlock)) := ⟨fun W gc cc h hW => (rline_any W (H + 2) gc cc i s pa np pc l hW hll h.pk hfew h.sz).mono fun e w' hh => by
            unfold RLA at hh
            rw [hq] at hh
            obtain ⟨_, ⟨m', b', a', n', c', h1⟩, h2⟩ := hh
            exact ⟨m', b', a', n', c', h1, ⟨h.line h2.out (fun s' e => by cases e)⟩, h2⟩⟩
          have hcd : (cd != 0) = true := by
            have := rline_ne hq
            simpa using this
          have hcd2 : ¬ cd = 0 := rline_ne hq
          clear hgo hll hfew HP hq hl0 HQN0 HQY HLE HNL hi2 hiL
          have HID : Bx (RpS w wr.drew H s (.slice pa np pc) (.slice (some ⟨gl, 0, none⟩) N cl) L) := ⟨HR0.out.on (Below.refl _ _).drew⟩
          have HIA : Bx (RpS w (wr.alloc (scB zrM false (.slice none 0 0))).drew H s (.slice pa np pc) (.slice (some ⟨gl, 0, none⟩) N cl) L) := ⟨HR0.out.on (below1 _ _).drew⟩
          have hglt : gl < wr.heap.size := HCG.out _ HR0.out
          have hHlt : H + 1 < wr.heap.size := HR0.out.sz
          have HSS : Bx (∀ W, W.heap[H + 1]? = some (scB s.lim s.reap (.slice pa np pc)) → SRo W (H + 2) (.slice (some ⟨gl, 0, none⟩) N cl) L → W.cell? ⟨H + 1, 0, none⟩ = some (.int .i64 s.lim.a) ∧ W.cell? ⟨H + 1, 1, none⟩ = some (.int .i64 s.lim.b) ∧ W.cell? ⟨H + 1, 2, none⟩ = some (.int .i64 s.lim.c) ∧ W.cell? ⟨H + 1, 3, none⟩ = some (.int .i64 s.lim.d) ∧ W.cell? ⟨H + 1, 4, none⟩ = some (.int .i64 s.lim.e) ∧ W.cell? ⟨H + 1, 5, none⟩ = some (.int .i64 s.lim.f) ∧ W.cell? ⟨H + 1, 6, none⟩ = some (.int .i64 s.lim.g) ∧ W.cell? ⟨H + 1, 7, none⟩ = some (.bool s.reap) ∧ W.cell? ⟨H + 1, 8, none⟩ = some (.slice pa np pc) ∧ W.cell? ⟨gl, i, none⟩ = some (strV l)) := ⟨fun W h1 h2 => by
            obtain ⟨x0, x1, x2, x3, x4, x5, x6, x7, x8⟩ := cells9 h1
            exact ⟨x0, x1, x2, x3, x4, x5, x6, x7, x8, HCS.out W h2⟩⟩
          clear HCS
          go_wp2
          refine wp_region_held_drew (S := (fun w' : World => w'.cell? ⟨H + 1, 0, none⟩ = some (.int .i64 s.lim.a) ∧ w'.cell? ⟨H + 1, 1, none⟩ = some (.int .i64 s.lim.b) ∧ w'.cell? ⟨H + 1, 2, none⟩ = some (.int .i64 s.lim.c) ∧ w'.cell? ⟨H + 1, 3, none⟩ = some (.int .i64 s.lim.d) ∧ w'.cell? ⟨H + 1, 4, none⟩ = some (.int .i64 s.lim.e) ∧ w'.cell? ⟨H + 1, 5, none⟩ = some (.int .i64 s.lim.f) ∧ w'.cell? ⟨H + 1, 6, none⟩ = some (.int .i64 s.lim.g) ∧ w'.cell? ⟨H + 1, 7, none⟩ = some (.bool s.reap) ∧ w'.cell? ⟨H + 1, 8, none⟩ = some (.slice pa np pc) ∧ w'.cell? ⟨gl, i, none⟩ = some (strV l))) (by kernel_rfl) (HSS.out _ HR0.out.sc HR0.out.ln) (fun hHeld => ?_)
          try simp only [List.size_toArray, List.length_cons, List.length_nil]
          refine wpAnyH_take (i := 0) (oi := ⟨some 37, Op.load 31 (Operand.tmp 5), _, _, _, _⟩) (v := ?_) rfl (by decide +kernel) (by decide +kernel) (by decide +kernel) (fun _ _ _ h => h) (Or.inl ⟨by first | rfl | simp [Region.wanted, yielded], ?_⟩) (by assumption) ?_
          case refine_2 => intro w hSw; obtain ⟨s0, s1, s2, s3, s4, s5, s6, s7, s8, s9⟩ := hSw; go_simp; try rfl
          try simp only [Act.put, List.setIfInBounds_toArray, List.set_cons_zero, List.set_cons_succ]
          refine wpAnyH_take (i := 1) (oi := ⟨some 38, Op.move (Operand.tmp 7), _, _, _, _⟩) (v := ?_) rfl (by decide +kernel) (by decide +kernel) (by decide +kernel) (fun _ _ _ h => h) (Or.inl ⟨by first | rfl | simp [Region.wanted, yielded], ?_⟩) (by assumption) ?_
          case refine_2 => intro w hSw; obtain ⟨s0, s1, s2, s3, s4, s5, s6, s7, s8, s9⟩ := hSw; go_simp; try rfl
          try simp only [Act.put, List.setIfInBounds_toArray, List.set_cons_zero, List.set_cons_succ]
          refine wpAnyH_take (i := 2) (oi := ⟨some 39, Op.move (Operand.tmp 6), _, _, _, _⟩) (v := ?_) rfl (by decide +kernel) (by decide +kernel) (by decide +kernel) (fun _ _ _ h => h) (Or.inl ⟨by first | rfl | simp [Region.wanted, yielded], ?_⟩) (by assumption) ?_
          case refine_2 => intro w hSw; obtain ⟨s0, s1, s2, s3, s4, s5, s6, s7, s8, s9⟩ := hSw; go_simp; try rfl
          try simp only [Act.put, List.setIfInBounds_toArray, List.set_cons_zero, List.set_cons_succ]
          refine wpAnyH_take (i := 3) (oi := ⟨some 40, Op.move (Operand.tmp 7), _, _, _, _⟩) (v := ?_) rfl (by decide +kernel) (by decide +kernel) (by decide +kernel) (fun _ _ _ h => h) (Or.inl ⟨by first | rfl | simp [Region.wanted, yielded], ?_⟩) (by assumption) ?_
          case refine_2 => intro w hSw; obtain ⟨s0, s1, s2, s3, s4, s5, s6, s7, s8, s9⟩ := hSw; go_simp; try rfl
          try simp only [Act.put, List.setIfInBounds_toArray, List.set_cons_zero, List.set_cons_succ]
          refine wpAnyH_take (i := 4) (oi := ⟨some 41, Op.indexAddr 50 (Operand.tmp 39) (Operand.tmp 40), _, _, _, _⟩) (v := ?_) rfl (by decide +kernel) (by decide +kernel) (by decide +kernel) (fun _ _ _ h => h) (Or.inl ⟨by first | rfl | simp [Region.wanted, yielded], ?_⟩) (by assumption) ?_
          case refine_2 => intro w hSw; obtain ⟨s0, s1, s2, s3, s4, s5, s6, s7, s8, s9⟩ := hSw; go_simp; try rfl
          try simp only [Act.put, List.setIfInBounds_toArray, List.set_cons_zero, List.set_cons_succ]
          refine wpAnyH_take (i := 5) (oi := ⟨some 42, Op.load 9 (Operand.tmp 41), _, _, _, _⟩) (v := ?_) rfl (by decide +kernel) (by decide +kernel) (by decide +kernel) (fun _ _ _ h => h) (Or.inl ⟨by first | rfl | simp [Region.wanted, yielded], ?_⟩) (by assumption) ?_
          case refine_2 => intro w hSw; obtain ⟨s0, s1, s2, s3, s4, s5, s6, s7, s8, s9⟩ := hSw; go_simp; try rfl
          try simp only [Act.put, List.setIfInBounds_toArray, List.set_cons_zero, List.set_cons_succ]
          refine wpAnyH_ready (rs := [6, 11]) (by decide +kernel) (by simp) ?_
          refine AllReadyH.cons rfl (fun K hK => ?_) (AllReadyH.cons rfl (fun K hK => ?_) AllReadyH.nil)
          · refine step_callG (by first | rfl | simp [Region.wanted, yielded]) 13 #[strV l, .int .u8 32] (by simp only [execOp]; go_simp) (HCUT.out _ HID.out) ?_
            rintro e1 wC ⟨gc, cc, rfl, HC1, HW1⟩
            refine ⟨_, rfl, ?_⟩
            have HRC : Bx _ := ⟨HID.out.on HC1.out⟩
            refine hK.out _ _ (HSS.out _ HRC.out.sc HRC.out.ln) (fun hHeld => ?_)
            clear hK K
            try simp only [Act.put, List.setIfInBounds_toArray, List.set_cons_zero, List.set_cons_succ]
            refine wpAnyH_ready (rs := [7, 11]) (by decide +kernel) (by simp) ?_
            refine AllReadyH.cons rfl (fun K hK => ?_) (AllReadyH.cons rfl (fun K hK => ?_) AllReadyH.nil)
            · refine step_callG (by first | rfl | simp [Region.wanted, yielded]) 14 #[scV s.lim s.reap (.slice pa np pc), .int .i64 (i : Int), .slice (some ⟨gc, 0, none⟩) ((pieces 32 l).2.length + 1) cc] (by simp only [execOp]; go_simp) (HLIN.out _ _ _ HRC.out HW1.out) ?_
              rintro e1 wL ⟨m', b', a', n', c', rfl, HT, HGR⟩
              refine ⟨_, rfl, ?_⟩
              refine hK.out _ _ (HSS.out _ HT.out.sc HT.out.ln) (fun hHeld => ?_)
              clear hK K
              try simp only [Act.put, List.setIfInBounds_toArray, List.set_cons_zero, List.set_cons_succ]
              refine wpAnyH_take (i := 8) (oi := ⟨some 36, Op.move (Operand.tmp 44), _, _, _, _⟩) (v := ?_) rfl (by decide +kernel) (by decide +kernel) (by decide +kernel) (fun _ _ _ h => h) (Or.inl ⟨by first | rfl | simp [Region.wanted, yielded], ?_⟩) (by assumption) ?_
              case refine_2 => intro w hSw; obtain ⟨s0, s1, s2, s3, s4, s5, s6, s7, s8, s9⟩ := hSw; go_simp; try rfl
              try simp only [Act.put, List.setIfInBounds_toArray, List.set_cons_zero, List.set_cons_succ]
              refine wpAnyH_take (i := 9) (oi := ⟨some 45, Op.extract (Operand.tmp 36) 0, _, _, _, _⟩) (v := ?_) rfl (by decide +kernel) (by decide +kernel) (by decide +kernel) (fun _ _ _ h => h) (Or.inl ⟨by first | rfl | simp [Region.wanted, yielded], ?_⟩) (by assumption) ?_
              case refine_2 => intro w hSw; obtain ⟨s0, s1, s2, s3, s4, s5, s6, s7, s8, s9⟩ := hSw; go_simp; try rfl
              try simp only [Act.put, List.setIfInBounds_toArray, List.set_cons_zero, List.set_cons_succ]
              refine wpAnyH_take (i := 10) (oi := ⟨some 46, Op.extract (Operand.tmp 36) 1, _, _, _, _⟩) (v := ?_) rfl (by decide +kernel) (by decide +kernel) (by decide +kernel) (fun _ _ _ h => h) (Or.inl ⟨by first | rfl | simp [Region.wanted, yielded], ?_⟩) (by assumption) ?_
              case refine_2 => intro w hSw; obtain ⟨s0, s1, s2, s3, s4, s5, s6, s7, s8, s9⟩ := hSw; go_simp; try rfl
              try simp only [Act.put, List.setIfInBounds_toArray, List.set_cons_zero, List.set_cons_succ]
              refine wpAnyH_ready (rs := [11]) (by decide +kernel) (by simp) ?_
              refine AllReadyH.cons rfl (fun K hK => ?_) AllReadyH.nil
              go_simp
              refine hK.out _ _ (HSS.out _ (HT.out.on (below1 wL (scB zrM false (.slice none 0 0)))).sc (HT.out.on (below1 wL (scB zrM false (.slice none 0 0)))).ln) (fun hHeld => ?_)
              clear hK K
              try simp only [Act.put, List.setIfInBounds_toArray, List.set_cons_zero, List.set_cons_succ]
              have hlay := And.intro (HT.out.on (below1 wL (scB m' b' (.slice a' n' c')))) (heap_alloc_new wL (scB m' b' (.slice a' n' c')))
              obtain ⟨W9, hW9⟩ : ∃ W9, wL.alloc (scB m' b' (.slice a' n' c')) = W9 := ⟨_, rfl⟩
              rw [hW9] at hlay
              have HLY : Bx _ := ⟨hlay⟩
              clear hlay
              refine wpAnyH_ready (rs := [12]) (by decide +kernel) (by simp) ?_
              refine AllReadyH.cons rfl (fun K hK => ?_) AllReadyH.nil
              go_simp
              refine hK.out _ _ (HSS.out _ HLY.out.1.sc HLY.out.1.ln) (fun hHeld => ?_)
              clear hK K
              try simp only [Act.put, List.setIfInBounds_toArray, List.set_cons_zero, List.set_cons_succ]
              refine wpAnyH_take (i := 13) (oi := ⟨some 9, Op.assign (Operand.tmp 46), _, _, _, _⟩) (v := ?_) rfl (by decide +kernel) (by decide +kernel) (by decide +kernel) (fun _ _ _ h => h) (Or.inl ⟨by first | rfl | simp [Region.wanted, yielded], ?_⟩) (by assumption) ?_
              case refine_2 => intro w hSw; obtain ⟨s0, s1, s2, s3, s4, s5, s6, s7, s8, s9⟩ := hSw; go_simp; try rfl
              try simp only [Act.put, List.setIfInBounds_toArray, List.set_cons_zero, List.set_cons_succ]
              refine wpAnyH_done (by decide +kernel) ?_ _
              clear hHeld hW9 HCUT HLIN HCL HCG HT HSS
              obtain ⟨p0, p1, p2, p3, p4, p5, p6, p7, p8⟩ := cells9 HLY.out.1.re
              obtain ⟨f0, f1, f2, f3, f4, f5, f6, f7, f8⟩ := frz9 HLY.out.1.re
              simp only [zrM] at p0 p1 p2 p3 p4 p5 p6
              have hHl := heap_lt HLY.out.1.re
              have hz9 := st9_blk HLY.out.1.re zrM false (.slice none 0 0)
              have hq9 := HQN.out _ HLY.out.1.bel
              obtain ⟨W8, hW8⟩ : ∃ W8, st9 W9 H zrM false (.slice none 0 0) = W8 := ⟨_, rfl⟩
              rw [hW8] at hz9 hq9
              have HZ9 : Bx _ := ⟨hz9⟩
              have HQ9 : Bx _ := ⟨hq9⟩
              clear hz9 hq9
              unfold st9 set9 at hW8
              simp only [zrM] at hW8
              go_wp2
              obtain ⟨r0, r1, r2, r3, r4, r5, r6, r7, r8⟩ := cells9 HZ9.out
              simp only [zrM] at r0 r1 r2 r3 r4 r5 r6
              refine bodyPost_ret (v := .tuple #[scV zrM false (.slice none 0 0), .int .i64 ((i : Int) + 1), .int .i64 cd]) (by simp [results, Tryd.results6, go_sem, zrM, r0, r1, r2, r3, r4, r5, r6, r7, r8]) rfl HQ9.out
            · go_simp
              refine hK.out _ _ (HSS.out _ (HRC.out.on (below1 wC (scB zrM false (.slice none 0 0)))).sc (HRC.out.on (below1 wC (scB zrM false (.slice none 0 0)))).ln) (fun hHeld => ?_)
              clear hK K
              try simp only [Act.put, List.setIfInBounds_toArray, List.set_cons_zero, List.set_cons_succ]
              refine wpAnyH_ready (rs := [7]) (by decide +kernel) (by simp) ?_
              refine AllReadyH.cons rfl (fun K hK => ?_) AllReadyH.nil
              refine step_callG (by first | rfl | simp [Region.wanted, yielded]) 14 #[scV s.lim s.reap (.slice pa np pc), .int .i64 (i : Int), .slice (some ⟨gc, 0, none⟩) ((pieces 32 l).2.length + 1) cc] (by simp only [execOp]; go_simp) (HLIN.out _ _ _ (HRC.out.on (below1 wC (scB zrM false (.slice none 0 0)))) (HW1.out.below HW1.out.lt (below1 wC (scB zrM false (.slice none 0 0))))) ?_
              rintro e1 wL ⟨m', b', a', n', c', rfl, HT, HGR⟩
              refine ⟨_, rfl, ?_⟩
              refine hK.out _ _ (HSS.out _ HT.out.sc HT.out.ln) (fun hHeld => ?_)
              clear hK K
              try simp only [Act.put, List.setIfInBounds_toArray, List.set_cons_zero, List.set_cons_succ]
              have hG : H + 2 ≤ wC.heap.size := HRC.out.sz
              have HZL : Bx (wL.heap[wC.heap.size]? = some (scB zrM false (.slice none 0 0))) := ⟨grown_keep (HRC.out.on (below1 wC (scB zrM false (.slice none 0 0)))).pk HGR.out (heap_alloc_new wC _)⟩
              refine wpAnyH_take (i := 8) (oi := ⟨some 36, Op.move (Operand.tmp 44), _, _, _, _⟩) (v := ?_) rfl (by decide +kernel) (by decide +kernel) (by decide +kernel) (fun _ _ _ h => h) (Or.inl ⟨by first | rfl | simp [Region.wanted, yielded], ?_⟩) (by assumption) ?_
              case refine_2 => intro w hSw; obtain ⟨s0, s1, s2, s3, s4, s5, s6, s7, s8, s9⟩ := hSw; go_simp; try rfl
              try simp only [Act.put, List.setIfInBounds_toArray, List.set_cons_zero, List.set_cons_succ]
              refine wpAnyH_take (i := 9) (oi := ⟨some 45, Op.extract (Operand.tmp 36) 0, _, _, _, _⟩) (v := ?_) rfl (by decide +kernel) (by decide +kernel) (by decide +kernel) (fun _ _ _ h => h) (Or.inl ⟨by first | rfl | simp [Region.wanted, yielded], ?_⟩) (by assumption) ?_
              case refine_2 => intro w hSw; obtain ⟨s0, s1, s2, s3, s4, s5, s6, s7, s8, s9⟩ := hSw; go_simp; try rfl
              try simp only [Act.put, List.setIfInBounds_toArray, List.set_cons_zero, List.set_cons_succ]
              refine wpAnyH_take (i := 10) (oi := ⟨some 46, Op.extract (Operand.tmp 36) 1, _, _, _, _⟩) (v := ?_) rfl (by decide +kernel) (by decide +kernel) (by decide +kernel) (fun _ _ _ h => h) (Or.inl ⟨by first | rfl | simp [Region.wanted, yielded], ?_⟩) (by assumption) ?_
              case refine_2 => intro w hSw; obtain ⟨s0, s1, s2, s3, s4, s5, s6, s7, s8, s9⟩ := hSw; go_simp; try rfl
              try simp only [Act.put, List.setIfInBounds_toArray, List.set_cons_zero, List.set_cons_succ]
              obtain ⟨p0, p1, p2, p3, p4, p5, p6, p7, p8⟩ := cells9 HZL.out
              obtain ⟨f0, f1, f2, f3, f4, f5, f6, f7, f8⟩ := frz9 HZL.out
              simp only [zrM] at p0 p1 p2 p3 p4 p5 p6
              have hGl := heap_lt HZL.out
              have hlay := HT.out.lay hG HZL.out
              obtain ⟨W9, hW9⟩ : ∃ W9, st9 wL wC.heap.size m' b' (.slice a' n' c') = W9 := ⟨_, rfl⟩
              rw [hW9] at hlay
              have HLY : Bx _ := ⟨hlay⟩
              clear hlay
              unfold st9 set9 at hW9
              refine wpAnyH_ready (rs := [12]) (by decide +kernel) (by simp) ?_
              refine AllReadyH.cons rfl (fun K hK => ?_) AllReadyH.nil
              go_simp
              refine hK.out _ _ (HSS.out _ HLY.out.1.sc HLY.out.1.ln) (fun hHeld => ?_)
              clear hK K
              try simp only [Act.put, List.setIfInBounds_toArray, List.set_cons_zero, List.set_cons_succ]
              refine wpAnyH_take (i := 13) (oi := ⟨some 9, Op.assign (Operand.tmp 46), _, _, _, _⟩) (v := ?_) rfl (by decide +kernel) (by decide +kernel) (by decide +kernel) (fun _ _ _ h => h) (Or.inl ⟨by first | rfl | simp [Region.wanted, yielded], ?_⟩) (by assumption) ?_
              case refine_2 => intro w hSw; obtain ⟨s0, s1, s2, s3, s4, s5, s6, s7, s8, s9⟩ := hSw; go_simp; try rfl
              try simp only [Act.put, List.setIfInBounds_toArray, List.set_cons_zero, List.set_cons_succ]
              refine wpAnyH_done (by decide +kernel) ?_ _
              clear hHeld hW9 HCUT HLIN HCL HCG HT HSS
              clear p0 p1 p2 p3 p4 p5 p6 p7 p8 f0 f1 f2 f3 f4 f5 f6 f7 f8 hGl
              obtain ⟨p0, p1, p2, p3, p4, p5, p6, p7, p8⟩ := cells9 HLY.out.1.re
              obtain ⟨f0, f1, f2, f3, f4, f5, f6, f7, f8⟩ := frz9 HLY.out.1.re
              simp only [zrM] at p0 p1 p2 p3 p4 p5 p6
              have hHl := heap_lt HLY.out.1.re
              have hz9 := st9_blk HLY.out.1.re zrM false (.slice none 0 0)
              have hq9 := HQN.out _ HLY.out.1.bel
              obtain ⟨W8, hW8⟩ : ∃ W8, st9 W9 H zrM false (.slice none 0 0) = W8 := ⟨_, rfl⟩
              rw [hW8] at hz9 hq9
              have HZ9 : Bx _ := ⟨hz9⟩
              have HQ9 : Bx _ := ⟨hq9⟩
              clear hz9 hq9
              unfold st9 set9 at hW8
              simp only [zrM] at hW8
              go_wp2
              obtain ⟨r0, r1, r2, r3, r4, r5, r6, r7, r8⟩ := cells9 HZ9.out
              simp only [zrM] at r0 r1 r2 r3 r4 r5 r6
              refine bodyPost_ret (v := .tuple #[scV zrM false (.slice none 0 0), .int .i64 ((i : Int) + 1), .int .i64 cd]) (by simp [results, Tryd.results6, go_sem, zrM, r0, r1, r2, r3, r4, r5, r6, r7, r8]) rfl HQ9.out
          · go_simp
            refine hK.out _ _ (HSS.out _ HIA.out.sc HIA.out.ln) (fun hHeld => ?_)
            clear hK K
            try simp only [Act.put, List.setIfInBounds_toArray, List.set_cons_zero, List.set_cons_succ]
            refine wpAnyH_ready (rs := [6]) (by decide +kernel) (by simp) ?_
            refine AllReadyH.cons rfl (fun K hK => ?_) AllReadyH.nil
            refine step_callG (by first | rfl | simp [Region.wanted, yielded]) 13 #[strV l, .int .u8 32] (by simp only [execOp]; go_simp) (HCUT.out _ HIA.out) ?_
            rintro e1 wC ⟨gc, cc, rfl, HC1, HW1⟩
            refine ⟨_, rfl, ?_⟩
            have HRC : Bx _ := ⟨HIA.out.on HC1.out⟩
            refine hK.out _ _ (HSS.out _ HRC.out.sc HRC.out.ln) (fun hHeld => ?_)
            clear hK K
            try simp only [Act.put, List.setIfInBounds_toArray, List.set_cons_zero, List.set_cons_succ]
            refine wpAnyH_ready (rs := [7]) (by decide +kernel) (by simp) ?_
            refine AllReadyH.cons rfl (fun K hK => ?_) AllReadyH.nil
            have HZC : Bx (wC.heap[wr.heap.size]? = some (scB zrM false (.slice none 0 0))) := ⟨below_heap HC1.out (show (wr.alloc (scB zrM false (.slice none 0 0))).drew.heap[wr.heap.size]? = some (scB zrM false (.slice none 0 0)) from heap_alloc_new wr _)⟩
            refine step_callG (by first | rfl | simp [Region.wanted, yielded]) 14 #[scV s.lim s.reap (.slice pa np pc), .int .i64 (i : Int), .slice (some ⟨gc, 0, none⟩) ((pieces 32 l).2.length + 1) cc] (by simp only [execOp]; go_simp) (HLIN.out _ _ _ HRC.out HW1.out) ?_
            rintro e1 wL ⟨m', b', a', n', c', rfl, HT, HGR⟩
            refine ⟨_, rfl, ?_⟩
            refine hK.out _ _ (HSS.out _ HT.out.sc HT.out.ln) (fun hHeld => ?_)
            clear hK K
            try simp only [Act.put, List.setIfInBounds_toArray, List.set_cons_zero, List.set_cons_succ]
            have hG : H + 2 ≤ wr.heap.size := HR0.out.sz
            have HZL : Bx _ := ⟨grown_keep HRC.out.pk HGR.out HZC.out⟩
            clear HZC
            refine wpAnyH_take (i := 8) (oi := ⟨some 36, Op.move (Operand.tmp 44), _, _, _, _⟩) (v := ?_) rfl (by decide +kernel) (by decide +kernel) (by decide +kernel) (fun _ _ _ h => h) (Or.inl ⟨by first | rfl | simp [Region.wanted, yielded], ?_⟩) (by assumption) ?_
            case refine_2 => intro w hSw; obtain ⟨s0, s1, s2, s3, s4, s5, s6, s7, s8, s9⟩ := hSw; go_simp; try rfl
            try simp only [Act.put, List.setIfInBounds_toArray, List.set_cons_zero, List.set_cons_succ]
            refine wpAnyH_take (i := 9) (oi := ⟨some 45, Op.extract (Operand.tmp 36) 0, _, _, _, _⟩) (v := ?_) rfl (by decide +kernel) (by decide +kernel) (by decide +kernel) (fun _ _ _ h => h) (Or.inl ⟨by first | rfl | simp [Region.wanted, yielded], ?_⟩) (by assumption) ?_
            case refine_2 => intro w hSw; obtain ⟨s0, s1, s2, s3, s4, s5, s6, s7, s8, s9⟩ := hSw; go_simp; try rfl
            try simp only [Act.put, List.setIfInBounds_toArray, List.set_cons_zero, List.set_cons_succ]
            refine wpAnyH_take (i := 10) (oi := ⟨some 46, Op.extract (Operand.tmp 36) 1, _, _, _, _⟩) (v := ?_) rfl (by decide +kernel) (by decide +kernel) (by decide +kernel) (fun _ _ _ h => h) (Or.inl ⟨by first | rfl | simp [Region.wanted, yielded], ?_⟩) (by assumption) ?_
            case refine_2 => intro w hSw; obtain ⟨s0, s1, s2, s3, s4, s5, s6, s7, s8, s9⟩ := hSw; go_simp; try rfl
            try simp only [Act.put, List.setIfInBounds_toArray, List.set_cons_zero, List.set_cons_succ]
            obtain ⟨p0, p1, p2, p3, p4, p5, p6, p7, p8⟩ := cells9 HZL.out
            obtain ⟨f0, f1, f2, f3, f4, f5, f6, f7, f8⟩ := frz9 HZL.out
            simp only [zrM] at p0 p1 p2 p3 p4 p5 p6
            have hGl := heap_lt HZL.out
            have hlay := HT.out.lay hG HZL.out
            obtain ⟨W9, hW9⟩ : ∃ W9, st9 wL wr.heap.size m' b' (.slice a' n' c') = W9 := ⟨_, rfl⟩
            rw [hW9] at hlay
            have HLY : Bx _ := ⟨hlay⟩
            clear hlay
            unfold st9 set9 at hW9
            refine wpAnyH_ready (rs := [12]) (by decide +kernel) (by simp) ?_
            refine AllReadyH.cons rfl (fun K hK => ?_) AllReadyH.nil
            go_simp
            refine hK.out _ _ (HSS.out _ HLY.out.1.sc HLY.out.1.ln) (fun hHeld => ?_)
            clear hK K
            try simp only [Act.put, List.setIfInBounds_toArray, List.set_cons_zero, List.set_cons_succ]
            refine wpAnyH_take (i := 13) (oi := ⟨some 9, Op.assign (Operand.tmp 46), _, _, _, _⟩) (v := ?_) rfl (by decide +kernel) (by decide +kernel) (by decide +kernel) (fun _ _ _ h => h) (Or.inl ⟨by first | rfl | simp [Region.wanted, yielded], ?_⟩) (by assumption) ?_
            case refine_2 => intro w hSw; obtain ⟨s0, s1, s2, s3, s4, s5, s6, s7, s8, s9⟩ := hSw; go_simp; try rfl
            try simp only [Act.put, List.setIfInBounds_toArray, List.set_cons_zero, List.set_cons_succ]
            refine wpAnyH_done (by decide +kernel) ?_ _
            clear hHeld hW9 HCUT HLIN HCL HCG HT HSS
            clear p0 p1 p2 p3 p4 p5 p6 p7 p8 f0 f1 f2 f3 f4 f5 f6 f7 f8 hGl
            obtain ⟨p0, p1, p2, p3, p4, p5, p6, p7, p8⟩ := cells9 HLY.out.1.re
            obtain ⟨f0, f1, f2, f3, f4, f5, f6, f7, f8⟩ := frz9 HLY.out.1.re
            simp only [zrM] at p0 p1 p2 p3 p4 p5 p6
            have hHl := heap_lt HLY.out.1.re
            have hz9 := st9_blk HLY.out.1.re zrM false (.slice none 0 0)
            have hq9 := HQN.out _ HLY.out.1.bel
            obtain ⟨W8, hW8⟩ : ∃ W8, st9 W9 H zrM false (.slice none 0 0) = W8 := ⟨_, rfl⟩
            rw [hW8] at hz9 hq9
            have HZ9 : Bx _ := ⟨hz9⟩
            have HQ9 : Bx _ := ⟨hq9⟩
            clear hz9 hq9
            unfold st9 set9 at hW8
            simp only [zrM] at hW8
            go_wp2
            obtain ⟨r0, r1, r2, r3, r4, r5, r6, r7, r8⟩ := cells9 HZ9.out
            simp only [zrM] at r0 r1 r2 r3 r4 r5 r6
            refine bodyPost_ret (v := .tuple #[scV zrM false (.slice none 0 0), .int .i64 ((i : Int) + 1), .int .i64 cd]) (by simp [results, Tryd.results6, go_sem, zrM, r0, r1, r2, r3, r4, r5, r6, r7, r8]) rfl HQ9.out
        | yes s' =>
          rw [hq] at hgo
          have hfew2 := step_few hq hfew
          have HLIN : Bx (∀ W gc cc, RpS w W H s (.slice pa np pc) (.slice (some ⟨gl, 0, none⟩) N cl) L → Wds W gc cc (pieces 32 l).1 (pieces 32 l).2 → Calls Tryd.prog 14 #[scV s.lim s.reap (.slice pa np pc), .int .i64 (i : Int), .slice (some ⟨gc, 0, none⟩) ((pieces 32 l).2.length + 1) cc] W fun e w' => ∃ m' b' a' n' c', e = .returned (.tuple #[scV m' b' (.slice a' n' c'), .int .i64 0]) ∧ Bx (RpT w w' H s (.slice pa np pc) (.slice (some ⟨gl, 0, none⟩) N cl) L (.yes s') m' b' (.slice a' n' c')) ∧ Bx (W.grownBy w' (Value.slice pa np pc).ownBlock)) := ⟨fun W gc cc h hW => (rline_any W (H + 2) gc cc i s pa np pc l hW hll h.pk hfew h.sz).mono fun e w' hh => by
            unfold RLA at hh
            rw [hq] at hh
            obtain ⟨a', n', c', h1, h2⟩ := hh
            exact ⟨s'.lim, s'.reap, a', n', c', h1, ⟨h.line h2.out.2 (fun s2 e => by injection e with e; subst e; exact ⟨rfl, rfl, h2.out.1⟩)⟩, ⟨h2.out.2⟩⟩⟩
          have HNX : Bx (∀ W m' b' v', RpT w W H s (.slice pa np pc) (.slice (some ⟨gl, 0, none⟩) N cl) L (.yes s') m' b' v' → (∃ a n c, v' = .slice a n c) → RpI w (st9 W (H + 1) m' b' v') H t L (.slice (some ⟨gl, 0, none⟩) N cl) (i + 1) s' v') := ⟨fun W m' b' v' h hs => ⟨h.next, fun _ => hgo, fun e => by omega, hfew2, hs⟩⟩
          clear hgo hll hfew hfew2 HP hq hl0 HQN0 HQY HLE HNL hi2 hiL
          have HID : Bx (RpS w wr.drew H s (.slice pa np pc) (.slice (some ⟨gl, 0, none⟩) N cl) L) := ⟨HR0.out.on (Below.refl _ _).drew⟩
          have HIA : Bx (RpS w (wr.alloc (scB zrM false (.slice none 0 0))).drew H s (.slice pa np pc) (.slice (some ⟨gl, 0, none⟩) N cl) L) := ⟨HR0.out.on (below1 _ _).drew⟩
          have hglt : gl < wr.heap.size := HCG.out _ HR0.out
          have hHlt : H + 1 < wr.heap.size := HR0.out.sz
          have HSS : Bx (∀ W, W.heap[H + 1]? = some (scB s.lim s.reap (.slice pa np pc)) → SRo W (H + 2) (.slice (some ⟨gl, 0, none⟩) N cl) L → W.cell? ⟨H + 1, 0, none⟩ = some (.int .i64 s.lim.a) ∧ W.cell? ⟨H + 1, 1, none⟩ = some (.int .i64 s.lim.b) ∧ W.cell? ⟨H + 1, 2, none⟩ = some (.int .i64 s.lim.c) ∧ W.cell? ⟨H + 1, 3, none⟩ = some (.int .i64 s.lim.d) ∧ W.cell? ⟨H + 1, 4, none⟩ = some (.int .i64 s.lim.e) ∧ W.cell? ⟨H + 1, 5, none⟩ = some (.int .i64 s.lim.f) ∧ W.cell? ⟨H + 1, 6, none⟩ = some (.int .i64 s.lim.g) ∧ W.cell? ⟨H + 1, 7, none⟩ = some (.bool s.reap) ∧ W.cell? ⟨H + 1, 8, none⟩ = some (.slice pa np pc) ∧ W.cell? ⟨gl, i, none⟩ = some (strV l)) := ⟨fun W h1 h2 => by
            obtain ⟨x0, x1, x2, x3, x4, x5, x6, x7, x8⟩ := cells9 h1
            exact ⟨x0, x1, x2, x3, x4, x5, x6, x7, x8, HCS.out W h2⟩⟩
          clear HCS
          go_wp2
          refine wp_region_held_drew (S := (fun w' : World => w'.cell? ⟨H + 1, 0, none⟩ = some (.int .i64 s.lim.a) ∧ w'.cell? ⟨H + 1, 1, none⟩ = some (.int .i64 s.lim.b) ∧ w'.cell? ⟨H + 1, 2, none⟩ = some (.int .i64 s.lim.c) ∧ w'.cell? ⟨H + 1, 3, none⟩ = some (.int .i64 s.lim.d) ∧ w'.cell? ⟨H + 1, 4, none⟩ = some (.int .i64 s.lim.e) ∧ w'.cell? ⟨H + 1, 5, none⟩ = some (.int .i64 s.lim.f) ∧ w'.cell? ⟨H + 1, 6, none⟩ = some (.int .i64 s.lim.g) ∧ w'.cell? ⟨H + 1, 7, none⟩ = some (.bool s.reap) ∧ w'.cell? ⟨H + 1, 8, none⟩ = some (.slice pa np pc) ∧ w'.cell? ⟨gl, i, none⟩ = some (strV l))) (by kernel_rfl) (HSS.out _ HR0.out.sc HR0.out.ln) (fun hHeld => ?_)
          try simp only [List.size_toArray, List.length_cons, List.length_nil]
          refine wpAnyH_take (i := 0) (oi := ⟨some 37, Op.load 31 (Operand.tmp 5), _, _, _, _⟩) (v := ?_) rfl (by decide +kernel) (by decide +kernel) (by decide +kernel) (fun _ _ _ h => h) (Or.inl ⟨by first | rfl | simp [Region.wanted, yielded], ?_⟩) (by assumption) ?_
          case refine_2 => intro w hSw; obtain ⟨s0, s1, s2, s3, s4, s5, s6, s7, s8, s9⟩ := hSw; go_simp; try rfl
          try simp only [Act.put, List.setIfInBounds_toArray, List.set_cons_zero, List.set_cons_succ]
          refine wpAnyH_take (i := 1) (oi := ⟨some 38, Op.move (Operand.tmp 7), _, _, _, _⟩) (v := ?_) rfl (by decide +kernel) (by decide +kernel) (by decide +kernel) (fun _ _ _ h => h) (Or.inl ⟨by first | rfl | simp [Region.wanted, yielded], ?_⟩) (by assumption) ?_
          case refine_2 => intro w hSw; obtain ⟨s0, s1, s2, s3, s4, s5, s6, s7, s8, s9⟩ := hSw; go_simp; try rfl
          try simp only [Act.put, List.setIfInBounds_toArray, List.set_cons_zero, List.set_cons_succ]
          refine wpAnyH_take (i := 2) (oi := ⟨some 39, Op.move (Operand.tmp 6), _, _, _, _⟩) (v := ?_) rfl (by decide +kernel) (by decide +kernel) (by decide +kernel) (fun _ _ _ h => h) (Or.inl ⟨by first | rfl | simp [Region.wanted, yielded], ?_⟩) (by assumption) ?_
          case refine_2 => intro w hSw; obtain ⟨s0, s1, s2, s3, s4, s5, s6, s7, s8, s9⟩ := hSw; go_simp; try rfl
          try simp only [Act.put, List.setIfInBounds_toArray, List.set_cons_zero, List.set_cons_succ]
          refine wpAnyH_take (i := 3) (oi := ⟨some 40, Op.move (Operand.tmp 7), _, _, _, _⟩) (v := ?_) rfl (by decide +kernel) (by decide +kernel) (by decide +kernel) (fun _ _ _ h => h) (Or.inl ⟨by first | rfl | simp [Region.wanted, yielded], ?_⟩) (by assumption) ?_
          case refine_2 => intro w hSw; obtain ⟨s0, s1, s2, s3, s4, s5, s6, s7, s8, s9⟩ := hSw; go_simp; try rfl
          try simp only [Act.put, List.setIfInBounds_toArray, List.set_cons_zero, List.set_cons_succ]
          refine wpAnyH_take (i := 4) (oi := ⟨some 41, Op.indexAddr 50 (Operand.tmp 39) (Operand.tmp 40), _, _, _, _⟩) (v := ?_) rfl (by decide +kernel) (by decide +kernel) (by decide +kernel) (fun _ _ _ h => h) (Or.inl ⟨by first | rfl | simp [Region.wanted, yielded], ?_⟩) (by assumption) ?_
          case refine_2 => intro w hSw; obtain ⟨s0, s1, s2, s3, s4, s5, s6, s7, s8, s9⟩ := hSw; go_simp; try rfl
          try simp only [Act.put, List.setIfInBounds_toArray, List.set_cons_zero, List.set_cons_succ]
          refine wpAnyH_take (i := 5) (oi := ⟨some 42, Op.load 9 (Operand.tmp 41), _, _, _, _⟩) (v := ?_) rfl (by decide +kernel) (by decide +kernel) (by decide +kernel) (fun _ _ _ h => h) (Or.inl ⟨by first | rfl | simp [Region.wanted, yielded], ?_⟩) (by assumption) ?_
          case refine_2 => intro w hSw; obtain ⟨s0, s1, s2, s3, s4, s5, s6, s7, s8, s9⟩ := hSw; go_simp; try rfl
          try simp only [Act.put, List.setIfInBounds_toArray, List.set_cons_zero, List.set_cons_succ]
          refine wpAnyH_ready (rs := [6, 11]) (by decide +kernel) (by simp) ?_
          refine AllReadyH.cons rfl (fun K hK => ?_) (AllReadyH.cons rfl (fun K hK => ?_) AllReadyH.nil)
          · refine step_callG (by first | rfl | simp [Region.wanted, yielded]) 13 #[strV l, .int .u8 32] (by simp only [execOp]; go_simp) (HCUT.out _ HID.out) ?_
            rintro e1 wC ⟨gc, cc, rfl, HC1, HW1⟩
            refine ⟨_, rfl, ?_⟩
            have HRC : Bx _ := ⟨HID.out.on HC1.out⟩
            refine hK.out _ _ (HSS.out _ HRC.out.sc HRC.out.ln) (fun hHeld => ?_)
            clear hK K
            try simp only [Act.put, List.setIfInBounds_toArray, List.set_cons_zero, List.set_cons_succ]
            refine wpAnyH_ready (rs := [7, 11]) (by decide +kernel) (by simp) ?_
            refine AllReadyH.cons rfl (fun K hK => ?_) (AllReadyH.cons rfl (fun K hK => ?_) AllReadyH.nil)
            · refine step_callG (by first | rfl | simp [Region.wanted, yielded]) 14 #[scV s.lim s.reap (.slice pa np pc), .int .i64 (i : Int), .slice (some ⟨gc, 0, none⟩) ((pieces 32 l).2.length + 1) cc] (by simp only [execOp]; go_simp) (HLIN.out _ _ _ HRC.out HW1.out) ?_
              rintro e1 wL ⟨m', b', a', n', c', rfl, HT, HGR⟩
              refine ⟨_, rfl, ?_⟩
              refine hK.out _ _ (HSS.out _ HT.out.sc HT.out.ln) (fun hHeld => ?_)
              clear hK K
              try simp only [Act.put, List.setIfInBounds_toArray, List.set_cons_zero, List.set_cons_succ]
              refine wpAnyH_take (i := 8) (oi := ⟨some 36, Op.move (Operand.tmp 44), _, _, _, _⟩) (v := ?_) rfl (by decide +kernel) (by decide +kernel) (by decide +kernel) (fun _ _ _ h => h) (Or.inl ⟨by first | rfl | simp [Region.wanted, yielded], ?_⟩) (by assumption) ?_
              case refine_2 => intro w hSw; obtain ⟨s0, s1, s2, s3, s4, s5, s6, s7, s8, s9⟩ := hSw; go_simp; try rfl
              try simp only [Act.put, List.setIfInBounds_toArray, List.set_cons_zero, List.set_cons_succ]
              refine wpAnyH_take (i := 9) (oi := ⟨some 45, Op.extract (Operand.tmp 36) 0, _, _, _, _⟩) (v := ?_) rfl (by decide +kernel) (by decide +kernel) (by decide +kernel) (fun _ _ _ h => h) (Or.inl ⟨by first | rfl | simp [Region.wanted, yielded], ?_⟩) (by assumption) ?_
              case refine_2 => intro w hSw; obtain ⟨s0, s1, s2, s3, s4, s5, s6, s7, s8, s9⟩ := hSw; go_simp; try rfl
              try simp only [Act.put, List.setIfInBounds_toArray, List.set_cons_zero, List.set_cons_succ]
              refine wpAnyH_take (i := 10) (oi := ⟨some 46, Op.extract (Operand.tmp 36) 1, _, _, _, _⟩) (v := ?_) rfl (by decide +kernel) (by decide +kernel) (by decide +kernel) (fun _ _ _ h => h) (Or.inl ⟨by first | rfl | simp [Region.wanted, yielded], ?_⟩) (by assumption) ?_
              case refine_2 => intro w hSw; obtain ⟨s0, s1, s2, s3, s4, s5, s6, s7, s8, s9⟩ := hSw; go_simp; try rfl
              try simp only [Act.put, List.setIfInBounds_toArray, List.set_cons_zero, List.set_cons_succ]
              refine wpAnyH_ready (rs := [11]) (by decide +kernel) (by simp) ?_
              refine AllReadyH.cons rfl (fun K hK => ?_) AllReadyH.nil
              go_simp
              refine hK.out _ _ (HSS.out _ (HT.out.on (below1 wL (scB zrM false (.slice none 0 0)))).sc (HT.out.on (below1 wL (scB zrM false (.slice none 0 0)))).ln) (fun hHeld => ?_)
              clear hK K
              try simp only [Act.put, List.setIfInBounds_toArray, List.set_cons_zero, List.set_cons_succ]
              have hlay := And.intro (HT.out.on (below1 wL (scB m' b' (.slice a' n' c')))) (heap_alloc_new wL (scB m' b' (.slice a' n' c')))
              obtain ⟨W9, hW9⟩ : ∃ W9, wL.alloc (scB m' b' (.slice a' n' c')) = W9 := ⟨_, rfl⟩
              rw [hW9] at hlay
              have HLY : Bx _ := ⟨hlay⟩
              clear hlay
              refine wpAnyH_ready (rs := [12]) (by decide +kernel) (by simp) ?_
              refine AllReadyH.cons rfl (fun K hK => ?_) AllReadyH.nil
              go_simp
              refine hK.out _ _ (HSS.out _ HLY.out.1.sc HLY.out.1.ln) (fun hHeld => ?_)
              clear hK K
              try simp only [Act.put, List.setIfInBounds_toArray, List.set_cons_zero, List.set_cons_succ]
              refine wpAnyH_take (i := 13) (oi := ⟨some 9, Op.assign (Operand.tmp 46), _, _, _, _⟩) (v := ?_) rfl (by decide +kernel) (by decide +kernel) (by decide +kernel) (fun _ _ _ h => h) (Or.inl ⟨by first | rfl | simp [Region.wanted, yielded], ?_⟩) (by assumption) ?_
              case refine_2 => intro w hSw; obtain ⟨s0, s1, s2, s3, s4, s5, s6, s7, s8, s9⟩ := hSw; go_simp; try rfl
              try simp only [Act.put, List.setIfInBounds_toArray, List.set_cons_zero, List.set_cons_succ]
              refine wpAnyH_done (by decide +kernel) ?_ _
              clear hHeld hW9 HCUT HLIN HCL HCG HT HSS
              obtain ⟨p0, p1, p2, p3, p4, p5, p6, p7, p8⟩ := cells9 HLY.out.1.sc
              obtain ⟨f0, f1, f2, f3, f4, f5, f6, f7, f8⟩ := frz9 HLY.out.1.sc
              obtain ⟨y0, y1, y2, y3, y4, y5, y6, y7, y8⟩ := cells9 HLY.out.2
              have hHl := heap_lt HLY.out.1.sc
              have hnx := HNX.out _ _ _ _ HLY.out.1 ⟨_, _, _, rfl⟩
              obtain ⟨W8, hW8⟩ : ∃ W8, st9 W9 (H + 1) m' b' (.slice a' n' c') = W8 := ⟨_, rfl⟩
              rw [hW8] at hnx
              have HNX2 : Bx _ := ⟨hnx⟩
              clear hnx
              unfold st9 set9 at hW8
              go_wp2
              go_roundw
              case rel => exact ⟨i + 1, s', .slice a' n' c', hlt, by go_num, HNX2⟩
              case measure => simp [intOf]; omega
            · go_simp
              refine hK.out _ _ (HSS.out _ (HRC.out.on (below1 wC (scB zrM false (.slice none 0 0)))).sc (HRC.out.on (below1 wC (scB zrM false (.slice none 0 0)))).ln) (fun hHeld => ?_)
              clear hK K
              try simp only [Act.put, List.setIfInBounds_toArray, List.set_cons_zero, List.set_cons_succ]
              refine wpAnyH_ready (rs := [7]) (by decide +kernel) (by simp) ?_
              refine AllReadyH.cons rfl (fun K hK => ?_) AllReadyH.nil
              refine step_callG (by first | rfl | simp [Region.wanted, yielded]) 14 #[scV s.lim s.reap (.slice pa np pc), .int .i64 (i : Int), .slice (some ⟨gc, 0, none⟩) ((pieces 32 l).2.length + 1) cc] (by simp only [execOp]; go_simp) (HLIN.out _ _ _ (HRC.out.on (below1 wC (scB zrM false (.slice none 0 0)))) (HW1.out.below HW1.out.lt (below1 wC (scB zrM false (.slice none 0 0))))) ?_
              rintro e1 wL ⟨m', b', a', n', c', rfl, HT, HGR⟩
              refine ⟨_, rfl, ?_⟩
              refine hK.out _ _ (HSS.out _ HT.out.sc HT.out.ln) (fun hHeld => ?_)
              clear hK K
              try simp only [Act.put, List.setIfInBounds_toArray, List.set_cons_zero, List.set_cons_succ]
              have hG : H + 2 ≤ wC.heap.size := HRC.out.sz
              have HZL : Bx (wL.heap[wC.heap.size]? = some (scB zrM false (.slice none 0 0))) := ⟨grown_keep (HRC.out.on (below1 wC (scB zrM false (.slice none 0 0)))).pk HGR.out (heap_alloc_new wC _)⟩
              refine wpAnyH_take (i := 8) (oi := ⟨some 36, Op.move (Operand.tmp 44), _, _, _, _⟩) (v := ?_) rfl (by decide +kernel) (by decide +kernel) (by decide +kernel) (fun _ _ _ h => h) (Or.inl ⟨by first | rfl | simp [Region.wanted, yielded], ?_⟩) (by assumption) ?_
              case refine_2 => intro w hSw; obtain ⟨s0, s1, s2, s3, s4, s5, s6, s7, s8, s9⟩ := hSw; go_simp; try rfl
              try simp only [Act.put, List.setIfInBounds_toArray, List.set_cons_zero, List.set_cons_succ]
              refine wpAnyH_take (i := 9) (oi := ⟨some 45, Op.extract (Operand.tmp 36) 0, _, _, _, _⟩) (v := ?_) rfl (by decide +kernel) (by decide +kernel) (by decide +kernel) (fun _ _ _ h => h) (Or.inl ⟨by first | rfl | simp [Region.wanted, yielded], ?_⟩) (by assumption) ?_
              case refine_2 => intro w hSw; obtain ⟨s0, s1, s2, s3, s4, s5, s6, s7, s8, s9⟩ := hSw; go_simp; try rfl
              try simp only [Act.put, List.setIfInBounds_toArray, List.set_cons_zero, List.set_cons_succ]
              refine wpAnyH_take (i := 10) (oi := ⟨some 46, Op.extract (Operand.tmp 36) 1, _, _, _, _⟩) (v := ?_) rfl (by decide +kernel) (by decide +kernel) (by decide +kernel) (fun _ _ _ h => h) (Or.inl ⟨by first | rfl | simp [Region.wanted, yielded], ?_⟩) (by assumption) ?_
              case refine_2 => intro w hSw; obtain ⟨s0, s1, s2, s3, s4, s5, s6, s7, s8, s9⟩ := hSw; go_simp; try rfl
              try simp only [Act.put, List.setIfInBounds_toArray, List.set_cons_zero, List.set_cons_succ]
              obtain ⟨p0, p1, p2, p3, p4, p5, p6, p7, p8⟩ := cells9 HZL.out
              obtain ⟨f0, f1, f2, f3, f4, f5, f6, f7, f8⟩ := frz9 HZL.out
              simp only [zrM] at p0 p1 p2 p3 p4 p5 p6
              have hGl := heap_lt HZL.out
              have hlay := HT.out.lay hG HZL.out
              obtain ⟨W9, hW9⟩ : ∃ W9, st9 wL wC.heap.size m' b' (.slice a' n' c') = W9 := ⟨_, rfl⟩
              rw [hW9] at hlay
              have HLY : Bx _ := ⟨hlay⟩
              clear hlay
              unfold st9 set9 at hW9
              refine wpAnyH_ready (rs := [12]) (by decide +kernel) (by simp) ?_
              refine AllReadyH.cons rfl (fun K hK => ?_) AllReadyH.nil
              go_simp
              refine hK.out _ _ (HSS.out _ HLY.out.1.sc HLY.out.1.ln) (fun hHeld => ?_)
              clear hK K
              try simp only [Act.put, List.setIfInBounds_toArray, List.set_cons_zero, List.set_cons_succ]
              refine wpAnyH_take (i := 13) (oi := ⟨some 9, Op.assign (Operand.tmp 46), _, _, _, _⟩) (v := ?_) rfl (by decide +kernel) (by decide +kernel) (by decide +kernel) (fun _ _ _ h => h) (Or.inl ⟨by first | rfl | simp [Region.wanted, yielded], ?_⟩) (by assumption) ?_
              case refine_2 => intro w hSw; obtain ⟨s0, s1, s2, s3, s4, s5, s6, s7, s8, s9⟩ := hSw; go_simp; try rfl
              try simp only [Act.put, List.setIfInBounds_toArray, List.set_cons_zero, List.set_cons_succ]
              refine wpAnyH_done (by decide +kernel) ?_ _
              clear hHeld hW9 HCUT HLIN HCL HCG HT HSS
              clear p0 p1 p2 p3 p4 p5 p6 p7 p8 f0 f1 f2 f3 f4 f5 f6 f7 f8 hGl
              obtain ⟨p0, p1, p2, p3, p4, p5, p6, p7, p8⟩ := cells9 HLY.out.1.sc
              obtain ⟨f0, f1, f2, f3, f4, f5, f6, f7, f8⟩ := frz9 HLY.out.1.sc
              obtain ⟨y0, y1, y2, y3, y4, y5, y6, y7, y8⟩ := cells9 HLY.out.2
              have hHl := heap_lt HLY.out.1.sc
              have hnx := HNX.out _ _ _ _ HLY.out.1 ⟨_, _, _, rfl⟩
              obtain ⟨W8, hW8⟩ : ∃ W8, st9 W9 (H + 1) m' b' (.slice a' n' c') = W8 := ⟨_, rfl⟩
              rw [hW8] at hnx
              have HNX2 : Bx _ := ⟨hnx⟩
              clear hnx
              unfold st9 set9 at hW8
              go_wp2
              go_roundw
              case rel => exact ⟨i + 1, s', .slice a' n' c', hlt, by go_num, HNX2⟩
              case measure => simp [intOf]; omega
          · go_simp
            refine hK.out _ _ (HSS.out _ HIA.out.sc HIA.out.ln) (fun hHeld => ?_)
            clear hK K
            try simp only [Act.put, List.setIfInBounds_toArray, List.set_cons_zero, List.set_cons_succ]
            refine wpAnyH_ready (rs := [6]) (by decide +kernel) (by simp) ?_
            refine AllReadyH.cons rfl (fun K hK => ?_) AllReadyH.nil
            refine step_callG (by first | rfl | simp [Region.wanted, yielded]) 13 #[strV l, .int .u8 32] (by simp only [execOp]; go_simp) (HCUT.out _ HIA.out) ?_
            rintro e1 wC ⟨gc, cc, rfl, HC1, HW1⟩
            refine ⟨_, rfl, ?_⟩
            have HRC : Bx _ := ⟨HIA.out.on HC1.out⟩
            refine hK.out _ _ (HSS.out _ HRC.out.sc HRC.out.ln) (fun hHeld => ?_)
            clear hK K
            try simp only [Act.put, List.setIfInBounds_toArray, List.set_cons_zero, List.set_cons_succ]
            refine wpAnyH_ready (rs := [7]) (by decide +kernel) (by simp) ?_
            refine AllReadyH.cons rfl (fun K hK => ?_) AllReadyH.nil
            have HZC : Bx (wC.heap[wr.heap.size]? = some (scB zrM false (.slice none 0 0))) := ⟨below_heap HC1.out (show (wr.alloc (scB zrM false (.slice none 0 0))).drew.heap[wr.heap.size]? = some (scB zrM false (.slice none 0 0)) from heap_alloc_new wr _)⟩
            refine step_callG (by first | rfl | simp [Region.wanted, yielded]) 14 #[scV s.lim s.reap (.slice pa np pc), .int .i64 (i : Int), .slice (some ⟨gc, 0, none⟩) ((pieces 32 l).2.length + 1) cc] (by simp only [execOp]; go_simp) (HLIN.out _ _ _ HRC.out HW1.out) ?_
            rintro e1 wL ⟨m', b', a', n', c', rfl, HT, HGR⟩
            refine ⟨_, rfl, ?_⟩
            refine hK.out _ _ (HSS.out _ HT.out.sc HT.out.ln) (fun hHeld => ?_)
            clear hK K
            try simp only [Act.put, List.setIfInBounds_toArray, List.set_cons_zero, List.set_cons_succ]
            have hG : H + 2 ≤ wr.heap.size := HR0.out.sz
            have HZL : Bx _ := ⟨grown_keep HRC.out.pk HGR.out HZC.out⟩
            clear HZC
            refine wpAnyH_take (i := 8) (oi := ⟨some 36, Op.move (Operand.tmp 44), _, _, _, _⟩) (v := ?_) rfl (by decide +kernel) (by decide +kernel) (by decide +kernel) (fun _ _ _ h => h) (Or.inl ⟨by first | rfl | simp [Region.wanted, yielded], ?_⟩) (by assumption) ?_
            case refine_2 => intro w hSw; obtain ⟨s0, s1, s2, s3, s4, s5, s6, s7, s8, s9⟩ := hSw; go_simp; try rfl
            try simp only [Act.put, List.setIfInBounds_toArray, List.set_cons_zero, List.set_cons_succ]
            refine wpAnyH_take (i := 9) (oi := ⟨some 45, Op.extract (Operand.tmp 36) 0, _, _, _, _⟩) (v := ?_) rfl (by decide +kernel) (by decide +kernel) (by decide +kernel) (fun _ _ _ h => h) (Or.inl ⟨by first | rfl | simp [Region.wanted, yielded], ?_⟩) (by assumption) ?_
            case refine_2 => intro w hSw; obtain ⟨s0, s1, s2, s3, s4, s5, s6, s7, s8, s9⟩ := hSw; go_simp; try rfl
            try simp only [Act.put, List.setIfInBounds_toArray, List.set_cons_zero, List.set_cons_succ]
            refine wpAnyH_take (i := 10) (oi := ⟨some 46, Op.extract (Operand.tmp 36) 1, _, _, _, _⟩) (v := ?_) rfl (by decide +kernel) (by decide +kernel) (by decide +kernel) (fun _ _ _ h => h) (Or.inl ⟨by first | rfl | simp [Region.wanted, yielded], ?_⟩) (by assumption) ?_
            case refine_2 => intro w hSw; obtain ⟨s0, s1, s2, s3, s4, s5, s6, s7, s8, s9⟩ := hSw; go_simp; try rfl
            try simp only [Act.put, List.setIfInBounds_toArray, List.set_cons_zero, List.set_cons_succ]
            obtain ⟨p0, p1, p2, p3, p4, p5, p6, p7, p8⟩ := cells9 HZL.out
            obtain ⟨f0, f1, f2, f3, f4, f5, f6, f7, f8⟩ := frz9 HZL.out
            simp only [zrM] at p0 p1 p2 p3 p4 p5 p6
            have hGl := heap_lt HZL.out
            have hlay := HT.out.lay hG HZL.out
            obtain ⟨W9, hW9⟩ : ∃ W9, st9 wL wr.heap.size m' b' (.slice a' n' c') = W9 := ⟨_, rfl⟩
            rw [hW9] at hlay
            have HLY : Bx _ := ⟨hlay⟩
            clear hlay
            unfold st9 set9 at hW9
            refine wpAnyH_ready (rs := [12]) (by decide +kernel) (by simp) ?_
            refine AllReadyH.cons rfl (fun K hK => ?_) AllReadyH.nil
            go_simp
            refine hK.out _ _ (HSS.out _ HLY.out.1.sc HLY.out.1.ln) (fun hHeld => ?_)
            clear hK K
            try simp only [Act.put, List.setIfInBounds_toArray, List.set_cons_zero, List.set_cons_succ]
            refine wpAnyH_take (i := 13) (oi := ⟨some 9, Op.assign (Operand.tmp 46), _, _, _, _⟩) (v := ?_) rfl (by decide +kernel) (by decide +kernel) (by decide +kernel) (fun _ _ _ h => h) (Or.inl ⟨by first | rfl | simp [Region.wanted, yielded], ?_⟩) (by assumption) ?_
            case refine_2 => intro w hSw; obtain ⟨s0, s1, s2, s3, s4, s5, s6, s7, s8, s9⟩ := hSw; go_simp; try rfl
            try simp only [Act.put, List.setIfInBounds_toArray, List.set_cons_zero, List.set_cons_succ]
            refine wpAnyH_done (by decide +kernel) ?_ _
            clear hHeld hW9 HCUT HLIN HCL HCG HT HSS
            clear p0 p1 p2 p3 p4 p5 p6 p7 p8 f0 f1 f2 f3 f4 f5 f6 f7 f8 hGl
            obtain ⟨p0, p1, p2, p3, p4, p5, p6, p7, p8⟩ := cells9 HLY.out.1.sc
            obtain ⟨f0, f1, f2, f3, f4, f5, f6, f7, f8⟩ := frz9 HLY.out.1.sc
            obtain ⟨y0, y1, y2, y3, y4, y5, y6, y7, y8⟩ := cells9 HLY.out.2
            have hHl := heap_lt HLY.out.1.sc
            have hnx := HNX.out _ _ _ _ HLY.out.1 ⟨_, _, _, rfl⟩
            obtain ⟨W8, hW8⟩ : ∃ W8, st9 W9 (H + 1) m' b' (.slice a' n' c') = W8 := ⟨_, rfl⟩
            rw [hW8] at hnx
            have HNX2 : Bx _ := ⟨hnx⟩
            clear hnx
            unfold st9 set9 at hW8
            go_wp2
            go_roundw
            case rel => exact ⟨i + 1, s', .slice a' n' c', hlt, by go_num, HNX2⟩
            case measure => simp [intOf]; omega
    · obtain rfl : i = N := by omega
      have hnI : ¬ (i : Int) < (i : Int) := by omega
      have hrd := HP.out.ed HNL.out
      have hq9 := HQY.out s _ pa np pc _ L hrd HP.out.rp
      obtain ⟨p0, p1, p2, p3, p4, p5, p6, p7, p8⟩ := cells9 HP.out.rp.re
      obtain ⟨f0, f1, f2, f3, f4, f5, f6, f7, f8⟩ := frz9 HP.out.rp.re
      simp only [zrM] at p0 p1 p2 p3 p4 p5 p6
      obtain ⟨y0, y1, y2, y3, y4, y5, y6, y7, y8⟩ := cells9 HP.out.rp.sc
      have hHl := heap_lt HP.out.rp.re
      have hz9 := st9_blk HP.out.rp.re s.lim s.reap (.slice pa np pc)
      obtain ⟨W8, hW8⟩ : ∃ W8, st9 wr H s.lim s.reap (.slice pa np pc) = W8 := ⟨_, rfl⟩
      rw [hW8] at hz9 hq9
      have HZ9 : Bx _ := ⟨hz9⟩
      have HQ9 : Bx _ := ⟨hq9⟩
      clear hz9 hq9 hrd HP HQY HQN0 HLE HNL
      unfold st9 set9 at hW8
      go_wp2
      obtain ⟨r0, r1, r2, r3, r4, r5, r6, r7, r8⟩ := cells9 HZ9.out
      refine bodyPost_ret (v := .tuple #[scV s.lim s.reap (.slice pa np pc), .int .i64 0, .int .i64 0]) (by simp [results, Tryd.results6, go_sem, r0, r1, r2, r3, r4, r5, r6, r7, r8]) rfl HQ9.out
end Go.Proofs.YtecpknpcjoiliabDoor
