import Derived.Test.YtjabdhmkibahlaaCRfT
import Derived.Test.YtjabdhmkibahlaaCHM
import Derived.Test.YtjabdhmkibahlaaCHH
import Derived.Deep.RegionHeld3
namespace Go.Proofs.Ytjabdhmkibahlaa
open Go.RowKit
set_option linter.unusedVariables false
set_option linter.unusedSimpArgs false

/-! ### Take, of whatever agents -/
def tkE (s : List Ag) (l : Lk) : Int := if stOk s then (if fitsF (whoI s) l then 0 else 141) else 140
def tkR (s : List Ag) (l : Lk) : List Ag := if stOk s && fitsF (whoI s) l then s.map (tkA l) else []
theorem AgC.on {W W' : World} {H : Nat} (hb : ∀ g, H ≤ g → g < W.heap.size → W'.heap[g]? = W.heap[g]?) : ∀ {gs : List Ag} {cs : List Value}, AgC W H gs cs → AgC W' H gs cs
  | [], cs, h => h
  | a :: r, cs, ⟨c4, cr, e, ⟨ap, ac, hp, hc, e4, h1, h2, h3, h4, h5⟩, h6⟩ => ⟨c4, cr, e, ⟨ap, ac, hp, hc, e4, h1, h2, h3, owns_same h4 hb, owns_same h5 hb⟩, AgC.on hb h6⟩
/-- agents of one's own -/
def OwA (W : World) (H : Nat) (v : Value) (gs : List Ag) (cs : List Value) : Prop := W.ownsRow H 53 4 v gs.length cs ∧ AgC W H gs cs
theorem OwA.on {W W' : World} {H : Nat} {v : Value} {gs : List Ag} {cs : List Value} (h : OwA W H v gs cs) (hb : ∀ g, H ≤ g → g < W.heap.size → W'.heap[g]? = W.heap[g]?) : OwA W' H v gs cs := ⟨owns_same h.1 hb, h.2.on hb⟩
theorem OwA.new {W W' : World} {H : Nat} {v : Value} {gs : List Ag} {cs : List Value} (h : OwA W H v gs cs) (hb : Below W.heap.size W W') : OwA W' H v gs cs := h.on fun g _ hg => hb.block g hg
theorem OwA.same {W : World} {H1 H2 : Nat} {v1 v2 : Value} {gs : List Ag} {cs1 cs2 : List Value} (h1 : OwA W H1 v1 gs cs1) (h2 : OwA W H2 v2 gs cs2) : Calls Try.prog 20 #[v1, v2] W fun e w' => e = .returned (.bool true) ∧ Below W.heap.size W w' := by
  obtain ⟨p1, c1, rfl, r1⟩ := AgC.read h1.1 h1.2
  obtain ⟨p2, c2, rfl, r2⟩ := AgC.read h2.1 h2.2
  exact sameAgents_yes W p1 p2 c1 c2 gs r1 r2
set_option maxRecDepth 100000 in
theorem Take_no (w : World) (p : Option Addr) (c : Nat) (s : List Ag) (l : Lk) (h : AgsR w p c s) (hz : Few s) (hok : stOk s = false) :
    Calls Try.prog 18 #[.slice p s.length c, lkV l] w fun e w' => e = .returned (.tuple #[.slice none 0 0, .int .i64 140]) ∧ Below w.heap.size w w' := by
  obtain ⟨lr, ln, lc⟩ := l
  simp only [lkV]
  obtain ⟨W, hW⟩ : ∃ W, w.alloc (.cells #[.int .i64 lr, .int .i64 ln, .int .i64 lc] 24) = W := ⟨_, rfl⟩
  have hb : Below w.heap.size w W := by rw [← hW]; exact below1 _ _
  have BW : Bx (Below w.heap.size w W) := ⟨hb⟩
  have HW : Bx (_ = W) := ⟨hW⟩
  have HC : Bx (Calls Try.prog 9 #[.slice p s.length c] W fun e w' => e = .returned (.int .i64 140) ∧ Below W.heap.size W w') := ⟨by
    have := Check_any W p c s (h.later hb) hz
    rw [show chkI s = 140 by simp [chkI, hok]] at this
    exact this⟩
  clear h hok hW hb
  go_enter Try.func18, Try.ntmps18
  go_wp2_with (first | (go_at_call 9; rw [HW.out]; refine Calls.mono HC.out ?_; rintro e w1 ⟨rfl, hb1⟩; have B1 : Bx _ := ⟨hb1⟩; clear hb1))
  go_ret2
  exact ⟨rfl, blz BW.out B1.out⟩
theorem own_none (W : World) (H : Nat) : OwA W H (.slice none 0 0) [] [] := ⟨⟨rfl, .inl ⟨rfl, rfl⟩⟩, rfl⟩
theorem Take_all (w : World) (p : Option Addr) (c : Nat) (s : List Ag) (l : Lk) (h : AgsR w p c s) (ht : totA s ≤ 2147483647) (h64 : Lk64 l) :
    Calls Try.prog 18 #[.slice p s.length c, lkV l] w fun e w' => ∃ v cs, e = .returned (.tuple #[v, .int .i64 (tkE s l)]) ∧ OwA w' w.heap.size v (tkR s l) cs ∧ (blks cs).Nodup ∧ (∀ g ∈ blks cs, g < w'.heap.size) ∧ Below w.heap.size w w' := by
  cases hok : stOk s with
  | false =>
    refine (Take_no w p c s l h (few_of ht) hok).mono ?_
    rintro e w' ⟨rfl, hb⟩
    refine ⟨.slice none 0 0, [], by simp [tkE, hok], ?_, List.nodup_nil, (fun g hg => by cases hg), hb⟩
    rw [show tkR s l = [] by simp [tkR, hok]]
    exact own_none _ _
  | true =>
    refine (Take_two w p c s l h (few_of ht) h64 hok).mono ?_
    rintro e w' ⟨hb, ⟨h1, rfl⟩ | ⟨h1, v, cs, rfl, h3, h4⟩⟩
    · refine ⟨.slice none 0 0, [], by simp [tkE, hok, h1], ?_, List.nodup_nil, (fun g hg => by cases hg), hb⟩
      rw [show tkR s l = [] by simp [tkR, hok, h1]]
      exact own_none _ _
    · refine ⟨v, cs, by simp [tkE, hok, h1], ?_, h4.2.2, h4.2.1, hb⟩
      rw [show tkR s l = s.map (tkA l) by simp [tkR, hok, h1]]
      exact ⟨by rw [List.length_map]; exact h3, h4.1⟩
theorem rTake_all (w : World) (p : Option Addr) (c : Nat) (s : List Ag) (l : Lk) (h : AgsR w p c s) (ht : totA s ≤ 2147483647) (h64 : Lk64 l) :
    Calls Try.prog 19 #[.slice p s.length c, lkV l] w fun e w' => ∃ v cs, e = .returned (.tuple #[v, .int .i64 (tkE s l)]) ∧ OwA w' w.heap.size v (tkR s l) cs ∧ Below w.heap.size w w' := by
  refine (rTake_any w p c s l h ht h64).mono ?_
  rintro e w' ⟨hb, ⟨h1, rfl⟩ | ⟨h1, h2, rfl⟩ | ⟨h1, h2, v, cs, rfl, h3, h4⟩⟩
  · refine ⟨.slice none 0 0, [], by simp [tkE, h1], ?_, hb⟩
    rw [show tkR s l = [] by simp [tkR, h1]]
    exact own_none _ _
  · rw [rf_fits h1] at h2
    refine ⟨.slice none 0 0, [], by simp [tkE, h1, h2], ?_, hb⟩
    rw [show tkR s l = [] by simp [tkR, h1, h2]]
    exact own_none _ _
  · rw [rf_fits h1] at h2
    refine ⟨v, cs, by simp [tkE, h1, h2], ?_, hb⟩
    rw [show tkR s l = s.map (tkA l) by simp [tkR, h1, h2]]
    exact ⟨by rw [List.length_map]; exact h3, h4⟩
theorem tot_tk (l : Lk) : ∀ s : List Ag, totA (s.map (tkA l)) ≤ totA s
  | [] => Nat.le_refl _
  | a :: r => by
    have := tot_tk l r
    simp only [List.map_cons, totA]
    have e : (tkA l a).arms.length ≤ a.arms.length ∧ (tkA l a).held.length = a.held.length := by
      unfold tkA
      split
      · simp
      · simp
    omega
theorem tot_R (s : List Ag) (l : Lk) : totA (tkR s l) ≤ totA s := by
  unfold tkR
  split
  · exact tot_tk l s
  · simp [totA]
/-- what is asked in a round of CapsTakes -/
structure Dt (W : World) (E ga ca B : Nat) (p : Option Addr) (c : Nat) (s : List Ag) (l : Lk) (vm vh : Value) : Prop where
  cells : ∀ Y, Below W.heap.size W Y → Y.cell? ⟨E, 0, none⟩ = some (.slice (some ⟨ga, 0, none⟩) (s.length + 1) ca) ∧ Y.cell? ⟨E, 1, none⟩ = some vm ∧ Y.cell? ⟨E, 2, none⟩ = some vh
  take : ∀ Y, Below W.heap.size W Y → Calls Try.prog 18 #[.slice (some ⟨ga, 0, none⟩) s.length ca, .agg #[.int .i64 l.waker, .int .i64 l.woken, .int .i64 l.chan]] Y fun e w' => ∃ v cs, e = .returned (.tuple #[v, .int .i64 (tkE s l)]) ∧ OwA w' Y.heap.size v (tkR s l) cs ∧ (blks cs).Nodup ∧ (∀ g ∈ blks cs, g < w'.heap.size) ∧ Below Y.heap.size Y w'
  rtake : ∀ Y, Below W.heap.size W Y → Calls Try.prog 19 #[.slice p s.length c, .agg #[.int .i64 l.waker, .int .i64 l.woken, .int .i64 l.chan]] Y fun e w' => ∃ v cs, e = .returned (.tuple #[v, .int .i64 (tkE s l)]) ∧ OwA w' Y.heap.size v (tkR s l) cs ∧ Below Y.heap.size Y w'
  still : ∀ Y, Below W.heap.size W Y → Calls Try.prog 16 #[.agg #[.slice (some ⟨ga, 0, none⟩) (s.length + 1) ca, vm, vh], .slice p s.length c] Y fun e w' => e = .returned (.bool true) ∧ Below Y.heap.size Y w'
  wipe : ∀ Y, Below W.heap.size W Y → Calls Try.prog 17 #[.agg #[.slice (some ⟨ga, 0, none⟩) (s.length + 1) ca, vm, vh]] Y fun e w' => e = .returned (.tuple #[]) ∧ Below B Y w' ∧ ∀ y, W.heap.size ≤ y → y < Y.heap.size → w'.heap[y]? = Y.heap[y]?
  cap : s.length + 1 ≤ ca ∧ ca ≤ maxLen
theorem dt_of {W0 W1 W : World} {p : Option Addr} {c : Nat} {s : List Ag} {l : Lk} (h : AgsR W0 p c s) (ht : totA s ≤ 2147483647) (h64 : Lk64 l) (hb1 : Below W0.heap.size W0 W1) {va vm vh : Value} {gs : List Gh} (hL : Lent W1 (W0.heap.size + 2) s va vm vh gs) (hW : W1.alloc (lnX va vm vh) = W) :
    ∃ ga ca, va = .slice (some ⟨ga, 0, none⟩) (s.length + 1) ca ∧ Dt W W1.heap.size ga ca (W0.heap.size + 2) p c s l vm vh := by
  obtain ⟨ga, ca, rfl, hc1, hc2, _, hgl, hra, _⟩ := hL.read h.a64
  have hbW : Below W1.heap.size W1 W := by rw [← hW]; exact below1 _ _
  have hE : W.heap[W1.heap.size]? = some (lnX (.slice (some ⟨ga, 0, none⟩) (s.length + 1) ca) vm vh) := by rw [← hW]; exact heap_newH _ _ _ rfl
  have hbw : Below W0.heap.size W0 W := blz hb1 hbW
  have hll : ∀ i (h : i < s.length), s[i].arms.length ≤ 2147483647 ∧ s[i].held.length ≤ 2147483647 := fun i hi => by have := arm_totA s i hi; omega
  have hsl := len_totA s
  have hraW : AgsR W (some ⟨ga, 0, none⟩) ca s := hra.later hbW
  have hW1 : ∀ Y, Below W.heap.size W Y → Below W1.heap.size W1 Y := fun Y hY => blz hbW hY
  refine ⟨ga, ca, rfl, ⟨fun Y hY => ?_, fun Y hY => Take_all Y _ _ s l (hraW.later hY) ht h64, fun Y hY => rTake_all Y p c s l (h.later (blz hbw hY)) ht h64, fun Y hY => still_any W1 Y _ s _ _ _ gs hL (hW1 Y hY) p c (h.later (blz hbw hY)) (by omega) hll, fun Y hY => ?_, hc1, hc2⟩⟩
  · have e := (hY.block _ (heap_lt hE)).trans hE
    exact ⟨cell_blk e rfl, cell_blk e rfl, cell_blk e rfl⟩
  · refine (wipe_any W1 Y _ s _ _ _ gs hL hL.lt (hW1 Y hY) (by omega) hll).mono ?_
    rintro e w' ⟨rfl, h1, h2⟩
    exact ⟨rfl, h1, fun y hy hl => h2 y (by have := hbW.size; omega) hl⟩
/-- spoils, as it is asked there -/
theorem spoils_tk {W : World} {H T : Nat} {v : Value} {s : List Ag} {l : Lk} {cs : List Value} (h : OwA W H v (tkR s l) cs) (hN : (blks cs).Nodup) (hT : ∀ g ∈ blks cs, g < T) (hTW : T ≤ W.heap.size) (hHW : H ≤ W.heap.size) (ht : totA s ≤ 2147483647) :
    Calls Try.prog 21 #[v] W fun e w' => e = .returned (.bool true) ∧ Below H W w' ∧ ∀ y, T ≤ y → y < W.heap.size → w'.heap[y]? = W.heap[y]? := by
  have h1 := tot_R s l
  have h2 := len_totA (tkR s l)
  refine spoils_any W H T v (tkR s l) cs h.1 h.2 hN hT hTW hHW (by omega) fun i hi => ?_
  have := arm_totA (tkR s l) i hi
  rw [List.getElem?_eq_getElem hi]
  simp only [Option.getD_some]
  omega
end Go.Proofs.Ytjabdhmkibahlaa
namespace Go.Proofs.Ytjabdhmkibahlaa
open Go.RowKit
set_option linter.unusedVariables false
set_option linter.unusedSimpArgs false

set_option maxRecDepth 100000 in
set_option maxHeartbeats 16000000 in
theorem takes_walk (w : World) (p : Option Addr) (c : Nat) (s : List Ag) (hs : AgsR w p c s) (q : Option Addr) (d : Nat) (sc : List Lk) (hq : LksR w q d sc) :
    Calls Try.prog 4 #[.slice p s.length c, .slice q sc.length d] w fun e w' => e = .returned (.bool true) ∧ Below w.heap.size w w' := by
  have HS : Bx (AgsR w p c s) := ⟨hs⟩
  have HQ : Bx (LksR w q d sc) := ⟨hq⟩
  have HY : Bx (Calls Try.prog 6 #[.slice p s.length c] w fun e w' => BeyG s e ∧ w' = w) := ⟨beyond_any w p c s hs⟩
  have hsm := hs.max
  have hsl := hs.len
  have hqm := hq.max
  have hql := hq.len
  unfold maxLen at hsm hqm
  clear hs hq
  go_enter Try.func4, Try.ntmps4
  go_wp2_with (first
    | (go_at_call 6; refine Calls.mono HY.out ?_; clear HY; rintro e w2 ⟨⟨b1, rfl, hb1⟩, hw2⟩; rw [hw2]; clear hw2 w2; have T1 : Bx (b1 = false → totA s ≤ 2147483647) := ⟨hb1⟩; clear hb1; cases b1)
    | (go_at_call 7; refine Calls.mono (shown_any _) ?_; rintro e w3 ⟨rfl, hb3⟩; have B3 : Bx (Below w.heap.size w w3) := ⟨hb3⟩; clear hb3))
  · have TS : Bx (totA s ≤ 2147483647) := ⟨T1.out (by trivial)⟩
    clear T1
    go_loopg [5, 6] (sc.length + 1) (fun g v5 v6 wr => ∃ (i : Nat) (np : Option Addr) (nc : Nat) (ns : List Ag), g = sc.length + 1 - i ∧ i ≤ sc.length ∧ i ≤ 300 ∧ v6 = .int .i64 i ∧ v5 = .slice np ns.length nc ∧ Bx (AgsR wr np nc ns ∧ totA ns ≤ 2147483647 ∧ Below w.heap.size w wr))
    case atStart => exact ⟨0, p, c, s, by simp, by omega, by omega, rfl, rfl, ⟨HS.out.later B3.out, TS.out, B3.out⟩⟩
    case round =>
      obtain ⟨i, np, nc, ns, hg, hil, hi3, rfl, rfl, HI⟩ := hrel
      clear B3 TS HS
      by_cases hgo : i < sc.length ∧ i < 300
      · obtain ⟨hlt, hlt3⟩ := hgo
        obtain ⟨sb, so, rfl, h64, hcl⟩ := HQ.out.at_ i hlt
        have HSC : Bx (∀ Y, Below w.heap.size w Y → Y.cell? ⟨sb, so + i * 3, none⟩ = some (.int .i64 sc[i].waker) ∧ Y.cell? ⟨sb, so + i * 3 + 1, none⟩ = some (.int .i64 sc[i].woken) ∧ Y.cell? ⟨sb, so + i * 3 + 2, none⟩ = some (.int .i64 sc[i].chan)) := ⟨hcl⟩
        have H64 : Bx (Lk64 sc[i]) := ⟨h64⟩
        clear hcl h64
        generalize sc[i] = l at *
        obtain ⟨lr, ln, lc⟩ := l
        simp only at HSC
        have hI1 : (i : Int) < (sc.length : Int) := by omega
        have hI2 : (i : Int) < 300 := by omega
        have hI0 : (0 : Int) ≤ (i : Int) := by omega
        have hnl := HI.out.1.len
        have hnt := HI.out.2.1
        have hnx := len_totA ns
        have HLD : Bx (Calls Try.prog 8 #[.slice np ns.length nc] wr fun e w' => ∃ va vm vh gs, e = .returned (.agg #[va, vm, vh]) ∧ Bx (Below wr.heap.size wr w' ∧ Lent w' (wr.heap.size + 2) ns va vm vh gs)) := ⟨lend_any wr np nc ns HI.out.1 HI.out.2.1⟩
        obtain ⟨te, hte⟩ : ∃ te, te = tkE ns ⟨lr, ln, lc⟩ := ⟨_, rfl⟩
        have HTE : Bx (te = tkE ns ⟨lr, ln, lc⟩) := ⟨hte⟩
        have htee : (te != te) = false := by simp
        clear hte
        go_wp2_with (first
          | (go_at_call 8; refine Calls.mono HLD.out ?_; clear HLD; rintro e wa ⟨va, vm, vh, gs, rfl, HL⟩; obtain ⟨hba, hLt⟩ := HL.out; clear HL; obtain ⟨WX, hWX⟩ : ∃ WX, wa.alloc (lnX va vm vh) = WX := ⟨_, rfl⟩; obtain ⟨ga, ca, hva, hDt⟩ := dt_of (l := ⟨lr, ln, lc⟩) HI.out.1 HI.out.2.1 H64.out hba hLt hWX; obtain ⟨am, nm, cm, hvm⟩ := owns_sl hLt.arms; obtain ⟨ah, nh, chh, hvh⟩ := owns_sl hLt.held; subst hva; subst hvm; subst hvh; obtain ⟨x0, x1, x2⟩ := hDt.cells WX (Below.refl _ _); obtain ⟨hc1, hc2⟩ := hDt.cap; have BA : Bx (Below wr.heap.size wr WX) := ⟨blz hba (by rw [← hWX]; exact below1 _ _)⟩; have DT : Bx _ := ⟨hDt⟩; obtain ⟨E, hE⟩ : ∃ E, wa.heap.size = E := ⟨_, rfl⟩; rw [hE] at x0 x1 x2 DT; unfold maxLen at hc2; clear hLt hDt hba))
        have HC : Bx (∀ Y, Below WX.heap.size WX Y → Y.cell? ⟨E, 0, none⟩ = some (.slice (some ⟨ga, 0, none⟩) (ns.length + 1) ca) ∧ Y.cell? ⟨sb, so + i * 3, none⟩ = some (.int .i64 lr) ∧ Y.cell? ⟨sb, so + i * 3 + 1, none⟩ = some (.int .i64 ln) ∧ Y.cell? ⟨sb, so + i * 3 + 2, none⟩ = some (.int .i64 lc)) := ⟨fun Y hY => ⟨(DT.out.cells Y hY).1, HSC.out Y (blz HI.out.2.2 (blz BA.out hY))⟩⟩
        clear x0 x1 x2
        have hca1 : (ns.length : Int) ≤ (ca : Int) := by omega
        have hca2 : (0 : Int) ≤ (ns.length : Int) := by omega
        go_region_held3 (fun Y => Y.cell? ⟨E, 0, none⟩ = some (.slice (some ⟨ga, 0, none⟩) (ns.length + 1) ca) ∧ Y.cell? ⟨sb, so + i * 3, none⟩ = some (.int .i64 lr) ∧ Y.cell? ⟨sb, so + i * 3 + 1, none⟩ = some (.int .i64 ln) ∧ Y.cell? ⟨sb, so + i * 3 + 2, none⟩ = some (.int .i64 lc))
          (first | exact HC.out _ hzb | exact HC.out _ ((Below.refl _ _).drew))
          (first | (go_at_call 18; refine Calls.mono (DT.out.take _ ((Below.refl _ _).drew)) ?_; rintro e wb ⟨v1, cs1, rfl, hO1, hN1, hT1, hb⟩; rw [← HTE.out]; have hzb : Below WX.heap.size WX wb := ((Below.refl _ _).drew).trans hb; obtain ⟨a1, n1, k1, ev1⟩ := owns_sl hO1.1; subst ev1; have O1 : Bx (OwA wb WX.heap.size (.slice a1 n1 k1) (tkR ns ⟨lr, ln, lc⟩) cs1 ∧ (blks cs1).Nodup ∧ ∀ g ∈ blks cs1, g < wb.heap.size) := ⟨hO1, hN1, hT1⟩; clear hb hO1 hN1 hT1))
        all_goals
          have BB : Bx (Below WX.heap.size WX wb) := ⟨hzb⟩
          clear hzb
          go_wp2
          go_region_held3 (fun Y => Y.cell? ⟨E, 0, none⟩ = some (.slice (some ⟨ga, 0, none⟩) (ns.length + 1) ca) ∧ Y.cell? ⟨sb, so + i * 3, none⟩ = some (.int .i64 lr) ∧ Y.cell? ⟨sb, so + i * 3 + 1, none⟩ = some (.int .i64 ln) ∧ Y.cell? ⟨sb, so + i * 3 + 2, none⟩ = some (.int .i64 lc))
            (first | exact HC.out _ hzc | exact HC.out _ BB.out.drew)
            (first | (go_at_call 18; refine Calls.mono (DT.out.take _ BB.out.drew) ?_; rintro e wc ⟨v2, cs2, rfl, hO2, hN2, hT2, hb⟩; rw [← HTE.out]; have hzc : Below WX.heap.size WX wc := blz BB.out (((Below.refl _ _).drew).trans hb); obtain ⟨a2, n2, k2, ev2⟩ := owns_sl hO2.1; subst ev2; have O2 : Bx (OwA wc wb.heap.size (.slice a2 n2 k2) (tkR ns ⟨lr, ln, lc⟩) cs2 ∧ OwA wc WX.heap.size (.slice a1 n1 k1) (tkR ns ⟨lr, ln, lc⟩) cs1 ∧ wb.heap.size ≤ wc.heap.size) := ⟨hO2, O1.out.1.new (((Below.refl _ _).drew).trans hb), hb.size⟩; clear hb hO2 hN2 hT2))
          all_goals
            have BC : Bx (Below WX.heap.size WX wc) := ⟨hzc⟩
            clear hzc
            obtain ⟨m4, m0, m1, m2⟩ := HC.out wc BC.out
            go_wp2_with (first
              | (go_at_call 19; refine Calls.mono (DT.out.rtake _ BC.out) ?_; rintro e wd ⟨v3, cs3, rfl, hO3, hb⟩; rw [← HTE.out]; have BD : Bx (Below WX.heap.size WX wd) := ⟨blz BC.out hb⟩; obtain ⟨a3, n3, k3, ev3⟩ := owns_sl hO3.1; subst ev3; have O3 : Bx (OwA wd wc.heap.size (.slice a3 n3 k3) (tkR ns ⟨lr, ln, lc⟩) cs3 ∧ OwA wd wb.heap.size (.slice a2 n2 k2) (tkR ns ⟨lr, ln, lc⟩) cs2 ∧ OwA wd WX.heap.size (.slice a1 n1 k1) (tkR ns ⟨lr, ln, lc⟩) cs1 ∧ wc.heap.size ≤ wd.heap.size) := ⟨hO3, O2.out.1.new hb, O2.out.2.1.new hb, hb.size⟩; clear hb hO3 m4 m0 m1 m2; have SE1 : Bx True := ⟨trivial⟩)
              | (go_at_call 20; clear SE1; refine Calls.mono (O3.out.2.2.1.same O3.out.1) ?_; rintro e we ⟨rfl, hb⟩; have OE : Bx (OwA we wc.heap.size (.slice a3 n3 k3) (tkR ns ⟨lr, ln, lc⟩) cs3 ∧ OwA we wb.heap.size (.slice a2 n2 k2) (tkR ns ⟨lr, ln, lc⟩) cs2 ∧ OwA we WX.heap.size (.slice a1 n1 k1) (tkR ns ⟨lr, ln, lc⟩) cs1 ∧ wc.heap.size ≤ we.heap.size) := ⟨O3.out.1.new hb, O3.out.2.1.new hb, O3.out.2.2.1.new hb, Nat.le_trans O3.out.2.2.2 hb.size⟩; have BE : Bx (Below WX.heap.size WX we) := ⟨blz BD.out hb⟩; clear hb; have SE2 : Bx True := ⟨trivial⟩)
              | (go_at_call 20; clear SE2; refine Calls.mono (OE.out.2.1.same OE.out.1) ?_; rintro e wf ⟨rfl, hb⟩; have OF : Bx (OwA wf wc.heap.size (.slice a3 n3 k3) (tkR ns ⟨lr, ln, lc⟩) cs3 ∧ OwA wf wb.heap.size (.slice a2 n2 k2) (tkR ns ⟨lr, ln, lc⟩) cs2 ∧ OwA wf WX.heap.size (.slice a1 n1 k1) (tkR ns ⟨lr, ln, lc⟩) cs1 ∧ wc.heap.size ≤ wf.heap.size) := ⟨OE.out.1.new hb, OE.out.2.1.new hb, OE.out.2.2.1.new hb, Nat.le_trans OE.out.2.2.2 hb.size⟩; have BF : Bx (Below WX.heap.size WX wf) := ⟨blz BE.out hb⟩; clear hb; obtain ⟨x0, x1, x2⟩ := DT.out.cells wf BF.out)
              | (go_at_call 16; refine Calls.mono (DT.out.still _ BF.out) ?_; rintro e wg ⟨rfl, hb⟩; have OG : Bx (OwA wg wc.heap.size (.slice a3 n3 k3) (tkR ns ⟨lr, ln, lc⟩) cs3 ∧ OwA wg wb.heap.size (.slice a2 n2 k2) (tkR ns ⟨lr, ln, lc⟩) cs2 ∧ OwA wg WX.heap.size (.slice a1 n1 k1) (tkR ns ⟨lr, ln, lc⟩) cs1 ∧ wc.heap.size ≤ wg.heap.size) := ⟨OF.out.1.new hb, OF.out.2.1.new hb, OF.out.2.2.1.new hb, Nat.le_trans OF.out.2.2.2 hb.size⟩; have BG : Bx (Below WX.heap.size WX wg) := ⟨blz BF.out hb⟩; clear hb x0 x1 x2; obtain ⟨x0, x1, x2⟩ := DT.out.cells wg BG.out)
              | (go_at_call 17; refine Calls.mono (DT.out.wipe _ BG.out) ?_; rintro e wh ⟨rfl, hj1, hj2⟩; have hq1 := BB.out.size; have hq2 := O2.out.2.2; have OH : Bx (OwA wh wc.heap.size (.slice a3 n3 k3) (tkR ns ⟨lr, ln, lc⟩) cs3 ∧ OwA wh wb.heap.size (.slice a2 n2 k2) (tkR ns ⟨lr, ln, lc⟩) cs2 ∧ OwA wh WX.heap.size (.slice a1 n1 k1) (tkR ns ⟨lr, ln, lc⟩) cs1 ∧ wc.heap.size ≤ wh.heap.size) := ⟨OG.out.1.on (fun g h1 h2 => hj2 g (by omega) h2), OG.out.2.1.on (fun g h1 h2 => hj2 g (by omega) h2), OG.out.2.2.1.on (fun g h1 h2 => hj2 g (by omega) h2), Nat.le_trans OG.out.2.2.2 hj1.size⟩; have BH : Bx (Below wr.heap.size wr wh) := ⟨(blz BA.out BG.out).trans (hj1.mono (by omega))⟩; clear hj1 hj2 hq1 hq2 x0 x1 x2; have SE3 : Bx True := ⟨trivial⟩)
              | (go_at_call 20; clear SE3; refine Calls.mono (OH.out.2.2.1.same OH.out.1) ?_; rintro e wi ⟨rfl, hb⟩; have OI : Bx (OwA wi wc.heap.size (.slice a3 n3 k3) (tkR ns ⟨lr, ln, lc⟩) cs3 ∧ OwA wi wb.heap.size (.slice a2 n2 k2) (tkR ns ⟨lr, ln, lc⟩) cs2 ∧ OwA wi WX.heap.size (.slice a1 n1 k1) (tkR ns ⟨lr, ln, lc⟩) cs1 ∧ wc.heap.size ≤ wi.heap.size) := ⟨OH.out.1.new hb, OH.out.2.1.new hb, OH.out.2.2.1.new hb, Nat.le_trans OH.out.2.2.2 hb.size⟩; have BI : Bx (Below wr.heap.size wr wi) := ⟨blz BH.out hb⟩; clear hb)
              | (go_at_call 21; refine Calls.mono (spoils_tk (T := wb.heap.size) OI.out.2.2.1 O1.out.2.1 O1.out.2.2 (Nat.le_trans O2.out.2.2 OI.out.2.2.2) (Nat.le_trans BB.out.size (Nat.le_trans O2.out.2.2 OI.out.2.2.2)) HI.out.2.1) ?_; rintro e wj ⟨rfl, hj1, hj2⟩; have hq2 := O2.out.2.2; have OJ : Bx (OwA wj wc.heap.size (.slice a3 n3 k3) (tkR ns ⟨lr, ln, lc⟩) cs3 ∧ OwA wj wb.heap.size (.slice a2 n2 k2) (tkR ns ⟨lr, ln, lc⟩) cs2) := ⟨OI.out.1.on (fun g h1 h2 => hj2 g (by omega) h2), OI.out.2.1.on (fun g h1 h2 => hj2 g (by omega) h2)⟩; have BJ : Bx (Below wr.heap.size wr wj) := ⟨BI.out.trans (hj1.mono BA.out.size)⟩; clear hj1 hj2 hq2; have SE4 : Bx True := ⟨trivial⟩)
              | (go_at_call 20; clear SE4; refine Calls.mono (OJ.out.2.same OJ.out.1) ?_; rintro e wk ⟨rfl, hb⟩; have OK : Bx (OwA wk wc.heap.size (.slice a3 n3 k3) (tkR ns ⟨lr, ln, lc⟩) cs3) := ⟨OJ.out.1.new hb⟩; have BK : Bx (Below wr.heap.size wr wk) := ⟨blz BJ.out hb⟩; have RD : Bx (∃ pp cc, Value.slice a3 n3 k3 = .slice pp (tkR ns ⟨lr, ln, lc⟩).length cc ∧ AgsR wk pp cc (tkR ns ⟨lr, ln, lc⟩)) := ⟨AgC.read OK.out.1 OK.out.2⟩; clear hb; by_cases hz0 : te = 0))
            · go_roundg (sc.length + 1 - (i + 1))
              case measure => omega
              case rel =>
                obtain ⟨pp, cc, e1, hr⟩ := RD.out
                exact ⟨i + 1, pp, cc, tkR ns ⟨lr, ln, lc⟩, rfl, by omega, by omega, by simp, e1, ⟨hr, Nat.le_trans (tot_R _ _) HI.out.2.1, blz HI.out.2.2 BK.out⟩⟩
            · go_roundg (sc.length + 1 - (i + 1))
              case measure => omega
              case rel => exact ⟨i + 1, np, nc, ns, rfl, by omega, by omega, by simp, rfl, ⟨HI.out.1.later BK.out, HI.out.2.1, blz HI.out.2.2 BK.out⟩⟩
      · have HB9 : Bx (Below w.heap.size w wr) := ⟨HI.out.2.2⟩
        by_cases hlt : i < sc.length
        · have h300 : i = 300 := by omega
          subst h300
          have hI1 : ((300 : Nat) : Int) < (sc.length : Int) := by omega
          clear HI
          go_wp2
          go_ret
          exact ⟨rfl, HB9.out⟩
        · have hI1 : ¬ ((i : Int) < (sc.length : Int)) := by omega
          clear HI
          go_wp2
          go_ret
          exact ⟨rfl, HB9.out⟩
  · go_ret
    exact ⟨rfl, Below.refl _ _⟩
end Go.Proofs.Ytjabdhmkibahlaa
