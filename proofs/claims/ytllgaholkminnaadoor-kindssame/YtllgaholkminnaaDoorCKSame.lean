import Derived.Test.YtllgaholkminnaaDoorCKMem
namespace Go.Proofs.YtllgaholkminnaaDoor
open Go.RowKit
set_option linter.unusedVariables false
set_option linter.unusedSimpArgs false

set_option maxRecDepth 100000 in
set_option maxHeartbeats 2000000 in
theorem Same_no (w : World) (B : Nat) (ad : Option Addr) (cap : Nat) (t : List Ty) (a b : Int) (hn : IsTypes w B ad cap t) (h : (validI t && (isRowI t.length a && isRowI t.length b)) = false) :
    Calls Tryd.prog 15 #[.slice ad t.length cap, .int .i64 a, .int .i64 b] w fun e w' => e = .returned (.bool false) ∧ Below w.heap.size w w' := by
  have HV : Bx _ := ⟨Valid_any w B ad cap t hn⟩
  have HI : Bx _ := ⟨fun W k => isRow_any W ad t.length cap k⟩
  clear hn
  generalize validI t = V at *
  cases V
  · clear h
    go_enter Tryd.func15, Tryd.ntmps15
    go_wp2_with (first | (go_at_call 12; refine Calls.mono HV.out ?_; rintro e w1 ⟨rfl, hb1⟩))
    go_ret
    exact ⟨rfl, hb1⟩
  · cases ea : isRowI t.length a
    · clear h
      go_enter Tryd.func15, Tryd.ntmps15
      go_wp2_with (first | (go_at_call 12; refine Calls.mono HV.out ?_; rintro e w1 ⟨rfl, hb1⟩) | (go_at_call 21; refine Calls.mono (HI.out _ _) ?_; rintro e w2 ⟨rfl, rfl⟩))
      go_ret
      exact ⟨rfl, hb1⟩
    · have eb : isRowI t.length b = false := by simpa [ea] using h
      clear h
      go_enter Tryd.func15, Tryd.ntmps15
      go_wp2_with (first | (go_at_call 12; refine Calls.mono HV.out ?_; rintro e w1 ⟨rfl, hb1⟩) | (go_at_call 21; refine Calls.mono (HI.out _ _) ?_; rintro e w2 ⟨rfl, rfl⟩))
      go_ret
      exact ⟨rfl, hb1⟩

structure LastS (N fb : Nat) (ρ d : Nat → Nat) (W0 W : World) : Prop where
  ex : ∃ zs, zs.length = N ∧ NRow W fb zs ∧ UF zs ρ d ∧ Only fb W0 W
theorem LastS.cell {N fb : Nat} {ρ d : Nat → Nat} {W0 W : World} (h : LastS N fb ρ d W0 W) {x : Nat} (hx : x ≠ fb) (i : Nat) : W.cell? ⟨x, i, none⟩ = W0.cell? ⟨x, i, none⟩ := by
  obtain ⟨_, _, _, _, h⟩ := h.ex
  exact World.cell?_of_block (h.block x hx)
theorem LastS.call {N fb : Nat} {ρ d : Nat → Nat} {W0 W : World} (h : LastS N fb ρ d W0 W) (i : Nat) (hi : i < N) (hm : N ≤ 2147483647) :
    Calls Tryd.prog 24 #[.slice (some ⟨fb, 0, none⟩) N N, .int .i64 i] W fun e w' => e = .returned (.int .i64 (ρ i : Nat)) ∧ LastS N fb ρ d W0 w' := by
  obtain ⟨zs, h1, h2, h3, h4⟩ := h.ex
  refine Calls.mono (last_any W fb N zs ρ d i h1 h2 h3 hi hm) ?_
  rintro e w' ⟨rfl, zs', q1, q2, q3, q4⟩
  exact ⟨rfl, ⟨zs', q1, q2, q3, h4.trans q4⟩⟩
theorem load_len (t : List Ty) : t.length ≤ load t id := by
  unfold load
  generalize t.length = n
  induction n with
  | zero => exact Nat.zero_le _
  | succ n ih => simp only [sumTo, loadF, id, if_true]; omega
theorem Only.drew (fb : Nat) (W : World) : Only fb W W.drew := ⟨rfl, fun _ _ => rfl, fun B w0 _ h => h.drew⟩
/-- what a Same in the midst hands on -/
structure SmR (w0 W : World) (fb : Nat) (t : List Ty) (a b : Nat) (v : Value) (ys : List Nat) (ρ d : Nat → Nat) (ps : List (Nat × Nat)) : Prop where
  mem : SmW w0 W fb t.length v ys ps
  uf : UF ys ρ d
  sm : Sm t a b ρ ps
theorem six_keep {W W' : World} {nb x y : Nat} {v0 v1 v2 u0 u1 u2 : Value} (hb : Below W.heap.size W W') (h0 : W.cell? ⟨nb, x, none⟩ = some v0) (h1 : W.cell? ⟨nb, x + 1, none⟩ = some v1) (h2 : W.cell? ⟨nb, x + 2, none⟩ = some v2) (g0 : W.cell? ⟨nb, y, none⟩ = some u0) (g1 : W.cell? ⟨nb, y + 1, none⟩ = some u1) (g2 : W.cell? ⟨nb, y + 2, none⟩ = some u2) :
    W'.cell? ⟨nb, x, none⟩ = some v0 ∧ W'.cell? ⟨nb, x + 1, none⟩ = some v1 ∧ W'.cell? ⟨nb, x + 2, none⟩ = some v2 ∧ W'.cell? ⟨nb, y, none⟩ = some u0 ∧ W'.cell? ⟨nb, y + 1, none⟩ = some u1 ∧ W'.cell? ⟨nb, y + 2, none⟩ = some u2 ∧ Below W.heap.size W W' := by
  have hlt : nb < W.heap.size := World.block_lt_of_cell? W _ h0
  have hc : ∀ i, W'.cell? ⟨nb, i, none⟩ = W.cell? ⟨nb, i, none⟩ := fun i => hb.cell (p := ⟨nb, i, none⟩) hlt
  exact ⟨by rw [hc]; exact h0, by rw [hc]; exact h1, by rw [hc]; exact h2, by rw [hc]; exact g0, by rw [hc]; exact g1, by rw [hc]; exact g2, hb⟩

theorem kid_cell {w1 w4 W : World} {B nb no cap fb o : Nat} {t : List Ty} {n : Ty} {ka : Option Addr} {kc : Nat} (hT : Types w1 B nb no cap t) (h4 : Below fb w1 w4) (hX : TyAt w4 B nb o n ka kc) (hb : Below fb w1 W) (hB : B ≤ fb) (hn : nb < B) : W.cell? ⟨nb, o + 1, none⟩ = some (.slice ka n.kids.length kc) := by
  rw [hb.cell (p := ⟨nb, o + 1, none⟩) (by show nb < fb; omega), ← h4.cell (p := ⟨nb, o + 1, none⟩) (by show nb < fb; omega)]
  exact hX.c1
theorem kid_at {w1 w4 W : World} {B nb fb o x k : Nat} {t : List Ty} {ka : Option Addr} {kc : Nat} (hv : validI t = true) (hx : x < t.length) (h4 : Below fb w1 w4) (hX : TyAt w4 B nb o (tyN t x) ka kc) (hb : Below fb w1 W) (hB : B ≤ fb) (hk : k < (tyN t x).kids.length) :
    ∃ bb oo, ka = some ⟨bb, oo, none⟩ ∧ bb < B ∧ W.cell? ⟨bb, oo + k, none⟩ = some (.int .i64 (kidN t x k : Nat)) := by
  obtain ⟨a, cap, he, h1, h2, h3⟩ := hX.kids.ex
  simp only [Value.slice.injEq, true_and] at he
  obtain ⟨rfl, rfl⟩ := he
  obtain ⟨b, o', rfl, hbB, hcell⟩ := h3 (by omega)
  obtain ⟨m, e1, _, e2⟩ := valid_kid hv hx hk
  refine ⟨b, o', rfl, hbB, ?_⟩
  rw [hb.cell (p := ⟨b, o' + k, none⟩) (by show b < fb; omega), ← h4.cell (p := ⟨b, o' + k, none⟩) (by show b < fb; omega), hcell k hk, e1, e2]
theorem kidPairs_len {t : List Ty} {x y lx : Nat} (h : (tyN t x).kids.length = lx) : (kidPairs t x y).length = lx := by simp [kidPairs, h]
theorem kidPairs_take {t : List Ty} {x y lx k : Nat} (h : (tyN t x).kids.length = lx) (hk : k < lx) : (kidPairs t x y).take (k + 1) = (kidPairs t x y).take k ++ [(kidN t x k, kidN t y k)] := by
  have hl := kidPairs_len (y := y) h
  rw [List.take_succ_eq_append_getElem (by omega)]
  simp [kidPairs]

set_option maxRecDepth 100000 in
set_option maxHeartbeats 4000000 in
theorem Same_yes (w : World) (B nb no cap : Nat) (t : List Ty) (a b : Nat) (hn : Types w B nb no cap t) (hv : validI t = true) (ha : a < t.length) (hb : b < t.length) (hM : load t id ≤ 2147483647) :
    Calls Tryd.prog 15 #[.slice (some ⟨nb, no, none⟩) t.length cap, .int .i64 a, .int .i64 b] w fun e w' => ∃ r : Bool, e = .returned (.bool r) ∧ Bx ((r = true ↔ Bis t a b) ∧ Below w.heap.size w w') := by
  have hlen := load_len t
  have HV : Bx _ := ⟨Valid_some w B nb no cap t hn (by omega)⟩
  rw [hv] at HV
  have HI : Bx _ := ⟨fun W k => isRow_any W (some ⟨nb, no, none⟩) t.length cap k⟩
  have ea : isRowI t.length (a : Int) = true := by simp [isRowI]; omega
  have eb : isRowI t.length (b : Int) = true := by simp [isRowI]; omega
  have HE : Bx _ := ⟨fun W => eachItself_any W t.length (by omega)⟩
  have HN : Bx _ := ⟨hn⟩
  have HVV : Bx _ := ⟨hv⟩
  have hB := hn.hi
  have hnb := hn.lo
  obtain ⟨M, hMe⟩ : ∃ M, M = load t id := ⟨_, rfl⟩
  have HM : Bx _ := ⟨hMe⟩
  rw [← hMe] at hM hlen
  have hta : (t.length : Int) = ((t.length : Nat) : Int) := rfl
  clear hn hv hMe hta
  go_enter Tryd.func15, Tryd.ntmps15
  go_wp2_with (first | (go_at_call 12; refine Calls.mono HV.out ?_; rintro e w1 ⟨rfl, hb1⟩) | (go_at_call 21; refine Calls.mono (HI.out _ _) ?_; rintro e w2 ⟨rfl, rfl⟩) | (go_at_call 23; refine Calls.mono (HE.out _) ?_; rintro e w3 ⟨rfl, hr3, hb3⟩))
  have hz1 := hb1.size
  have hz3 := hr3.lt
  have HS0 : Bx (SmR w1 (w3.alloc (.cells #[.int .i64 a, .int .i64 b] 50)) w1.heap.size t a b (.slice (some ⟨w3.heap.size, 0, none⟩) 1 1) (List.range t.length) id (fun _ => 0) [(a, b)]) :=
    ⟨⟨hb3.trans ((below1 _ _).mono (by omega)), hr3.below (below1 _ _), by simp, by simp [pairsC, pairC], .inr ⟨w3.heap.size, 1, _, rfl, by omega, heap_alloc_new w3 _, by simp, by simp [maxLen], by simp, by simp [pairsC, pairC]⟩⟩, uf_each _, sm_start t a b ha hb⟩
  have HB1 : Bx _ := ⟨hb1⟩
  clear hb1 hb3 hr3 HV HI HE hz3
  have hNT : Bx _ := ⟨HN.out.below (HB1.out.mono HN.out.hi)⟩
  generalize w1.heap.size = fb at *
  go_loopg [8] (1 + M) (fun k x wr => ∃ ps ys ρ d, k = load t ρ + ps.length ∧ k ≤ 1 + M ∧ Bx (SmR w1 wr fb t a b x ys ρ d ps))
  case atStart => exact ⟨[(a, b)], _, id, _, by rw [HM.out]; simp; omega, Nat.le_refl _, HS0⟩
  case round =>
    obtain ⟨ps, ys, ρ, d, hk, hkle, HS⟩ := hrel
    clear HS0
    rcases List.eq_nil_or_concat ps with rfl | ⟨qs, ⟨p1, p2⟩, rfl⟩
    · have HD : Bx (Bis t a b) := ⟨HS.out.sm.done HVV.out ha hb⟩
      have HW : Bx _ := ⟨HB1.out.trans (HS.out.mem.bel.mono (by omega))⟩
      rcases HS.out.mem.own.2 with ⟨rfl, _⟩ | ⟨g, cp, cur, rfl, _⟩
      · go_wp2
        go_ret
        exact ⟨true, rfl, ⟨by simp [HD.out], HW.out⟩⟩
      · go_wp2
        go_ret
        exact ⟨true, rfl, ⟨by simp [HD.out], HW.out⟩⟩
    · rw [List.concat_eq_append] at HS hk
      obtain ⟨g, cp, rfl, hc1, hc2, hg, c0, c1, hpop⟩ := HS.out.mem.pop
      obtain ⟨hp1, hp2⟩ := HS.out.sm.pl (p1, p2) (by simp)
      simp only [List.length_append, List.length_singleton] at hk
      have hql : qs.length ≤ 2147483655 := by omega
      have hfb := HS.out.mem.row.lt
      unfold maxLen at hc2
      have HW : Bx (SmW w1 (wr.alloc (.cells #[.int .i64 p1, .int .i64 p2] 50)).drew fb t.length (.slice (some ⟨g, 0, none⟩) qs.length cp) ys qs) := ⟨(hpop.ext (below1 _ _)).only (Only.drew _ _) ((hpop.row.below (below1 _ _)).same rfl) hpop.len⟩
      have HL0 : LastS t.length fb ρ d (wr.alloc (.cells #[.int .i64 p1, .int .i64 p2] 50)).drew (wr.alloc (.cells #[.int .i64 p1, .int .i64 p2] 50)).drew := ⟨ys, HW.out.len, HW.out.row, HS.out.uf, Only.refl _ _⟩
      have q0 : (wr.alloc (.cells #[.int .i64 p1, .int .i64 p2] 50)).drew.cell? ⟨wr.heap.size, 0, none⟩ = some (.int .i64 p1) := (cell_of_row _ _ 0 _ _ _ (heap_alloc_new wr _)).trans rfl
      have q1 : (wr.alloc (.cells #[.int .i64 p1, .int .i64 p2] 50)).drew.cell? ⟨wr.heap.size, 1, none⟩ = some (.int .i64 p2) := (cell_of_row _ _ 1 _ _ _ (heap_alloc_new wr _)).trans rfl
      have hne : wr.heap.size ≠ fb := by omega
      have HQ : Bx _ := ⟨q0⟩
      have HQ1 : Bx _ := ⟨q1⟩
      have HL : Bx (∀ W, LastS t.length fb ρ d (wr.alloc (.cells #[.int .i64 p1, .int .i64 p2] 50)).drew W → ∀ i, i < t.length → Calls Tryd.prog 24 #[.slice (some ⟨fb, 0, none⟩) t.length t.length, .int .i64 (i : Nat)] W fun e w' => e = .returned (.int .i64 (ρ i : Nat)) ∧ LastS t.length fb ρ d (wr.alloc (.cells #[.int .i64 p1, .int .i64 p2] 50)).drew w') := ⟨fun W h i hi => h.call i hi (by omega)⟩
      have HL0B : Bx _ := ⟨HL0⟩
      clear hpop q0 q1 HL0
      go_wp2_with fail
      go_region_held (fun w' => w'.cell? ⟨wr.heap.size, 0, none⟩ = some (.int .i64 p1) ∧ w'.cell? ⟨wr.heap.size, 1, none⟩ = some (.int .i64 p2) ∧ LastS t.length fb ρ d (wr.alloc (.cells #[.int .i64 p1, .int .i64 p2] 50)).drew w')
        (first | exact ⟨HQ.out, HQ1.out, HL0B.out⟩ | exact ⟨(hl4.cell hne 0).trans HQ.out, (hl4.cell hne 1).trans HQ1.out, hl4⟩)
        (first | (go_at_call 24; refine Calls.mono (HL.out _ (by first | exact hl4 | exact HL0B.out) _ (by assumption)) ?_; rintro e w4 ⟨rfl, hl4⟩))
      all_goals
        obtain ⟨zs, l1, l2, l3, l4⟩ := hl4.ex
        have HW4 : Bx (SmW w1 w4 fb t.length (.slice (some ⟨g, 0, none⟩) qs.length cp) zs qs) := ⟨HW.out.only l4 l2 l1⟩
        have HU : Bx _ := ⟨l3⟩
        have hr := fun i hi => (l3.rl i (by rw [l1]; exact hi))
        have hr1 := (hr p1 hp1).1
        have hr2 := (hr p2 hp2).1
        rw [l1] at hr1 hr2
        have HR : Bx (∀ z, z < t.length → ρ z < t.length ∧ ρ (ρ z) = ρ z) := ⟨fun z hz => ⟨by have := (hr z hz).1; omega, l3.idem (by omega)⟩⟩
        have HSM : Bx _ := ⟨HS.out.sm⟩
        clear hl4 l1 l2 l3 l4 hr HL HL0B HQ HQ1 HW HS c0 c1
        obtain ⟨x, hx⟩ : ∃ x, x = ρ p1 := ⟨_, rfl⟩
        obtain ⟨y, hy⟩ : ∃ y, y = ρ p2 := ⟨_, rfl⟩
        rw [← hx] at hr1
        rw [← hy] at hr2
        rw [← hx, ← hy]
        have HXY : Bx (x = ρ p1 ∧ y = ρ p2) := ⟨hx, hy⟩
        clear hx hy
        by_cases hxy : x = y
        · have HN1 : Bx (SmR w1 w4 fb t a b (.slice (some ⟨g, 0, none⟩) qs.length cp) zs ρ d qs) := ⟨HW4.out, HU.out, HSM.out.skip (by rw [← HXY.out.1, ← HXY.out.2]; exact hxy)⟩
          subst hxy
          go_wp2
          go_roundg (load t ρ + qs.length)
          case measure => omega
          case rel => exact ⟨qs, zs, ρ, d, rfl, by omega, HN1⟩
        · have hNW := hNT.out.below (HW4.out.bel.mono (by omega))
          obtain ⟨kx, kxc, hX⟩ := hNW.at_ x hr1
          obtain ⟨ky, kyc, hY⟩ := hNW.at_ y hr2
          have x0 := hX.c0
          have x1 := hX.c1
          have x2 := hX.c2
          have y0 := hY.c0
          have y1 := hY.c1
          have y2 := hY.c2
          have HKX : Bx _ := ⟨hX.kids⟩
          have HKY : Bx _ := ⟨hY.kids⟩
          have hxl : (tyN t x).kids.length ≤ maxLen := by
            obtain ⟨_, _, _, _, h2, _⟩ := hX.kids.ex
            exact h2
          have hyl : (tyN t y).kids.length ≤ maxLen := by
            obtain ⟨_, _, _, _, h2, _⟩ := hY.kids.ex
            exact h2
          unfold maxLen at hxl hyl
          have HD : Bx (¬ Alike (tyN t x) (tyN t y) → ¬ Bis t a b) := ⟨fun h => HSM.out.unlike (by rw [← HXY.out.1, ← HXY.out.2]; exact h)⟩
          have H6 : Bx _ := ⟨fun W' (hb : Below w4.heap.size w4 W') => six_keep hb x0 x1 x2 y0 y1 y2⟩
          have HA : Bx (∀ h, (h : Prop) = Alike (tyN t x) (tyN t y) → h = ((tyN t x).kind = (tyN t y).kind ∧ (tyN t x).kids.length = (tyN t y).kids.length ∧ (tyN t x).res = (tyN t y).res)) := ⟨fun h e => by rw [e]; exact propext ⟨fun q => ⟨q.1, q.2, q.3⟩, fun q => ⟨q.1, q.2.1, q.2.2⟩⟩⟩
          have HCX : Bx (∀ W, Below fb w1 W → W.cell? ⟨nb, no + x * 3 + 1, none⟩ = some (.slice kx (tyN t x).kids.length kxc)) := ⟨fun W hb => kid_cell hNT.out (HW4.out.bel) hX hb (by omega) hnb⟩
          have HCY : Bx (∀ W, Below fb w1 W → W.cell? ⟨nb, no + y * 3 + 1, none⟩ = some (.slice ky (tyN t y).kids.length kyc)) := ⟨fun W hb => kid_cell hNT.out (HW4.out.bel) hY hb (by omega) hnb⟩
          have HGX : Bx (∀ W, Below fb w1 W → ∀ k, k < (tyN t x).kids.length → ∃ bb oo, kx = some ⟨bb, oo, none⟩ ∧ bb < B ∧ W.cell? ⟨bb, oo + k, none⟩ = some (.int .i64 (kidN t x k : Nat))) := ⟨fun W hb k hk => kid_at HVV.out hr1 HW4.out.bel hX hb (by omega) hk⟩
          have HGY : Bx (∀ W, Below fb w1 W → ∀ k, k < (tyN t y).kids.length → ∃ bb oo, ky = some ⟨bb, oo, none⟩ ∧ bb < B ∧ W.cell? ⟨bb, oo + k, none⟩ = some (.int .i64 (kidN t y k : Nat))) := ⟨fun W hb k hk => kid_at HVV.out hr2 HW4.out.bel hY hb (by omega) hk⟩
          have hcx : (tyN t x).kids.length ≤ kxc := by
            obtain ⟨_, _, he, h1, _, _⟩ := hX.kids.ex
            simp only [Value.slice.injEq, true_and] at he
            omega
          have hcy : (tyN t y).kids.length ≤ kyc := by
            obtain ⟨_, _, he, h1, _, _⟩ := hY.kids.ex
            simp only [Value.slice.injEq, true_and] at he
            omega
          clear hX hY hNW HKX HKY
          have hb40 : Below w4.heap.size w4 w4 := Below.refl _ _
          have hxn : ((x : Int) == (y : Int)) = false := by rw [beq_eq_false_iff_ne]; omega
          generalize hlx : (tyN t x).kids.length = lx at *
          generalize hly : (tyN t y).kids.length = ly at *
          generalize hkx : (tyN t x).kind = kdx at *
          generalize hky : (tyN t y).kind = kdy at *
          generalize hrx : (tyN t x).res = rx at *
          generalize hry : (tyN t y).res = ry at *
          have HEQ : Bx ((tyN t x).kids.length = lx) := ⟨hlx⟩
          clear hlx hly hkx hky hrx hry
          by_cases hal : kdx = kdy ∧ lx = ly ∧ rx = ry
          · have HAL : Bx (Alike (tyN t x) (tyN t y)) := ⟨by rw [HA.out _ rfl]; exact hal⟩
            clear HA HD
            obtain ⟨rfl, rfl, rfl⟩ := hal
            go_wp2_with fail
            go_region_held (fun w' => w'.cell? ⟨nb, no + x * 3, none⟩ = some (.int .i64 kdx) ∧ w'.cell? ⟨nb, no + x * 3 + 1, none⟩ = some (.slice kx lx kxc) ∧ w'.cell? ⟨nb, no + x * 3 + 2, none⟩ = some (.bool rx) ∧ w'.cell? ⟨nb, no + y * 3, none⟩ = some (.int .i64 kdx) ∧ w'.cell? ⟨nb, no + y * 3 + 1, none⟩ = some (.slice ky lx kyc) ∧ w'.cell? ⟨nb, no + y * 3 + 2, none⟩ = some (.bool rx) ∧ Below w4.heap.size w4 w')
              (first | exact H6.out _ hb40.drew | exact H6.out _ hb5)
              (first | (go_at_call 25; refine Calls.mono (headOf_any _ _ _ _ _ _) ?_; rintro e w5 ⟨rfl, hb5'⟩; have hb5 := (show Below w4.heap.size w4 _ from by first | exact hb5 | exact hb40.drew).trans (hb5'.mono (by first | exact hb5.size | exact hb40.drew.size)); clear hb5'))
            all_goals
              obtain ⟨x0', x1', x2', y0', y1', y2', _⟩ := H6.out _ hb5
              have HW5 : Bx _ := ⟨HW4.out.ext hb5⟩
              have r1 := HW5.out.row.cell x (by rw [HW5.out.len]; exact hr1)
              have r2 := HW5.out.row.frozen x
              have r3 := HW5.out.row.lt
              have HW6 : Bx (SmW w1 (w5.setCell ⟨fb, x, none⟩ (.int .i64 (y : Nat))) fb t.length (.slice (some ⟨g, 0, none⟩) qs.length cp) (zs.set x y) qs) := ⟨HW5.out.setc x y hr1⟩
              have HXX : Bx (ρ x = x ∧ ρ y = y) := ⟨by have := (HR.out p1 hp1).2; rw [← HXY.out.1] at this; exact this, by have := (HR.out p2 hp2).2; rw [← HXY.out.2] at this; exact this⟩
              have HLD : Bx (load t ρ = load t (mergeR ρ x y) + (1 + lx)) := ⟨by have := load_merge (t := t) hr1 HXX.out.1 HXX.out.2 hxy; rw [HEQ.out] at this; exact this⟩
              have hbig : qs.length + lx ≤ 2147483655 := by have := HLD.out; omega
              have HNX : Bx (∀ W v, SmW w1 W fb t.length v (zs.set x y) (qs ++ kidPairs t x y) → SmR w1 W fb t a b v (zs.set x y) (mergeR ρ x y) (mergeD ρ d x y) (qs ++ kidPairs t x y)) := ⟨fun W v h => ⟨h, HU.out.merge (by rw [HW4.out.len]; exact hr1) (by rw [HW4.out.len]; exact hr2) HXX.out.1 HXX.out.2 hxy, by
                have := HSM.out.merge HVV.out HR.out (by rw [← HXY.out.1, ← HXY.out.2]; exact hxy) (by rw [← HXY.out.1, ← HXY.out.2]; exact HAL.out)
                rw [← HXY.out.1, ← HXY.out.2] at this
                exact this⟩⟩
              have HKL : Bx ((kidPairs t x y).length = lx ∧ ∀ k, k < lx → (kidPairs t x y).take (k + 1) = (kidPairs t x y).take k ++ [(kidN t x k, kidN t y k)]) := ⟨kidPairs_len HEQ.out, fun k hk => kidPairs_take HEQ.out hk⟩
              have hne5 : ¬ nb = fb := by omega
              have hne6 : ¬ fb = nb := by omega
              generalize zs.getD x 0 = zx at *
              obtain ⟨i0, hi, hz0, hz1, hz2⟩ := info_parts infoPair
              have HW7 : Bx (SmW w1 (w5.setCell ⟨fb, x, none⟩ (.int .i64 (y : Nat))) fb t.length (.slice (some ⟨g, 0, none⟩) qs.length cp) (zs.set x y) (qs ++ (kidPairs t x y).take 0)) := ⟨by rw [List.take_zero, List.append_nil]; exact HW6.out⟩
              clear HXX HU HSM HR HXY HAL HW6 HW5 HW4 H6 HEQ x0 x1 x2 y0 y1 y2
              go_wp2
              go_loopw [82, 8] (fun q v wr2 => ∃ (k : Nat) (vv : Value), k ≤ lx ∧ q = .int .i64 k ∧ vv = v ∧ Bx (SmW w1 wr2 fb t.length vv (zs.set x y) (qs ++ (kidPairs t x y).take k))) (fun q _ _ => lx - (intOf q).toNat)
              case atStart => exact ⟨0, _, Nat.zero_le _, rfl, rfl, HW7⟩
              case round =>
                obtain ⟨k, vv, hk2, rfl, rfl, HV2⟩ := hrel
                clear HW7
                by_cases hlt : k < lx
                · have g1 := HCY.out wr HV2.out.bel
                  obtain ⟨b1, o1, rfl, hb1, g2⟩ := HGX.out wr HV2.out.bel k hlt
                  obtain ⟨b2, o2, rfl, hb2, g3⟩ := HGY.out wr HV2.out.bel k hlt
                  have hql2 : (qs ++ (kidPairs t x y).take k).length = qs.length + k := by rw [List.length_append, List.length_take, HKL.out.1]; omega
                  have hfb2 := HV2.out.row.lt
                  obtain ⟨m1, hm1⟩ : ∃ m, m = kidN t x k := ⟨_, rfl⟩
                  obtain ⟨m2, hm2⟩ : ∃ m, m = kidN t y k := ⟨_, rfl⟩
                  rw [← hm1] at g2
                  rw [← hm2] at g3
                  have HOW : Bx ((wr.alloc (.cells #[.int .i64 (m1 : Nat), .int .i64 (m2 : Nat)] 50)).ownsRow (fb + 1) 50 2 vv (qs.length + k) (pairsC (qs ++ (kidPairs t x y).take k))) := ⟨by
                    have := owns_same HV2.out.own (W' := wr.alloc (.cells #[.int .i64 (m1 : Nat), .int .i64 (m2 : Nat)] 50)) (fun g _ hg => (below1 wr _).block g hg)
                    rw [hql2] at this
                    exact this⟩
                  have HPU : Bx (∀ g2 cp2 w8, (wr.alloc (.cells #[.int .i64 (m1 : Nat), .int .i64 (m2 : Nat)] 50)).grownBy w8 vv.ownBlock → w8.ownsRow (fb + 1) 50 2 (.slice (some ⟨g2, 0, none⟩) (qs.length + k + 1) cp2) (qs.length + k + 1) (pairsC (qs ++ (kidPairs t x y).take k) ++ [.int .i64 (m1 : Nat), .int .i64 (m2 : Nat)]) → SmW w1 w8 fb t.length (.slice (some ⟨g2, 0, none⟩) (qs.length + k + 1) cp2) (zs.set x y) (qs ++ (kidPairs t x y).take (k + 1))) := ⟨fun g2 cp2 w8 hg ho => by
                    have := HV2.out.push (p := (m1, m2)) hg (g := g2) (cap := cp2) (by rw [hql2]; exact ho)
                    rw [hql2] at this
                    rw [HKL.out.2 k hlt, ← List.append_assoc, ← hm1, ← hm2]
                    exact this⟩
                  clear hm1 hm2 hql2 HV2
                  go_wp2_with (first
                    | (at_builtin; refine wpList_append_lies _ rfl (.tmp 87) (.tmp 98) 51 rfl (fb + 1) 50 i0 (.agg #[.int .i64 0, .int .i64 0]) 2 16 Tryd.underlying51 hi hz0 hz1 hz2 rfl (by decide) vv (qs.length + k) (pairsC (qs ++ (kidPairs t x y).take k)) rfl HOW.out ⟨wr.heap.size, 0, none⟩ 1 1 [.int .i64 (m1 : Nat), .int .i64 (m2 : Nat)] rfl rfl (pair_news _ _ rfl _ _) (pair_one _ _) (by decide) (by unfold maxLen; omega) (by omega) (by simp; omega) (wr.heap.size + 1) (by simp) ?_; intro gg cg w8 hown hgrow hat hlt8; have LN := HPU.out gg cg w8 hgrow hown; have LNB : Bx _ := ⟨LN⟩; clear hgrow hat hown LN))
                  go_roundw
                  case rel => exact ⟨k + 1, _, by omega, by go_num, rfl, LNB⟩
                  case measure => simp [intOf]; omega
                · have hke : k = lx := by omega
                  have HEND : Bx (SmR w1 wr fb t a b vv (zs.set x y) (mergeR ρ x y) (mergeD ρ d x y) (qs ++ kidPairs t x y)) := ⟨HNX.out _ _ (by have := HV2.out; rw [List.take_of_length_le (by rw [HKL.out.1]; omega)] at this; exact this)⟩
                  clear HV2
                  go_wp2
                  go_roundg (load t (mergeR ρ x y) + (qs ++ kidPairs t x y).length)
                  case measure => have := HLD.out; rw [List.length_append, HKL.out.1]; omega
                  case rel => exact ⟨qs ++ kidPairs t x y, _, _, _, rfl, by have := HLD.out; rw [List.length_append, HKL.out.1]; omega, HEND⟩
          · have HNO : Bx (¬ Bis t a b) := ⟨HD.out (by rw [HA.out _ rfl]; exact hal)⟩
            clear HA HD
            by_cases e1 : kdx = kdy
            · by_cases e2 : lx = ly
              · have e3 : ¬ rx = ry := fun h => hal ⟨e1, e2, h⟩
                clear hal
                subst e1
                subst e2
                go_wp2_with fail
                go_region_held (fun w' => w'.cell? ⟨nb, no + x * 3, none⟩ = some (.int .i64 kdx) ∧ w'.cell? ⟨nb, no + x * 3 + 1, none⟩ = some (.slice kx lx kxc) ∧ w'.cell? ⟨nb, no + x * 3 + 2, none⟩ = some (.bool rx) ∧ w'.cell? ⟨nb, no + y * 3, none⟩ = some (.int .i64 kdx) ∧ w'.cell? ⟨nb, no + y * 3 + 1, none⟩ = some (.slice ky lx kyc) ∧ w'.cell? ⟨nb, no + y * 3 + 2, none⟩ = some (.bool ry) ∧ Below w4.heap.size w4 w')
                  (first | exact H6.out _ hb40.drew | exact H6.out _ hb5)
                  (first | (go_at_call 25; refine Calls.mono (headOf_any _ _ _ _ _ _) ?_; rintro e w5 ⟨rfl, hb5'⟩; have hb5 := (show Below w4.heap.size w4 _ from by first | exact hb5 | exact hb40.drew).trans (hb5'.mono (by first | exact hb5.size | exact hb40.drew.size)); clear hb5'))
                all_goals
                  go_wp2
                  go_ret
                  exact ⟨false, rfl, ⟨by simp [HNO.out], HB1.out.trans ((HW4.out.bel.mono hz1).trans (hb5.mono (by have := HW4.out.row.lt; omega)))⟩⟩
              · clear hal
                subst e1
                have e2' : ((lx : Int) == (ly : Int)) = false := by rw [beq_eq_false_iff_ne]; omega
                go_wp2_with fail
                go_region_held (fun w' => w'.cell? ⟨nb, no + x * 3, none⟩ = some (.int .i64 kdx) ∧ w'.cell? ⟨nb, no + x * 3 + 1, none⟩ = some (.slice kx lx kxc) ∧ w'.cell? ⟨nb, no + x * 3 + 2, none⟩ = some (.bool rx) ∧ w'.cell? ⟨nb, no + y * 3, none⟩ = some (.int .i64 kdx) ∧ w'.cell? ⟨nb, no + y * 3 + 1, none⟩ = some (.slice ky ly kyc) ∧ w'.cell? ⟨nb, no + y * 3 + 2, none⟩ = some (.bool ry) ∧ Below w4.heap.size w4 w')
                  (first | exact H6.out _ hb40.drew | exact H6.out _ hb5)
                  (first | (go_at_call 25; refine Calls.mono (headOf_any _ _ _ _ _ _) ?_; rintro e w5 ⟨rfl, hb5'⟩; have hb5 := (show Below w4.heap.size w4 _ from by first | exact hb5 | exact hb40.drew).trans (hb5'.mono (by first | exact hb5.size | exact hb40.drew.size)); clear hb5'))
                all_goals
                  go_wp2
                  go_ret
                  exact ⟨false, rfl, ⟨by simp [HNO.out], HB1.out.trans ((HW4.out.bel.mono hz1).trans (hb5.mono (by have := HW4.out.row.lt; omega)))⟩⟩
            · clear hal
              have e1' : (kdx == kdy) = false := by rw [beq_eq_false_iff_ne]; exact e1
              go_wp2_with fail
              go_region_held (fun w' => w'.cell? ⟨nb, no + x * 3, none⟩ = some (.int .i64 kdx) ∧ w'.cell? ⟨nb, no + x * 3 + 1, none⟩ = some (.slice kx lx kxc) ∧ w'.cell? ⟨nb, no + x * 3 + 2, none⟩ = some (.bool rx) ∧ w'.cell? ⟨nb, no + y * 3, none⟩ = some (.int .i64 kdy) ∧ w'.cell? ⟨nb, no + y * 3 + 1, none⟩ = some (.slice ky ly kyc) ∧ w'.cell? ⟨nb, no + y * 3 + 2, none⟩ = some (.bool ry) ∧ Below w4.heap.size w4 w')
                (first | exact H6.out _ hb40.drew | exact H6.out _ hb5)
                (first | (go_at_call 25; refine Calls.mono (headOf_any _ _ _ _ _ _) ?_; rintro e w5 ⟨rfl, hb5'⟩; have hb5 := (show Below w4.heap.size w4 _ from by first | exact hb5 | exact hb40.drew).trans (hb5'.mono (by first | exact hb5.size | exact hb40.drew.size)); clear hb5'))
              all_goals
                go_wp2
                go_ret
                exact ⟨false, rfl, ⟨by simp [HNO.out], HB1.out.trans ((HW4.out.bel.mono hz1).trans (hb5.mono (by have := HW4.out.row.lt; omega)))⟩⟩
end Go.Proofs.YtllgaholkminnaaDoor
namespace Go.Proofs.YtllgaholkminnaaDoor
open Go.RowKit
set_option linter.unusedVariables false
set_option linter.unusedSimpArgs false

/-- Same, of rows that are valid -/
theorem Same_all (w : World) (B nb no cap : Nat) (t : List Ty) (a b : Nat) (hn : Types w B nb no cap t) (hv : validI t = true) (ha : a < t.length) (hb : b < t.length) (hM : load t id ≤ 2147483647) :
    ∃ r : Bool, (r = true ↔ Bis t a b) ∧ ∀ W, Below w.heap.size w W → Calls Tryd.prog 15 #[.slice (some ⟨nb, no, none⟩) t.length cap, .int .i64 a, .int .i64 b] W fun e w' => e = .returned (.bool r) ∧ Below W.heap.size W w' := by
  have key : ∀ r : Bool, (r = true ↔ Bis t a b) → ∀ W, Below w.heap.size w W → Calls Tryd.prog 15 #[.slice (some ⟨nb, no, none⟩) t.length cap, .int .i64 a, .int .i64 b] W fun e w' => e = .returned (.bool r) ∧ Below W.heap.size W w' := fun r hr W hb' => by
    refine Calls.mono (Same_yes W B nb no cap t a b (hn.below (hb'.mono hn.hi)) hv ha hb hM) ?_
    rintro e w' ⟨r', rfl, h1, h2⟩
    have : r' = r := by cases r <;> cases r' <;> simp_all
    subst this
    exact ⟨rfl, h2⟩
  rcases Classical.em (Bis t a b) with h | h
  · exact ⟨true, by simp [h], key true (by simp [h])⟩
  · exact ⟨false, by simp [h], key false (by simp [h])⟩

theorem kid_in {W : World} {B nb o x k : Nat} {t : List Ty} {ka : Option Addr} {kc : Nat} (hv : validI t = true) (hx : x < t.length) (hX : TyAt W B nb o (tyN t x) ka kc) (hk : k < (tyN t x).kids.length) :
    ∃ bb oo, ka = some ⟨bb, oo, none⟩ ∧ bb < B ∧ W.cell? ⟨bb, oo + k, none⟩ = some (.int .i64 (kidN t x k : Nat)) ∧ kidN t x k < t.length := by
  obtain ⟨a, cap, he, h1, h2, h3⟩ := hX.kids.ex
  simp only [Value.slice.injEq, true_and] at he
  obtain ⟨rfl, rfl⟩ := he
  obtain ⟨b, o', rfl, hbB, hcell⟩ := h3 (by omega)
  obtain ⟨m, e1, e3, e2⟩ := valid_kid hv hx hk
  exact ⟨b, o', rfl, hbB, by rw [hcell k hk, e1, e2], by rw [e2]; exact e3⟩

/-- the contract of a Same whose answer is known -/
def SmC (w : World) (nb no cap : Nat) (t : List Ty) (x y : Nat) (r : Bool) : Prop := ∀ W, Below w.heap.size w W → Calls Tryd.prog 15 #[.slice (some ⟨nb, no, none⟩) t.length cap, .int .i64 x, .int .i64 y] W fun e w' => e = .returned (.bool r) ∧ Below W.heap.size W w'
theorem smC_of (w : World) (B nb no cap : Nat) (t : List Ty) (x y : Nat) (hn : Types w B nb no cap t) (hv : validI t = true) (hx : x < t.length) (hy : y < t.length) (hM : load t id ≤ 2147483647) (r : Bool) (hr : r = true ↔ Bis t x y) : SmC w nb no cap t x y r := by
  obtain ⟨r', hr', h⟩ := Same_all w B nb no cap t x y hn hv hx hy hM
  have : r = r' := by cases r <;> cases r' <;> simp_all
  subst this
  exact h
end Go.Proofs.YtllgaholkminnaaDoor
