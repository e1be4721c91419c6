import Derived.Test.YtllgaholkminnaaDoorCKRsP
import Derived.Test.YtllgaholkminnaaDoorCKRefV
import Derived.Test.YtllgaholkminnaaDoorCKSame
import Derived.Deep.RegionLaw
import Derived.Deep.QuietTactic
import Derived.BigQuiet
namespace Go.Proofs.YtllgaholkminnaaDoor
open Go.RowKit
set_option linter.unusedVariables false
set_option linter.unusedSimpArgs false

theorem rsm_start (w : World) (N a b : Nat) (W1 : World) (hW1 : W1 = w.alloc (.cells (nones N) 58)) :
    RsM w ((W1.alloc (.cells #[.int .i64 (a : Nat), .int .i64 (b : Nat)] 3)).alloc (.cells #[.slice (some ⟨W1.heap.size, 0, none⟩) 2 2] 24)) w.heap.size N (.slice (some ⟨W1.heap.size + 1, 0, none⟩) 1 1) noneS (fun _ => none) [(W1.heap.size, a, b)] := by
  have hs : W1.heap.size = w.heap.size + 1 := by rw [hW1]; simp
  have h0 : W1.heap[w.heap.size]? = some (.cells (nones N) 58 (0, 0)) := by rw [hW1]; exact heap_alloc_new w _
  have b1 : Below w.heap.size w W1 := by rw [hW1]; exact below1 w _
  have b2 := below1 W1 (.cells #[.int .i64 (a : Nat), .int .i64 (b : Nat)] 3)
  have n2 := heap_alloc_new W1 (.cells #[.int .i64 (a : Nat), .int .i64 (b : Nat)] 3)
  have s2 : (W1.alloc (.cells #[.int .i64 (a : Nat), .int .i64 (b : Nat)] 3)).heap.size = W1.heap.size + 1 := by simp
  generalize W1.alloc (.cells #[.int .i64 (a : Nat), .int .i64 (b : Nat)] 3) = W2 at *
  have b3 := below1 W2 (.cells #[.slice (some ⟨W1.heap.size, 0, none⟩) 2 2] 24)
  have n3 := heap_alloc_new W2 (.cells #[.slice (some ⟨W1.heap.size, 0, none⟩) 2 2] 24)
  generalize W2.alloc (.cells #[.slice (some ⟨W1.heap.size, 0, none⟩) 2 2] 24) = W3 at *
  rw [s2] at n3
  refine ⟨(b1.trans (b2.mono (by omega))).trans (b3.mono (by omega)), ⟨nones N, ?_, by simp [nones, madeCells], fun x hx => ?_⟩, fun x b e => (by cases e), fun x e y => rfl, fun x x' b e _ => (by cases e), ⟨by simp, .inr ⟨W1.heap.size + 1, 1, _, rfl, by omega, n3, by simp, by simp [maxLen], by simp, by simp [pairV]⟩⟩, fun p hp => ?_⟩
  · rw [b3.block _ (by omega), b2.block _ (by omega)]; exact h0
  · simp [nones, madeCells, hx, Nat.mod_one, seenV]
  · simp only [List.mem_singleton] at hp
    subst hp
    exact ⟨by show w.heap.size < W1.heap.size; omega, by rw [b3.block _ (by show W1.heap.size < _; omega)]; exact n2⟩
theorem one_news (X : World) (Hn : Nat) (o1 : Obj) (hH : X.heap.size + 1 = Hn) (v : Value) : ∀ (j : Nat) (u : Value), [v][j]? = some u → ((X.alloc o1).alloc (.cells #[v] 24)).drew.cell? ((⟨Hn, 0, none⟩ : Addr).add j) = some u := by
  subst hH
  have h : ((X.alloc o1).alloc (.cells #[v] 24)).drew.heap[X.heap.size + 1]? = some (.cells #[v] 24 (0, 0)) := by
    have := heap_alloc_new (X.alloc o1) (.cells #[v] 24)
    rw [show (X.alloc o1).heap.size = X.heap.size + 1 by simp] at this
    exact this
  exact World.news_of_block (w := ((X.alloc o1).alloc (.cells #[v] 24)).drew) (cs := #[v]) h
theorem two_bel (X : World) (o1 o2 : Obj) : Below X.heap.size X ((X.alloc o1).alloc o2).drew := (((Below.refl _ _).alloc (Nat.le_refl _) _).alloc (by simp) _).drew
theorem two_first (X : World) (C : Array Value) (ty : TypeId) (o2 : Obj) : ((X.alloc (.cells C ty)).alloc o2).drew.heap[X.heap.size]? = some (.cells C ty (0, 0)) := by
  have h1 := heap_alloc_new X (.cells C ty)
  have h2 := (below1 (X.alloc (.cells C ty)) o2).block X.heap.size (by simp)
  exact h2.trans h1
theorem snd_snoc (ls : List (Nat × Nat × Nat)) (q x y : Nat) : (ls ++ [(q, x, y)]).map (·.2) = ls.map (·.2) ++ [(x, y)] := by simp

set_option maxRecDepth 100000 in
set_option maxHeartbeats 16000000 in
theorem refSame_yes (w : World) (B nb no cap : Nat) (t : List Ty) (a b : Nat) (hn : Types w B nb no cap t) (hv : validI t = true) (ha : a < t.length) (hb : b < t.length) (hM : load t id ≤ 2147483647) (h2k : t.length ≤ 2000) :
    Calls Tryd.prog 16 #[.slice (some ⟨nb, no, none⟩) t.length cap, .int .i64 a, .int .i64 b] w fun e w' => ∃ r : Bool, e = .returned (.bool r) ∧ Bx ((r = true ↔ Bis t a b) ∧ Below w.heap.size w w') := by
  have HV : Bx _ := ⟨refValid_some w B nb no cap t hn⟩
  rw [hv] at HV
  have hB := hn.hi
  have hnb := hn.lo
  have HN : Bx _ := ⟨hn⟩
  have HVV : Bx _ := ⟨hv⟩
  have hmr := make_rows w t.length (by omega)
  obtain ⟨W1, hW1⟩ : ∃ W1, W1 = w.alloc (.cells (nones t.length) 58) := ⟨_, rfl⟩
  have HS0 : Bx _ := ⟨rsm_start w t.length a b W1 hW1⟩
  rw [← hW1] at hmr
  obtain ⟨M, hMe⟩ : ∃ M, M = leftN t noneS := ⟨_, rfl⟩
  have hM2 : M ≤ 4294967294000 := by
    rw [hMe, left_start]
    exact Nat.le_trans (Nat.mul_le_mul h2k hM) (by omega)
  have HM : Bx _ := ⟨hMe⟩
  have h2 : ¬ t.length ≤ a := by omega
  have h4 : ¬ t.length ≤ b := by omega
  clear hn hv hMe hW1
  go_enter Tryd.func16, Tryd.ntmps16
  go_wp2_with (first | (go_at_call 14; refine Calls.mono HV.out ?_; rintro e w1 ⟨rfl, rfl⟩))
  obtain ⟨H, hH⟩ : ∃ H, H = w.heap.size := ⟨_, rfl⟩
  have HHE : Bx (H = w.heap.size) := ⟨hH⟩
  rw [← hH] at HS0 hB
  rw [← hH]
  clear hmr HV hH h2 h4
  go_loopg [9] (1 + M) (fun k x wr => ∃ ls S g, k = leftN t S + ls.length ∧ k ≤ 1 + M ∧ Bx (RsM w wr H t.length x S g ls ∧ Sd t a b S (ls.map (·.2))))
  case atStart => exact ⟨[(W1.heap.size, a, b)], noneS, fun _ => none, by rw [HM.out]; simp; omega, Nat.le_refl _, ⟨HS0.out, sd_start t a b ha hb⟩⟩
  case round =>
    obtain ⟨ls, S, g, hk, hkle, HS⟩ := hrel
    clear HS0
    rcases List.eq_nil_or_concat ls with rfl | ⟨qs, ⟨q, x, y⟩, rfl⟩
    · have HD : Bx (Bis t a b) := ⟨Sd.done HS.out.2⟩
      have HW : Bx (Below w.heap.size w wr) := ⟨by rw [← HHE.out]; exact HS.out.1.bel⟩
      rcases HS.out.1.own.2 with ⟨rfl, _⟩ | ⟨g, cp, cur, rfl, _⟩
      · go_wp2
        go_ret
        exact ⟨true, rfl, ⟨by simp [HD.out], HW.out⟩⟩
      · go_wp2
        go_ret
        exact ⟨true, rfl, ⟨by simp [HD.out], HW.out⟩⟩
    · rw [List.concat_eq_append] at HS hk
      obtain ⟨bk, cp, rfl, hc1, hc2, hg, hq, c0, c1, c2, hpop⟩ := HS.out.1.pop
      have HSD : Bx _ := ⟨by have := HS.out.2; rw [snd_snoc] at this; exact this⟩
      obtain ⟨hx, hy⟩ := HSD.out.pl (x, y) (by simp)
      simp only [List.length_append, List.length_singleton] at hk
      have hql : qs.length ≤ 4294967294000 := by omega
      have hH := hpop.lt
      unfold maxLen at hc2
      have hx : x < t.length := hx
      have hy : y < t.length := hy
      clear HS
      have hs0 := hpop.seen hx
      have s0 := hs0.1
      have s1 := hs0.2
      have HP : Bx _ := ⟨hpop⟩
      clear hs0 hpop
      cases hgx : g x
      case' none =>
        rw [hgx] at s0
        unfold seenV at s0
        have hmb := make_bools wr t.length (by omega)
        have HF : Bx _ := ⟨HP.out.fresh hx hgx⟩
        have hfr := ((HP.out.ext (below1 wr (.cells (falses t.length) 4))).seen hx)
        rw [hgx] at hfr
        unfold seenV at hfr
        have f0 := hfr.1
        have f1 := hfr.2
        have HSF : Bx (S x y = false) := ⟨HP.out.gn x hgx y⟩
        obtain ⟨W5, hW5⟩ : ∃ W5, W5 = wr.alloc (.cells (falses t.length) 4) := ⟨_, rfl⟩
        have hz5 : W5.heap.size = wr.heap.size + 1 := by rw [hW5]; simp
        rw [← hW5] at hmb HF f0 f1
        clear hW5 hfr hgx
        obtain ⟨q0, q1, q2, q3⟩ := HF.out.bit (x := x) (y := y) (b := wr.heap.size) (by simp) hy
        rw [HSF.out] at q0
        have qs0 := (HF.out.seen hx).1
        rw [if_pos rfl] at qs0
        unfold seenV at qs0
        have HMK : Bx _ := ⟨HF.out.mark hx hy (b := wr.heap.size) (by simp)⟩
        go_wp2
        generalize (W5.setCell ⟨H, x, none⟩ (.slice (some ⟨wr.heap.size, 0, none⟩) t.length t.length)).setCell ⟨wr.heap.size, y, none⟩ (.bool true) = WX at *
        generalize (fun z => if z = x then some wr.heap.size else g z) = g' at *
        clear q0 q1 q2 q3 qs0 hmb HF f0 f1 hz5
      case' some bl =>
        rw [hgx] at s0
        unfold seenV at s0
        obtain ⟨q0, q1, q2, q3⟩ := HP.out.bit hgx hy
        have HMK : Bx _ := ⟨HP.out.mark hx hy hgx⟩
        by_cases hSS : S x y = true
        · rw [hSS] at q0
          have HN1 : Bx (RsM w wr H t.length (.slice (some ⟨bk, 0, none⟩) qs.length cp) S g qs ∧ Sd t a b S (qs.map (·.2))) := ⟨HP.out, HSD.out.skip hSS⟩
          clear hgx hSS HMK HP HSD
          go_wp2
          go_roundg (leftN t S + qs.length)
          case measure => omega
          case rel => exact ⟨qs, S, g, rfl, by omega, HN1⟩
        have HSF : Bx (S x y = false) := ⟨by simpa using hSS⟩
        rw [HSF.out] at q0
        clear hgx hSS
        go_wp2
        generalize wr.setCell ⟨bl, y, none⟩ (.bool true) = WX at *
        clear q0 q1 q2 q3
        obtain ⟨g', hg'⟩ : ∃ g', g' = g := ⟨_, rfl⟩
        rw [← hg'] at HMK
        clear hg'
      all_goals
        have HSD2 : Bx (Alike (tyN t x) (tyN t y) → Sd t a b (markS S x y) (qs.map (·.2) ++ kidPairs t x y)) := ⟨fun h => HSD.out.mark HVV.out h⟩
        have HLD : Bx (leftN t S = leftN t (markS S x y) + (1 + (tyN t x).kids.length)) := ⟨left_mark hx hy HSF.out⟩
        have HD : Bx (¬ Alike (tyN t x) (tyN t y) → ¬ Bis t a b) := ⟨fun h => HSD.out.unlike h⟩
        have hNW := HN.out.below (HMK.out.bel.mono hB)
        obtain ⟨kx, kxc, hX⟩ := hNW.at_ x hx
        obtain ⟨ky, kyc, hY⟩ := hNW.at_ y hy
        have x0 := hX.c0
        have x1 := hX.c1
        have x2 := hX.c2
        have y0 := hY.c0
        have y1 := hY.c1
        have y2 := hY.c2
        have hxl : (tyN t x).kids.length ≤ maxLen := by
          obtain ⟨_, _, _, _, h2, _⟩ := hX.kids.ex
          exact h2
        have hyl : (tyN t y).kids.length ≤ maxLen := by
          obtain ⟨_, _, _, _, h2, _⟩ := hY.kids.ex
          exact h2
        unfold maxLen at hxl hyl
        have HA : Bx (∀ h, (h : Prop) = Alike (tyN t x) (tyN t y) → h = ((tyN t x).kind = (tyN t y).kind ∧ (tyN t x).kids.length = (tyN t y).kids.length ∧ (tyN t x).res = (tyN t y).res)) := ⟨fun h e => by rw [e]; exact propext ⟨fun q => ⟨q.1, q.2, q.3⟩, fun q => ⟨q.1, q.2.1, q.2.2⟩⟩⟩
        have HCX : Bx (∀ W, Below H w W → W.cell? ⟨nb, no + x * 3 + 1, none⟩ = some (.slice kx (tyN t x).kids.length kxc)) := ⟨fun W hb => kid_cell HN.out HMK.out.bel hX hb hB hnb⟩
        have HCY : Bx (∀ W, Below H w W → W.cell? ⟨nb, no + y * 3 + 1, none⟩ = some (.slice ky (tyN t y).kids.length kyc)) := ⟨fun W hb => kid_cell HN.out HMK.out.bel hY hb hB hnb⟩
        have HGX : Bx (∀ W, Below H w W → ∀ k, k < (tyN t x).kids.length → ∃ bb oo, kx = some ⟨bb, oo, none⟩ ∧ bb < B ∧ W.cell? ⟨bb, oo + k, none⟩ = some (.int .i64 (kidN t x k : Nat))) := ⟨fun W hb k hk => kid_at HVV.out hx HMK.out.bel hX hb hB hk⟩
        have HGY : Bx (∀ W, Below H w W → ∀ k, k < (tyN t y).kids.length → ∃ bb oo, ky = some ⟨bb, oo, none⟩ ∧ bb < B ∧ W.cell? ⟨bb, oo + k, none⟩ = some (.int .i64 (kidN t y k : Nat))) := ⟨fun W hb k hk => kid_at HVV.out hy HMK.out.bel hY hb hB hk⟩
        have hcx : (tyN t x).kids.length ≤ kxc := by
          obtain ⟨_, _, he, h1, _, _⟩ := hX.kids.ex
          simp only [Value.slice.injEq, true_and] at he
          omega
        have hcy : (tyN t y).kids.length ≤ kyc := by
          obtain ⟨_, _, he, h1, _, _⟩ := hY.kids.ex
          simp only [Value.slice.injEq, true_and] at he
          omega
        have HBZ : Bx (∀ n, Below w.heap.size w (WX.drewN n)) := ⟨fun n => below_drewN (by rw [← HHE.out]; exact HMK.out.bel) n⟩
        have HMD : Bx (∀ n, RsM w (WX.drewN n) H t.length (.slice (some ⟨bk, 0, none⟩) qs.length cp) (markS S x y) g' qs) := ⟨fun n => HMK.out.ext (below_drewN (Below.refl _ _) n)⟩
        have HKL : Bx ((kidPairs t x y).length = (tyN t x).kids.length ∧ ∀ k, k < (tyN t x).kids.length → (kidPairs t x y).take (k + 1) = (kidPairs t x y).take k ++ [(kidN t x k, kidN t y k)]) := ⟨kidPairs_len rfl, fun k hk => kidPairs_take rfl hk⟩
        have hnbz : nb < WX.heap.size := by have := HMK.out.lt; omega
        clear hX hY hNW s0 s1 c0 c1 c2 HP HSF HSD HMK
        generalize (tyN t x).kids.length = lx at *
        generalize (tyN t y).kids.length = ly at *
        generalize (tyN t x).kind = kdx at *
        generalize (tyN t y).kind = kdy at *
        generalize (tyN t x).res = rx at *
        generalize (tyN t y).res = ry at *
        by_cases hal : kdx = kdy ∧ lx = ly ∧ rx = ry
        · have HAL : Bx (Alike (tyN t x) (tyN t y)) := ⟨by rw [HA.out _ rfl]; exact hal⟩
          clear HA HD
          obtain ⟨rfl, rfl, rfl⟩ := hal
          have hbig : qs.length + lx ≤ 4294967294001 := by have := HLD.out; omega
          go_quiet (fail)
          obtain ⟨i0, hi, hz0, hz1, hz2⟩ := info_parts infoInts
          have HM0 : Bx _ := ⟨HMD.out nq⟩
          clear HMD HBZ x0 x1 x2 y0 y1 y2
          go_wp2
          go_loopw [12, 9] (fun q v wr2 => ∃ (k : Nat) (vv : Value) (ls2 : List (Nat × Nat × Nat)), k ≤ lx ∧ q = .int .i64 k ∧ vv = v ∧ ls2.length = qs.length + k ∧ Bx (RsM w wr2 H t.length vv (markS S x y) g' ls2 ∧ ls2.map (·.2) = qs.map (·.2) ++ (kidPairs t x y).take k)) (fun q _ _ => lx - (intOf q).toNat)
          case atStart => exact ⟨0, _, qs, Nat.zero_le _, rfl, rfl, rfl, ⟨HM0.out, by simp⟩⟩
          case round =>
            obtain ⟨k, vv, ls2, hk2, rfl, rfl, hl2, HV2⟩ := hrel
            clear HM0
            have g1 := HCX.out wr HV2.out.1.bel
            have hwz := HV2.out.1.lt
            by_cases hlt : k < lx
            · have g2 := HCY.out wr HV2.out.1.bel
              obtain ⟨b1, o1, rfl, hb1, g3⟩ := HGX.out wr HV2.out.1.bel k hlt
              obtain ⟨b2, o2, rfl, hb2, g4⟩ := HGY.out wr HV2.out.1.bel k hlt
              obtain ⟨m1, hm1⟩ : ∃ m, m = kidN t x k := ⟨_, rfl⟩
              obtain ⟨m2, hm2⟩ : ∃ m, m = kidN t y k := ⟨_, rfl⟩
              rw [← hm1] at g3
              rw [← hm2] at g4
              have HOW : Bx (∀ W, Below wr.heap.size wr W → W.ownsRow (H + 1) 24 1 vv (qs.length + k) (ls2.map pairV)) := ⟨fun W hb => by
                have := (HV2.out.1.ext hb).own
                rw [hl2] at this
                exact this⟩
              have HPU : Bx (∀ gg cg w8, ((wr.alloc (.cells #[.int .i64 (m1 : Nat), .int .i64 (m2 : Nat)] 3)).alloc (.cells #[.slice (some ⟨wr.heap.size, 0, none⟩) 2 2] 24)).drew.grownBy w8 vv.ownBlock → w8.ownsRow (H + 1) 24 1 (.slice (some ⟨gg, 0, none⟩) (qs.length + k + 1) cg) (qs.length + k + 1) (ls2.map pairV ++ [.slice (some ⟨wr.heap.size, 0, none⟩) 2 2]) → RsM w w8 H t.length (.slice (some ⟨gg, 0, none⟩) (qs.length + k + 1) cg) (markS S x y) g' (ls2 ++ [(wr.heap.size, m1, m2)]) ∧ (ls2 ++ [(wr.heap.size, m1, m2)]).map (·.2) = qs.map (·.2) ++ (kidPairs t x y).take (k + 1)) := ⟨fun gg cg w8 hg ho => by
                refine ⟨?_, by rw [snd_snoc, HV2.out.2, HKL.out.2 k hlt, ← hm1, ← hm2, List.append_assoc]⟩
                have := HV2.out.1.push (q := wr.heap.size) (x := m1) (y := m2) (two_bel wr _ _) (two_first wr _ _ _) hwz hg (k := gg) (cap := cg) (by rw [hl2]; exact ho)
                rw [hl2] at this
                exact this⟩
              clear hm1 hm2 HV2
              go_wp2_with fail
              go_region_law (refine step_append_lies _ rfl (.tmp 139) (.tmp 157) 57 rfl (H + 1) 24 i0 (.slice none 0 0) 1 24 Tryd.underlying57 hi hz0 hz1 hz2 rfl (by decide) vv (qs.length + k) (ls2.map pairV) (by simp [Act.eval, Act.put]) (HOW.out _ (two_bel wr _ _)) ⟨wr.heap.size + 1, 0, none⟩ 1 1 [.slice (some ⟨wr.heap.size, 0, none⟩) 2 2] (by simp [Act.eval, Act.put]) rfl (one_news wr _ _ rfl _) (by simp [Value.oneCell']) (by omega) (by unfold maxLen; omega) (by omega) (by simp; omega) (wr.heap.size + 2) (by simp) ?_; intro gg cg w8 hown hgrow hat hlt8; have LN := HPU.out gg cg w8 hgrow hown; have LNB : Bx _ := ⟨LN⟩; clear hgrow hat hown LN)
              all_goals
                go_wp2
                go_roundw
                case rel => exact ⟨k + 1, _, _, by omega, by go_num, rfl, by simp; omega, LNB⟩
                case measure => simp [intOf]; omega
            · have hke : k = lx := by omega
              have HEND : Bx (RsM w wr H t.length vv (markS S x y) g' ls2 ∧ Sd t a b (markS S x y) (ls2.map (·.2))) := ⟨HV2.out.1, by rw [HV2.out.2, List.take_of_length_le (by rw [HKL.out.1]; omega)]; exact HSD2.out HAL.out⟩
              clear HV2
              go_wp2
              go_roundg (leftN t (markS S x y) + ls2.length)
              case measure => have := HLD.out; omega
              case rel => exact ⟨ls2, _, _, rfl, by have := HLD.out; omega, HEND⟩
        · have HNO : Bx (¬ Bis t a b) := ⟨HD.out (by rw [HA.out _ rfl]; exact hal)⟩
          clear HA HD
          by_cases e1 : kdx = kdy
          · by_cases e2 : rx = ry
            · have e3 : ¬ lx = ly := fun h => hal ⟨e1, h, e2⟩
              clear hal
              subst e1
              subst e2
              have e3' : ((lx : Int) != (ly : Int)) = true := by rw [bne_iff_ne]; omega
              go_quiet (fail)
              go_wp2
              go_ret
              exact ⟨false, rfl, ⟨by simp [HNO.out], HBZ.out nq⟩⟩
            · clear hal
              subst e1
              have e2' : (rx != ry) = true := by rw [bne_iff_ne]; exact e2
              go_quiet (fail)
              go_wp2
              go_ret
              exact ⟨false, rfl, ⟨by simp [HNO.out], HBZ.out nq⟩⟩
          · clear hal
            have e1' : (kdx != kdy) = true := by rw [bne_iff_ne]; exact e1
            go_quiet (fail)
            go_wp2
            go_ret
            exact ⟨false, rfl, ⟨by simp [HNO.out], HBZ.out nq⟩⟩
end Go.Proofs.YtllgaholkminnaaDoor
