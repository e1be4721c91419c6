import Derived.Test.YtjabdhmkibahlaaCHHb
namespace Go.Proofs.Ytjabdhmkibahlaa
open Go.RowKit
set_option linter.unusedVariables false
set_option linter.unusedSimpArgs false

set_option maxHeartbeats 1000000 in
/-- a level is written -/
theorem NxM.put {w W : World} {H M n : Nat} {v4 v5 v10 : Value} {lv : List Int} {ks : List Lk} {nx : List Int} (h : NxM w W H M n v4 v5 v10 lv ks nx) {i : Nat} (hi : i < n) (x : Int) (hx : I64 x) :
    ∃ g4 c4, v4 = .slice (some ⟨g4, 0, none⟩) n c4 ∧ n ≤ c4 ∧ (∃ y, W.cell? ⟨g4, i, none⟩ = some y) ∧ W.frozen? ⟨g4, i, none⟩ = false ∧ NxM w (W.setCell ⟨g4, i, none⟩ (.int .i64 x)) H M n v4 v5 v10 (lv.set i x) ks nx := by
  have h4 := h.lvm.lev
  rw [h.lvm.n4] at h4
  obtain ⟨a4, c4, e4⟩ := owns_slice h4
  have hg4 : ∃ g4, a4 = some ⟨g4, 0, none⟩ := by
    rcases h4.2 with ⟨_, q⟩ | ⟨g, cap, cur, q, _⟩
    · omega
    · rw [e4] at q; simp only [Value.slice.injEq] at q; exact ⟨g, q.1⟩
  obtain ⟨g4, rfl⟩ := hg4
  subst e4
  have hc4 : n ≤ c4 := by
    rcases h4.2 with ⟨q, _⟩ | ⟨g, cap, cur, q, _, _, q3, _⟩
    · cases q
    · simp only [Value.slice.injEq] at q; omega
  have hcz := (Czb.of h4).1
  rw [Nat.mul_one] at hcz
  obtain ⟨hyy, hf⟩ := hcz.at_ hi
  obtain ⟨cu, fz, hgk⟩ := owns_kind h4 g4 rfl
  have hgB := owns_block h4 (g := g4) rfl
  have hlow := h.low g4 rfl
  have hoth : ∀ y, y ≠ g4 → (W.setCell ⟨g4, i, none⟩ (.int .i64 x)).heap[y]? = W.heap[y]? := fun y hy => Below.heap_setCell W ⟨g4, i, none⟩ _ y hy
  refine ⟨g4, c4, rfl, hc4, hyy, hf, ⟨⟨?_, own_same h.lvm.lnk fun y o hy ho => ?_, h.lvm.bel.trans ((Below.refl H W).setCell (p := ⟨g4, i, none⟩) hgB.1 _), by rw [List.length_set]; exact h.lvm.n4, h.lvm.n5, fun y hy => ?_, h.lvm.k64⟩, owns_same h.nxt fun y h1 h2 => hoth y (by omega), h.low, h.hM, by simpa using h.mz⟩⟩
  · have e : rowC (lv.set i x) = (rowC lv).set i (.int .i64 x) := by unfold rowC; rw [List.map_set]
    rw [List.length_set, e, h.lvm.n4]
    exact own_put h4 i _
  · rw [hoth y (fun e => ?_)]
    · exact ho
    · subst e
      obtain ⟨c2, f2, q⟩ := owns_kind h.lvm.lnk y hy
      rw [hgk] at q
      injection q with q
      injection q with _ q
      exact absurd q (by decide)
  · rcases List.mem_or_eq_of_mem_set hy with hy | hy
    · exact h.lvm.i64 y hy
    · rw [hy]; exact hx
theorem lvsF_step (s : List Ag) (f k : Nat) (lv : List Int) (ks : List Lk) {nx : List Int} {ks' : List Lk} (e : inL s lv k ks s.length = (nx, ks')) (h : ¬ (nx = [] ∧ 0 < k)) : lvsF s (f + 1) k lv ks = lvsF s f (k + 1) (putL lv nx (k + 1)) ks' := by
  rw [lvsF, e]
  simp only
  rw [if_neg h]
theorem lvsF_stop (s : List Ag) (f k : Nat) (lv : List Int) (ks : List Lk) {nx : List Int} {ks' : List Lk} (e : inL s lv k ks s.length = (nx, ks')) (h : nx = [] ∧ 0 < k) : lvsF s (f + 1) k lv ks = (lv, ks') := by
  rw [lvsF, e]
  simp only
  rw [if_pos h]
set_option maxRecDepth 100000 in
set_option maxHeartbeats 8000000 in
theorem rLevels_any (w : World) (p : Option Addr) (c : Nat) (s : List Ag) (h : AgsR w p c s) (hl4 : s.length ≤ 4096) :
    Calls Try.prog 51 #[.slice p s.length c] w fun e w' => ∃ v1 v2, e = .returned (.tuple #[v1, v2]) ∧ LvM w w' w.heap.size s.length v1 v2 (lvsI s).1 (lvsI s).2 := by
  obtain ⟨H, hH⟩ : ∃ H, w.heap.size = H := ⟨_, rfl⟩
  rw [hH]
  have hlc := h.len
  have hcm := h.max
  unfold maxLen at hcm
  have HS : Bx (AgsR w p c s) := ⟨h⟩
  have HL : Bx (∀ (W : World) (i : Nat) (hi : i < s.length) (k : Nat), k ≤ 4096 → ∀ q d lv, Below H w W → IntsR W q d lv → lv.length = s.length → Calls Try.prog 69 #[.slice p s.length c, .int .i64 (i : Int), .slice q s.length d, .int .i64 (k : Int)] W fun e w' => e = .returned (lT (lnI s i (agA s i).id lv k (agA s i).arms)) ∧ Below W.heap.size W w') := ⟨fun W i hi k hk q d lv hb hq hlv => by
    have ea : agA s i = s[i] := by unfold agA; rw [List.getElem?_eq_getElem hi]; rfl
    rw [ea]
    have hW := h.later (w' := W) (by rw [hH]; exact hb)
    cases k with
    | zero => exact rlink0_any W p c s hW hl4 i hi q d lv hq hlv
    | succ k => exact rlink1_any W p c s hW hl4 i hi q d lv hq hlv ((k + 1 : Nat) : Int) ⟨by omega, by omega⟩ (by omega)⟩
  clear h
  have M0 : Bx (LvM w w H 0 (.slice none 0 0) (.slice none 0 0) [] []) := ⟨⟨⟨rfl, .inl ⟨rfl, rfl⟩⟩, ⟨rfl, .inl ⟨rfl, rfl⟩⟩, Below.refl _ _, rfl, rfl, (fun _ h => by cases h), fun _ h => by cases h⟩⟩
  go_enter Try.func51, Try.ntmps51
  go_wp2
  go_loopg [4, 5, 18] (s.length + 1) (fun g v4 v5 v18 wr => ∃ (i : Nat) (x4 x5 : Value), g = s.length + 1 - i ∧ i ≤ s.length ∧ v18 = .int .i64 i ∧ x4 = v4 ∧ x5 = v5 ∧ Bx (LvM w wr H i x4 x5 ((lv0 s).take i) (List.replicate i lk00)))
  case atStart => exact ⟨0, _, _, by simp, by omega, rfl, rfl, rfl, M0⟩
  case round =>
    obtain ⟨i, x4, x5, hg, hil, rfl, rfl, rfl, HI⟩ := hrel
    clear M0
    by_cases hlt : i < s.length
    · obtain ⟨b, o, ap, ac, hp, hc, rfl, hA, hcl⟩ := HS.out.at_ i hlt
      obtain ⟨c0, c1, c2, c3⟩ := hcl wr (by rw [hH]; exact HI.out.bel)
      obtain ⟨W1, hW1⟩ : ∃ W1, wr.alloc (.cells #[.int .i64 s[i].id, .bool s[i].awake, .slice ap s[i].arms.length ac, .slice hp s[i].held.length hc] 53) = W1 := ⟨_, rfl⟩
      have hb1 : Below wr.heap.size wr W1 := by rw [← hW1]; exact below1 _ _
      have k1 : W1.cell? ⟨wr.heap.size, 1, none⟩ = some (.bool s[i].awake) := by rw [← hW1]; exact cell_blk (heap_newH _ _ _ rfl) rfl
      have M1 : Bx _ := ⟨HI.out.later hH hb1⟩
      have hx : I64 (if s[i].awake then (0 : Int) else -1) := by split <;> exact ⟨by decide, by decide⟩
      obtain ⟨g1, d1, W2, g2, d2, W3, r1, r2, hM⟩ := M1.out.add hH (by omega) _ hx
      have et : (lv0 s).take (i + 1) = (lv0 s).take i ++ [if s[i].awake then (0 : Int) else -1] := by
        rw [List.take_succ_eq_append_getElem (by simp [lv0]; omega)]
        simp [lv0]
      have HN : Bx (LvM w W3 H (i + 1) (.slice (some ⟨g1, 0, none⟩) (i + 1) d1) (.slice (some ⟨g2, 0, none⟩) (i + 1) d2) ((lv0 s).take (i + 1)) (List.replicate (i + 1) lk00)) := ⟨by rw [et, List.replicate_succ']; exact hM⟩
      have hiI : (i : Int) < (s.length : Int) := by omega
      have hi0 : (0 : Int) ≤ (i : Int) := by omega
      clear hcl hA HS HL M1 hM et hb1 hx HI
      generalize s[i] = a at *
      cases haw : a.awake with
      | true =>
        rw [haw] at k1 hW1 c1 r1
        simp only [if_true] at r1
        go_wp2_with (first
          | (at_builtin; refine wpList_appI rfl (.tmp 24) (.tmp 26) 45 rfl rfl rfl r1 ?_)
          | (at_builtin; refine wpList_appI rfl (.tmp 28) (.tmp 30) 36 rfl rfl rfl r2 ?_))
        go_roundg (s.length + 1 - (i + 1))
        case measure => omega
        case rel => exact ⟨i + 1, _, _, rfl, by omega, by simp, rfl, rfl, HN⟩
      | false =>
        rw [haw] at k1 hW1 c1 r1
        simp only [Bool.false_eq_true, if_false] at r1
        go_wp2_with (first
          | (at_builtin; refine wpList_appI rfl (.tmp 24) (.tmp 26) 45 rfl rfl rfl r1 ?_)
          | (at_builtin; refine wpList_appI rfl (.tmp 28) (.tmp 30) 36 rfl rfl rfl r2 ?_))
        go_roundg (s.length + 1 - (i + 1))
        case measure => omega
        case rel => exact ⟨i + 1, _, _, rfl, by omega, by simp, rfl, rfl, HN⟩
    · have hie : i = s.length := by omega
      have MS : Bx (LvM w wr H s.length x4 x5 (lv0 s) (List.replicate s.length lk00)) := ⟨by
        have := HI.out
        rw [hie, List.take_of_length_le (by simp [lv0])] at this
        exact this⟩
      subst hie
      clear HI
      go_wp2
      go_loopg [9] (s.length + 1) (fun g v9 wr => ∃ k : Nat, g = s.length + 1 - k ∧ k ≤ s.length ∧ v9 = .int .i64 k ∧ Bx (∃ lv ks, LvM w wr H s.length x4 x5 lv ks ∧ lvsF s (s.length - k) k lv ks = lvsI s))
      case atStart => exact ⟨0, by simp, by omega, rfl, ⟨_, _, MS.out, rfl⟩⟩
      case round =>
        obtain ⟨k, hgk, hkl, rfl, HK⟩ := hrel
        clear MS
        obtain ⟨lv, ks, hM, hF⟩ := HK.out
        clear HK
        by_cases hkt : k < s.length
        · have hkI : (k : Int) < (s.length : Int) := by omega
          have hk0 : (0 : Int) ≤ (k : Int) := by omega
          obtain ⟨f, hf⟩ : ∃ f, s.length - k = f + 1 := ⟨s.length - k - 1, by omega⟩
          have HFF : Bx (lvsF s (f + 1) k lv ks = lvsI s ∧ s.length - (k + 1) = f) := ⟨by rw [← hf]; exact hF, by omega⟩
          clear hf hF
          obtain ⟨M, hMz⟩ : ∃ M, M = wr.heap.size := ⟨_, rfl⟩
          have HN0 : Bx (NxM w wr H M s.length x4 x5 (.slice none 0 0) lv ks []) := ⟨by rw [hMz]; exact NxM.start hM hH⟩
          have HLV : Bx (lv.length = s.length ∧ ∀ x ∈ lv, I64 x) := ⟨hM.n4, hM.i64⟩
          clear hM hMz
          go_wp2
          go_loopg [10, 41] (s.length + 1) (fun g v10 v41 wr => ∃ (i : Nat) (vv : Value), g = s.length + 1 - i ∧ i ≤ s.length ∧ v41 = .int .i64 i ∧ vv = v10 ∧ Bx (∃ nx ks', NxM w wr H M s.length x4 x5 vv lv ks' nx ∧ inL s lv k ks i = (nx, ks')))
          case atStart => exact ⟨0, _, by simp, by omega, rfl, rfl, ⟨[], ks, HN0.out, rfl⟩⟩
          case round =>
            obtain ⟨i, v10, hgi, hil, rfl, rfl, HI⟩ := hrel
            clear HN0
            obtain ⟨nx, ks', hN, hin⟩ := HI.out
            clear HI
            by_cases hlt : i < s.length
            · have hiI : (i : Int) < (s.length : Int) := by omega
              have hi0 : (0 : Int) ≤ (i : Int) := by omega
              obtain ⟨g4, c4, e4, hc4, _, _, _⟩ := hN.put hlt 0 ⟨by decide, by decide⟩
              have hlev := hN.lvm.lev
              rw [e4, HLV.out.1] at hlev
              have hli : i < lv.length := by rw [HLV.out.1]; exact hlt
              have cl : wr.cell? ⟨g4, i, none⟩ = some (.int .i64 lv[i]) := owns_cellj hlev (by unfold rowC; rw [List.getElem?_map, List.getElem?_eq_getElem hli]; rfl)
              have hrd : IntsR wr (some ⟨g4, 0, none⟩) c4 lv := ints_read (by rw [HLV.out.1]; exact hlev) HLV.out.2
              have hat : lv[i]?.getD 0 = lv[i] := by rw [List.getElem?_eq_getElem hli]; rfl
              have HCALL : Bx (Calls Try.prog 69 #[.slice p s.length c, .int .i64 (i : Int), .slice (some ⟨g4, 0, none⟩) s.length c4, .int .i64 (k : Int)] wr fun e w' => e = .returned (lT (lnI s i (agA s i).id lv k (agA s i).arms)) ∧ Below wr.heap.size wr w') := ⟨HL.out wr i hlt k (by omega) _ _ lv hN.lvm.bel hrd HLV.out.1⟩
              have H64 : Bx (∀ l, lnI s i (agA s i).id lv k (agA s i).arms = some l → Lk64 l) := ⟨fun l hl => ln_64 HS.out hlt hl⟩
              have hnl := (inL_len s lv k ks i).2.1
              rw [hin] at hnl
              have hnl2 : nx.length ≤ i := hnl
              subst e4
              by_cases hge : 0 ≤ lv[i]
              · have HN : Bx (∃ nx ks', NxM w wr H M s.length (.slice (some ⟨g4, 0, none⟩) s.length c4) x5 v10 lv ks' nx ∧ inL s lv k ks (i + 1) = (nx, ks')) := ⟨nx, ks', hN, by rw [inL_succ, hin]; unfold inF lnAt; rw [hat, if_pos hge]⟩
                clear hN hin hlev hrd HCALL H64 HL HS hat
                generalize lv[i] = z at *
                go_wp2
                go_roundg (s.length + 1 - (i + 1))
                case measure => omega
                case rel => exact ⟨i + 1, _, rfl, by omega, by simp, rfl, HN⟩
              · have HIF : Bx (inL s lv k ks (i + 1) = match lnI s i (agA s i).id lv k (agA s i).arms with
                  | none => (nx, ks')
                  | some l => (nx ++ [(i : Int)], ks'.set i l)) := ⟨by rw [inL_succ, hin]; unfold inF lnAt; rw [hat, if_neg hge]; cases lnI s i (agA s i).id lv k (agA s i).arms <;> rfl⟩
                have HNN : Bx _ := ⟨hN⟩
                clear hN hin hlev hrd hat HL
                generalize lv[i] = z at *
                generalize lnI s i (agA s i).id lv k (agA s i).arms = ol at *
                cases ol with
                | none =>
                  simp only [lT, lk0, lkV, Option.isSome_none, Option.getD_none] at HCALL
                  clear H64 HS
                  go_wp2_with (first
                    | (go_at_call 69; refine Calls.mono HCALL.out ?_; rintro e w2 ⟨rfl, hb2⟩; have N2 : Bx _ := ⟨(HNN.out.later hH hb2).later hH (below1 w2 (.cells #[.int .i64 0, .int .i64 0, .int .i64 0] 24))⟩; clear hb2))
                  go_roundg (s.length + 1 - (i + 1))
                  case measure => omega
                  case rel => exact ⟨i + 1, _, rfl, by omega, by simp, rfl, ⟨nx, ks', N2.out, HIF.out⟩⟩
                | some l =>
                  have h6 := H64.out l rfl
                  have H6 : Bx (Lk64 l) := ⟨h6⟩
                  obtain ⟨lr, ln, lc⟩ := l
                  simp only [lT, lk0, lkV, Option.isSome_some, Option.getD_some] at HCALL
                  clear H64 HS h6
                  obtain ⟨m, hm⟩ : ∃ m, m = nx.length := ⟨_, rfl⟩
                  have HM : Bx (m = nx.length ∧ nx.length ≤ 4096) := ⟨hm, by omega⟩
                  clear hm
                  go_wp2_with (first
                    | (go_at_call 69; refine Calls.mono HCALL.out ?_; rintro e w2 ⟨rfl, hb2⟩; obtain ⟨WL, hWL⟩ : ∃ WL, w2.alloc (.cells #[.int .i64 lr, .int .i64 ln, .int .i64 lc] 24) = WL := ⟨_, rfl⟩; have hbL : Below w2.heap.size w2 WL := (by rw [← hWL]; exact below1 _ _); have hNL := (HNN.out.later hH hb2).later hH hbL; have hlb : WL.heap[w2.heap.size]? = some (.cells #[.int .i64 lr, .int .i64 ln, .int .i64 lc] 24 (0, 0)) := (by rw [← hWL]; exact heap_newH _ _ _ rfl); obtain ⟨g1, c1, W1, g5, c5, r1, e5, hc5, hth, hkp, hNA⟩ := hNL.add hH HM.out.2 hlt ⟨lr, ln, lc⟩ H6.out HM.out.1; have hlb1 := hkp _ _ _ hlb; subst e5; obtain ⟨W5, hW5⟩ : ∃ W5, W1.setCells g5 (i * 3) [.int .i64 lr, .int .i64 ln, .int .i64 lc] = W5 := ⟨_, rfl⟩; simp only at hNA; rw [hW5] at hNA; have N5 : Bx _ := ⟨hNA⟩; have q0 := cell_blk (i := 0) hlb rfl; have q1 := cell_blk (i := 1) hlb rfl; have q2 := cell_blk (i := 2) hlb rfl; have t0 := cell_blk (i := 0) hlb1 rfl; have t1 := cell_blk (i := 1) hlb1 rfl; have t2 := cell_blk (i := 2) hlb1 rfl; clear hb2 hbL hNL hNA hkp hlb hlb1)
                    | (at_builtin; refine wpList_appI rfl (.tmp 58) (.tmp 60) 45 rfl rfl rfl r1 ?_)
                    | (refine wpList_put3v rfl (.tmp 65) (.tmp 64) rfl g5 (i * 3) lr ln lc rfl rfl hth hW5 ?_))
                  go_roundg (s.length + 1 - (i + 1))
                  case measure => omega
                  case rel => exact ⟨i + 1, _, rfl, by omega, by simp, rfl, ⟨nx ++ [(i : Int)], ks'.set i ⟨lr, ln, lc⟩, N5.out, HIF.out⟩⟩
            · have hie : i = s.length := by omega
              have HE : Bx (inL s lv k ks s.length = (nx, ks')) := ⟨by rw [← hie]; exact hin⟩
              have HNN : Bx _ := ⟨hN⟩
              have hnl := (inL_len s lv k ks s.length).2
              rw [HE.out] at hnl
              have HNX : Bx (nx.length ≤ s.length ∧ ∀ x ∈ nx, ∃ i : Nat, i < s.length ∧ x = i) := ⟨hnl⟩
              subst hie
              obtain ⟨m, hm⟩ : ∃ m, m = nx.length := ⟨_, rfl⟩
              obtain ⟨a10, c10, e10⟩ := owns_slice hN.nxt
              have hc10 : nx.length ≤ c10 := by
                rcases hN.nxt.2 with ⟨q, q2⟩ | ⟨g, cap, cur, q, _, _, q3, _⟩
                · omega
                · rw [e10] at q; simp only [Value.slice.injEq] at q; omega
              rw [← hm] at e10 hc10
              subst e10
              have HM : Bx (m = nx.length) := ⟨hm⟩
              have hnx1 := HNX.out.1
              have hml : m ≤ 4096 := by omega
              clear hnx1
              clear hin hN hnl hm HL HS
              by_cases hst : m = 0 ∧ 0 < k
              · obtain ⟨hm0, hkp⟩ := hst
                have HZ : Bx (LvM w wr H s.length x4 x5 (lvsI s).1 (lvsI s).2) := ⟨by
                  have e := HFF.out.1
                  rw [lvsF_stop s f k lv ks HE.out ⟨List.eq_nil_of_length_eq_zero (by have := HM.out; omega), hkp⟩] at e
                  rw [← e]
                  exact HNN.out.lvm⟩
                subst hm0
                have hkI2 : (0 : Int) < (k : Int) := by omega
                clear HFF HE HNN HNX HM
                go_wp2
                go_ret2
                exact ⟨_, _, rfl, HZ.out⟩
              · have HST : Bx (lvsF s f (k + 1) (putL lv nx (k + 1)) ks' = lvsI s) := ⟨by
                  rw [← lvsF_step s f k lv ks HE.out (fun hh => hst ⟨by rw [HM.out, hh.1]; rfl, hh.2⟩)]
                  exact HFF.out.1⟩
                have HP0 : Bx (NxM w wr H M s.length x4 x5 (.slice a10 m c10) (putL lv (nx.take 0) (k + 1)) ks' nx) := ⟨by simpa [putL] using HNN.out⟩
                have HF2 : Bx (s.length - (k + 1) = f) := ⟨HFF.out.2⟩
                clear HFF HE HNN
                have hcnd : ¬ (m = 0) ∨ k = 0 := by omega
                have hcI : (m : Int) = 0 → ¬ ((0 : Int) < (k : Int)) := fun h1 h2 => by omega
                by_cases hm0 : m = 0
                · have hk00 : k = 0 := by omega
                  subst hm0
                  subst hk00
                  have HE2 : Bx (LvM w wr H s.length x4 x5 (putL lv nx ((0 : Nat) + 1)) ks') := ⟨by
                    have e : nx = [] := List.eq_nil_of_length_eq_zero HM.out.symm
                    have := HP0.out.lvm
                    rw [e] at this ⊢
                    exact this⟩
                  clear HP0
                  go_wp2
                  go_loopg [76] 1 (fun g v76 wz => g = 1 ∧ v76 = .int .i64 0 ∧ Bx (wz = wr))
                  case atStart => exact ⟨rfl, rfl, ⟨rfl⟩⟩
                  case round =>
                    obtain ⟨_, rfl, HV⟩ := hrel
                    have HE3 : Bx (∃ lv ks, LvM w wr H s.length x4 x5 lv ks ∧ lvsF s (s.length - (0 + 1)) (0 + 1) lv ks = lvsI s) := ⟨_, _, by rw [HV.out]; exact HE2.out, by rw [HF2.out]; exact HST.out⟩
                    go_wp2
                    go_roundg (s.length + 1 - (0 + 1))
                    case measure => omega
                    case rel => exact ⟨0 + 1, rfl, by omega, by simp, HE3⟩
                · have hmI : ¬ ((m : Int) = 0) := by omega
                  have hmB : ((m : Int) == 0) = false := beq_eq_false_iff_ne.2 hmI
                  go_wp2
                  go_loopg [76] (m + 1) (fun g v76 wz => ∃ j : Nat, g = m + 1 - j ∧ j ≤ m ∧ v76 = .int .i64 j ∧ Bx (NxM w wz H M s.length x4 x5 (.slice a10 m c10) (putL lv (nx.take j) (k + 1)) ks' nx))
                  case atStart => exact ⟨0, by simp, by omega, rfl, HP0⟩
                  case round =>
                    obtain ⟨j, hgj, hjm, rfl, HJ⟩ := hrel
                    clear HP0
                    by_cases hjl : j < m
                    · have hjn : j < nx.length := by rw [← HM.out]; exact hjl
                      obtain ⟨i, hi, hie⟩ := HNX.out.2 _ (List.getElem_mem hjn)
                      have hnx := HJ.out.nxt
                      have hb : ∃ g, a10 = some ⟨g, 0, none⟩ := by
                        rcases hnx.2 with ⟨_, q⟩ | ⟨g, cap, cur, q, _⟩
                        · omega
                        · simp only [Value.slice.injEq] at q; exact ⟨g, q.1⟩
                      obtain ⟨g10, rfl⟩ := hb
                      rw [← HM.out] at hnx
                      have cn : wr.cell? ⟨g10, j, none⟩ = some (.int .i64 (i : Int)) := by
                        rw [← hie]
                        exact owns_cellj hnx (by unfold rowC; rw [List.getElem?_map, List.getElem?_eq_getElem hjn]; rfl)
                      obtain ⟨g4, c4, e4, hc4, ⟨y4, cy4⟩, f4, hN4⟩ := HJ.out.put hi ((k : Int) + 1) ⟨by omega, by omega⟩
                      have HN4 : Bx (NxM w (wr.setCell ⟨g4, i, none⟩ (.int .i64 ((k : Int) + 1))) H M s.length x4 x5 (.slice (some ⟨g10, 0, none⟩) m c10) (putL lv (nx.take (j + 1)) (k + 1)) ks' nx) := ⟨by
                        rw [List.take_succ_eq_append_getElem hjn, putL_snoc, hie]
                        exact hN4⟩
                      subst e4
                      have hiI : (i : Int) < (s.length : Int) := by omega
                      have hi0 : (0 : Int) ≤ (i : Int) := by omega
                      have hjI : (j : Int) < (m : Int) := by omega
                      have hj0 : (0 : Int) ≤ (j : Int) := by omega
                      clear HJ hN4 hnx hie
                      go_wp2
                      go_roundg (m + 1 - (j + 1))
                      case measure => omega
                      case rel => exact ⟨j + 1, rfl, by omega, by simp, HN4⟩
                    · have hje : j = m := by omega
                      have HE3 : Bx (∃ lv ks, LvM w wr H s.length x4 x5 lv ks ∧ lvsF s (s.length - (k + 1)) (k + 1) lv ks = lvsI s) := ⟨_, _, by
                        have := HJ.out.lvm
                        rw [hje, HM.out, List.take_length] at this
                        exact this, by rw [HF2.out]; exact HST.out⟩
                      subst hje
                      clear HJ
                      go_wp2
                      go_roundg (s.length + 1 - (k + 1))
                      case measure => omega
                      case rel => exact ⟨k + 1, rfl, by omega, by simp, HE3⟩
        · have hke : k = s.length := by omega
          have HZ : Bx (LvM w wr H s.length x4 x5 (lvsI s).1 (lvsI s).2) := ⟨by
            have e := hF
            rw [hke, Nat.sub_self] at e
            rw [← e]
            exact hM⟩
          subst hke
          clear hM hF HL HS
          go_wp2
          go_ret2
          exact ⟨_, _, rfl, HZ.out⟩
end Go.Proofs.Ytjabdhmkibahlaa
