import Derived.Test.YtjfabholalnbeabCETu
namespace Go.Proofs.Ytjfabholalnbeab
open Go.RowKit
set_option linter.unusedVariables false
set_option linter.unusedSimpArgs false

theorem alloc_sz (W : World) (o : Obj) : (W.alloc o).heap.size = W.heap.size + 1 := by simp
theorem TuI.spot {w wr : World} {g cap : Nat} {gs : List Ag} (h : TuI w wr (some ⟨g, 0, none⟩) cap gs) {i : Nat} (hi : i < gs.length) : (∃ v, wr.cell? ⟨g, i * 4 + 1, none⟩ = some v) ∧ (∃ v, wr.cell? ⟨g, i * 4 + 2, none⟩ = some v) ∧ (∃ v, wr.cell? ⟨g, i * 4 + 3, none⟩ = some v) ∧ ∀ j, wr.frozen? ⟨g, j, none⟩ = false := by
  obtain ⟨cs, h1, h2, h3⟩ := h
  obtain ⟨ap, ac, hp, hc, q1, q2, q3, q4, q5, q6, q7⟩ := h2.2 i hi
  have hl := h2.1
  exact ⟨⟨_, (h1.cellAt (i * 4 + 1) (by omega)).trans q5⟩, ⟨_, (h1.cellAt (i * 4 + 2) (by omega)).trans q6⟩, ⟨_, (h1.cellAt (i * 4 + 3) (by omega)).trans q7⟩, fun j => h1.frozenAt j⟩
theorem TuI.turn {w wr w5 : World} {g cap : Nat} {s : List Ag} {i : Nat} (h : TuI w wr (some ⟨g, 0, none⟩) cap ((s.take i).map turnA ++ s.drop i)) (hi : i < s.length) (hb : Below wr.heap.size wr w5) {q : Option Addr} {d : Nat} (ho : w5.ownsRow wr.heap.size 53 2 (.slice q s[i].arms.length d) s[i].arms.length (hdsC s[i].arms.reverse)) (h64 : ∀ x ∈ s[i].arms, I64 x.chan) : TuI w (w5.setCell ⟨g, i * 4 + 2, none⟩ (.slice q s[i].arms.length d)) (some ⟨g, 0, none⟩) cap ((s.take (i + 1)).map turnA ++ s.drop (i + 1)) := by
  obtain ⟨h', e⟩ := turn_at s i hi
  have hw : w.heap.size ≤ wr.heap.size := by obtain ⟨_, _, _, h3⟩ := h; exact h3.size
  have hl : HdsM w w5 w.heap.size q d s[i].arms.reverse := .inr ⟨by rw [List.length_reverse]; exact own_low ho hw, fun x hx => h64 x (List.mem_reverse.1 hx)⟩
  have := (h.later hb).arms h' hl
  rw [e, List.length_reverse] at this
  have e2 : (⟨s[i].id, s[i].awake, s[i].arms.reverse, s[i].held⟩ : Ag) = turnA s[i] := rfl
  rw [e2, turn_next s i hi] at this
  exact this
theorem one_int (X : World) (x : Int) (hx : I64 x) : IntsR (X.alloc (.cells #[.int .i64 x] 3)) (some ⟨X.heap.size, 0, none⟩) 1 [x] := ints_read (l := [x]) (own_blk (n := 1) (z := 1) (World.alloc_heap_new X (.cells #[.int .i64 x] 3)) rfl (by decide)) (fun y hy => by
  rw [List.mem_singleton.1 hy]
  exact hx)
theorem rg_step {w wr w5 w9 : World} {v12 v13 : Value} {n i : Nat} {cs : List Value} {o o2 : Obj} {gg cap : Nat} {q : Option Addr} {d : Nat} (h : RgW w wr v12 v13 (rgL n i) (rgN i) cs) (hi : (i : Int) ≤ 100)
    (hb5 : Below ((wr.alloc (.cells #[.int .i64 (3 + (i : Int)), .bool false] 53)).alloc o2).heap.size ((wr.alloc (.cells #[.int .i64 (3 + (i : Int)), .bool false] 53)).alloc o2) w5) (hq : w5.ownsRow ((wr.alloc (.cells #[.int .i64 (3 + (i : Int)), .bool false] 53)).alloc o2).heap.size 3 1 (.slice q 2 d) 2 (rowC (rgH n i))) (h64 : ∀ x ∈ rgH n i, I64 x)
    (ho : w9.ownsRow w.heap.size 32 4 (.slice (some ⟨gg, 0, none⟩) (i + 1) cap) (i + 1) (cs ++ [.int .i64 (i : Int), .bool false, .slice (some ⟨wr.heap.size, 0, none⟩) 1 1, .slice q 2 d])) (hg : (w5.alloc o).grownBy w9 v12.ownBlock) : RgW w w9 (.slice (some ⟨gg, 0, none⟩) (i + 1) cap) v13 (rgL n (i + 1)) (rgN i) (cs ++ [.int .i64 (i : Int), .bool false, .slice (some ⟨wr.heap.size, 0, none⟩) 1 1, .slice q 2 d]) := by
  have hw : w.heap.size ≤ wr.heap.size := h.2.2.2.2.size
  have hb1 := two_new wr (.cells #[.int .i64 (3 + (i : Int)), .bool false] 53) o2
  have hbw := blw hb1 hb5
  have hsz := hb5.size
  simp only [alloc_sz] at hsz
  have hkA : w5.heap[wr.heap.size]? = some (.cells #[.int .i64 (3 + (i : Int)), .bool false] 53 (0, 0)) := by
    rw [hb5.block _ (by simp; omega)]
    exact up (World.alloc_heap_new _ _)
  have hA : HdsM w w5 w.heap.size (some ⟨wr.heap.size, 0, none⟩) 1 [⟨3 + (i : Int), false⟩] := .inr ⟨own_at (n := 1) (z := 2) hw hkA rfl (by decide), fun x hx => by
    rw [List.mem_singleton.1 hx]
    exact ⟨by simp only; omega, by simp only; omega⟩⟩
  have hrl : (rgH n i).length = 2 := by unfold rgH; split <;> rfl
  have hH : IntsM w w5 w.heap.size q d (rgH n i) := .inr ⟨by rw [hrl]; exact own_low hq (by simp; omega), h64⟩
  have key := rg_add (a := rgA n i) (ap := some ⟨wr.heap.size, 0, none⟩) (ac := 1) (hp := q) (hc := d) (gg := gg) (cap := cap) (o := o) h hbw ⟨by simp only [rgA]; omega, by simp only [rgA]; omega⟩ hA hH (fun g e => by cases e; exact ⟨Nat.le_refl _, (Array.getElem?_eq_some_iff.1 hkA).1⟩) (fun g e => ?_) (by rw [rgL_len]; show w9.ownsRow _ _ _ _ _ (cs ++ [.int .i64 (i : Int), .bool false, .slice (some ⟨wr.heap.size, 0, none⟩) 1 1, .slice q (rgH n i).length d]); rw [hrl]; exact ho) hg
  · rw [rgL_len, ← rgL_succ] at key
    have e : (rgA n i).held.length = 2 := hrl
    rw [e] at key
    exact key
  · have e' : (Value.slice q 2 d).ownBlock = some g := by
      have : (rgA n i).held.length = 2 := hrl
      rw [this] at e; exact e
    have h1 := own_base hq g e'
    obtain ⟨us, h2⟩ := own_blk_lt hq e'
    simp only [alloc_sz] at h1
    exact ⟨by omega, (Array.getElem?_eq_some_iff.1 h2).1⟩
theorem rg_tmod {n i : Nat} : ((i : Int) + 1).tmod (n : Int) = (((i + 1) % n : Nat) : Int) := by
  rw [show ((i : Int) + 1) = ((i + 1 : Nat) : Int) by omega]
  rfl
theorem rgH_64 {n i : Nat} (h : 2 ≤ n) (h2 : n ≤ 21) (hi : i < n) : ∀ x ∈ rgH n i, I64 x := fun x hx => by
  have h3 := rgX_64 (i := i) h h2
  have : x = 3 + (i : Int) ∨ x = rgX n i := by
    unfold rgH at hx
    split at hx
    · simpa using hx
    · rcases (by simpa using hx : x = rgX n i ∨ x = 3 + (i : Int)) with e | e
      · exact .inr e
      · exact .inl e
  rcases this with rfl | rfl
  · exact ⟨by omega, by omega⟩
  · exact h3
theorem rg_call {n i : Nat} (h : 2 ≤ n) (h2 : n ≤ 21) (hi : i < n) {W : World} {b : Nat} (hr : IntsR W (some ⟨b, 0, none⟩) 1 [3 + (i : Int)]) : Calls Try.prog 22 #[.slice (some ⟨b, 0, none⟩) 1 1, .int .i64 (rgX n i)] W fun e w' => ∃ q d, e = .returned (.slice q 2 d) ∧ w'.ownsRow W.heap.size 3 1 (.slice q 2 d) 2 (rowC (rgH n i)) ∧ Below W.heap.size W w' := by
  have hne := rgX_ne h hi
  refine (put_any W (some ⟨b, 0, none⟩) 1 [3 + (i : Int)] (rgX n i) hr (by simp) (rgX_64 h h2) (by unfold hasL; simp; omega)).mono ?_
  rintro e w' ⟨k, q, d, hk, h3, h4, rfl, ho, hb⟩
  rw [rg_put (by simpa using hk) h3 h4] at ho
  exact ⟨q, d, rfl, ho, hb⟩
set_option maxRecDepth 100000 in
set_option maxHeartbeats 1500000 in
theorem ord_yes (w : World) (p : Option Addr) (c : Nat) (s : List Ag) (hs : AgsR w p c s) (hz : Lists s) (hsl : s.length ≤ 1152921504606846976) (many : Int) (hmn : I64 many) (ht : totA s ≤ 2147483647) :
    Calls Try.prog 7 #[.slice p s.length c, .int .i64 many] w fun e w' => e = .returned (.bool true) ∧ Below w.heap.size w w' := by
  obtain ⟨i0, hi, iz0, iz1, iz2⟩ := info_parts infoG
  obtain ⟨j0, hj, jz0, jz1, jz2⟩ := info_parts infoI
  have hlc := hs.len
  have hcm := hs.max
  unfold maxLen at hcm
  have hln := len_tot s
  have HH : Bx _ := ⟨heavy_no hs hz hsl ht⟩
  have HS : Bx (AgsR w p c s ∧ totA s ≤ 2147483647) := ⟨hs, ht⟩
  clear hs hz
  go_enter Try.func7, Try.ntmps7
  go_wp2_with (first
    | (go_at_call 8; refine Calls.mono HH.out ?_; rintro e w1 ⟨rfl, hb1⟩; have B1 : Bx (Below w.heap.size w w1) := ⟨hb1⟩; clear hb1)
    | (go_at_call 9; refine Calls.mono (shown15_any _) ?_; rintro e w2 ⟨rfl, hb2⟩; have B2 : Bx (Below w.heap.size w w2) := ⟨blw B1.out hb2⟩; clear hb2)
    | (go_at_call 10; clear HH; refine Calls.mono (Dead_gen w2 p c s (HS.out.1.later B2.out) HS.out.2) ?_; rintro e w3 ⟨D, dq, dd, hDI, rfl, hI, hb3⟩; have I3 : Bx (IntsR w3 dq dd D ∧ Below w.heap.size w w3 ∧ DeadIs s D) := ⟨hI, blw B2.out hb3, hDI⟩; have hDc := hI.len; have hDm := hI.max; unfold maxLen at hDm; clear hI hb3 hDI)
    | (at_builtin; refine wpList_copy w3 _ rfl (.tmp 26) rfl p c s (HS.out.1.later I3.out.2.1) (Below.refl _ _) (by omega) rfl ?_; intro tp tc w4 hT4 hb4; have I4 : Bx (TuI w3 w4 tp tc ((s.take 0).map turnA ++ s.drop 0)) := ⟨by simpa using hT4⟩; have htc := hT4.cap; unfold maxLen at htc; obtain ⟨htc1, htc2⟩ := htc; clear hT4 hb4))
  obtain ⟨ck, hck⟩ : ∃ ck, chkI s = ck := ⟨_, rfl⟩
  have HCK : Bx (chkI s = ck) := ⟨hck⟩
  rw [hck]
  clear hck
  go_loopg [30] (s.length + 1) (fun g v30 wr => ∃ i : Nat, g = s.length + 1 - i ∧ i ≤ s.length ∧ v30 = .int .i64 (i : Nat) ∧ Bx (TuI w3 wr tp tc ((s.take i).map turnA ++ s.drop i)))
  case atStart => exact ⟨0, by simp, by omega, rfl, I4⟩
  case round =>
    obtain ⟨i, hg, hil, rfl, HR⟩ := hrel
    by_cases hlt : i < s.length
    · obtain ⟨tg, rfl⟩ := HR.out.ptr (by rw [List.length_append, List.length_map, List.length_take, List.length_drop]; omega)
      obtain ⟨b, o, ap, ac, hp, hc, rfl, hA, hcl⟩ := (HS.out.1.later I3.out.2.1).at_ i hlt
      have hbr := HR.out.read.2
      obtain ⟨c0, c1, c2, c3⟩ := hcl wr hbr
      have harm := (arm_tot s i hlt).1
      have HTU : Bx (Calls Try.prog 23 #[.slice ap s[i].arms.length ac] wr fun e w' => ∃ q d, e = .returned (.slice q s[i].arms.length d) ∧ w'.ownsRow wr.heap.size 53 2 (.slice q s[i].arms.length d) s[i].arms.length (hdsC s[i].arms.reverse) ∧ Below wr.heap.size wr w') := ⟨turned_any wr ap ac s[i].arms (hA.arms.later hbr) (by have := HS.out.2; omega)⟩
      have HNX : Bx (∀ w5 q d, Below wr.heap.size wr w5 → w5.ownsRow wr.heap.size 53 2 (.slice q s[i].arms.length d) s[i].arms.length (hdsC s[i].arms.reverse) → ((∃ v, w5.cell? ⟨tg, i * 4 + 2, none⟩ = some v) ∧ w5.frozen? ⟨tg, i * 4 + 2, none⟩ = false) ∧ TuI w3 (w5.setCell ⟨tg, i * 4 + 2, none⟩ (.slice q s[i].arms.length d)) (some ⟨tg, 0, none⟩) tc ((s.take (i + 1)).map turnA ++ s.drop (i + 1))) := ⟨fun w5 q d hb ho => by
        obtain ⟨h', _⟩ := turn_at s i hlt
        obtain ⟨_, s2, _, s4⟩ := (HR.out.later hb).spot h'
        exact ⟨⟨s2, s4 _⟩, HR.out.turn hlt hb ho (rd_hds hA.arms)⟩⟩
      clear hcl hA hbr HR harm
      generalize s[i].arms.length = al at *
      go_wp2_with (first
        | (go_at_call 23; refine Calls.mono HTU.out ?_; rintro e w5 ⟨q, d, rfl, hq, hb5⟩; obtain ⟨⟨⟨cv, d0⟩, d1⟩, hN⟩ := HNX.out w5 q d hb5 hq; have HN : Bx _ := ⟨hN⟩; clear hN hq hb5))
      go_roundg (s.length + 1 - (i + 1))
      case measure => omega
      case rel => exact ⟨i + 1, rfl, by omega, by simp, HN⟩
    · have hie : i = s.length := by omega
      subst hie
      rw [List.take_length, List.drop_length, List.append_nil] at HR
      obtain ⟨hT, hbT⟩ := HR.out.read
      have HTT : Bx (AgsR wr tp tc (s.map turnA) ∧ Below w3.heap.size w3 wr) := ⟨hT, hbT⟩
      have HDT : Bx (Calls Try.prog 10 #[.slice tp s.length tc] wr fun e w' => ∃ D' q d, DeadIs (s.map turnA) D' ∧ e = .returned (.tuple #[.slice q D'.length d, .int .i64 (chkI (s.map turnA))]) ∧ IntsR w' q d D' ∧ Below wr.heap.size wr w') := ⟨by
        have := Dead_gen wr tp tc (s.map turnA) hT (by rw [turn_tot]; exact HS.out.2)
        rw [List.length_map] at this
        exact this⟩
      have HAM : Bx (∀ W : World, Calls Try.prog 18 #[.int .i64 many, .int .i64 20] W fun e w' => (∃ j : Nat, j < 20 ∧ e = .returned (.int .i64 (j : Int))) ∧ w' = W) := ⟨fun W => among_any W many 20 hmn (by omega) (by omega)⟩
      clear hT hbT HR I4
      go_wp2_with (first
        | (go_at_call 10; refine Calls.mono HDT.out ?_; rintro e w6 ⟨D6, q6, d6, hD6, rfl, hI6, hb6⟩; obtain rfl := dead_is_turn I3.out.2.2 hD6; rw [turn_chk, HCK.out]; have I6 : Bx (IntsR w6 q6 d6 D6 ∧ IntsR w6 dq dd D6 ∧ Below w3.heap.size w3 w6) := ⟨hI6, I3.out.1.later (blw HTT.out.2 hb6), blw HTT.out.2 hb6⟩; clear hI6 hb6 hD6 HDT)
        | (go_at_call 19; refine Calls.mono (numbers_yes w6 dq q6 dd d6 D6 I6.out.2.1 I6.out.1) ?_; rintro e w7 ⟨rfl, k7, hk7⟩; have B7 : Bx (Below w.heap.size w w7) := ⟨blw I3.out.2.1 (blw I6.out.2.2 (by rw [hk7]; exact below_drewN (Below.refl _ _) _))⟩; clear hk7)
        | (go_at_call 18; refine Calls.mono (HAM.out _) ?_; rintro e w8 ⟨⟨jj, hjj, rfl⟩, rfl⟩))
      have hn2 : (2 + (jj : Int)) = ((2 + jj : Nat) : Int) := by omega
      rw [hn2]
      obtain ⟨hrok, hrtot⟩ := ring_ok jj hjj
      have HRO : Bx (stOk (rgL (2 + jj) (2 + jj)) = true ∧ totA (rgL (2 + jj) (2 + jj)) ≤ 2147483647) := ⟨hrok, hrtot⟩
      have hn1 : 2 ≤ 2 + jj := by omega
      have hn3 : 2 + jj ≤ 21 := by omega
      clear hn2 hrok hrtot
      generalize 2 + jj = n at *
      obtain ⟨w9, hw9⟩ : ∃ X, X = w8 := ⟨_, rfl⟩
      rw [← hw9] at B7 ⊢
      clear hw9
      go_loopg [12, 13, 62] (n + 1) (fun g v12 v13 v62 wr => ∃ (i : Nat) (cs : List Value), g = n + 1 - i ∧ i ≤ n ∧ v62 = .int .i64 (i : Nat) ∧ Bx (RgW w9 wr v12 v13 (rgL n i) (rgN i) cs))
      case atStart => exact ⟨0, [], by simp, by omega, rfl, ⟨⟨rfl, .inl ⟨rfl, rfl⟩⟩, AgX.nil _ _ _, ⟨rfl, .inl ⟨rfl, rfl⟩⟩, (fun u hu => by cases hu), Below.refl _ _⟩⟩
      case round =>
        obtain ⟨i, cs, hgi, hin, rfl, HR⟩ := hrel
        by_cases hlt : i < n
        · have g1 : ((i : Int) + 1).tmod (n : Int) = (((i + 1) % n : Nat) : Int) := rg_tmod
          have hmod := Nat.mod_lt (i + 1) (show n > 0 by omega)
          have hsz : w9.heap.size ≤ wr.heap.size := HR.out.2.2.2.2.size
          have HX : Bx (rgX n i = 3 + (((i + 1) % n : Nat) : Int)) := ⟨rfl⟩
          have HPU : Bx (Calls Try.prog 22 #[.slice (some ⟨wr.heap.size + 1, 0, none⟩) 1 1, .int .i64 (3 + (((i + 1) % n : Nat) : Int))] ((wr.alloc (.cells #[.int .i64 (3 + (i : Int)), .bool false] 53)).alloc (.cells #[.int .i64 (3 + (i : Int))] 3)) fun e w' => ∃ q d, e = .returned (.slice q 2 d) ∧ w'.ownsRow ((wr.alloc (.cells #[.int .i64 (3 + (i : Int)), .bool false] 53)).alloc (.cells #[.int .i64 (3 + (i : Int))] 3)).heap.size 3 1 (.slice q 2 d) 2 (rowC (rgH n i)) ∧ Below ((wr.alloc (.cells #[.int .i64 (3 + (i : Int)), .bool false] 53)).alloc (.cells #[.int .i64 (3 + (i : Int))] 3)).heap.size ((wr.alloc (.cells #[.int .i64 (3 + (i : Int)), .bool false] 53)).alloc (.cells #[.int .i64 (3 + (i : Int))] 3)) w') := ⟨by
            have hr := one_int (wr.alloc (.cells #[.int .i64 (3 + (i : Int)), .bool false] 53)) (3 + (i : Int)) ⟨by omega, by omega⟩
            rw [alloc_sz] at hr
            exact rg_call hn1 hn3 hlt hr⟩
          generalize hm : (i + 1) % n = m at *
          clear hm HX
          have HRO2 : Bx (wr.ownsRow w9.heap.size 32 4 u12 i cs ∧ wr.ownsRow w9.heap.size 3 1 u13 i (rowC (rgN i))) := ⟨by have := HR.out.1; rw [rgL_len] at this; exact this, by have := HR.out.2.2.1; rw [rgN_len] at this; exact this⟩
          go_wp2_with (first
            | (go_at_call 22; refine Calls.mono HPU.out ?_; rintro e w5 ⟨q, d, rfl, hq, hb5⟩; have I5 : Bx _ := ⟨hq⟩; have B5 : Bx _ := ⟨hb5⟩; have BW5 : Bx (Below wr.heap.size wr w5) := ⟨blw (two_new _ _ _) hb5⟩; have hs5 := BW5.out.size; clear hq hb5 HPU)
            | (at_builtin; refine wpList_app _ rfl (.tmp 70) (.tmp 82) 22 rfl w9.heap.size 32 i0 (.agg #[.int .i64 0, .bool false, .slice none 0 0, .slice none 0 0]) 4 64 Try.underlying22 hi iz0 iz1 iz2 rfl (by decide) u12 i cs rfl (own_new (own_new HRO2.out.1 BW5.out) (below1 _ _)) ⟨w5.heap.size, 0, none⟩ 1 1 [.int .i64 (i : Int), .bool false, .slice (some ⟨wr.heap.size, 0, none⟩) 1 1, .slice q 2 d] rfl rfl (block_cells _ _ _ 32 (World.alloc_heap_new _ _)) (by simp [Value.oneCell']) (by decide) (by unfold maxLen; omega) (by omega) (by simp; omega) (w5.heap.size + 1) (by simp) ?_; intro gg gcap w6 hown6 hgrow6 hgi6 hgl6; have I6 : Bx (RgW w9 w6 (.slice (some ⟨gg, 0, none⟩) (i + 1) gcap) u13 (rgL n (i + 1)) (rgN i) (cs ++ [.int .i64 (i : Int), .bool false, .slice (some ⟨wr.heap.size, 0, none⟩) 1 1, .slice q 2 d])) := ⟨rg_step HR.out (by omega) B5.out I5.out (rgH_64 hn1 hn3 hlt) hown6 hgrow6⟩; have hs6 := I6.out.2.2.2.2.size; clear hown6 hgrow6 hgi6 I5 B5)
            | (at_builtin; refine wpList_app _ rfl (.tmp 84) (.tmp 86) 25 rfl w9.heap.size 3 j0 (.int .i64 0) 1 8 Try.underlying25 hj jz0 jz1 jz2 rfl (by decide) u13 i (rowC (rgN i)) rfl (own_new (by have := I6.out.2.2.1; rw [rgN_len] at this; exact this) (below1 _ _)) ⟨w6.heap.size, 0, none⟩ 1 1 [.int .i64 (i : Int)] rfl rfl (block_cells _ _ _ 3 (World.alloc_heap_new _ _)) (by simp [Value.oneCell']) (by decide) (by unfold maxLen; omega) (by omega) (by simp; omega) (w6.heap.size + 1) (by simp) ?_; intro g9 cap9 wA hownA hgrowA hgiA hglA; have IA : Bx (RgW w9 wA (.slice (some ⟨gg, 0, none⟩) (i + 1) gcap) (.slice (some ⟨g9, 0, none⟩) (i + 1) cap9) (rgL n (i + 1)) (rgN (i + 1)) (cs ++ [.int .i64 (i : Int), .bool false, .slice (some ⟨wr.heap.size, 0, none⟩) 1 1, .slice q 2 d])) := ⟨by have h := rg_num (ns := rgN i) (x := (i : Int)) (g9 := g9) (cap9 := cap9) I6.out (by rw [rgN_len]; exact hownA) hgrowA hgiA; rw [rgN_len, ← rgN_succ] at h; exact h⟩; clear hownA hgrowA hgiA))
          go_roundg (n + 1 - (i + 1))
          case measure => omega
          case rel => exact ⟨i + 1, _, rfl, by omega, by simp, IA⟩
        · have hie : i = n := by omega
          subst hie
          obtain ⟨r1, r2, r3, r4, r5⟩ := HR.out
          have HRD : Bx (∃ rp rc, u12 = .slice rp i rc ∧ AgsR wr rp rc (rgL i i)) := ⟨by
            obtain ⟨rp, rc, e, h⟩ := AgX.read r1 r2 r5
            rw [rgL_len] at e
            exact ⟨rp, rc, e, h⟩⟩
          have HND : Bx (∃ sp sc, u13 = .slice sp i sc ∧ IntsR wr sp sc (rgN i)) := ⟨by
            have h64 : ∀ x ∈ rgN i, I64 x := fun x hx => by
              obtain ⟨j, hj, rfl⟩ := List.mem_map.1 hx
              have := List.mem_range.1 hj
              exact ⟨by omega, by omega⟩
            obtain ⟨sp, sc, e, h⟩ := ids_read r3 h64
            rw [rgN_len] at e
            exact ⟨sp, sc, e, h⟩⟩
          have BR : Bx (Below w.heap.size w wr) := ⟨blw B7.out r5⟩
          obtain ⟨rp, rc, hu, hrd⟩ := HRD.out
          obtain ⟨sp, sc, hu2, hnd⟩ := HND.out
          subst hu hu2
          have hrl := hrd.len
          have hrm := hrd.max
          have hnl := hnd.len
          have hnm := hnd.max
          rw [rgL_len] at hrl
          rw [rgN_len] at hnl
          unfold maxLen at hrm hnm
          have HDR : Bx (Calls Try.prog 10 #[.slice rp i rc] wr fun e w' => ∃ q d, e = .returned (.tuple #[.slice q i d, .int .i64 0]) ∧ IntsR w' q d (rgN i) ∧ Below wr.heap.size wr w') := ⟨by
            have h := Dead_yes wr rp rc (rgL i i) hrd HRO.out.2 HRO.out.1
            rw [rgL_len] at h
            refine h.mono ?_
            rintro e w' ⟨Y, q, d, hY, rfl, hI, hb⟩
            rw [ring_dead hY] at hI ⊢
            rw [rgN_len]
            exact ⟨q, d, rfl, hI, hb⟩⟩
          have HNN : Bx (IntsR wr sp sc (rgN i)) := ⟨hnd⟩
          have HNY : Bx (∀ W q d, IntsR W q d (rgN i) → IntsR W sp sc (rgN i) → Calls Try.prog 19 #[.slice q i d, .slice sp i sc] W fun e w' => e = .returned (.bool true) ∧ ∃ k, w' = W.drewN k) := ⟨fun W q d h1 h2 => by
            have := numbers_yes W q sp d sc (rgN i) h1 h2
            rw [rgN_len] at this
            exact this⟩
          clear r1 r2 r3 r4 r5 hrd hnd HRD HND HR
          go_wp2_with (first
            | (go_at_call 10; refine Calls.mono HDR.out ?_; rintro e wB ⟨qB, dB, rfl, hIB, hbB⟩; have IB : Bx (IntsR wB qB dB (rgN i) ∧ Below wr.heap.size wr wB) := ⟨hIB, hbB⟩; clear hIB hbB)
            | (go_at_call 19; refine Calls.mono (HNY.out wB qB dB IB.out.1 (HNN.out.later IB.out.2)) ?_; rintro e wC ⟨rfl, kC, hkC⟩; have BC : Bx (Below w.heap.size w wC) := ⟨blw BR.out (blw IB.out.2 (by rw [hkC]; exact below_drewN (Below.refl _ _) _))⟩; clear hkC))
          go_ret
          exact ⟨rfl, BC.out⟩
end Go.Proofs.Ytjfabholalnbeab
namespace Go.Proofs.Ytjfabholalnbeab
open Go.RowKit
set_option linter.unusedVariables false
set_option linter.unusedSimpArgs false

/-! ### one that has more, in plain words -/
theorem ags_set {a : Ag} (ha : agOk a = true) : ∀ (s : List Ag) (i : Nat) (k : Int) (h : i < s.length), a.id = s[i].id → agsF k s = true → agsF k (s.set i a) = true
  | b :: r, 0, k, h, e, hs => by
    rw [agsF, Bool.and_eq_true, Bool.and_eq_true] at hs
    simp only [List.getElem_cons_zero] at e
    rw [List.set_cons_zero, agsF, e, Bool.and_eq_true, Bool.and_eq_true]
    exact ⟨⟨hs.1.1, ha⟩, hs.2⟩
  | b :: r, i + 1, k, h, e, hs => by
    rw [agsF, Bool.and_eq_true, Bool.and_eq_true] at hs
    rw [List.set_cons_succ, agsF, Bool.and_eq_true, Bool.and_eq_true]
    exact ⟨hs.1, ags_set ha r i b.id (by simpa using h) (by simpa using e) hs.2⟩
theorem set_ok {s : List Ag} (hok : stOk s = true) {i : Nat} (h : i < s.length) {a : Ag} (ha : agOk a = true) (e : a.id = s[i].id) : stOk (s.set i a) = true := by
  unfold stOk at hok ⊢
  rw [Bool.and_eq_true] at hok ⊢
  exact ⟨by rw [List.length_set]; exact hok.1, ags_set ha s i _ h e hok.2⟩
theorem set_less {s : List Ag} {i : Nat} (h : i < s.length) {a : Ag} (e : a.id = s[i].id) (h1 : ∀ c ∈ s[i].held, c ∈ a.held) (h2 : (∀ x ∈ s[i].arms, x ∈ a.arms) ∨ a.awake = true) (h3 : s[i].awake = true → a.awake = true) : NoLess s (s.set i a) := fun b hb => by
  obtain ⟨j, hj, rfl⟩ := List.mem_iff_getElem.1 hb
  by_cases hij : i = j
  · subst hij
    exact ⟨a, List.mem_iff_getElem.2 ⟨i, by rw [List.length_set]; exact h, List.getElem_set_self _⟩, e, h1, h2, h3⟩
  · exact ⟨s[j], List.mem_iff_getElem.2 ⟨j, by rw [List.length_set]; exact hj, List.getElem_set_ne hij _⟩, rfl, fun c h => h, .inl (fun x h => h), fun h => h⟩
theorem set_ids {s : List Ag} {i : Nat} (h : i < s.length) {a : Ag} (e : a.id = s[i].id) : idsK (s.set i a) = idsK s := by
  unfold idsK
  rw [List.map_set, e]
  refine List.ext_getElem (by simp) fun j h1 h2 => ?_
  by_cases hij : i = j
  · subst hij; simp
  · rw [List.getElem_set_ne hij]
theorem set_tot : ∀ (s : List Ag) (i : Nat) (h : i < s.length) (a : Ag), totA (s.set i a) ≤ totA s + a.arms.length + a.held.length
  | b :: r, 0, h, a => by rw [List.set_cons_zero, totA, totA]; omega
  | b :: r, i + 1, h, a => by
    have := set_tot r i (by simpa using h) a
    rw [List.set_cons_succ, totA, totA]; omega
theorem snoc_tot (s : List Ag) (a : Ag) : totA (s ++ [a]) = totA s + (a.arms.length + a.held.length + 1) := by
  rw [totA_app]; simp [totA]
theorem snoc_ok {s : List Ag} (hok : stOk s = true) (h0 : 0 < s.length) (h1 : s.length < 4096) {a : Ag} (ha : agOk a = true) (hid : (s[s.length - 1]'(by omega)).id < a.id) : stOk (s ++ [a]) = true := by
  have key : ∀ (s : List Ag) (k : Int) (h0 : 0 < s.length), (s[s.length - 1]'(by omega)).id < a.id → agsF k s = true → agsF k (s ++ [a]) = true := by
    intro s
    induction s with
    | nil => intro k h0; cases h0
    | cons b r ih =>
      intro k h0 hlt hs
      rw [agsF, Bool.and_eq_true, Bool.and_eq_true] at hs
      rw [List.cons_append, agsF, Bool.and_eq_true, Bool.and_eq_true]
      refine ⟨hs.1, ?_⟩
      cases r with
      | nil =>
        simp only [List.length_cons, List.length_nil, List.getElem_cons_zero] at hlt
        rw [List.nil_append, agsF, agsF, ha]
        simp
        exact hlt
      | cons b2 r2 =>
        refine ih b.id (by simp) ?_ hs.2
        have e : ((b :: b2 :: r2)[(b :: b2 :: r2).length - 1]'(by simp)) = ((b2 :: r2)[(b2 :: r2).length - 1]'(by simp)) := by simp
        rw [e] at hlt
        exact hlt
  unfold stOk at hok ⊢
  rw [Bool.and_eq_true] at hok ⊢
  exact ⟨by rw [List.length_append]; simp; omega, key s _ h0 hid hok.2⟩
theorem snoc_less (s : List Ag) (a : Ag) : NoLess s (s ++ [a]) := fun b hb => ⟨b, List.mem_append_left _ hb, rfl, fun c h => h, .inl (fun x h => h), fun h => h⟩
theorem ris_of : ∀ (l : List Int) (k : Int), l.Pairwise (· < ·) → (∀ x ∈ l, k < x) → risF k l = true
  | [], _, _, _ => rfl
  | v :: r, k, hp, hk => by
    rw [List.pairwise_cons] at hp
    rw [risF, Bool.and_eq_true, decide_eq_true_eq]
    exact ⟨hk v List.mem_cons_self, ris_of r v hp.2 hp.1⟩
/-- a rising list with a number more -/
theorem put_ris {l : List Int} {n : Int} {k : Nat} (hr : risI l = true) (hn : 1 ≤ n) (hh : hasL l n = false) (hk : k ≤ l.length) (h1 : ∀ x ∈ l.take k, x < n) (h2 : ∀ h : k < l.length, n ≤ l[k]) : risI (l.take k ++ n :: l.drop k) = true ∧ (∀ x ∈ l, x ∈ l.take k ++ n :: l.drop k) ∧ (l.take k ++ n :: l.drop k).length = l.length + 1 := by
  have hp := ris_lt l 0 hr
  have hpos := ris_above l 0 hr
  have hnm : n ∉ l := fun h => by rw [hasL_iff.2 h] at hh; cases hh
  have hd : ∀ x ∈ l.drop k, n < x := fun x hx => by
    by_cases hlt : k < l.length
    · have hnk : n < l[k] := by
        have := h2 hlt
        have : l[k] ≠ n := fun e => hnm (by rw [← e]; exact List.getElem_mem hlt)
        omega
      rw [List.drop_eq_getElem_cons hlt] at hx
      rcases List.mem_cons.1 hx with rfl | hx
      · exact hnk
      · have hpd : (l.drop k).Pairwise (· < ·) := hp.sublist (List.drop_sublist k l)
        rw [List.drop_eq_getElem_cons hlt, List.pairwise_cons] at hpd
        have := hpd.1 x hx
        omega
    · rw [List.drop_of_length_le (by omega)] at hx; cases hx
  refine ⟨ris_of _ _ ?_ ?_, fun x hx => ?_, ?_⟩
  · rw [List.pairwise_append]
    refine ⟨hp.sublist (List.take_sublist k l), List.pairwise_cons.2 ⟨hd, hp.sublist (List.drop_sublist k l)⟩, fun x hx y hy => ?_⟩
    have := h1 x hx
    rcases List.mem_cons.1 hy with rfl | hy
    · exact this
    · have := hd y hy; omega
  · intro x hx
    rcases List.mem_append.1 hx with hx | hx
    · exact hpos x (List.mem_of_mem_take hx)
    · rcases List.mem_cons.1 hx with rfl | hx
      · omega
      · exact hpos x (List.mem_of_mem_drop hx)
  · rw [← List.take_append_drop k l] at hx
    rcases List.mem_append.1 hx with hx | hx
    · exact List.mem_append_left _ hx
    · exact List.mem_append_right _ (List.mem_cons_of_mem _ hx)
  · rw [List.length_append, List.length_take, List.length_cons, List.length_drop]; omega
theorem dd_ids {s : List Ag} {Y : Int → Option Wy} {id : Int} (h : id ∈ ddL Y s) : id ∈ idsK s := by
  obtain ⟨a, ha, rfl⟩ := List.mem_map.1 h
  exact List.mem_map.2 ⟨a, (List.mem_filter.1 ha).1, rfl⟩
/-- NOBODY ELSE IS DEAD BY THAT -/
theorem more_in {s t : List Ag} {Y Z : Int → Option Wy} (hs : stOk s = true) (ht : stOk t = true) (hY : Full s Y) (hZ : Full t Z) (h : NoLess s t) (hi : idsK t = idsK s) : ∀ id ∈ ddL Z t, hasL (ddL Y s) id = true := fun id hid => by
  rcases dead_more hs ht hY hZ h hid with h | h
  · exact hasL_iff.2 h
  · exact absurd (by rw [← hi]; exact dd_ids hid) h
theorem more_one {s : List Ag} {a : Ag} {Y Z : Int → Option Wy} (hs : stOk s = true) (ht : stOk (s ++ [a]) = true) (hY : Full s Y) (hZ : Full (s ++ [a]) Z) : ∀ id ∈ ddL Z (s ++ [a]), hasL (ddL Y s) id = true ∨ id = a.id := fun id hid => by
  rcases dead_more hs ht hY hZ (snoc_less s a) hid with h | h
  · exact .inl (hasL_iff.2 h)
  · have := dd_ids hid
    unfold idsK at this h
    rw [List.map_append, List.mem_append] at this
    rcases this with g | g
    · exact absurd g h
    · exact .inr (by simpa using g)
/-- .. that is awake instead -/
theorem wake_ok {a : Ag} (h : agOk a = true) : agOk ⟨a.id, true, [], a.held⟩ = true := by
  unfold agOk at h ⊢
  rw [Bool.and_eq_true, Bool.and_eq_true] at h
  simp [h.1.2]
/-- .. that holds one channel more -/
theorem hold_ok {a : Ag} (h : agOk a = true) {l : List Int} (hr : risI l = true) (hm : ∀ x ∈ a.held, x ∈ l) : agOk ⟨a.id, a.awake, a.arms, l⟩ = true := by
  unfold agOk at h ⊢
  rw [Bool.and_eq_true, Bool.and_eq_true] at h
  rw [Bool.and_eq_true, Bool.and_eq_true]
  refine ⟨⟨h.1.1, hr⟩, ?_⟩
  rw [List.all_eq_true] at *
  intro x hx
  have h1 := h.2
  have := h1 x hx
  unfold armOk at this ⊢
  rw [Bool.or_eq_true] at this ⊢
  rcases this with g | g
  · exact .inl g
  · refine .inr ?_
    have g' : x.chan ∈ a.held := by simpa using g
    have := hm _ g'
    simpa using this
theorem new_ok {id : Int} {b : Bool} {l : List Int} (hr : risI l = true) : agOk ⟨id, b, [], l⟩ = true := by
  unfold agOk
  simp [hr]
end Go.Proofs.Ytjfabholalnbeab
