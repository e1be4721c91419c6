import Derived.Test.YtpnbjkegpbpcjaaDoorCUBa
namespace Go.Proofs.YtpnbjkegpbpcjaaDoor
open Go.RowKit
set_option linter.unusedVariables false
set_option linter.unusedSimpArgs false

theorem limL_code {l : List UInt8} {c : Int} (h : limL l = .no c) : c ≠ 0 := by
  unfold limL at h
  split at h
  · split at h
    · injection h with h; subst h; decide
    · cases h
  · injection h with h; subst h; decide
theorem reapL_code {l : List UInt8} {c : Int} (h : reapL l = .no c) : c ≠ 0 := by
  unfold reapL at h
  split at h
  · split at h
    · injection h with h; subst h; decide
    · cases h
  · injection h with h; subst h; decide
theorem pickL_code {n : Nat} {l : List UInt8} {c : Int} (h : pickL n l = .no c) : c ≠ 0 := by
  unfold pickL at h
  split at h
  · injection h with h; subst h; decide
  · split at h
    · injection h with h; subst h; decide
    · split at h
      · injection h with h; subst h; decide
      · cases h
theorem readP_code : ∀ (ls : List (List UInt8)) (l : List UInt8) (ps : List Pk) (k : Nat) (e : Nat × Int), readP l ls ps k = .no e → e.2 ≠ 0
  | [], l, ps, k, e, h => by
    rw [readP] at h
    split at h
    · cases h
    · injection h with h; subst h; exact (by decide : (170 : Int) ≠ 0)
  | m :: r, l, ps, k, e, h => by
    rw [readP] at h
    split at h
    · rename_i hc
      injection h with h
      subst h
      exact pickL_code hc
    · exact readP_code r m _ _ e h
theorem no_code {t : List UInt8} {e : Nat × Int} (h : readS t = .no e) : e.2 ≠ 0 := by
  unfold readS at h
  split at h
  · split at h
    · rename_i hc
      injection h with h; subst h; exact limL_code hc
    · unfold rdR at h
      split at h
      · split at h
        · rename_i hc
          injection h with h; subst h; exact reapL_code hc
        · unfold rdP at h
          split at h
          · rename_i e' he
            injection h with h
            subst h
            exact readP_code _ _ _ _ _ he
          · cases h
      · injection h with h; subst h; decide
  · injection h with h; subst h; decide
set_option maxRecDepth 100000 in
set_option maxHeartbeats 8000000 in
theorem back_An (w : World) (hL : LW w) (s : Sc) (hs : s.Wf) (pa : Option Addr) (pc : Nat) (hp : PkV w w.heap.size pa s.picks) (text : List UInt8) (hlen : text.length ≤ 281474976710656) (hA : fitS s = true) (kx : Nat) (cx : Int) (hx : readS text = .no (kx, cx)) :
    Calls Tryd.prog 5 #[scV s.lim s.reap (.slice pa s.picks.length pc), strV text] w fun e w' => e = .returned (.bool true) ∧ Bx (Below w.heap.size w w') := by
  obtain ⟨w0, hw0⟩ : ∃ w0, w0 = w.alloc (.cells #[.int .i64 s.lim.a, .int .i64 s.lim.b, .int .i64 s.lim.c, .int .i64 s.lim.d, .int .i64 s.lim.e, .int .i64 s.lim.f, .int .i64 s.lim.g, .bool s.reap, .slice pa s.picks.length pc] 31) := ⟨_, rfl⟩
  have hb0 : Below w.heap.size w w0 := by rw [hw0]; exact below1 w _
  have hs0 : w0.heap.size = w.heap.size + 1 := by rw [hw0]; simp
  have hsb : w0.heap[w.heap.size]? = some (.cells #[.int .i64 s.lim.a, .int .i64 s.lim.b, .int .i64 s.lim.c, .int .i64 s.lim.d, .int .i64 s.lim.e, .int .i64 s.lim.f, .int .i64 s.lim.g, .bool s.reap, .slice pa s.picks.length pc] 31 (0, 0)) := by rw [hw0]; exact heap_newH _ _ _ rfl
  have HW : Bx (∀ W, Below w0.heap.size w0 W → LW W ∧ PkV W W.heap.size pa s.picks ∧ Below w.heap.size w W ∧ W.heap[w.heap.size]? = some (.cells #[.int .i64 s.lim.a, .int .i64 s.lim.b, .int .i64 s.lim.c, .int .i64 s.lim.d, .int .i64 s.lim.e, .int .i64 s.lim.f, .int .i64 s.lim.g, .bool s.reap, .slice pa s.picks.length pc] 31 (0, 0))) := ⟨fun W h => by
    have hbw := hb0.trans (h.mono hb0.size)
    exact ⟨hL.below hbw, (hp.below hbw).up hbw.size, hbw, below_heap h hsb⟩⟩
  have HSN : Bx _ := ⟨shown_any w0 (hL.below hb0)⟩
  have HPR : Bx (∀ W, Below w0.heap.size w0 W → Calls Tryd.prog 13 #[scV s.lim s.reap (.slice pa s.picks.length pc)] W fun e w' => e = .returned (.tuple #[strV (textS s), .int .i64 0]) ∧ Bx (Below w0.heap.size w0 w')) := ⟨fun W h => by
    have := Print_any W (HW.out W h).1 s hs pa pc (HW.out W h).2.1
    rw [writeS_fit hA] at this
    refine this.mono ?_
    rintro e w' ⟨rfl, H⟩
    exact ⟨rfl, ⟨h.trans (H.out.mono h.size)⟩⟩⟩
  have HPB : Bx (∀ W, Below w0.heap.size w0 W → Calls Tryd.prog 8 #[strV (textS s)] W fun e w' => ∃ qa qc, e = .returned (.tuple #[scV s.lim s.reap (.slice qa s.picks.length qc), .int .i64 0, .int .i64 0]) ∧ Bx (Below w0.heap.size w0 w' ∧ PkV w' w'.heap.size qa s.picks)) := ⟨fun W h => by
    have hpl := picks_len hs.picks
    have hhl := head_len hs
    have hfl : s.picks.length ≤ 4096 := by
      unfold fitS at hA
      simp only [Bool.and_eq_true, decide_eq_true_eq] at hA
      exact hA.1
    refine (Parse_any W (HW.out W h).1 (textS s) (by unfold textS; rw [List.length_append]; omega)).mono ?_
    rintro e w' ⟨v, k, c, rfl, H⟩
    have H2 := H.out
    rw [read_write hs hA] at H2
    obtain ⟨hb, rfl, rfl, qa, qc, rfl, hq⟩ := H2
    exact ⟨qa, qc, rfl, ⟨h.trans (hb.mono h.size), hq.view⟩⟩⟩
  have HSM : Bx (∀ W qa qc o, Below w0.heap.size w0 W ∧ PkV W W.heap.size qa s.picks → Calls Tryd.prog 10 #[scV s.lim s.reap (.slice qa s.picks.length qc), scV s.lim s.reap (.slice pa s.picks.length pc)] (W.alloc o) fun e w' => e = .returned (.bool true) ∧ Bx (Below w0.heap.size w0 w')) := ⟨fun W qa qc o h => by
    have hb := below1 W o
    have hbw := h.1.trans (hb.mono h.1.size)
    refine (same_yes (W.alloc o) s.lim s.reap qa pa qc pc s.picks ((h.2.below hb).up hb.size) (HW.out _ hbw).2.1).mono ?_
    rintro e w' ⟨rfl, H⟩
    exact ⟨rfl, ⟨hbw.trans (H.out.mono hbw.size)⟩⟩⟩
  have HXC : Bx (∀ W o, Below w0.heap.size w0 W → (W.alloc o).heap[w.heap.size]? = some (.cells #[.int .i64 s.lim.a, .int .i64 s.lim.b, .int .i64 s.lim.c, .int .i64 s.lim.d, .int .i64 s.lim.e, .int .i64 s.lim.f, .int .i64 s.lim.g, .bool s.reap, .slice pa s.picks.length pc] 31 (0, 0))) := ⟨fun W o h => (HW.out _ (h.alloc h.size o)).2.2.2⟩
  have hkx : 0 < kx := no_line hx
  have hcx : cx ≠ 0 := no_code hx
  have HP2 : Bx (∀ W, Below w0.heap.size w0 W → Calls Tryd.prog 8 #[strV text] W fun e w' => e = .returned (.tuple #[scV zrM false (.slice none 0 0), .int .i64 (kx : Nat), .int .i64 cx]) ∧ Bx (∀ o, Below w.heap.size w (w'.alloc o))) := ⟨fun W h => by
    refine (Parse_any W (HW.out W h).1 text hlen).mono ?_
    rintro e w' ⟨v, k, c, rfl, H⟩
    have H2 := H.out
    rw [hx] at H2
    obtain ⟨hb, rfl, rfl, rfl⟩ := H2
    have hbw := (HW.out _ (h.trans (hb.mono h.size))).2.2.1
    exact ⟨rfl, ⟨fun o => hbw.alloc hbw.size o⟩⟩⟩
  have hk2 : (0 : Int) < (kx : Int) := by omega
  have hc2 : (cx == 0) = false := by simpa using hcx
  have HC1 : Bx (∀ W, Below w0.heap.size w0 W → W.heap[w.heap.size]? = some (.cells #[.int .i64 s.lim.a, .int .i64 s.lim.b, .int .i64 s.lim.c, .int .i64 s.lim.d, .int .i64 s.lim.e, .int .i64 s.lim.f, .int .i64 s.lim.g, .bool s.reap, .slice pa s.picks.length pc] 31 (0, 0))) := ⟨fun W h => (HW.out W h).2.2.2⟩
  clear HW hb0 hs0 hsb hL hs hp hlen hx hA
  generalize textS s = TS at *
  go_enter Tryd.func5, Tryd.ntmps5
  go_wp2_with (first
    | (go_at_call 8; refine (HP2.out _ H4.out).mono ?_; rintro e w5 ⟨rfl, H5⟩)
    | (go_at_call 10; refine (HSM.out w3 qa qc _ H3.out).mono ?_; rintro e w4 ⟨rfl, H4⟩)
    | (go_at_call 8; refine (HPB.out _ H2.out).mono ?_; rintro e w3 ⟨qa, qc, rfl, H3⟩; obtain ⟨f0, f1, f2, f3, f4, f5, f6, f7, f8⟩ := cells9 (HXC.out w3 (.cells #[.int .i64 s.lim.a, .int .i64 s.lim.b, .int .i64 s.lim.c, .int .i64 s.lim.d, .int .i64 s.lim.e, .int .i64 s.lim.f, .int .i64 s.lim.g, .bool s.reap, .slice qa s.picks.length qc] 31) H3.out.1))
    | (go_at_call 13; refine (HPR.out _ H1.out).mono ?_; rintro e w2 ⟨rfl, H2⟩)
    | (go_at_call 7; rw [← hw0]; refine HSN.out.mono ?_; rintro e w1 ⟨rfl, H1⟩; obtain ⟨d0, d1, d2, d3, d4, d5, d6, d7, d8⟩ := cells9 (HC1.out w1 H1.out)))
  go_ret
  exact ⟨rfl, ⟨H5.out _⟩⟩
set_option maxRecDepth 100000 in
set_option maxHeartbeats 8000000 in
theorem back_Ay (w : World) (hL : LW w) (s : Sc) (hs : s.Wf) (pa : Option Addr) (pc : Nat) (hp : PkV w w.heap.size pa s.picks) (text : List UInt8) (hlen : text.length ≤ 281474976710656) (hA : fitS s = true) (x : Sc) (hx : readS text = .yes x) :
    Calls Tryd.prog 5 #[scV s.lim s.reap (.slice pa s.picks.length pc), strV text] w fun e w' => e = .returned (.bool true) ∧ Bx (Below w.heap.size w w') := by
  obtain ⟨w0, hw0⟩ : ∃ w0, w0 = w.alloc (.cells #[.int .i64 s.lim.a, .int .i64 s.lim.b, .int .i64 s.lim.c, .int .i64 s.lim.d, .int .i64 s.lim.e, .int .i64 s.lim.f, .int .i64 s.lim.g, .bool s.reap, .slice pa s.picks.length pc] 31) := ⟨_, rfl⟩
  have hb0 : Below w.heap.size w w0 := by rw [hw0]; exact below1 w _
  have hs0 : w0.heap.size = w.heap.size + 1 := by rw [hw0]; simp
  have hsb : w0.heap[w.heap.size]? = some (.cells #[.int .i64 s.lim.a, .int .i64 s.lim.b, .int .i64 s.lim.c, .int .i64 s.lim.d, .int .i64 s.lim.e, .int .i64 s.lim.f, .int .i64 s.lim.g, .bool s.reap, .slice pa s.picks.length pc] 31 (0, 0)) := by rw [hw0]; exact heap_newH _ _ _ rfl
  have HW : Bx (∀ W, Below w0.heap.size w0 W → LW W ∧ PkV W W.heap.size pa s.picks ∧ Below w.heap.size w W ∧ W.heap[w.heap.size]? = some (.cells #[.int .i64 s.lim.a, .int .i64 s.lim.b, .int .i64 s.lim.c, .int .i64 s.lim.d, .int .i64 s.lim.e, .int .i64 s.lim.f, .int .i64 s.lim.g, .bool s.reap, .slice pa s.picks.length pc] 31 (0, 0))) := ⟨fun W h => by
    have hbw := hb0.trans (h.mono hb0.size)
    exact ⟨hL.below hbw, (hp.below hbw).up hbw.size, hbw, below_heap h hsb⟩⟩
  have HSN : Bx _ := ⟨shown_any w0 (hL.below hb0)⟩
  have HPR : Bx (∀ W, Below w0.heap.size w0 W → Calls Tryd.prog 13 #[scV s.lim s.reap (.slice pa s.picks.length pc)] W fun e w' => e = .returned (.tuple #[strV (textS s), .int .i64 0]) ∧ Bx (Below w0.heap.size w0 w')) := ⟨fun W h => by
    have := Print_any W (HW.out W h).1 s hs pa pc (HW.out W h).2.1
    rw [writeS_fit hA] at this
    refine this.mono ?_
    rintro e w' ⟨rfl, H⟩
    exact ⟨rfl, ⟨h.trans (H.out.mono h.size)⟩⟩⟩
  have HPB : Bx (∀ W, Below w0.heap.size w0 W → Calls Tryd.prog 8 #[strV (textS s)] W fun e w' => ∃ qa qc, e = .returned (.tuple #[scV s.lim s.reap (.slice qa s.picks.length qc), .int .i64 0, .int .i64 0]) ∧ Bx (Below w0.heap.size w0 w' ∧ PkV w' w'.heap.size qa s.picks)) := ⟨fun W h => by
    have hpl := picks_len hs.picks
    have hhl := head_len hs
    have hfl : s.picks.length ≤ 4096 := by
      unfold fitS at hA
      simp only [Bool.and_eq_true, decide_eq_true_eq] at hA
      exact hA.1
    refine (Parse_any W (HW.out W h).1 (textS s) (by unfold textS; rw [List.length_append]; omega)).mono ?_
    rintro e w' ⟨v, k, c, rfl, H⟩
    have H2 := H.out
    rw [read_write hs hA] at H2
    obtain ⟨hb, rfl, rfl, qa, qc, rfl, hq⟩ := H2
    exact ⟨qa, qc, rfl, ⟨h.trans (hb.mono h.size), hq.view⟩⟩⟩
  have HSM : Bx (∀ W qa qc o, Below w0.heap.size w0 W ∧ PkV W W.heap.size qa s.picks → Calls Tryd.prog 10 #[scV s.lim s.reap (.slice qa s.picks.length qc), scV s.lim s.reap (.slice pa s.picks.length pc)] (W.alloc o) fun e w' => e = .returned (.bool true) ∧ Bx (Below w0.heap.size w0 w')) := ⟨fun W qa qc o h => by
    have hb := below1 W o
    have hbw := h.1.trans (hb.mono h.1.size)
    refine (same_yes (W.alloc o) s.lim s.reap qa pa qc pc s.picks ((h.2.below hb).up hb.size) (HW.out _ hbw).2.1).mono ?_
    rintro e w' ⟨rfl, H⟩
    exact ⟨rfl, ⟨hbw.trans (H.out.mono hbw.size)⟩⟩⟩
  have HXC : Bx (∀ W o, Below w0.heap.size w0 W → (W.alloc o).heap[w.heap.size]? = some (.cells #[.int .i64 s.lim.a, .int .i64 s.lim.b, .int .i64 s.lim.c, .int .i64 s.lim.d, .int .i64 s.lim.e, .int .i64 s.lim.f, .int .i64 s.lim.g, .bool s.reap, .slice pa s.picks.length pc] 31 (0, 0))) := ⟨fun W o h => (HW.out _ (h.alloc h.size o)).2.2.2⟩
  obtain ⟨xw, xf, xt⟩ := write_read hx
  have HP2 : Bx (∀ W, Below w0.heap.size w0 W → Calls Tryd.prog 8 #[strV text] W fun e w' => ∃ ra rc, e = .returned (.tuple #[scV x.lim x.reap (.slice ra x.picks.length rc), .int .i64 0, .int .i64 0]) ∧ Bx (Below w0.heap.size w0 w' ∧ PkV w' w'.heap.size ra x.picks)) := ⟨fun W h => by
    refine (Parse_any W (HW.out W h).1 text hlen).mono ?_
    rintro e w' ⟨v, k, c, rfl, H⟩
    have H2 := H.out
    rw [hx] at H2
    obtain ⟨hb, rfl, rfl, ra, rc, rfl, hq⟩ := H2
    exact ⟨ra, rc, rfl, ⟨h.trans (hb.mono h.size), hq.view⟩⟩⟩
  have HPX : Bx (∀ W ra rc o, Below w0.heap.size w0 W ∧ PkV W W.heap.size ra x.picks → Calls Tryd.prog 13 #[scV x.lim x.reap (.slice ra x.picks.length rc)] (W.alloc o) fun e w' => e = .returned (.tuple #[strV text, .int .i64 0]) ∧ Bx (Below w.heap.size w w')) := ⟨fun W ra rc o h => by
    have hb := below1 W o
    have hbw := h.1.trans (hb.mono h.1.size)
    have := Print_any (W.alloc o) (HW.out _ hbw).1 x xw ra rc ((h.2.below hb).up hb.size)
    rw [writeS_fit xf, xt] at this
    refine this.mono ?_
    rintro e w' ⟨rfl, H⟩
    have hbq := (HW.out _ hbw).2.2.1
    exact ⟨rfl, ⟨hbq.trans (H.out.mono hbq.size)⟩⟩⟩
  have HC1 : Bx (∀ W, Below w0.heap.size w0 W → W.heap[w.heap.size]? = some (.cells #[.int .i64 s.lim.a, .int .i64 s.lim.b, .int .i64 s.lim.c, .int .i64 s.lim.d, .int .i64 s.lim.e, .int .i64 s.lim.f, .int .i64 s.lim.g, .bool s.reap, .slice pa s.picks.length pc] 31 (0, 0))) := ⟨fun W h => (HW.out W h).2.2.2⟩
  clear HW hb0 hs0 hsb hL hs hp hlen hx hA xw xf xt
  generalize textS s = TS at *
  go_enter Tryd.func5, Tryd.ntmps5
  go_wp2_with (first
    | (go_at_call 13; refine (HPX.out w5 ra rc _ H5.out).mono ?_; rintro e w6 ⟨rfl, H6⟩)
    | (go_at_call 8; refine (HP2.out _ H4.out).mono ?_; rintro e w5 ⟨ra, rc, rfl, H5⟩)
    | (go_at_call 10; refine (HSM.out w3 qa qc _ H3.out).mono ?_; rintro e w4 ⟨rfl, H4⟩)
    | (go_at_call 8; refine (HPB.out _ H2.out).mono ?_; rintro e w3 ⟨qa, qc, rfl, H3⟩; obtain ⟨f0, f1, f2, f3, f4, f5, f6, f7, f8⟩ := cells9 (HXC.out w3 (.cells #[.int .i64 s.lim.a, .int .i64 s.lim.b, .int .i64 s.lim.c, .int .i64 s.lim.d, .int .i64 s.lim.e, .int .i64 s.lim.f, .int .i64 s.lim.g, .bool s.reap, .slice qa s.picks.length qc] 31) H3.out.1))
    | (go_at_call 13; refine (HPR.out _ H1.out).mono ?_; rintro e w2 ⟨rfl, H2⟩)
    | (go_at_call 7; rw [← hw0]; refine HSN.out.mono ?_; rintro e w1 ⟨rfl, H1⟩; obtain ⟨d0, d1, d2, d3, d4, d5, d6, d7, d8⟩ := cells9 (HC1.out w1 H1.out)))
  go_ret
  exact ⟨rfl, H6⟩
set_option maxRecDepth 100000 in
set_option maxHeartbeats 8000000 in
theorem back_Bn (w : World) (hL : LW w) (s : Sc) (hs : s.Wf) (pa : Option Addr) (pc : Nat) (hp : PkV w w.heap.size pa s.picks) (text : List UInt8) (hlen : text.length ≤ 281474976710656) (c0 : Int) (hA : writeS s = ([], c0)) (hc0 : c0 ≠ 0) (kx : Nat) (cx : Int) (hx : readS text = .no (kx, cx)) :
    Calls Tryd.prog 5 #[scV s.lim s.reap (.slice pa s.picks.length pc), strV text] w fun e w' => e = .returned (.bool true) ∧ Bx (Below w.heap.size w w') := by
  obtain ⟨w0, hw0⟩ : ∃ w0, w0 = w.alloc (.cells #[.int .i64 s.lim.a, .int .i64 s.lim.b, .int .i64 s.lim.c, .int .i64 s.lim.d, .int .i64 s.lim.e, .int .i64 s.lim.f, .int .i64 s.lim.g, .bool s.reap, .slice pa s.picks.length pc] 31) := ⟨_, rfl⟩
  have hb0 : Below w.heap.size w w0 := by rw [hw0]; exact below1 w _
  have hs0 : w0.heap.size = w.heap.size + 1 := by rw [hw0]; simp
  have hsb : w0.heap[w.heap.size]? = some (.cells #[.int .i64 s.lim.a, .int .i64 s.lim.b, .int .i64 s.lim.c, .int .i64 s.lim.d, .int .i64 s.lim.e, .int .i64 s.lim.f, .int .i64 s.lim.g, .bool s.reap, .slice pa s.picks.length pc] 31 (0, 0)) := by rw [hw0]; exact heap_newH _ _ _ rfl
  have HW : Bx (∀ W, Below w0.heap.size w0 W → LW W ∧ PkV W W.heap.size pa s.picks ∧ Below w.heap.size w W ∧ W.heap[w.heap.size]? = some (.cells #[.int .i64 s.lim.a, .int .i64 s.lim.b, .int .i64 s.lim.c, .int .i64 s.lim.d, .int .i64 s.lim.e, .int .i64 s.lim.f, .int .i64 s.lim.g, .bool s.reap, .slice pa s.picks.length pc] 31 (0, 0))) := ⟨fun W h => by
    have hbw := hb0.trans (h.mono hb0.size)
    exact ⟨hL.below hbw, (hp.below hbw).up hbw.size, hbw, below_heap h hsb⟩⟩
  have HSN : Bx _ := ⟨shown_any w0 (hL.below hb0)⟩
  have HPR : Bx (∀ W, Below w0.heap.size w0 W → Calls Tryd.prog 13 #[scV s.lim s.reap (.slice pa s.picks.length pc)] W fun e w' => e = .returned (.tuple #[strV [], .int .i64 c0]) ∧ Bx (Below w0.heap.size w0 w')) := ⟨fun W h => by
    have := Print_any W (HW.out W h).1 s hs pa pc (HW.out W h).2.1
    rw [hA] at this
    refine this.mono ?_
    rintro e w' ⟨rfl, H⟩
    exact ⟨rfl, ⟨h.trans (H.out.mono h.size)⟩⟩⟩
  have hkx : 0 < kx := no_line hx
  have hcx : cx ≠ 0 := no_code hx
  have HP2 : Bx (∀ W, Below w0.heap.size w0 W → Calls Tryd.prog 8 #[strV text] W fun e w' => e = .returned (.tuple #[scV zrM false (.slice none 0 0), .int .i64 (kx : Nat), .int .i64 cx]) ∧ Bx (∀ o, Below w.heap.size w (w'.alloc o))) := ⟨fun W h => by
    refine (Parse_any W (HW.out W h).1 text hlen).mono ?_
    rintro e w' ⟨v, k, c, rfl, H⟩
    have H2 := H.out
    rw [hx] at H2
    obtain ⟨hb, rfl, rfl, rfl⟩ := H2
    have hbw := (HW.out _ (h.trans (hb.mono h.size))).2.2.1
    exact ⟨rfl, ⟨fun o => hbw.alloc hbw.size o⟩⟩⟩
  have hk2 : (0 : Int) < (kx : Int) := by omega
  have hc2 : (cx == 0) = false := by simpa using hcx
  have HC1 : Bx (∀ W, Below w0.heap.size w0 W → W.heap[w.heap.size]? = some (.cells #[.int .i64 s.lim.a, .int .i64 s.lim.b, .int .i64 s.lim.c, .int .i64 s.lim.d, .int .i64 s.lim.e, .int .i64 s.lim.f, .int .i64 s.lim.g, .bool s.reap, .slice pa s.picks.length pc] 31 (0, 0))) := ⟨fun W h => (HW.out W h).2.2.2⟩
  clear HW hb0 hs0 hsb hL hs hp hlen hx hA
  have hc3 : (c0 == 0) = false := by simpa using hc0
  go_enter Tryd.func5, Tryd.ntmps5
  go_wp2_with (first
    | (go_at_call 8; refine (HP2.out _ H2.out).mono ?_; rintro e w5 ⟨rfl, H5⟩)
    | (go_at_call 13; refine (HPR.out _ H1.out).mono ?_; rintro e w2 ⟨rfl, H2⟩)
    | (go_at_call 7; rw [← hw0]; refine HSN.out.mono ?_; rintro e w1 ⟨rfl, H1⟩; obtain ⟨d0, d1, d2, d3, d4, d5, d6, d7, d8⟩ := cells9 (HC1.out w1 H1.out)))
  go_ret
  exact ⟨rfl, ⟨H5.out _⟩⟩
set_option maxRecDepth 100000 in
set_option maxHeartbeats 8000000 in
theorem back_By (w : World) (hL : LW w) (s : Sc) (hs : s.Wf) (pa : Option Addr) (pc : Nat) (hp : PkV w w.heap.size pa s.picks) (text : List UInt8) (hlen : text.length ≤ 281474976710656) (c0 : Int) (hA : writeS s = ([], c0)) (hc0 : c0 ≠ 0) (x : Sc) (hx : readS text = .yes x) :
    Calls Tryd.prog 5 #[scV s.lim s.reap (.slice pa s.picks.length pc), strV text] w fun e w' => e = .returned (.bool true) ∧ Bx (Below w.heap.size w w') := by
  obtain ⟨w0, hw0⟩ : ∃ w0, w0 = w.alloc (.cells #[.int .i64 s.lim.a, .int .i64 s.lim.b, .int .i64 s.lim.c, .int .i64 s.lim.d, .int .i64 s.lim.e, .int .i64 s.lim.f, .int .i64 s.lim.g, .bool s.reap, .slice pa s.picks.length pc] 31) := ⟨_, rfl⟩
  have hb0 : Below w.heap.size w w0 := by rw [hw0]; exact below1 w _
  have hs0 : w0.heap.size = w.heap.size + 1 := by rw [hw0]; simp
  have hsb : w0.heap[w.heap.size]? = some (.cells #[.int .i64 s.lim.a, .int .i64 s.lim.b, .int .i64 s.lim.c, .int .i64 s.lim.d, .int .i64 s.lim.e, .int .i64 s.lim.f, .int .i64 s.lim.g, .bool s.reap, .slice pa s.picks.length pc] 31 (0, 0)) := by rw [hw0]; exact heap_newH _ _ _ rfl
  have HW : Bx (∀ W, Below w0.heap.size w0 W → LW W ∧ PkV W W.heap.size pa s.picks ∧ Below w.heap.size w W ∧ W.heap[w.heap.size]? = some (.cells #[.int .i64 s.lim.a, .int .i64 s.lim.b, .int .i64 s.lim.c, .int .i64 s.lim.d, .int .i64 s.lim.e, .int .i64 s.lim.f, .int .i64 s.lim.g, .bool s.reap, .slice pa s.picks.length pc] 31 (0, 0))) := ⟨fun W h => by
    have hbw := hb0.trans (h.mono hb0.size)
    exact ⟨hL.below hbw, (hp.below hbw).up hbw.size, hbw, below_heap h hsb⟩⟩
  have HSN : Bx _ := ⟨shown_any w0 (hL.below hb0)⟩
  have HPR : Bx (∀ W, Below w0.heap.size w0 W → Calls Tryd.prog 13 #[scV s.lim s.reap (.slice pa s.picks.length pc)] W fun e w' => e = .returned (.tuple #[strV [], .int .i64 c0]) ∧ Bx (Below w0.heap.size w0 w')) := ⟨fun W h => by
    have := Print_any W (HW.out W h).1 s hs pa pc (HW.out W h).2.1
    rw [hA] at this
    refine this.mono ?_
    rintro e w' ⟨rfl, H⟩
    exact ⟨rfl, ⟨h.trans (H.out.mono h.size)⟩⟩⟩
  obtain ⟨xw, xf, xt⟩ := write_read hx
  have HP2 : Bx (∀ W, Below w0.heap.size w0 W → Calls Tryd.prog 8 #[strV text] W fun e w' => ∃ ra rc, e = .returned (.tuple #[scV x.lim x.reap (.slice ra x.picks.length rc), .int .i64 0, .int .i64 0]) ∧ Bx (Below w0.heap.size w0 w' ∧ PkV w' w'.heap.size ra x.picks)) := ⟨fun W h => by
    refine (Parse_any W (HW.out W h).1 text hlen).mono ?_
    rintro e w' ⟨v, k, c, rfl, H⟩
    have H2 := H.out
    rw [hx] at H2
    obtain ⟨hb, rfl, rfl, ra, rc, rfl, hq⟩ := H2
    exact ⟨ra, rc, rfl, ⟨h.trans (hb.mono h.size), hq.view⟩⟩⟩
  have HPX : Bx (∀ W ra rc o, Below w0.heap.size w0 W ∧ PkV W W.heap.size ra x.picks → Calls Tryd.prog 13 #[scV x.lim x.reap (.slice ra x.picks.length rc)] (W.alloc o) fun e w' => e = .returned (.tuple #[strV text, .int .i64 0]) ∧ Bx (Below w.heap.size w w')) := ⟨fun W ra rc o h => by
    have hb := below1 W o
    have hbw := h.1.trans (hb.mono h.1.size)
    have := Print_any (W.alloc o) (HW.out _ hbw).1 x xw ra rc ((h.2.below hb).up hb.size)
    rw [writeS_fit xf, xt] at this
    refine this.mono ?_
    rintro e w' ⟨rfl, H⟩
    have hbq := (HW.out _ hbw).2.2.1
    exact ⟨rfl, ⟨hbq.trans (H.out.mono hbq.size)⟩⟩⟩
  have HC1 : Bx (∀ W, Below w0.heap.size w0 W → W.heap[w.heap.size]? = some (.cells #[.int .i64 s.lim.a, .int .i64 s.lim.b, .int .i64 s.lim.c, .int .i64 s.lim.d, .int .i64 s.lim.e, .int .i64 s.lim.f, .int .i64 s.lim.g, .bool s.reap, .slice pa s.picks.length pc] 31 (0, 0))) := ⟨fun W h => (HW.out W h).2.2.2⟩
  clear HW hb0 hs0 hsb hL hs hp hlen hx hA xw xf xt
  have hc3 : (c0 == 0) = false := by simpa using hc0
  go_enter Tryd.func5, Tryd.ntmps5
  go_wp2_with (first
    | (go_at_call 13; refine (HPX.out w5 ra rc _ H5.out).mono ?_; rintro e w6 ⟨rfl, H6⟩)
    | (go_at_call 8; refine (HP2.out _ H2.out).mono ?_; rintro e w5 ⟨ra, rc, rfl, H5⟩)
    | (go_at_call 13; refine (HPR.out _ H1.out).mono ?_; rintro e w2 ⟨rfl, H2⟩)
    | (go_at_call 7; rw [← hw0]; refine HSN.out.mono ?_; rintro e w1 ⟨rfl, H1⟩; obtain ⟨d0, d1, d2, d3, d4, d5, d6, d7, d8⟩ := cells9 (HC1.out w1 H1.out)))
  go_ret
  exact ⟨rfl, H6⟩
theorem back_walk (w : World) (s : Sc) (a : Option Addr) (cap : Nat) (hs : s.Wf) (hp : PkV w w.heap.size a s.picks) (text : List UInt8) (hlen : text.length ≤ 281474976710656) (hL : LW w) :
    Calls Tryd.prog 5 #[scV s.lim s.reap (.slice a s.picks.length cap), strV text] w fun e w' => e = .returned (.bool true) ∧ Below w.heap.size w w' := by
  have hcase : fitS s = true ∨ ∃ c, writeS s = ([], c) ∧ c ≠ 0 := by
    cases h : fitS s with
    | true => exact Or.inl rfl
    | false =>
      right
      unfold writeS
      unfold fitS at h
      simp only [Bool.and_eq_false_iff, decide_eq_false_iff_not] at h
      split
      · rename_i h1
        rcases h with h | h
        · exact absurd h1 h
        · rw [if_neg (by rw [h]; decide)]
          exact ⟨171, rfl, by decide⟩
      · exact ⟨172, rfl, by decide⟩
  have key : Calls Tryd.prog 5 #[scV s.lim s.reap (.slice a s.picks.length cap), strV text] w fun e w' => e = .returned (.bool true) ∧ Bx (Below w.heap.size w w') := by
    cases hx : readS text with
    | no e =>
      obtain ⟨kx, cx⟩ := e
      rcases hcase with hA | ⟨c0, hA, hc0⟩
      · exact back_An w hL s hs a cap hp text hlen hA kx cx hx
      · exact back_Bn w hL s hs a cap hp text hlen c0 hA hc0 kx cx hx
    | yes x =>
      rcases hcase with hA | ⟨c0, hA, hc0⟩
      · exact back_Ay w hL s hs a cap hp text hlen hA x hx
      · exact back_By w hL s hs a cap hp text hlen c0 hA hc0 x hx
  exact key.mono fun e w' h => ⟨h.1, h.2.out⟩
end Go.Proofs.YtpnbjkegpbpcjaaDoor
