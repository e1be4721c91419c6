import Derived.Test.YtdhgmeklphcbhaaCVSh
namespace Go.Proofs.Ytdhgmeklphcbhaa
open Go.RowKit
set_option linter.unusedVariables false
set_option linter.unusedSimpArgs false

structure OneB (w W : World) (B : Nat) (x : V) (p : Option Addr) (c : Nat) : Prop where
  a : W.heap[w.heap.size]? = some (Obj.cells #[.int .i64 x.k, .int .i64 x.n, .slice p x.l.length c] 24)
  va : SlV W B p c x.l
  bel : Below w.heap.size w W
theorem OneB.next {w W W' : World} {B : Nat} {x : V} {p : Option Addr} {c : Nat} (h : OneB w W B x p c) (hB : B ≤ w.heap.size) (hb : Below W.heap.size W W') : OneB w W' B x p c :=
  ⟨keep_h hb h.a, h.va.lo (Lo.of (hb.mono (Nat.le_trans hB h.bel.size))), h.bel.trans (hb.mono h.bel.size)⟩
theorem OneB.start (w : World) (B : Nat) (x : V) (p : Option Addr) (c : Nat) (hx : SlV w B p c x.l) (hB : B ≤ w.heap.size) :
    OneB w (w.alloc (Obj.cells #[.int .i64 x.k, .int .i64 x.n, .slice p x.l.length c] 24)) B x p c :=
  ⟨World.alloc_heap_new _ _, hx.lo (Lo.of ((below1 _ _).mono hB)), below1 _ _⟩
theorem valid_kid {x z : V} (hz : z ∈ x.l) (h : validB z = false) : validB x = false := by
  simp only [validB, decide_eq_false_iff_not] at h ⊢
  exact fun h2 => h (fun y hy => h2 y (.kid hz hy))
theorem valid_all {x : V} (hr : rt x = true) (hk : ∀ z ∈ x.l, validB z = true) : validB x = true := validB_yes fun y hy => by
  rcases nod_iff.1 hy with rfl | ⟨z, hz, h2⟩
  · exact hr
  · have := hk z hz
    simp only [validB, decide_eq_true_eq] at this
    exact this y h2
theorem valid_rt {x : V} (h : rt x = false) : validB x = false := validB_no (.me x) h
theorem valid_leaf {x : V} (h : x.l.length = 0) : validB x = rt x := by
  have hl : x.l = [] := List.eq_nil_of_length_eq_zero h
  cases hr : rt x
  · exact valid_rt hr
  · exact valid_all hr (fun z hz => by rw [hl] at hz; cases hz)

set_option maxRecDepth 100000 in
set_option maxHeartbeats 8000000 in
theorem rvalid_rec (N : Nat) (ih : ∀ (x : V), x.sz < N → ∀ (w : World) (B : Nat) (v : Value), IsV w B v x → B ≤ w.heap.size → Calls Try.prog 13 #[v] w fun e w' => e = .returned (.bool (validB x)) ∧ Below w.heap.size w w')
    (w : World) (B : Nat) (v : Value) (x : V) (hv : IsV w B v x) (hB : B ≤ w.heap.size) (hN : x.sz ≤ N) :
    Calls Try.prog 13 #[v] w fun e w' => e = .returned (.bool (validB x)) ∧ Below w.heap.size w w' := by
  obtain ⟨⟨p, c, rfl, h1⟩, h2, h3⟩ := hv
  have HT0 : Bx _ := ⟨OneB.start w B x p c h1 hB⟩
  have hlc : x.l.length ≤ c := h1.1
  have hcm : c ≤ maxLen := h1.2.1
  unfold maxLen at hcm
  have HIH : Bx _ := ⟨ih⟩
  clear h1 h2 h3 ih
  have hrt : rt x = rightI x.k x.n x.l.length := rfl
  have HRX : Bx _ := ⟨hrt⟩
  clear hrt
  by_cases h1 : x.k = 1
  · have b1 : (x.k == 1) = true := by simpa using h1
    by_cases h0 : x.l.length = 0
    · have bl : ((x.l.length : Int) == 0) = true := by simp [h0]
      have HV : Bx (validB x = true) := ⟨by rw [valid_leaf h0, HRX.out]; simp [rightI, h1, h0]⟩
      clear h1 h0
      go_enter Try.func13, Try.ntmps13
      go_wp2
      go_ret
      exact ⟨congrArg (fun z => Ending.returned (.bool z)) HV.out.symm, HT0.out.bel⟩
    · have bl : ((x.l.length : Int) == 0) = false := beq_eq_false_iff_ne.2 (by omega)
      have HV : Bx (validB x = false) := ⟨valid_rt (by rw [HRX.out, h1]; unfold rightI; rw [bl]; rfl)⟩
      clear h1 h0
      go_enter Try.func13, Try.ntmps13
      go_wp2
      go_ret
      exact ⟨congrArg (fun z => Ending.returned (.bool z)) HV.out.symm, HT0.out.bel⟩
  by_cases h2 : x.k = 2
  · have b1 : (x.k == 1) = false := by simpa using h1
    have b2 : (x.k == 2) = true := by simpa using h2
    by_cases h0 : x.l.length = 0
    · have bl : ((x.l.length : Int) == 0) = true := by simp [h0]
      by_cases n0 : x.n = 0
      · have c0 : (x.n == 0) = true := by simpa using n0
        have HV : Bx (validB x = true) := ⟨by rw [valid_leaf h0, HRX.out]; simp [rightI, h2, h0, n0]⟩
        clear h1 h2 h0 n0
        go_enter Try.func13, Try.ntmps13
        go_wp2
        go_ret
        exact ⟨congrArg (fun z => Ending.returned (.bool z)) HV.out.symm, HT0.out.bel⟩
      · have c0 : (x.n == 0) = false := by simpa using n0
        have HV : Bx (validB x = (x.n == 1)) := ⟨by rw [valid_leaf h0, HRX.out]; simp [rightI, h2, h0, n0]⟩
        clear h1 h2 h0 n0
        go_enter Try.func13, Try.ntmps13
        go_wp2
        go_ret
        exact ⟨congrArg (fun z => Ending.returned (.bool z)) HV.out.symm, HT0.out.bel⟩
    · have bl : ((x.l.length : Int) == 0) = false := beq_eq_false_iff_ne.2 (by omega)
      have HV : Bx (validB x = false) := ⟨valid_rt (by rw [HRX.out, h2]; unfold rightI; rw [bl]; simp)⟩
      clear h1 h2 h0
      go_enter Try.func13, Try.ntmps13
      go_wp2
      go_ret
      exact ⟨congrArg (fun z => Ending.returned (.bool z)) HV.out.symm, HT0.out.bel⟩
  by_cases h5 : x.k = 5
  · have b1 : (x.k == 1) = false := by simpa using h1
    have b2 : (x.k == 2) = false := by simpa using h2
    have b5 : (x.k == 5) = true := by simpa using h5
    by_cases h0 : x.l.length = 0
    · have bl : ((x.l.length : Int) == 0) = true := by simp [h0]
      have HV : Bx (validB x = decide (0 ≤ x.n)) := ⟨by rw [valid_leaf h0, HRX.out]; simp [rightI, h5, h0]⟩
      clear h1 h2 h5 h0
      go_enter Try.func13, Try.ntmps13
      go_wp2
      go_ret
      exact ⟨congrArg (fun z => Ending.returned (.bool z)) HV.out.symm, HT0.out.bel⟩
    · have bl : ((x.l.length : Int) == 0) = false := beq_eq_false_iff_ne.2 (by omega)
      have HV : Bx (validB x = false) := ⟨valid_rt (by rw [HRX.out, h5]; unfold rightI; rw [bl]; simp)⟩
      clear h1 h2 h5 h0
      go_enter Try.func13, Try.ntmps13
      go_wp2
      go_ret
      exact ⟨congrArg (fun z => Ending.returned (.bool z)) HV.out.symm, HT0.out.bel⟩
  by_cases h3 : x.k = 3
  · have b1 : (x.k == 1) = false := by simpa using h1
    have b2 : (x.k == 2) = false := by simpa using h2
    have b5 : (x.k == 5) = false := by simpa using h5
    have b3 : (x.k == 3) = true := by simpa using h3
    by_cases n0 : x.n = 0
    · have c0 : (x.n != 0) = false := by simpa using n0
      have HRT : Bx (rt x = true) := ⟨by rw [HRX.out]; simp [rightI, h3, n0]⟩
      clear h1 h2 h5 h3 n0
      go_enter Try.func13, Try.ntmps13
      go_wp2
      try clear l0
      go_loopg [4] x.l.length (fun q v wr => ∃ i : Nat, q = x.l.length - i ∧ i ≤ x.l.length ∧ v = .int .i64 i ∧ Bx (OneB w wr B x p c ∧ ∀ j (h : j < x.l.length), j < i → validB x.l[j] = true))
      case atStart => exact ⟨0, by simp, by omega, rfl, ⟨HT0.out, fun j _ h => by omega⟩⟩
      case round =>
        obtain ⟨i, hq, hil, rfl, HS⟩ := hrel
        clear HT0
        obtain ⟨r0, r1, r2, _, _, _, rl⟩ := c3 HS.out.1.a
        by_cases hlt : i < x.l.length
        · obtain ⟨b, o, q1, qc, rfl, hbB, d0, d1, d2, hq1, dk, dn⟩ := HS.out.1.va.at3 i hlt
          have HC : Bx _ := ⟨HIH.out x.l[i] (by have h9 := szs_mem (List.getElem_mem hlt); have := V.sz_eq x; omega) wr B _ ⟨⟨q1, qc, rfl, hq1⟩, dk, dn⟩ (Nat.le_trans hB HS.out.1.bel.size)⟩
          have HE : Bx (validB x.l[i] = false → validB x = false) := ⟨valid_kid (List.getElem_mem hlt)⟩
          clear hq1 dk dn
          cases hee : validB x.l[i]
          · rw [hee] at HC
            go_wp2_with (first | (go_at_call 13; refine Calls.mono HC.out ?_; rintro e w4 ⟨rfl, hb4⟩))
            go_ret
            exact ⟨congrArg (fun z => Ending.returned (.bool z)) (HE.out hee).symm, HS.out.1.bel.trans (hb4.mono HS.out.1.bel.size)⟩
          · rw [hee] at HC
            go_wp2_with (first | (go_at_call 13; refine Calls.mono HC.out ?_; rintro e w4 ⟨rfl, hb4⟩; have HN : Bx _ := ⟨HS.out.1.next hB hb4⟩))
            go_roundg (x.l.length - (i + 1))
            case measure => omega
            case rel => exact ⟨i + 1, rfl, by omega, by simp, ⟨HN.out, fun j h hj => by
              rcases Nat.lt_or_ge j i with h3 | h3
              · exact HS.out.2 j h h3
              · have : j = i := by omega
                subst this
                exact hee⟩⟩
        · have HE : Bx (validB x = true ∧ Below w.heap.size w wr) := ⟨valid_all HRT.out (fun z hz => by obtain ⟨j, hj, rfl⟩ := List.getElem_of_mem hz; exact HS.out.2 j hj (by omega)), HS.out.1.bel⟩
          clear HS
          go_wp2
          go_ret
          exact ⟨congrArg (fun z => Ending.returned (.bool z)) HE.out.1.symm, HE.out.2⟩
    · have c0 : (x.n != 0) = true := by simpa using n0
      have HV : Bx (validB x = false) := ⟨valid_rt (by rw [HRX.out]; simp [rightI, h3, n0])⟩
      clear h1 h2 h5 h3 n0
      go_enter Try.func13, Try.ntmps13
      go_wp2
      go_ret
      exact ⟨congrArg (fun z => Ending.returned (.bool z)) HV.out.symm, HT0.out.bel⟩
  by_cases h4 : x.k = 4
  · have b1 : (x.k == 1) = false := by simpa using h1
    have b2 : (x.k == 2) = false := by simpa using h2
    have b5 : (x.k == 5) = false := by simpa using h5
    have b3 : (x.k == 3) = false := by simpa using h3
    have b4 : (x.k == 4) = true := by simpa using h4
    by_cases n0 : x.n = 0
    · have c0 : (x.n != 0) = false := by simpa using n0
      by_cases l2 : (x.l.length : Int) < 2
      · have HV : Bx (validB x = false) := ⟨valid_rt (by rw [HRX.out]; simp [rightI, h4, n0]; omega)⟩
        clear h1 h2 h5 h3 h4 n0
        go_enter Try.func13, Try.ntmps13
        go_wp2
        go_ret
        exact ⟨congrArg (fun z => Ending.returned (.bool z)) HV.out.symm, HT0.out.bel⟩
      · have HRT : Bx (rt x = true) := ⟨by rw [HRX.out]; simp [rightI, h4, n0]; omega⟩
        clear h1 h2 h5 h3 h4 n0
        go_enter Try.func13, Try.ntmps13
        go_wp2
        try clear l0
        go_loopg [4] x.l.length (fun q v wr => ∃ i : Nat, q = x.l.length - i ∧ i ≤ x.l.length ∧ v = .int .i64 i ∧ Bx (OneB w wr B x p c ∧ ∀ j (h : j < x.l.length), j < i → validB x.l[j] = true))
        case atStart => exact ⟨0, by simp, by omega, rfl, ⟨HT0.out, fun j _ h => by omega⟩⟩
        case round =>
          obtain ⟨i, hq, hil, rfl, HS⟩ := hrel
          clear HT0
          obtain ⟨r0, r1, r2, _, _, _, rl⟩ := c3 HS.out.1.a
          by_cases hlt : i < x.l.length
          · obtain ⟨b, o, q1, qc, rfl, hbB, d0, d1, d2, hq1, dk, dn⟩ := HS.out.1.va.at3 i hlt
            have HC : Bx _ := ⟨HIH.out x.l[i] (by have h9 := szs_mem (List.getElem_mem hlt); have := V.sz_eq x; omega) wr B _ ⟨⟨q1, qc, rfl, hq1⟩, dk, dn⟩ (Nat.le_trans hB HS.out.1.bel.size)⟩
            have HE : Bx (validB x.l[i] = false → validB x = false) := ⟨valid_kid (List.getElem_mem hlt)⟩
            clear hq1 dk dn
            cases hee : validB x.l[i]
            · rw [hee] at HC
              go_wp2_with (first | (go_at_call 13; refine Calls.mono HC.out ?_; rintro e w4 ⟨rfl, hb4⟩))
              go_ret
              exact ⟨congrArg (fun z => Ending.returned (.bool z)) (HE.out hee).symm, HS.out.1.bel.trans (hb4.mono HS.out.1.bel.size)⟩
            · rw [hee] at HC
              go_wp2_with (first | (go_at_call 13; refine Calls.mono HC.out ?_; rintro e w4 ⟨rfl, hb4⟩; have HN : Bx _ := ⟨HS.out.1.next hB hb4⟩))
              go_roundg (x.l.length - (i + 1))
              case measure => omega
              case rel => exact ⟨i + 1, rfl, by omega, by simp, ⟨HN.out, fun j h hj => by
                rcases Nat.lt_or_ge j i with h3 | h3
                · exact HS.out.2 j h h3
                · have : j = i := by omega
                  subst this
                  exact hee⟩⟩
          · have HE : Bx (validB x = true ∧ Below w.heap.size w wr) := ⟨valid_all HRT.out (fun z hz => by obtain ⟨j, hj, rfl⟩ := List.getElem_of_mem hz; exact HS.out.2 j hj (by omega)), HS.out.1.bel⟩
            clear HS
            go_wp2
            go_ret
            exact ⟨congrArg (fun z => Ending.returned (.bool z)) HE.out.1.symm, HE.out.2⟩
    · have c0 : (x.n != 0) = true := by simpa using n0
      have HV : Bx (validB x = false) := ⟨valid_rt (by rw [HRX.out]; simp [rightI, h4, n0])⟩
      clear h1 h2 h5 h3 h4 n0
      go_enter Try.func13, Try.ntmps13
      go_wp2
      go_ret
      exact ⟨congrArg (fun z => Ending.returned (.bool z)) HV.out.symm, HT0.out.bel⟩
  by_cases h6 : x.k = 6
  · have b1 : (x.k == 1) = false := by simpa using h1
    have b2 : (x.k == 2) = false := by simpa using h2
    have b5 : (x.k == 5) = false := by simpa using h5
    have b3 : (x.k == 3) = false := by simpa using h3
    have b4 : (x.k == 4) = false := by simpa using h4
    have b6 : (x.k == 6) = true := by simpa using h6
    by_cases nn : x.n < 0
    · have HV : Bx (validB x = false) := ⟨valid_rt (by rw [HRX.out]; simp [rightI, h6]; omega)⟩
      have cn : decide (x.n < 0) = true := by simpa using nn
      clear h1 h2 h5 h3 h4 h6 nn
      go_enter Try.func13, Try.ntmps13
      go_wp2
      go_ret
      exact ⟨congrArg (fun z => Ending.returned (.bool z)) HV.out.symm, HT0.out.bel⟩
    have cn : decide (x.n < 0) = false := by simpa using nn
    by_cases n0 : x.n = 0
    · have c0 : (x.n == 0) = true := by simpa using n0
      by_cases l0 : (0 : Int) < (x.l.length : Int)
      · have HV : Bx (validB x = false) := ⟨valid_rt (by rw [HRX.out, h6, n0]; unfold rightI; rw [show ((x.l.length : Int) == 0) = false from beq_eq_false_iff_ne.2 (by omega)]; simp)⟩
        clear h1 h2 h5 h3 h4 h6 n0 nn
        go_enter Try.func13, Try.ntmps13
        go_wp2
        go_ret
        exact ⟨congrArg (fun z => Ending.returned (.bool z)) HV.out.symm, HT0.out.bel⟩
      · have HRT : Bx (rt x = true) := ⟨by rw [HRX.out, h6, n0]; unfold rightI; rw [show ((x.l.length : Int) == 0) = true from beq_iff_eq.2 (by omega)]; simp⟩
        have HL0 : Bx (x.l.length = 0) := ⟨by omega⟩
        clear h1 h2 h5 h3 h4 h6 n0 nn
        go_enter Try.func13, Try.ntmps13
        go_wp2
        try clear l0
        go_loopg [4] x.l.length (fun q v wr => ∃ i : Nat, q = x.l.length - i ∧ i ≤ x.l.length ∧ v = .int .i64 i ∧ Bx (OneB w wr B x p c ∧ ∀ j (h : j < x.l.length), j < i → validB x.l[j] = true))
        case atStart => exact ⟨0, by simp, by omega, rfl, ⟨HT0.out, fun j _ h => by omega⟩⟩
        case round =>
          obtain ⟨i, hq, hil, rfl, HS⟩ := hrel
          clear HT0
          obtain ⟨r0, r1, r2, _, _, _, rl⟩ := c3 HS.out.1.a
          by_cases hlt : i < x.l.length
          · exact absurd hlt (by have := HL0.out; omega)
          · have HE : Bx (validB x = true ∧ Below w.heap.size w wr) := ⟨valid_all HRT.out (fun z hz => by obtain ⟨j, hj, rfl⟩ := List.getElem_of_mem hz; exact HS.out.2 j hj (by omega)), HS.out.1.bel⟩
            clear HS
            go_wp2
            go_ret
            exact ⟨congrArg (fun z => Ending.returned (.bool z)) HE.out.1.symm, HE.out.2⟩
    · have c0 : (x.n == 0) = false := by simpa using n0
      have HRT : Bx (rt x = true) := ⟨by rw [HRX.out]; simp [rightI, h6]; omega⟩
      clear h1 h2 h5 h3 h4 h6 n0 nn
      go_enter Try.func13, Try.ntmps13
      go_wp2
      try clear l0
      go_loopg [4] x.l.length (fun q v wr => ∃ i : Nat, q = x.l.length - i ∧ i ≤ x.l.length ∧ v = .int .i64 i ∧ Bx (OneB w wr B x p c ∧ ∀ j (h : j < x.l.length), j < i → validB x.l[j] = true))
      case atStart => exact ⟨0, by simp, by omega, rfl, ⟨HT0.out, fun j _ h => by omega⟩⟩
      case round =>
        obtain ⟨i, hq, hil, rfl, HS⟩ := hrel
        clear HT0
        obtain ⟨r0, r1, r2, _, _, _, rl⟩ := c3 HS.out.1.a
        by_cases hlt : i < x.l.length
        · obtain ⟨b, o, q1, qc, rfl, hbB, d0, d1, d2, hq1, dk, dn⟩ := HS.out.1.va.at3 i hlt
          have HC : Bx _ := ⟨HIH.out x.l[i] (by have h9 := szs_mem (List.getElem_mem hlt); have := V.sz_eq x; omega) wr B _ ⟨⟨q1, qc, rfl, hq1⟩, dk, dn⟩ (Nat.le_trans hB HS.out.1.bel.size)⟩
          have HE : Bx (validB x.l[i] = false → validB x = false) := ⟨valid_kid (List.getElem_mem hlt)⟩
          clear hq1 dk dn
          cases hee : validB x.l[i]
          · rw [hee] at HC
            go_wp2_with (first | (go_at_call 13; refine Calls.mono HC.out ?_; rintro e w4 ⟨rfl, hb4⟩))
            go_ret
            exact ⟨congrArg (fun z => Ending.returned (.bool z)) (HE.out hee).symm, HS.out.1.bel.trans (hb4.mono HS.out.1.bel.size)⟩
          · rw [hee] at HC
            go_wp2_with (first | (go_at_call 13; refine Calls.mono HC.out ?_; rintro e w4 ⟨rfl, hb4⟩; have HN : Bx _ := ⟨HS.out.1.next hB hb4⟩))
            go_roundg (x.l.length - (i + 1))
            case measure => omega
            case rel => exact ⟨i + 1, rfl, by omega, by simp, ⟨HN.out, fun j h hj => by
              rcases Nat.lt_or_ge j i with h3 | h3
              · exact HS.out.2 j h h3
              · have : j = i := by omega
                subst this
                exact hee⟩⟩
        · have HE : Bx (validB x = true ∧ Below w.heap.size w wr) := ⟨valid_all HRT.out (fun z hz => by obtain ⟨j, hj, rfl⟩ := List.getElem_of_mem hz; exact HS.out.2 j hj (by omega)), HS.out.1.bel⟩
          clear HS
          go_wp2
          go_ret
          exact ⟨congrArg (fun z => Ending.returned (.bool z)) HE.out.1.symm, HE.out.2⟩
  have HV : Bx (validB x = false) := ⟨valid_rt (by rw [HRX.out]; simp [rightI, *])⟩
  have b1 : (x.k == 1) = false := by simpa using h1
  have b2 : (x.k == 2) = false := by simpa using h2
  have b5 : (x.k == 5) = false := by simpa using h5
  have b3 : (x.k == 3) = false := by simpa using h3
  have b4 : (x.k == 4) = false := by simpa using h4
  have b6 : (x.k == 6) = false := by simpa using h6
  clear h1 h2 h5 h3 h4 h6
  go_enter Try.func13, Try.ntmps13
  go_wp2
  go_ret
  exact ⟨congrArg (fun z => Ending.returned (.bool z)) HV.out.symm, HT0.out.bel⟩

theorem rvalid_any (w : World) (B : Nat) (v : Value) (x : V) (hv : IsV w B v x) (hB : B ≤ w.heap.size) : Calls Try.prog 13 #[v] w fun e w' => e = .returned (.bool (validB x)) ∧ Below w.heap.size w w' := by
  have key : ∀ N : Nat, ∀ (x : V), x.sz ≤ N → ∀ (w : World) (B : Nat) (v : Value), IsV w B v x → B ≤ w.heap.size → Calls Try.prog 13 #[v] w fun e w' => e = .returned (.bool (validB x)) ∧ Below w.heap.size w w' := by
    intro N
    induction N with
    | zero => intro x h; have := x.sz_pos; omega
    | succ N ih => intro x h w B v hv hB; exact rvalid_rec (N + 1) (fun x' h' => ih x' (by omega)) w B v x hv hB h
  exact key x.sz x (Nat.le_refl _) w B v hv hB
end Go.Proofs.Ytdhgmeklphcbhaa
