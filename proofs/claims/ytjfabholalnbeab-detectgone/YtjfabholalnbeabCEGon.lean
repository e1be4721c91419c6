import Derived.Test.YtjfabholalnbeabCEZg
namespace Go.Proofs.Ytjfabholalnbeab
open Go.RowKit
set_option linter.unusedVariables false
set_option linter.unusedSimpArgs false

/-! ### THE DEAD TAKEN OUT -/
/-- what Chain tells, by the whole of the ways -/
theorem chain_full {w : World} {s : List Ag} (hok : stOk s = true) {id : Int} {Z : Int → Option Wy} (hZ : Full s Z) {e : Ending} {w' : World} (h : ChPost w s id e w') :
    (Z id = none ∧ e = .returned (.tuple #[.slice none 0 0, .bool false]) ∨ ∃ (n : Nat) (l : Lk) (q : Option Addr) (d : Nat), Z id = some ((n : Int), l) ∧ e = .returned (.tuple #[.slice q (chL Z n ((n : Int), l)).length d, .bool true]) ∧ LksR w' q d (chL Z n ((n : Int), l))) ∧ Below w.heap.size w w' := by
  obtain ⟨Y, hF, hc, hb⟩ := h
  obtain ⟨k1, k2⟩ := fdr_full hF hZ
  refine ⟨?_, hb⟩
  rcases hc with ⟨hn, rfl⟩ | ⟨n, l, q, d, hY, hn1, hn2, rfl, hL⟩
  · exact .inl ⟨by rw [← k2]; exact hn, rfl⟩
  · have e := chain_same (fdr_ways hok hF) k1 hY hn1
    rw [e] at hL ⊢
    exact .inr ⟨n, l, q, d, k1 _ _ hY, rfl, hL⟩
set_option maxRecDepth 100000 in
set_option maxHeartbeats 1500000 in
theorem gon_yes (w : World) (p : Option Addr) (c : Nat) (s : List Ag) (hs : AgsR w p c s) (hz : Lists s) (hsl : s.length ≤ 1152921504606846976) (ht : totA s ≤ 2147483647) (h3 : s.length ≤ 300) (hok : stOk s = true) :
    Calls Try.prog 5 #[.slice p s.length c] w fun e w' => e = .returned (.bool true) ∧ Below w.heap.size w w' := by
  have hlc := hs.len
  have hcm := hs.max
  unfold maxLen at hcm
  have HH : Bx _ := ⟨heavy_no hs hz hsl ht⟩
  have HS : Bx (AgsR w p c s ∧ stOk s = true ∧ totA s ≤ 2147483647) := ⟨hs, hok, ht⟩
  clear hs hz hok ht
  go_enter Try.func5, Try.ntmps5
  go_wp2_with (first
    | (go_at_call 8; refine Calls.mono HH.out ?_; rintro e w1 ⟨rfl, hb1⟩; have B1 : Bx (Below w.heap.size w w1) := ⟨hb1⟩; clear hb1)
    | (go_at_call 9; refine Calls.mono (shown15_any _) ?_; rintro e w2 ⟨rfl, hb2⟩; have B2 : Bx (Below w.heap.size w w2) := ⟨blw B1.out hb2⟩; clear hb2)
    | (go_at_call 10; clear HH; refine Calls.mono (Dead_yes w2 p c s (HS.out.1.later B2.out) HS.out.2.2 HS.out.2.1) ?_; rintro e w3 ⟨Z, dq, dd, hZ, rfl, hI, hb3⟩; have I3 : Bx (IntsR w3 dq dd (ddL Z s) ∧ Below w.heap.size w w3 ∧ Full s Z) := ⟨hI, blw B2.out hb3, hZ⟩; clear hI hb3 hZ)
    | (go_at_call 20; refine Calls.mono (without_any w3 p c s (HS.out.1.later I3.out.2.1) (by omega) dq dd (ddL Z s) I3.out.1) ?_; rintro e w4 ⟨rp, rc, rfl, hr, hb4⟩; have I4 : Bx (AgsR w4 rp rc (s.filter (gone (ddL Z s))) ∧ Below w.heap.size w w4 ∧ Full (s.filter (gone (ddL Z s))) Z ∧ stOk (s.filter (gone (ddL Z s))) = true ∧ totA (s.filter (gone (ddL Z s))) ≤ 2147483647) := ⟨hr, blw I3.out.2.1 hb4, full_rest HS.out.2.1 I3.out.2.2, rest_ok _ HS.out.2.1, Nat.le_trans (rest_tot _ s) HS.out.2.2⟩; have hrl := hr.len; have hrm := hr.max; unfold maxLen at hrm; have hrn := List.length_filter_le (gone (ddL Z s)) s; have HDR : Bx (ddL Z (s.filter (gone (ddL Z s))) = []) := ⟨dead_rest⟩; have HMS : Bx (∀ a ∈ s.filter (gone (ddL Z s)), a ∈ s) := ⟨fun a ha => (List.mem_filter.1 ha).1⟩; clear hr hb4; generalize s.filter (gone (ddL Z s)) = r at *)
    | (go_at_call 10; refine Calls.mono (Dead_yes w4 rp rc r I4.out.1 I4.out.2.2.2.2 I4.out.2.2.2.1) ?_; rintro e w5 ⟨Z2, q5, d5, hZ2, rfl, hI5, hb5⟩; obtain rfl := full_det I4.out.2.2.1 hZ2; rw [HDR.out]; have B5 : Bx (Below w4.heap.size w4 w5) := ⟨hb5⟩; clear hI5 hb5 hZ2))
  go_loopg [51] (r.length + 1) (fun g v51 wr => ∃ i : Nat, g = r.length + 1 - i ∧ i ≤ r.length ∧ v51 = .int .i64 (i : Nat) ∧ Bx (Below w4.heap.size w4 wr))
  case atStart => exact ⟨0, by simp, by omega, rfl, B5⟩
  case round =>
    obtain ⟨i, hg, hil, rfl, HR⟩ := hrel
    by_cases hlt : i < r.length
    · obtain ⟨b, o, ap, ac, hp, hc, rfl, hA, hcl⟩ := I4.out.1.at_ i hlt
      have hbw := blw I4.out.2.1 HR.out
      obtain ⟨c0, c1, c2, c3⟩ := hcl wr HR.out
      have hid := hA.id
      clear hcl hA
      generalize r[i] = a at *
      obtain ⟨X, hX⟩ : ∃ X, wr.alloc (.cells #[.int .i64 a.id, .bool a.awake, .slice ap a.arms.length ac, .slice hp a.held.length hc] 32) = X := ⟨_, rfl⟩
      have hbX : Below wr.heap.size wr X := by rw [← hX]; exact below1 _ _
      have hkX : X.heap[wr.heap.size]? = some (.cells #[.int .i64 a.id, .bool a.awake, .slice ap a.arms.length ac, .slice hp a.held.length hc] 32 (0, 0)) := by rw [← hX]; exact World.alloc_heap_new _ _
      have HCE : Bx (∀ V, Below X.heap.size X V → V.cell? ⟨wr.heap.size, 0, none⟩ = some (.int .i64 a.id)) := ⟨fun V hV => by
        have e := (hV.block _ (Array.getElem?_eq_some_iff.1 hkX).1).trans hkX
        exact cell_of e rfl⟩
      have d0 := HCE.out X (Below.refl _ _)
      have HXE : Bx (_ = X) := ⟨hX⟩
      have BX : Bx (Below w4.heap.size w4 X ∧ Below w.heap.size w X) := ⟨blw HR.out hbX, blw hbw hbX⟩
      have HC1 : Bx (Calls Try.prog 12 #[.slice p s.length c, .int .i64 a.id] X (ChPost X s a.id)) := ⟨Chain_yes X _ c s a.id (HS.out.1.later BX.out.2) HS.out.2.2 hid HS.out.2.1⟩
      have HC2 : Bx (∀ V, Below X.heap.size X V → Calls Try.prog 12 #[.slice (some ⟨b, o, none⟩) r.length rc, .int .i64 a.id] V (ChPost V r a.id)) := ⟨fun V hV => Chain_yes V _ rc r a.id (I4.out.1.later (blw BX.out.1 hV)) I4.out.2.2.2.2 hid I4.out.2.2.2.1⟩
      rw [← hX] at d0
      clear hX hbX hkX hbw HR
      go_wp2_with (first | (go_at_call 12; rw [HXE.out]; refine Calls.mono HC1.out ?_))
      rintro e w6 h6
      obtain ⟨h6, hb6⟩ := chain_full HS.out.2.1 I3.out.2.2 h6
      have e0 := HCE.out w6 hb6
      have B6 : Bx (Below X.heap.size X w6) := ⟨hb6⟩
      have HC3 : Bx _ := ⟨HC2.out w6 hb6⟩
      clear HC1 HC2 HXE d0 c0 c1 c2 c3 hb6
      rcases h6 with ⟨hn, rfl⟩ | ⟨n, l, q, d, hY, rfl, hL⟩
      · go_wp2_with (first | (go_at_call 12; refine Calls.mono HC3.out ?_))
        rintro e w7 h7
        obtain ⟨h7, hb7⟩ := chain_full I4.out.2.2.2.1 I4.out.2.2.1 h7
        rcases h7 with ⟨_, rfl⟩ | ⟨n, l, q, d, hY, _⟩
        · have HNN : Bx (LksR w7 none 0 []) := ⟨⟨by simp, by simp [maxLen], fun i hi => by cases hi⟩⟩
          have B7 : Bx (Below X.heap.size X w7) := ⟨blw B6.out hb7⟩
          clear hb7
          go_wp2_with (first | (go_at_call 21; refine Calls.mono (chains_yes w7 none none 0 0 [] HNN.out HNN.out) ?_; rintro e w8 ⟨rfl, k8, hk8⟩; have B8 : Bx (Below w7.heap.size w7 w8) := ⟨by rw [hk8]; exact below_drewN (Below.refl _ _) _⟩; clear hk8))
          go_roundg (r.length + 1 - (i + 1))
          case measure => omega
          case rel => exact ⟨i + 1, rfl, by omega, by simp, ⟨blw BX.out.1 (blw B7.out B8.out)⟩⟩
        · rw [hn] at hY; cases hY
      · go_wp2_with (first | (go_at_call 12; refine Calls.mono HC3.out ?_))
        rintro e w7 h7
        obtain ⟨h7, hb7⟩ := chain_full I4.out.2.2.2.1 I4.out.2.2.1 h7
        rcases h7 with ⟨hn, _⟩ | ⟨n2, l2, q2, d2, hY2, rfl, hL2⟩
        · rw [hn] at hY; cases hY
        · rw [hY] at hY2
          have hnn : n2 = n ∧ l2 = l := by
            have h1 := Option.some.inj hY2
            have h2 := congrArg Prod.fst h1
            have h3 := congrArg Prod.snd h1
            simp only at h2 h3
            exact ⟨by omega, h3.symm⟩
          obtain ⟨rfl, rfl⟩ := hnn
          have HLL : Bx (LksR w7 q d (chL Z n2 ((n2 : Int), l2)) ∧ LksR w7 q2 d2 (chL Z n2 ((n2 : Int), l2))) := ⟨hL.later hb7, hL2⟩
          have B7 : Bx (Below X.heap.size X w7) := ⟨blw B6.out hb7⟩
          clear hb7 hL hL2 hY hY2
          generalize chL Z n2 ((n2 : Int), l2) = L at *
          go_wp2_with (first | (go_at_call 21; refine Calls.mono (chains_yes w7 q q2 d d2 L HLL.out.1 HLL.out.2) ?_; rintro e w8 ⟨rfl, k8, hk8⟩; have B8 : Bx (Below w7.heap.size w7 w8) := ⟨by rw [hk8]; exact below_drewN (Below.refl _ _) _⟩; clear hk8))
          go_roundg (r.length + 1 - (i + 1))
          case measure => omega
          case rel => exact ⟨i + 1, rfl, by omega, by simp, ⟨blw BX.out.1 (blw B7.out B8.out)⟩⟩
    · have hie : i = r.length := by omega
      subst hie
      go_wp2
      go_ret
      exact ⟨rfl, blw I4.out.2.1 HR.out⟩
end Go.Proofs.Ytjfabholalnbeab
namespace Go.Proofs.Ytjfabholalnbeab
open Go.RowKit
set_option linter.unusedVariables false
set_option linter.unusedSimpArgs false

set_option maxRecDepth 100000 in
set_option maxHeartbeats 1500000 in
theorem gon_walk (w : World) (p : Option Addr) (c : Nat) (s : List Ag) (hs : AgsR w p c s) (hz : Lists s) (hsl : s.length ≤ 1152921504606846976) :
    Calls Try.prog 5 #[.slice p s.length c] w fun e w' => e = .returned (.bool true) ∧ Below w.heap.size w w' := by
  by_cases ht : totA s ≤ 2147483647
  · by_cases h3 : s.length ≤ 300
    · cases hok : stOk s with
      | true => exact gon_yes w p c s hs hz hsl ht h3 hok
      | false =>
        have HH : Bx _ := ⟨heavy_no hs hz hsl ht⟩
        have HD : Bx (∀ W, Below w.heap.size w W → Calls Try.prog 10 #[.slice p s.length c] W fun e w' => e = .returned (.tuple #[.slice none 0 0, .int .i64 140]) ∧ Below W.heap.size W w') := ⟨fun W hW => Dead_no W p c s (hs.later hW) ht hok⟩
        have HC : Bx (∀ W, Below w.heap.size w W → Calls Try.prog 11 #[.slice p s.length c] W fun e w' => e = .returned (.int .i64 140) ∧ Below W.heap.size W w') := ⟨fun W hW => Check_no (hs.later hW) ht hok⟩
        clear hs hz hok ht
        go_enter Try.func5, Try.ntmps5
        go_wp2_with (first
          | (go_at_call 8; refine Calls.mono HH.out ?_; rintro e w1 ⟨rfl, hb1⟩; have B1 : Bx (Below w.heap.size w w1) := ⟨hb1⟩; clear hb1)
          | (go_at_call 9; refine Calls.mono (shown15_any _) ?_; rintro e w2 ⟨rfl, hb2⟩; have B2 : Bx (Below w.heap.size w w2) := ⟨blw B1.out hb2⟩; clear hb2)
          | (go_at_call 10; refine Calls.mono (HD.out w2 B2.out) ?_; rintro e w3 ⟨rfl, hb3⟩; have B3 : Bx (Below w.heap.size w w3) := ⟨blw B2.out hb3⟩; clear hb3)
          | (go_at_call 11; refine Calls.mono (HC.out w3 B3.out) ?_; rintro e w4 ⟨rfl, hb4⟩; have B4 : Bx (Below w.heap.size w w4) := ⟨blw B3.out hb4⟩; clear hb4))
        go_ret
        exact ⟨rfl, B4.out⟩
    · have HH : Bx _ := ⟨heavy_no hs hz hsl ht⟩
      clear hs hz ht
      go_enter Try.func5, Try.ntmps5
      go_wp2_with (first
        | (go_at_call 8; refine Calls.mono HH.out ?_; rintro e w1 ⟨rfl, hb1⟩; have B1 : Bx (Below w.heap.size w w1) := ⟨hb1⟩; clear hb1))
      go_ret
      exact ⟨rfl, B1.out⟩
  · have HH : Bx _ := ⟨heavy_yes hs hz hsl ht⟩
    clear hs hz ht
    go_enter Try.func5, Try.ntmps5
    go_wp2_with (first
      | (go_at_call 8; refine Calls.mono HH.out ?_; rintro e w1 ⟨rfl, hb1⟩; have B1 : Bx (Below w.heap.size w w1) := ⟨hb1⟩; clear hb1))
    go_ret
    exact ⟨rfl, B1.out⟩
end Go.Proofs.Ytjfabholalnbeab
