import Derived.Test.YtjabdhmkibahlaaCEWa
namespace Go.Proofs.Ytjabdhmkibahlaa
open Go.RowKit
set_option linter.unusedVariables false
set_option linter.unusedSimpArgs false

set_option maxRecDepth 100000 in
set_option maxHeartbeats 8000000 in
theorem dead_light (w : World) (p : Option Addr) (c : Nat) (s : List Ag) (hs : AgsR w p c s) (hz : Lists s) (hsl : s.length ≤ 1152921504606846976) (ht : totA s ≤ 2147483647) (id : Int) (hid : I64 id) :
    Calls Try.prog 5 #[.slice p s.length c, .int .i64 id] w fun e w' => e = .returned (.bool true) ∧ Below w.heap.size w w' := by
  obtain ⟨D, en, ch, ok, hA⟩ := ans_of s w p c hs ht
  have HA : Bx _ := ⟨hA⟩
  have HS : Bx (AgsR w p c s) := ⟨hs⟩
  have HH : Bx _ := ⟨heavy7_no hs hz hsl ht⟩
  have HT : Bx (totA s ≤ 2147483647) := ⟨ht⟩
  have hlc := hs.len
  have hcm := hs.max
  unfold maxLen at hcm
  have hln : s.length ≤ 2147483647 := Nat.le_trans (len_totA s) ht
  have hDl := hA.len
  obtain ⟨nD, hnD⟩ : ∃ nD, nD = D.length := ⟨_, rfl⟩
  have HND : Bx (nD = D.length) := ⟨hnD⟩
  clear hA hs hz ht hnD hsl
  go_enter Try.func5, Try.ntmps5
  go_wp2_with (first
    | (go_at_call 22; refine Calls.mono HH.out ?_; rintro e w1 ⟨rfl, hb1⟩; have B1 : Bx (Below w.heap.size w w1) := ⟨hb1⟩; clear hb1 HH)
    | (go_at_call 23; refine Calls.mono (shown15_any _) ?_; rintro e w2 ⟨rfl, hb2⟩; have B2 : Bx (Below w.heap.size w w2) := ⟨B1.out.trans (hb2.mono B1.out.size)⟩; clear hb2)
    | (go_at_call 24; refine Calls.mono (lent7_any w2 p c s (HS.out.later B2.out) HT.out) ?_; rintro e w3 ⟨ga, gc, rfl, HL⟩; have B3 : Bx (Below w.heap.size w w3) := ⟨B2.out.trans (HL.out.1.mono B2.out.size)⟩; have HO : Bx (Own7 w3 ga gc s) := ⟨HL.out.2⟩; clear HL))
  go_at_call 25
  refine Calls.mono (HA.out.dead w3 _ _ HO.out.read) ?_
  rintro e w4 ⟨qa, da, rfl, ha1, ha2, ha3⟩
  have HA4 : Bx (IntsR w4 qa da D ∧ Below w3.heap.size w3 w4 ∧ w4.ownsRow w3.heap.size 3 1 (.slice qa D.length da) D.length (rowC D)) := ⟨ha1, ha2, ha3⟩
  clear ha1 ha2 ha3
  go_wp2_with fail
  go_at_call 25
  refine Calls.mono (HA.out.dead w4 _ _ (HO.out.later HA4.out.2.1).read) ?_
  rintro e w5 ⟨qb, db, rfl, ha1, ha2, ha3⟩
  have HA5 : Bx (IntsR w5 qb db D ∧ Below w4.heap.size w4 w5 ∧ w5.ownsRow w4.heap.size 3 1 (.slice qb D.length db) D.length (rowC D)) := ⟨ha1, ha2, ha3⟩
  clear ha1 ha2 ha3
  go_wp2_with fail
  go_at_call 26
  have B5 : Bx (Below w3.heap.size w3 w5) := ⟨HA4.out.2.1.trans (HA5.out.2.1.mono HA4.out.2.1.size)⟩
  refine Calls.mono (HA.out.rdead w5 _ _ (HS.out.later (blz B3.out B5.out))) ?_
  rintro e w6 ⟨qw, dw, rfl, ha1, ha2, ha3⟩
  have HA6 : Bx (IntsR w6 qw dw D ∧ Below w5.heap.size w5 w6 ∧ w6.ownsRow w5.heap.size 3 1 (.slice qw D.length dw) D.length (rowC D)) := ⟨ha1, ha2, ha3⟩
  clear ha1 ha2 ha3
  have B6 : Bx (Below w3.heap.size w3 w6) := ⟨blz B5.out HA6.out.2.1⟩
  go_wp2_with fail
  go_at_call 27
  refine Calls.mono (HA.out.chain w6 _ _ id (HO.out.later B6.out).read hid) ?_
  rintro e w7 ⟨qc, dc, rfl, ha1, ha2, ha3⟩
  have HA7 : Bx (LksR w7 qc dc (ch id) ∧ Below w6.heap.size w6 w7 ∧ w7.ownsRow w6.heap.size 24 3 (.slice qc (ch id).length dc) (ch id).length (lksC (ch id))) := ⟨ha1, ha2, ha3⟩
  clear ha1 ha2 ha3
  have B7 : Bx (Below w3.heap.size w3 w7) := ⟨blz B6.out HA7.out.2.1⟩
  go_wp2_with fail
  go_at_call 28
  refine Calls.mono (HA.out.rchain w7 _ _ id (HS.out.later (blz B3.out B7.out)) hid) ?_
  rintro e w8 ⟨qx, dx, rfl, ha1, ha2⟩
  have HA8 : Bx (LksR w8 qx dx (ch id) ∧ Below w7.heap.size w7 w8) := ⟨ha1, ha2⟩
  clear ha1 ha2
  have B8 : Bx (Below w3.heap.size w3 w8) := ⟨blz B7.out HA8.out.2⟩
  have HN1 : Bx (Calls Try.prog 29 #[.slice qa D.length da, .slice qw D.length dw] w8 fun e w' => e = .returned (.bool true) ∧ Below w8.heap.size w8 w') := ⟨by
    have hb6 : Below w6.heap.size w6 w8 := blz HA7.out.2.1 HA8.out.2
    have hb4 : Below w4.heap.size w4 w8 := blz HA5.out.2.1 (blz HA6.out.2.1 hb6)
    refine (numbers_yes w8 qa qw da dw D (HA4.out.1.later hb4) (HA6.out.1.later hb6)).mono ?_
    rintro e w' ⟨rfl, k, rfl⟩
    exact ⟨rfl, below_drewN (Below.refl _ _) _⟩⟩
  have HN2 : Bx (∀ W, Below w8.heap.size w8 W → Calls Try.prog 29 #[.slice qb D.length db, .slice qw D.length dw] W fun e w' => e = .returned (.bool true) ∧ Below W.heap.size W w') := ⟨fun W hW => by
    have hb6 : Below w6.heap.size w6 W := blz HA7.out.2.1 (blz HA8.out.2 hW)
    have hb5 : Below w5.heap.size w5 W := blz HA6.out.2.1 hb6
    refine (numbers_yes W qb qw db dw D (HA5.out.1.later hb5) (HA6.out.1.later hb6)).mono ?_
    rintro e w' ⟨rfl, k, rfl⟩
    exact ⟨rfl, below_drewN (Below.refl _ _) _⟩⟩
  have HN3 : Bx (∀ W, Below w8.heap.size w8 W → Calls Try.prog 30 #[.slice qc (ch id).length dc, .slice qx (ch id).length dx] W fun e w' => e = .returned (.bool true) ∧ Below W.heap.size W w') := ⟨fun W hW => by
    have hb7 : Below w7.heap.size w7 W := blz HA8.out.2 hW
    refine (chains_yes W qc qx dc dx (ch id) (HA7.out.1.later hb7) (HA8.out.1.later hW)).mono ?_
    rintro e w' ⟨rfl, k, rfl⟩
    exact ⟨rfl, below_drewN (Below.refl _ _) _⟩⟩
  have HN4 : Bx (∀ W, Below w8.heap.size w8 W → Calls Try.prog 31 #[.slice (some ⟨ga, 0, none⟩) s.length gc, .slice p s.length c] W fun e w' => e = .returned (.bool true) ∧ Below W.heap.size W w') := ⟨fun W hW => still7_any W ga gc s (HO.out.later (blz B8.out hW)) p c (HS.out.later (blz B3.out (blz B8.out hW))) hln fun i hi => by
    have := arm_totA s i hi
    have := HT.out
    omega⟩
  go_wp2_with fail
  go_at_call 29
  refine Calls.mono HN1.out ?_
  rintro e w9 ⟨rfl, hb9⟩
  have B9 : Bx (Below w8.heap.size w8 w9) := ⟨hb9⟩
  clear hb9
  go_wp2_with fail
  go_at_call 29
  refine Calls.mono (HN2.out w9 B9.out) ?_
  rintro e w10 ⟨rfl, hb9⟩
  have B10 : Bx (Below w8.heap.size w8 w10) := ⟨blz B9.out hb9⟩
  clear hb9
  generalize hokI : ok id = okb
  have HOKE : Bx (ok id = okb) := ⟨hokI⟩
  clear hokI
  go_wp2_with (first
    | (go_at_call 30; refine Calls.mono (HN3.out w10 B10.out) ?_; rintro e w11 ⟨rfl, hb9⟩; have B11 : Bx (Below w8.heap.size w8 w11) := ⟨blz B10.out hb9⟩; clear hb9)
    | (go_at_call 31; refine Calls.mono (HN4.out w11 B11.out) ?_; rintro e w12 ⟨rfl, hb9⟩; have B12 : Bx (Below w8.heap.size w8 w12) := ⟨blz B11.out hb9⟩; clear hb9))
  obtain ⟨m, hm⟩ : ∃ m, (ch id).length = m := ⟨_, rfl⟩
  have hml : m ≤ 4097 := by rw [← hm]; exact HA.out.clen id
  have H3 : Bx (Below w3.heap.size w3 w12) := ⟨blz B8.out B12.out⟩
  have HW0 : Bx (∃ xa : List Int, xa.length = D.length ∧ Wr7 w3 w12 w3.heap.size (.slice qa D.length da) (.slice qb D.length db) (.slice qc m dc) (.slice qw D.length dw) xa D D (ch id)) := ⟨D, rfl, by
    rw [← hm]
    have hb6 : Below w6.heap.size w6 w12 := blz HA7.out.2.1 (blz HA8.out.2 B12.out)
    have hb5 : Below w5.heap.size w5 w12 := blz HA6.out.2.1 hb6
    have hb4 : Below w4.heap.size w4 w12 := blz HA5.out.2.1 hb5
    have hb7 : Below w7.heap.size w7 w12 := blz HA8.out.2 B12.out
    have s4 := HA4.out.2.1.size
    have s5 := HA5.out.2.1.size
    have s6 := B6.out.size
    refine ⟨own_new HA4.out.2.2 hb4, own_low (own_new HA5.out.2.2 hb5) s4, own_low (own_new HA7.out.2.2 hb7) s6, own_low (own_new HA6.out.2.2 hb6) (Nat.le_trans s4 s5), fun g h1 h2 => ?_, fun g h1 h2 => ?_, fun g h1 h2 => ?_, H3.out, H3.out.size⟩
    · have := (owns_block HA4.out.2.2 h1).2
      have := (owns_block HA5.out.2.2 h2).1
      omega
    · have := (owns_block HA4.out.2.2 h1).2
      have := (owns_block HA6.out.2.2 h2).1
      omega
    · have := (owns_block HA5.out.2.2 h1).2
      have := (owns_block HA6.out.2.2 h2).1
      omega⟩
  have HCM : Bx ((ch id).length = m) := ⟨hm⟩
  have hda : D.length ≤ da := HA4.out.1.len
  rw [hm]
  clear hm HN1 HN2 HN3 HN4 HA4 HA5 HA6 HA7 HA8 B5 B6 B7 B8 B9 B10 B11 B12
  go_loopg [92] (D.length + 1) (fun g v92 wr => ∃ i : Nat, g = D.length + 1 - i ∧ i ≤ D.length ∧ v92 = .int .i64 i ∧ Bx (∃ xa : List Int, xa.length = D.length ∧ Wr7 w3 wr w3.heap.size (.slice qa D.length da) (.slice qb D.length db) (.slice qc m dc) (.slice qw D.length dw) xa D D (ch id)))
  case atStart => exact ⟨0, by simp, by omega, rfl, HW0⟩
  case round =>
    obtain ⟨i, hg, hil, rfl, HI⟩ := hrel
    clear HW0
    by_cases hlt : i < D.length
    · obtain ⟨xa, hxa, hW⟩ := HI.out
      obtain ⟨g, cc, e, hcc, ⟨y, hy⟩, hf, hW2⟩ := hW.setA (i := i) (by omega) (-9)
      simp only [Value.slice.injEq] at e
      obtain ⟨rfl, -, rfl⟩ := e
      have HN : Bx (∃ xa : List Int, xa.length = D.length ∧ Wr7 w3 (wr.setCell ⟨g, i, none⟩ (.int .i64 (-9))) w3.heap.size (.slice (some ⟨g, 0, none⟩) D.length da) (.slice qb D.length db) (.slice qc m dc) (.slice qw D.length dw) xa D D (ch id)) := ⟨_, by rw [List.length_set]; exact hxa, hW2⟩
      have hiI : (i : Int) < (D.length : Int) := by omega
      have hi0 : (0 : Int) ≤ (i : Int) := by omega
      clear HI hxa hW hW2 hcc HA HS HO HT
      go_wp2
      go_roundg (D.length + 1 - (i + 1))
      case measure => omega
      case rel => exact ⟨i + 1, rfl, by omega, by simp, HN⟩
    · have hie : i = D.length := by omega
      have hDL : Bx (i = D.length) := ⟨hie⟩
      clear hie
      go_wp2_with fail
      go_loopg [101] (m + 1) (fun g v101 wr => ∃ i : Nat, g = m + 1 - i ∧ i ≤ m ∧ v101 = .int .i64 i ∧ Bx (∃ (xa : List Int) (xc : List Lk), xa.length = D.length ∧ xc.length = m ∧ Wr7 w3 wr w3.heap.size (.slice qa D.length da) (.slice qb D.length db) (.slice qc m dc) (.slice qw D.length dw) xa D D xc))
      case atStart => exact ⟨0, by simp, by omega, rfl, ⟨by obtain ⟨xa, h1, h2⟩ := HI.out; exact ⟨xa, ch id, h1, HCM.out, h2⟩⟩⟩
      case round =>
        obtain ⟨k, hgk, hkl, rfl, HK⟩ := hrel
        clear HI
        by_cases hlk : k < m
        · obtain ⟨xa, xc, hxa, hxc, hW⟩ := HK.out
          obtain ⟨g, cc, e, hcc, hth, hW2⟩ := hW.setC (i := k) (by omega) ⟨-9, 0, 0⟩
          simp only [Value.slice.injEq] at e
          obtain ⟨rfl, -, rfl⟩ := e
          simp only at hW2
          obtain ⟨W5, hW5⟩ : ∃ W5, wr.setCells g (k * 3) [.int .i64 (-9), .int .i64 0, .int .i64 0] = W5 := ⟨_, rfl⟩
          rw [hW5] at hW2
          have HN : Bx (∃ (xa : List Int) (xc : List Lk), xa.length = D.length ∧ xc.length = m ∧ Wr7 w3 W5 w3.heap.size (.slice qa D.length da) (.slice qb D.length db) (.slice (some ⟨g, 0, none⟩) m dc) (.slice qw D.length dw) xa D D xc) := ⟨_, _, hxa, by rw [List.length_set]; exact hxc, hW2⟩
          have hkI : (k : Int) < (m : Int) := by omega
          have hk0 : (0 : Int) ≤ (k : Int) := by omega
          have hmc : m ≤ dc := by omega
          clear HK hxa hxc hW hW2 hcc HA HS HO HT
          go_wp2_with (first | (refine wpList_put3v rfl (.tmp 107) (.tmp 106) rfl g (k * 3) (-9) 0 0 rfl rfl hth hW5 ?_))
          go_roundg (m + 1 - (k + 1))
          case measure => omega
          case rel => exact ⟨k + 1, rfl, by omega, by simp, HN⟩
        · have hke : ¬ ((k : Int) < (m : Int)) := by omega
          clear hlk
          have HL0 : Bx (∃ (xa : List Int) (xc : List Lk), xa.length = D.length + 0 ∧ xc.length = m + 0 ∧ Wr7 w3 wr w3.heap.size (.slice qa D.length da) (.slice qb D.length db) (.slice qc m dc) (.slice qw D.length dw) xa (D ++ List.replicate 0 (-8)) D xc) := ⟨by obtain ⟨xa, xc, h1, h2, h3⟩ := HK.out; exact ⟨xa, xc, h1, h2, by rw [List.replicate_zero, List.append_nil]; exact h3⟩⟩
          clear HK
          go_wp2_with fail
          go_loopg [6, 8, 12, 109] 10 (fun g v6 v8 v12 v109 wr => ∃ (j : Nat) (x6 x8 x12 : Value), g = 10 - j ∧ j ≤ 9 ∧ x6 = v6 ∧ x8 = v8 ∧ x12 = v12 ∧ v109 = .int .i64 j ∧ Bx (∃ (xa : List Int) (xc : List Lk), xa.length = D.length + j ∧ xc.length = m + j ∧ Wr7 w3 wr w3.heap.size x6 x8 x12 (.slice qw D.length dw) xa (D ++ List.replicate j (-8)) D xc))
          case atStart => exact ⟨0, _, _, _, rfl, by omega, rfl, rfl, rfl, rfl, HL0⟩
          case round =>
            obtain ⟨j, x6, x8, x12, hgj, hj9, rfl, rfl, rfl, rfl, HJ⟩ := hrel
            clear HL0
            by_cases hlj : j < 9
            · obtain ⟨xa, xc, hxa, hxc, hW⟩ := HJ.out
              obtain ⟨na, hna⟩ : ∃ na, na = xa.length := ⟨_, rfl⟩
              obtain ⟨nb, hnb⟩ : ∃ nb, nb = (D ++ List.replicate j (-8 : Int)).length := ⟨_, rfl⟩
              obtain ⟨nc, hnc⟩ : ∃ nc, nc = xc.length := ⟨_, rfl⟩
              have hnb2 : nb = D.length + j := by rw [hnb]; simp
              obtain ⟨g1, c1, W1, r1, hW1⟩ := hW.addA (-9) na hna (by omega)
              obtain ⟨g2, c2, W2, r2, hW2⟩ := hW1.addB (-8) nb hnb (by omega)
              obtain ⟨g3, c3, W3, r3, hW3⟩ := hW2.addC ⟨-9, 0, 0⟩ nc hnc (by omega)
              simp only at r3
              have HN : Bx (∃ (xa : List Int) (xc : List Lk), xa.length = D.length + (j + 1) ∧ xc.length = m + (j + 1) ∧ Wr7 w3 W3 w3.heap.size (.slice (some ⟨g1, 0, none⟩) (na + 1) c1) (.slice (some ⟨g2, 0, none⟩) (nb + 1) c2) (.slice (some ⟨g3, 0, none⟩) (nc + 1) c3) (.slice qw D.length dw) xa (D ++ List.replicate (j + 1) (-8)) D xc) := ⟨xa ++ [-9], xc ++ [⟨-9, 0, 0⟩], by rw [List.length_append, hxa, List.length_singleton]; omega, by rw [List.length_append, hxc, List.length_singleton]; omega, by rw [List.replicate_succ', ← List.append_assoc]; exact hW3⟩
              have hjI : (j : Int) < 9 := by omega
              clear HJ hxa hxc hW hW1 hW2 hW3 hna hnb hnc hnb2 HA HS HO HT
              go_wp2_with (first
                | (at_builtin; refine wpList_appI rfl (.tmp 111) (.tmp 112) 45 rfl rfl rfl r1 ?_)
                | (at_builtin; refine wpList_appI rfl (.tmp 114) (.tmp 115) 45 rfl rfl rfl r2 ?_)
                | (at_builtin; refine wpList_appI rfl (.tmp 117) (.tmp 119) 36 rfl rfl rfl r3 ?_))
              go_roundg (10 - (j + 1))
              case measure => omega
              case rel => exact ⟨j + 1, _, _, _, rfl, by omega, rfl, rfl, rfl, by simp, HN⟩
            · have hj9I : ¬ ((j : Int) < 9) := by omega
              obtain rfl : j = 9 := by omega
              obtain ⟨xa, xc, -, -, hW⟩ := HJ.out
              have hlb : (D ++ List.replicate 9 (-8 : Int)).length = D.length + 9 := by simp
              obtain ⟨gb, cb, e8, hcb⟩ := own_some hW.rb (i := 0) (by omega)
              rw [hlb] at e8 hcb
              subst e8
              have hBW := hW.bel
              have HB : Bx (Below w3.heap.size w3 wr) := ⟨hBW⟩
              have HN : Bx (Calls Try.prog 29 #[.slice (some ⟨gb, 0, none⟩) D.length cb, .slice qw D.length dw] wr fun e w' => e = .returned (.bool true) ∧ Below wr.heap.size wr w') := ⟨by
                have h1 := hW.rb
                rw [hlb, show rowC (D ++ List.replicate 9 (-8)) = rowC D ++ rowC (List.replicate 9 (-8)) by simp [rowC]] at h1
                have h2 := ints_read (owns_cut h1 (by rw [rowC_ln, Nat.mul_one]) (by omega)) HA.out.i64
                obtain ⟨q', d', e', h3⟩ := ids_read hW.rw_ HA.out.i64
                simp only [Value.slice.injEq] at e'
                obtain ⟨rfl, -, rfl⟩ := e'
                refine (numbers_yes wr _ _ _ _ D h2 h3).mono ?_
                rintro e w' ⟨rfl, k, rfl⟩
                exact ⟨rfl, below_drewN (Below.refl _ _) _⟩⟩
              have HRW : Bx (∀ W, Below wr.heap.size wr W → IntsR W qw dw D) := ⟨fun W hX => by
                obtain ⟨q', d', e', h3⟩ := ids_read hW.rw_ HA.out.i64
                simp only [Value.slice.injEq] at e'
                obtain ⟨rfl, -, rfl⟩ := e'
                exact h3.later hX⟩
              have hdI : (D.length : Int) ≤ (cb : Int) := by omega
              have hd0 : (0 : Int) ≤ (D.length : Int) := by omega
              clear hW hlb HJ hBW
              go_wp2_with fail
              go_at_call 29
              refine Calls.mono HN.out ?_
              rintro e y1 ⟨rfl, hb9⟩
              have C1 : Bx (Below wr.heap.size wr y1) := ⟨hb9⟩
              clear hb9 HN
              by_cases h0 : 0 < s.length
              · have h0I : (0 : Int) < (s.length : Int) := by omega
                go_wp2_with fail
                go_at_call 32
                refine Calls.mono (among_any y1 id s.length hid (by omega) (by omega)) ?_
                rintro e y2 ⟨⟨jz, hjz, rfl⟩, rfl⟩
                obtain ⟨bz, oz, apz, acz, hpz, hcz, rfl, hAz, hclz⟩ := HS.out.at_ jz hjz
                obtain ⟨kz, _, _, _⟩ := hclz y2 (B3.out.trans ((HB.out.trans (C1.out.mono HB.out.size)).mono B3.out.size))
                have hidz := hAz.id
                have hjI : (jz : Int) < (s.length : Int) := by omega
                have hj0 : (0 : Int) ≤ (jz : Int) := by omega
                clear hAz hclz
                generalize s[jz].id = idz at *
                go_wp2_with fail
                go_at_call 27
                have C2 : Bx (Below w3.heap.size w3 y2) := ⟨HB.out.trans (C1.out.mono HB.out.size)⟩
                refine Calls.mono (HA.out.chain y2 _ _ idz (HO.out.later C2.out).read hidz) ?_
                rintro e y3 ⟨qd, dd, rfl, ha1, ha2, ha3⟩
                have HD3 : Bx (LksR y3 qd dd (ch idz)) := ⟨ha1⟩
                have C3 : Bx (Below w3.heap.size w3 y3 ∧ Below wr.heap.size wr y3 ∧ Below y2.heap.size y2 y3) := ⟨blz C2.out ha2, blz C1.out ha2, ha2⟩
                clear ha1 ha2 ha3
                go_wp2_with fail
                go_at_call 28
                refine Calls.mono (HA.out.rchain y3 _ _ idz (HS.out.later (blz B3.out C3.out.1)) hidz) ?_
                rintro e y4 ⟨qe, de, rfl, ha1, ha2⟩
                have HD4 : Bx (LksR y4 qe de (ch idz) ∧ LksR y4 qd dd (ch idz)) := ⟨ha1, HD3.out.later ha2⟩
                have C4 : Bx (Below w3.heap.size w3 y4 ∧ Below wr.heap.size wr y4) := ⟨blz C3.out.1 ha2, blz C3.out.2.1 ha2⟩
                clear ha1 ha2
                go_wp2_with fail
                go_at_call 25
                refine Calls.mono (HA.out.dead y4 _ _ (HO.out.later C4.out.1).read) ?_
                rintro e y5 ⟨qf, df, rfl, ha1, ha2, ha3⟩
                have C5 : Bx (Below w3.heap.size w3 y5 ∧ Below wr.heap.size wr y5) := ⟨blz C4.out.1 ha2, blz C4.out.2 ha2⟩
                have HM1 : Bx (Calls Try.prog 30 #[.slice qd (ch idz).length dd, .slice qe (ch idz).length de] y5 fun e w' => e = .returned (.bool true) ∧ Below y5.heap.size y5 w') := ⟨by
                  refine (chains_yes y5 qd qe dd de (ch idz) (HD4.out.2.later ha2) (HD4.out.1.later ha2)).mono ?_
                  rintro e w' ⟨rfl, k, rfl⟩
                  exact ⟨rfl, below_drewN (Below.refl _ _) _⟩⟩
                have HM2 : Bx (∀ W, Below y5.heap.size y5 W → Calls Try.prog 29 #[.slice qf D.length df, .slice qw D.length dw] W fun e w' => e = .returned (.bool true) ∧ Below W.heap.size W w') := ⟨fun W hW => by
                  refine (numbers_yes W qf qw df dw D (ha1.later hW) (HRW.out W (blz C5.out.2 hW))).mono ?_
                  rintro e w' ⟨rfl, k, rfl⟩
                  exact ⟨rfl, below_drewN (Below.refl _ _) _⟩⟩
                clear ha1 ha2 ha3
                generalize ok idz = okz at *
                go_wp2_with fail
                go_at_call 30
                refine Calls.mono HM1.out ?_
                rintro e y6 ⟨rfl, hb6⟩
                have C6 : Bx (Below y5.heap.size y5 y6) := ⟨hb6⟩
                clear hb6
                go_wp2_with fail
                go_at_call 29
                refine Calls.mono (HM2.out y6 C6.out) ?_
                rintro e y7 ⟨rfl, hb7⟩
                have C7 : Bx (Below w.heap.size w y7) := ⟨blz B3.out (blz C5.out.1 (blz C6.out hb7))⟩
                clear hb7
                go_wp2_with fail
                go_ret
                exact ⟨rfl, C7.out⟩
              · have h0I : ¬ (0 : Int) < (s.length : Int) := by omega
                have hidz := hid
                obtain ⟨y2, hy2⟩ : ∃ y2, y2 = y1 := ⟨_, rfl⟩
                have HY2 : Bx (y2 = y1) := ⟨hy2⟩
                obtain ⟨idz, hidE⟩ : ∃ idz, idz = id := ⟨_, rfl⟩
                subst hy2
                subst hidE
                go_wp2_with fail
                go_at_call 27
                have C2 : Bx (Below w3.heap.size w3 y2) := ⟨HB.out.trans (C1.out.mono HB.out.size)⟩
                refine Calls.mono (HA.out.chain y2 _ _ idz (HO.out.later C2.out).read hidz) ?_
                rintro e y3 ⟨qd, dd, rfl, ha1, ha2, ha3⟩
                have HD3 : Bx (LksR y3 qd dd (ch idz)) := ⟨ha1⟩
                have C3 : Bx (Below w3.heap.size w3 y3 ∧ Below wr.heap.size wr y3 ∧ Below y2.heap.size y2 y3) := ⟨blz C2.out ha2, blz C1.out ha2, ha2⟩
                clear ha1 ha2 ha3
                go_wp2_with fail
                go_at_call 28
                refine Calls.mono (HA.out.rchain y3 _ _ idz (HS.out.later (blz B3.out C3.out.1)) hidz) ?_
                rintro e y4 ⟨qe, de, rfl, ha1, ha2⟩
                have HD4 : Bx (LksR y4 qe de (ch idz) ∧ LksR y4 qd dd (ch idz)) := ⟨ha1, HD3.out.later ha2⟩
                have C4 : Bx (Below w3.heap.size w3 y4 ∧ Below wr.heap.size wr y4) := ⟨blz C3.out.1 ha2, blz C3.out.2.1 ha2⟩
                clear ha1 ha2
                go_wp2_with fail
                go_at_call 25
                refine Calls.mono (HA.out.dead y4 _ _ (HO.out.later C4.out.1).read) ?_
                rintro e y5 ⟨qf, df, rfl, ha1, ha2, ha3⟩
                have C5 : Bx (Below w3.heap.size w3 y5 ∧ Below wr.heap.size wr y5) := ⟨blz C4.out.1 ha2, blz C4.out.2 ha2⟩
                have HM1 : Bx (Calls Try.prog 30 #[.slice qd (ch idz).length dd, .slice qe (ch idz).length de] y5 fun e w' => e = .returned (.bool true) ∧ Below y5.heap.size y5 w') := ⟨by
                  refine (chains_yes y5 qd qe dd de (ch idz) (HD4.out.2.later ha2) (HD4.out.1.later ha2)).mono ?_
                  rintro e w' ⟨rfl, k, rfl⟩
                  exact ⟨rfl, below_drewN (Below.refl _ _) _⟩⟩
                have HM2 : Bx (∀ W, Below y5.heap.size y5 W → Calls Try.prog 29 #[.slice qf D.length df, .slice qw D.length dw] W fun e w' => e = .returned (.bool true) ∧ Below W.heap.size W w') := ⟨fun W hW => by
                  refine (numbers_yes W qf qw df dw D (ha1.later hW) (HRW.out W (blz C5.out.2 hW))).mono ?_
                  rintro e w' ⟨rfl, k, rfl⟩
                  exact ⟨rfl, below_drewN (Below.refl _ _) _⟩⟩
                clear ha1 ha2 ha3
                generalize ok idz = okz at *
                go_wp2_with fail
                go_at_call 30
                refine Calls.mono HM1.out ?_
                rintro e y6 ⟨rfl, hb6⟩
                have C6 : Bx (Below y5.heap.size y5 y6) := ⟨hb6⟩
                clear hb6
                go_wp2_with fail
                go_at_call 29
                refine Calls.mono (HM2.out y6 C6.out) ?_
                rintro e y7 ⟨rfl, hb7⟩
                have C7 : Bx (Below w.heap.size w y7) := ⟨blz B3.out (blz C5.out.1 (blz C6.out hb7))⟩
                clear hb7
                go_wp2_with fail
                go_ret
                exact ⟨rfl, C7.out⟩
end Go.Proofs.Ytjabdhmkibahlaa
