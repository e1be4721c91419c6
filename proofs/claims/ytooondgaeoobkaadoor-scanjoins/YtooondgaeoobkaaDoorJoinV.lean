import Derived.Test.YtooondgaeoobkaaDoorJoinW
namespace Go.Proofs.YtooondgaeoobkaaDoor
open Go.RowKit
set_option linter.unusedVariables false
set_option linter.unusedSimpArgs false

set_option maxHeartbeats 2000000 in
set_option maxRecDepth 100000 in
theorem joins_neg (a1 a2 : Option Addr) (cap1 cap2 n : Nat) (one two : List UInt8) (w : World) (hs1 : IsSrc w a1 cap1 one) (hs2 : IsSrc w a2 cap2 two) (hn1 : a1 = none → cap1 = 0) (hn2 : a2 = none → cap2 = 0) (hL : Laid w)
    (hl1 : one.length ≤ 65536) (hl2 : two.length ≤ 65536) (h1 : (scanAll one).2.2 = 0) (h2 : (scanAll two).2.2 = 0) (hn : n ≤ 2 ^ 63 - 1) :
    Calls Tryd.prog 6 #[.slice a1 one.length cap1,   .slice a2 two.length cap2, .int .i64 (-(n : Int) - 1)] w fun e w' => e = .returned (.bool true) ∧ Below w.heap.size w w' := by
  have HS1 : Box (∀ W, Below w.heap.size w W → Calls Tryd.prog 13 #[.slice a1 one.length cap1] W fun e w' => ∃ x cp, e = .returned (.tuple #[.slice x (scanAll one).1.length cp, .agg #[.int .i64 (scanAll one).2.1, .int .i64 0]]) ∧ TokX w' x cp (scanAll one).1 ∧ Below W.heap.size W w') :=
    ⟨fun W hW => by have := Scan_x a1 cap1 one W (hs1.below hW) (hL.below hW) _ rfl; rw [h1] at this; exact this⟩
  have HS2 : Box (∀ W, Below w.heap.size w W → Calls Tryd.prog 13 #[.slice a2 two.length cap2] W fun e w' => ∃ x cp, e = .returned (.tuple #[.slice x (scanAll two).1.length cp, .agg #[.int .i64 (scanAll two).2.1, .int .i64 0]]) ∧ TokX w' x cp (scanAll two).1 ∧ Below W.heap.size W w') :=
    ⟨fun W hW => by have := Scan_x a2 cap2 two W (hs2.below hW) (hL.below hW) _ rfl; rw [h2] at this; exact this⟩
  have HC1 : Box (Covers one 0 (scanAll one).1) := ⟨(scan_covers one h1).1⟩
  have HC2 : Box (Covers two 0 (scanAll two).1) := ⟨(scan_covers two h2).1⟩
  have HJ : Box (∀ m, (one ++ 10 :: (List.replicate m 32 ++ two)).length ≤ 65536 → scanAll (one ++ 10 :: (List.replicate m 32 ++ two)) = ((scanAll one).1 ++ (scanAll two).1.map (shiftT (one.length + 1 + m)), 0, 0)) := ⟨fun m => scan_join one two m h1 h2⟩
  have HWd : Box ((wideS one (scanAll one).1).length ≤ 65536 → scanAll (wideS one (scanAll one).1) = (wideT 0 (scanAll one).1, 0, 0)) := ⟨scan_wide one h1⟩
  have hfa := scan_few one h1
  have hfb := scan_few two h2
  generalize (scanAll one).1 = ta at *
  generalize (scanAll two).1 = tb at *
  generalize (scanAll one).2.1 = fa at *
  generalize (scanAll two).2.1 = fb at *
  clear h1 h2
  have hneg : -(n : Int) - 1 < 0 := by omega
  go_enter Tryd.func6, Tryd.ntmps6
  go_wp2_with (first
    | (go_at_call 8; refine (shown_any w hL).mono ?_; rintro e w1 ⟨rfl, b1⟩)
    | (go_at_call_of 13 (Value.slice a1 one.length cap1); refine Calls.mono (HS1.out _ b1) ?_; rintro e w2 ⟨xa, cpa, rfl, TA, b2⟩; have b2' : Below w.heap.size w (w2.alloc (.cells #[.int .i64 fa, .int .i64 0] 34)) := (b1.trans (b2.mono b1.size)).alloc (Nat.le_trans b1.size b2.size) _)
    | (go_at_call 13; refine Calls.mono (HS2.out _ b2') ?_; rintro e w3 ⟨xb, cpb, rfl, TB, b3⟩; have hz3 : w2.heap.size < w3.heap.size := (by have := b3.size; simp at this; omega); have hc3 : w3.cell? ⟨w2.heap.size, 1, none⟩ = some (.int .i64 0) := (by rw [b3.cell (by simp)]; simp); have TAb : Below w2.heap.size w2 w3 := ((Below.refl _ _).alloc (Nat.le_refl _) _).trans (b3.mono (by simp)); have b3' : Below w.heap.size w w3 := b2'.trans (b3.mono (Nat.le_trans b2'.size (Nat.le_refl _))); have b4 := (b3'.alloc b3'.size (.cells #[.int .i64 fb, .int .i64 0] 34)).alloc (by have := b3'.size; simp; omega) (.cells #[] 5))
    | (at_builtin; refine app_src (by rfl) (.tmp 48) (.tmp 49) (by rfl) (w3.heap.size + 1) (w3.heap.size + 1) 0 0 [] (by rfl) (made1 w3 _) a1 cap1 one (by rfl) (hs1.below b4) hn1 (by omega) (by simp) ?_; intro g1 c1 w4 O1 B1; simp only [Nat.zero_add, List.nil_append] at O1; have J4 := JMem.start _ _ b3' B1)
    | (at_builtin; refine app_one (by rfl) (.tmp 51) (.tmp 52) (by rfl) (w3.heap.size + 1) g1 one.length c1 one (by rfl) (O1.below ((Below.refl _ _).alloc (Nat.le_refl _) _)) w4.heap.size 10 (by rfl) (by simp) (by omega) (by have := B1.size; simp at *; omega) ?_; intro g2 c2 w5 O2 B2; have J5 := (J4.alloc (.cells #[.int .u8 10] 5)).step (by simp) B2))
  clear HS1 HS2 b1 b2 b2' b3 b4 B1 B2 O1 J4 hz3 hc3 hneg
  have hw4 : (w3.alloc (.cells #[.int .i64 fb, .int .i64 0] 34)).heap.size = w3.heap.size + 1 := by simp
  have TA4 : TokX (w3.alloc (.cells #[.int .i64 fb, .int .i64 0] 34)) xa cpa ta := (TA.later TAb).later ((Below.refl _ _).alloc (Nat.le_refl _) _)
  have TB4 : TokX (w3.alloc (.cells #[.int .i64 fb, .int .i64 0] 34)) xb cpb tb := TB.later ((Below.refl _ _).alloc (Nat.le_refl _) _)
  clear TA TAb TB
  generalize w3.alloc (.cells #[.int .i64 fb, .int .i64 0] 34) = W4 at *
  go_loopw [12, 13] (fun v i wr => ∃ j g cp : Nat, j ≤ n % 9 ∧ i = .int .i64 j ∧ v = .slice (some ⟨g, 0, none⟩) (one.length + 1 + j) cp ∧ OwnB wr (w3.heap.size + 1) g (one.length + 1 + j) cp (one ++ 10 :: List.replicate j 32) ∧ JMem w W4 wr)
    (fun _ i _ => n % 9 - (intOf i).toNat)
  case atStart => exact ⟨0, g2, c2, Nat.zero_le _, rfl, rfl, O2, J5⟩
  case round =>
    obtain ⟨j, g, cp, hj, rfl, rfl, O, J⟩ := hrel
    clear O2 J5
    by_cases hlt : j < n % 9
    · go_wp2_with (first
        | (at_builtin; refine app_one (by rfl) (.tmp 60) (.tmp 61) (by rfl) (w3.heap.size + 1) g (one.length + 1 + j) cp _ (by rfl) (O.below ((Below.refl _ _).alloc (Nat.le_refl _) _)) wr.heap.size 32 (by rfl) (by simp) (by omega) (by have := J.mid.size; simp at *; omega) ?_; intro g3 c3 w6 O3 B3; have J6 := (J.alloc (.cells #[.int .u8 32] 5)).step hw4 B3))
      have R : OwnB w6 (w3.heap.size + 1) g3 (one.length + 1 + (j + 1)) c3 (one ++ 10 :: List.replicate (j + 1) 32) := by
        have e : one ++ 10 :: List.replicate (j + 1) (32 : UInt8) = (one ++ 10 :: List.replicate j 32) ++ [32] := by rw [List.replicate_succ']; simp
        rw [e]; exact O3
      go_roundw
      case rel => exact ⟨j + 1, g3, c3, by omega, by go_num, rfl, R, J6⟩
      case measure => simp [intOf]; omega
    · have hj9 : j ≤ 8 := by omega
      have hwl : (wideS one ta).length ≤ 393216 := by have := wide_len one ta 0 (Nat.zero_le _) HC1.out; omega
      go_wp2_with (first
        | (at_builtin; refine app_src (by rfl) (.tmp 65) (.tmp 66) (by rfl) (w3.heap.size + 1) g (one.length + 1 + j) cp _ (by rfl) O a2 cap2 two (by rfl) (hs2.below J.old) hn2 (by omega) (by have := J.mid.size; omega) ?_; intro g4 c4 w7 O4 B4; have J7 := J.step hw4 B4))
      have TA7 : TokX w7 xa cpa ta := TA4.later J7.mid
      have TB7 : TokX w7 xb cpb tb := TB4.later J7.mid
      have JW : JMem w w7 (w7.alloc (.cells #[] 5)) := ⟨J7.old.alloc J7.old.size _, (Below.refl _ _).alloc (Nat.le_refl _) _, J7.old.size⟩
      have OW := OwnB.made w7 w7.heap.size (Nat.le_refl _)
      have hlt' : ¬ j < n % 9 := hlt
      clear J B4 O TA4 TB4 J7 hlt hj
      go_loopw [15, 16] (fun v i wr => ∃ k g cp L : Nat, k ≤ ta.length ∧ i = .int .i64 k ∧ v = .slice (some ⟨g, 0, none⟩) L cp ∧ OwnB wr w7.heap.size g L cp (wideS one (ta.take k)) ∧ JMem w w7 wr)
        (fun _ i _ => ta.length - (intOf i).toNat)
      case atStart => exact ⟨0, w7.heap.size, 0, 0, Nat.zero_le _, rfl, rfl, by simpa [wideS] using OW, JW⟩
      case round =>
        obtain ⟨k, gw, cw, L, hk, rfl, rfl, Ow, Jw⟩ := hrel
        clear OW JW
        by_cases hkt : k < ta.length
        · obtain ⟨ga, hxa, hTa⟩ := TA7.at_ (by omega)
          obtain ⟨b, o, ha1, hb1, hsr⟩ := hs1.at_ (by omega)
          subst hxa
          subst ha1
          have hL := Ow.len
          have hpre := wide_pre one ta k
          rw [hL] at hpre
          obtain ⟨t0, t1, t2, t3⟩ := (hTa.later Jw.mid).at_ k hkt
          have hga := hTa.lt
          have hcg := covers_get one ta 0 k (Nat.zero_le _) hkt HC1.out
          have hst := wide_step one ta k hkt
          have HST : Box (wideS one (ta.take (k + 1)) = wideS one (ta.take k) ++ [9, 35, 32, 59] ++ [10] ++ cut one ta[k].place (ta[k].place + ta[k].len)) := ⟨hst⟩
          have hkc : ta.length ≤ cpa := TA7.cap
          have hcap := hs1.cap_
          clear hst
          generalize ta[k] = t at *
          generalize wideS one (ta.take k) = ys at *
          obtain ⟨hc1, hc2⟩ := hcg
          go_wp2_with (first
            | (at_builtin; refine app_str (by rfl) (.tmp 75) _ (by rfl) w7.heap.size gw L cw ys (by rfl) Ow [9, 35, 32, 59] 4 rfl (by rfl) (by omega) Jw.mid.size ?_; intro g5 c5 w8 O5 B5; have J8 := Jw.step rfl B5)
            | (at_builtin; refine app_one (by rfl) (.tmp 77) (.tmp 78) (by rfl) w7.heap.size g5 (L + 4) c5 _ (by rfl) (O5.below ((Below.refl _ _).alloc (Nat.le_refl _) _)) w8.heap.size 10 (by rfl) (by simp) (by omega) (by have := J8.mid.size; simp; omega) ?_; intro g6 c6 w9 O6 B6; have J9 := (J8.alloc (.cells #[.int .u8 10] 5)).step rfl B6))
          have u1 : w9.cell? ⟨ga, k * 4 + 1, none⟩ = some (.int .i64 t.place) := by rw [J9.mid.cell (p := ⟨ga, k * 4 + 1, none⟩) hga, ← Jw.mid.cell (p := ⟨ga, k * 4 + 1, none⟩) hga]; exact t1
          have u2 : w9.cell? ⟨ga, k * 4 + 2, none⟩ = some (.int .i64 t.len) := by rw [J9.mid.cell (p := ⟨ga, k * 4 + 2, none⟩) hga, ← Jw.mid.cell (p := ⟨ga, k * 4 + 2, none⟩) hga]; exact t2
          have hsl := fun W => slice_tok W b o one.length cap1 t.place t.len hc1 (by omega)
          have hk0 : (0 : Int) ≤ (k : Int) := by omega
          have hk1 : (k : Int) < (ta.length : Int) := by omega
          have hwp : IntKind.i64.wrap ((t.place : Int) + (t.len : Int)) = (t.place : Int) + (t.len : Int) := wrap_small _ (by omega) (by omega)
          have hsr9 : Src w9.drew b (o + t.place) (cut one t.place (t.place + t.len)) := ((hsr.below hb1 J9.old.drew).cut _ _ hc2)
          have hcl : (cut one t.place (t.place + t.len)).length = t.len := by rw [cut_len _ _ _ hc2]; omega
          have O6d : OwnB w9.drew w7.heap.size g6 (L + 4 + 1) c6 (ys ++ [9, 35, 32, 59] ++ [10]) := O6.below (Below.refl _ _).drew
          have hz9 := J9.mid.size
          have HCL : Box _ := ⟨hcl⟩
          clear t0 t1 t2 t3 hcl B5 B6 O5 O6 Ow J8
          go_region_held_law (fun w' => w'.cell? ⟨ga, k * 4 + 1, none⟩ = some (.int .i64 t.place) ∧ w'.cell? ⟨ga, k * 4 + 2, none⟩ = some (.int .i64 t.len))
            (first | exact ⟨u1, u2⟩ | exact ⟨by rw [B7.cell (p := ⟨ga, k * 4 + 1, none⟩) hga]; exact u1, by rw [B7.cell (p := ⟨ga, k * 4 + 2, none⟩) hga]; exact u2⟩)
            ((refine step_app (by rfl) (.tmp 80) (.tmp 98) (by rfl) w7.heap.size g6 (L + 4 + 1) c6 _ (by rfl) O6d b (o + t.place) t.len (cap1 - t.place) _ (by rfl) HCL.out (by omega) hsr9 (by omega) hz9 ?_; intro g7 c7 w10 O7 B7))
          go_wp2
          have J10 : JMem w w7 w10 := (JMem.mk J9.old.drew J9.mid.drew J9.le).step rfl B7
          have R : OwnB w10 w7.heap.size g7 (L + 4 + 1 + t.len) c7 (wideS one (ta.take (k + 1))) := by rw [HST.out]; exact O7
          go_roundw
          case rel => exact ⟨k + 1, g7, c7, L + 4 + 1 + t.len, by omega, by go_num, rfl, R, J10⟩
          case measure => simp [intOf]; omega
        · have hke : ta.take k = ta := List.take_of_length_le (by omega)
          rw [hke] at Ow
          have hLw := Ow.len
          have Oa := O4.below Jw.mid
          have TAr := TA7.later Jw.mid
          have TBr := TB7.later Jw.mid
          clear hke TA7 TB7 O4
          by_cases hA : 65536 < one.length + 1 + j + two.length
          · have hA' : (65536 : Int) < (one.length : Int) + 1 + (j : Int) + (two.length : Int) := by omega
            go_wp2
            go_ret
            exact ⟨rfl, Jw.old⟩
          · have hA' : ¬ (65536 : Int) < (one.length : Int) + 1 + (j : Int) + (two.length : Int) := by omega
            by_cases hW : 65536 < L
            · go_wp2
              go_ret
              exact ⟨rfl, Jw.old⟩
            · have eall : (one ++ 10 :: List.replicate j (32 : UInt8)) ++ two = one ++ 10 :: (List.replicate j 32 ++ two) := by simp
              have hsc : scanAll ((one ++ 10 :: List.replicate j (32 : UInt8)) ++ two) = (ta ++ tb.map (shiftT (one.length + 1 + j)), 0, 0) := by
                rw [eall]; exact HJ.out j (by simp; omega)
              have HSA : Box (Calls Tryd.prog 13 #[.slice (some ⟨g4, 0, none⟩) (one.length + 1 + j + two.length) c4] wr fun e w' => ∃ x cp, e = .returned (.tuple #[.slice x (ta.length + tb.length) cp, .agg #[.int .i64 0, .int .i64 0]]) ∧ TokX w' x cp (ta ++ tb.map (shiftT (one.length + 1 + j))) ∧ Below wr.heap.size wr w') := by
                refine ⟨?_⟩
                have := Scan_x (some ⟨g4, 0, none⟩) c4 _ wr Oa.src (hL.below Jw.old) (one.length + 1 + j + two.length) (by rw [eall]; simp; omega)
                rw [hsc] at this
                simpa using this
              have hsw : scanAll (wideS one ta) = (wideT 0 ta, 0, 0) := HWd.out (by omega)
              have HWT : Box (scanAll (wideS one ta) = (wideT 0 ta, 0, 0)) := ⟨hsw⟩
              clear hsc eall HJ HWd hsw
              go_wp2_with (first | (go_at_call 13; refine Calls.mono HSA.out ?_; rintro e w11 ⟨xl, cpl, rfl, TL, b11⟩))
              have B12 : Below wr.heap.size wr (w11.alloc (.cells #[.int .i64 0, .int .i64 0] 34)) := b11.alloc b11.size _
              have J12 : JMem w (w11.alloc (.cells #[.int .i64 0, .int .i64 0] 34)) (w11.alloc (.cells #[.int .i64 0, .int .i64 0] 34)) := ⟨Jw.old.trans (B12.mono Jw.old.size), Below.refl _ _, by have := Jw.old.size; have := B12.size; omega⟩
              have TA12 := TAr.later B12
              have TB12 := TBr.later B12
              have TL12 := TL.later ((Below.refl w11.heap.size w11).alloc (Nat.le_refl _) (.cells #[.int .i64 0, .int .i64 0] 34))
              have OW12 := Ow.below B12
              have hcell12 : ∀ i, i < 2 → (w11.alloc (.cells #[.int .i64 0, .int .i64 0] 34)).cell? ⟨w11.heap.size, i, none⟩ = some (.int .i64 0) := fun i hi => by
                match i, hi with
                | 0, _ => simp
                | 1, _ => simp
              have hfr12 : ∀ i, (w11.alloc (.cells #[.int .i64 0, .int .i64 0] 34)).frozen? ⟨w11.heap.size, i, none⟩ = false := fun i => by simp
              have hlt12 : w11.heap.size < (w11.alloc (.cells #[.int .i64 0, .int .i64 0] 34)).heap.size := by simp
              have hw11 : w.heap.size ≤ w11.heap.size := by have := Jw.old.size; have := b11.size; omega
              clear HSA TL b11 B12 Jw Ow Oa TAr TBr
              generalize w11.alloc (.cells #[.int .i64 0, .int .i64 0] 34) = W12 at *
              go_loopw [19] (fun i wr => ∃ q : Nat, q ≤ ta.length + tb.length ∧ i = .int .i64 q ∧ JMem w W12 wr) (fun i _ => ta.length + tb.length - (intOf i).toNat)
              case atStart => exact ⟨0, Nat.zero_le _, rfl, J12⟩
              case round =>
                obtain ⟨q, hq, rfl, J⟩ := hrel
                by_cases hqt : q < ta.length + tb.length
                · obtain ⟨gl, hxl, hTl⟩ := TL12.at_ (by simp; omega)
                  subst hxl
                  have hgl := hTl.lt
                  have hgl' : gl < wr.heap.size := by have := J.mid.size; omega
                  have hcpl := TL12.cap
                  by_cases hqa : q < ta.length
                  · obtain ⟨ga, hxa, hTa⟩ := TA12.at_ (by omega)
                    subst hxa
                    have hga := hTa.lt
                    have hga' : ga < wr.heap.size := by have := J.mid.size; omega
                    have hcpa := TA12.cap
                    obtain ⟨s0, s1, s2, s3⟩ := (hTa.later J.mid).at_ q hqa
                    obtain ⟨l0, l1, l2, l3⟩ := (hTl.later J.mid).at_ q (by simp; omega)
                    rw [List.getElem_append_left hqa] at l0 l1 l2 l3
                    generalize ta[q] = t at *
                    go_wp2
                    go_quiet (fail)
                    go_wp2
                    go_roundw
                    case rel => exact ⟨q + 1, by omega, by go_num, (J.alloc _).drewN _⟩
                    case measure => simp [intOf]; omega
                  · obtain ⟨i, rfl⟩ : ∃ i, q = ta.length + i := ⟨q - ta.length, by omega⟩
                    have hib : i < tb.length := by omega
                    obtain ⟨gb, hxb, hTb⟩ := TB12.at_ (by omega)
                    subst hxb
                    have hgb := hTb.lt
                    have hgb' : gb < wr.heap.size := by have := J.mid.size; omega
                    have hcpb := TB12.cap
                    obtain ⟨s0, s1, s2, s3⟩ := (hTb.later J.mid).at_ i hib
                    obtain ⟨l0, l1, l2, l3⟩ := (hTl.later J.mid).at_ (ta.length + i) (by simp; omega)
                    rw [List.getElem_append_right (by omega)] at l0 l1 l2 l3
                    simp only [List.getElem_map, Nat.add_sub_cancel_left, shiftT] at l0 l1 l2 l3
                    have hpl : tb[i].place ≤ 65536 := by have := covers_get two tb 0 i (Nat.zero_le _) hib HC2.out; omega
                    generalize tb[i] = t at *
                    push_cast at l1
                    go_wp2
                    go_quiet (fail)
                    go_wp2
                    go_roundw
                    case rel => exact ⟨ta.length + i + 1, by omega, by go_num, (J.alloc _).drewN _⟩
                    case measure => simp [intOf]; omega
                · have OWr := OW12.below J.mid
                  have HSW : Box (Calls Tryd.prog 13 #[.slice (some ⟨gw, 0, none⟩) L cw] wr fun e w' => ∃ x cp, e = .returned (.tuple #[.slice x ta.length cp, .agg #[.int .i64 0, .int .i64 0]]) ∧ TokX w' x cp (wideT 0 ta) ∧ Below wr.heap.size wr w') := by
                    refine ⟨?_⟩
                    have := Scan_x (some ⟨gw, 0, none⟩) cw _ wr OWr.src (hL.below J.old) L hLw.symm
                    rw [HWT.out, wideT_len] at this
                    exact this
                  have hz12 : w11.heap.size < wr.heap.size := by have := J.mid.size; omega
                  have p0 : wr.cell? ⟨w11.heap.size, 0, none⟩ = some (.int .i64 0) := by rw [J.mid.cell (p := ⟨w11.heap.size, 0, none⟩) hlt12]; exact hcell12 0 (by omega)
                  have p1 : wr.cell? ⟨w11.heap.size, 1, none⟩ = some (.int .i64 0) := by rw [J.mid.cell (p := ⟨w11.heap.size, 1, none⟩) hlt12]; exact hcell12 1 (by omega)
                  have f0 : wr.frozen? ⟨w11.heap.size, 0, none⟩ = false := by rw [J.mid.frozen (p := ⟨w11.heap.size, 0, none⟩) hlt12]; exact hfr12 0
                  have f1 : wr.frozen? ⟨w11.heap.size, 1, none⟩ = false := by rw [J.mid.frozen (p := ⟨w11.heap.size, 1, none⟩) hlt12]; exact hfr12 1
                  have TAr := TA12.later J.mid
                  clear hcell12 hfr12 OW12 OWr TB12 TL12 TA12 HWT
                  go_wp2_with (first | (go_at_call 13; refine Calls.mono HSW.out ?_; rintro e w13 ⟨xm, cpm, rfl, TM, b13⟩; have z13 : w11.heap.size < w13.heap.size := (by have := b13.size; omega); have e0 := (b13.cell (p := ⟨w11.heap.size, 0, none⟩) hz12).trans p0; have e1 := (b13.cell (p := ⟨w11.heap.size, 1, none⟩) hz12).trans p1; have h0 := (b13.frozen (p := ⟨w11.heap.size, 0, none⟩) hz12).trans f0; have h1 := (b13.frozen (p := ⟨w11.heap.size, 1, none⟩) hz12).trans f1))
                  have hsame : ∀ a, ((w13.setCell ⟨w11.heap.size, 0, none⟩ (.int .i64 0)).setCell ⟨w11.heap.size, 1, none⟩ (.int .i64 0)).cell? a = w13.cell? a := fun a => by
                    rw [set_same _ _ _ (by rw [set_same _ _ _ e0]; exact e1), set_same _ _ _ e0]
                  have hzz : ((w13.setCell ⟨w11.heap.size, 0, none⟩ (.int .i64 0)).setCell ⟨w11.heap.size, 1, none⟩ (.int .i64 0)).heap.size = w13.heap.size := by simp [World.setCell]
                  have TA14 := (TAr.later b13).same (Nat.le_of_eq hzz.symm) hsame
                  have TM14 := TM.same (Nat.le_of_eq hzz.symm) hsame
                  have OLD : Below w.heap.size w ((w13.setCell ⟨w11.heap.size, 0, none⟩ (.int .i64 0)).setCell ⟨w11.heap.size, 1, none⟩ (.int .i64 0)) := ((J.old.trans (b13.mono J.old.size)).setCell hw11 _).setCell hw11 _
                  have J14 : JMem w ((w13.setCell ⟨w11.heap.size, 0, none⟩ (.int .i64 0)).setCell ⟨w11.heap.size, 1, none⟩ (.int .i64 0)) ((w13.setCell ⟨w11.heap.size, 0, none⟩ (.int .i64 0)).setCell ⟨w11.heap.size, 1, none⟩ (.int .i64 0)) := ⟨OLD, Below.refl _ _, OLD.size⟩
                  clear hsame hzz TAr TM b13 z13 e0 e1 h0 h1 HSW p0 p1 f0 f1 hz12 OLD J
                  generalize (w13.setCell ⟨w11.heap.size, 0, none⟩ (.int .i64 0)).setCell ⟨w11.heap.size, 1, none⟩ (.int .i64 0) = W14 at *
                  go_loopw [22] (fun i wr => ∃ q : Nat, q ≤ ta.length ∧ i = .int .i64 q ∧ JMem w W14 wr) (fun i _ => ta.length - (intOf i).toNat)
                  case atStart => exact ⟨0, Nat.zero_le _, rfl, J14⟩
                  case round =>
                    obtain ⟨r, hr, rfl, J⟩ := hrel
                    by_cases hrt : r < ta.length
                    · obtain ⟨ga, hxa, hTa⟩ := TA14.at_ (by omega)
                      subst hxa
                      obtain ⟨gm, hxm, hTm⟩ := TM14.at_ (by rw [wideT_len]; omega)
                      subst hxm
                      have hcpa := TA14.cap
                      have hcpm := TM14.cap
                      rw [wideT_len] at hcpm
                      obtain ⟨s0, s1, s2, s3⟩ := (hTa.later J.mid).at_ r hrt
                      obtain ⟨m0, m1, m2, m3⟩ := (hTm.later J.mid).at_ r (by rw [wideT_len]; exact hrt)
                      obtain ⟨y1, y2, y3⟩ := wideT_at ta 0 r hrt (by rw [wideT_len]; exact hrt)
                      rw [y1] at m0
                      rw [y2] at m2
                      rw [y3] at m3
                      clear y1 y2 y3 m1
                      generalize ta[r] = t at *
                      go_wp2
                      go_quiet (fail)
                      go_wp2
                      go_roundw
                      case rel => exact ⟨r + 1, by omega, by go_num, J.drewN _⟩
                      case measure => simp [intOf]; omega
                    · go_wp2
                      go_ret
                      exact ⟨rfl, J.old⟩
end Go.Proofs.YtooondgaeoobkaaDoor
