import Derived.Test.YtecodpdfckjalaaGreatDoorCRTx
import Derived.Test.YtecodpdfckjalaaGreatDoorCTChkW
import Derived.Test.YtecodpdfckjalaaGreatDoorRows
import Derived.ProofKit
import Derived.LaidMore
import Derived.OpenShut
import Derived.Stop.Joined
import Derived.Stop.LaidErr
import Derived.Lib.LaidTab
import Derived.Test.YtecodpdfckjalaaGreatDoorCTOrd
import Derived.Below
import Derived.Lib.SmallJoins
import Derived.Deep.Slices
namespace Go.Proofs.YtecodpdfckjalaaGreatDoor
open Go.RowKit
set_option linter.unusedVariables false
set_option linter.unusedSimpArgs false

theorem SO.shape {w : World} {B : Nat} {v : Value} {ws : List (List UInt8)} (h : SO w B v ws) : ∃ a c, v = .slice a ws.length c ∧ ws.length ≤ c := by
  have h' : w.ownsRow B 9 1 v ws.length (ws.map strV) := h
  rcases h'.2 with ⟨rfl, hn⟩ | ⟨g, cap, cur, rfl, hB, hg, q1, q2, q3, q4⟩
  · exact ⟨_, _, by rw [hn], by omega⟩
  · exact ⟨_, _, rfl, q1⟩
theorem BM.shape {w : World} {B : Nat} {v : Value} {bs : List UInt8} (h : BM w B v bs) : ∃ a c, v = .slice a bs.length c := by
  rcases h with h | ⟨g, fz, rfl, _⟩
  · have h' : w.ownsRow B 5 1 v bs.length (Lib.byteCells bs) := h
    rcases h'.2 with ⟨rfl, hn⟩ | ⟨g, cap, cur, rfl, hB, hg, q1, q2, q3, q4⟩
    · exact ⟨_, _, by rw [hn]⟩
    · exact ⟨_, _, rfl⟩
  · exact ⟨_, _, rfl⟩
set_option maxRecDepth 100000 in
set_option maxHeartbeats 4000000 in
theorem blanks_go (w : World) (a : Option Addr) (n cap : Nat) (a2 : Option Addr) (c2 : Nat) (ss : List ByteArray) (hss : IsStrs w a2 c2 ss) (l m : List Nd) (fa fc ga : Int) (ws : List (List UInt8)) (gap OUT : Nat → List UInt8) (hws : ws.length ≤ 65536)
    (hO0 : OUT 0 = [32]) (hO : ∀ p (h : p < ws.length), OUT (p + 1) = (OUT p ++ ws[p]) ++ gap p ∧ 0 < ws[p].length ∧ ws[p].length ≤ 65536) (hg : ∀ p, (gap p).length ≤ 53) (hg2 : ∀ p, ¬ p < ss.length → gap p = [32])
    (HSh : Bx (Calls Tryz.prog 7 #[] w fun e w' => e = .returned (.bool true) ∧ Below w.heap.size w w'))
    (HP1 : Bx (∀ W, Below w.heap.size w W → Calls Tryz.prog 10 #[.slice a n cap, .int .i64 65536] W (ParE W l fa fc)))
    (HT : Bx (∀ W, Below w.heap.size w W → Calls Tryz.prog 12 #[.slice a n cap] W fun e w' => ∃ v, e = .returned (.tuple #[v, .bool true]) ∧ SO w' W.heap.size v ws ∧ Below W.heap.size W w'))
    (HBl : Bx (∀ W p (h : p < ss.length), Calls Tryz.prog 13 #[.string ss[p]] W fun e w' => e = .returned (strV (gap p)) ∧ Below W.heap.size W w'))
    (HP2 : Bx (∀ W a' c', Below w.heap.size w W → IsSrc W a' c' (OUT ws.length) → (OUT ws.length).length ≤ 65536 → Calls Tryz.prog 10 #[.slice a' (OUT ws.length).length c', .int .i64 65536] W (ParE W m ga fc)))
    (HND : Bx ((OUT ws.length).length ≤ 65536 → ∀ W na ma nc mc, IsNodes W W.heap.size na nc l → IsNodes W W.heap.size ma mc m → Calls Tryz.prog 11 #[.slice na l.length nc, .slice ma m.length mc, .bool true] W fun e w' => e = .returned (.bool true) ∧ Below W.heap.size W w')) :
    Calls Tryz.prog 4 #[.slice a n cap, .slice a2 ss.length c2] w fun e w' => e = .returned (.bool true) ∧ Below w.heap.size w w' := by
  have hcv := fun (w : World) (C : Array Value) (n c : Nat) => Lib.run_convert_bytes_const (P := Tryz.prog) w 33 5 C n c Tryz.underlying33 Tryz.underlying5
  have HSS : Bx _ := ⟨hss⟩
  have HO0 : Bx _ := ⟨hO0⟩
  have HO : Bx _ := ⟨hO⟩
  have HG : Bx _ := ⟨hg⟩
  have HG2 : Bx _ := ⟨hg2⟩
  have hmx := hss.max_
  have hcx := hss.cap_
  unfold maxLen at hmx
  clear hss hO0 hO hg hg2
  go_enter Tryz.func4, Tryz.ntmps4
  go_wp2_with (first
    | (go_at_call 7; refine Calls.mono HSh.out ?_; rintro e W1 ⟨rfl, hb1⟩; clear HSh)
    | (go_at_call 10; refine Calls.mono (HP1.out _ hb1) ?_; clear HP1; rintro e W2 ⟨na, nc, rfl, hb2, hn2⟩; obtain ⟨W3, hW3⟩ : ∃ W3, W2.alloc (.cells #[.int .i64 fa, .int .i64 fc] 30) = W3 := ⟨_, rfl⟩; have HW3 : Bx _ := ⟨hW3⟩; have HB3 : Bx _ := ⟨bel_one (hb1.trans (hb2.mono hb1.size)) hW3⟩; have HN3 : Bx _ := ⟨hn2.later (by rw [← hW3]; exact below1 _ _ : Below W2.heap.size W2 W3)⟩; clear hW3 hn2 hb1 hb2)
    | (go_at_call 12; rw [HW3.out]; refine Calls.mono (HT.out _ HB3.out) ?_; clear HT; rintro e W4 ⟨v, rfl, hv, hb4⟩; obtain ⟨va0, vc0, rfl, hvc⟩ := hv.shape; obtain ⟨k0, k1, k2⟩ := fault_at HW3.out hb4; have HB4 : Bx _ := ⟨HB3.out.trans (hb4.mono HB3.out.size)⟩; have HN4 : Bx _ := ⟨HN3.out.later hb4⟩; have HV : Bx _ := ⟨hv⟩; have HF4 : Bx _ := ⟨And.intro k1 k2⟩; clear hb4 HW3 HB3 HN3 hv))
  clear hcv k0 k1 k2
  obtain ⟨W5, hW5⟩ : ∃ W5, W4.alloc (.cells #[.int .u8 32] 5 (1, 2)) = W5 := ⟨_, rfl⟩
  have b5 : Below W4.heap.size W4 W5 := by rw [← hW5]; exact below1 _ _
  have m5 : BM W5 W4.heap.size (.slice (some ⟨W4.heap.size, 0, none⟩) 1 1) (OUT 0) := by
    rw [HO0.out]
    exact .inr ⟨W4.heap.size, (1, 2), rfl, Nat.le_refl _, by rw [← hW5]; exact heap_alloc_new _ _⟩
  have HI0 : Bx (BlS W4.heap.size W4 W5 OUT 0 (.slice (some ⟨W4.heap.size, 0, none⟩) 1 1) (.slice none 0 0)) := ⟨⟨m5, ⟨[], rfl, World.ownsRow_nil _ _ _ _⟩, by rw [HO0.out]; decide, b5⟩⟩
  rw [hW5]
  clear hW5 m5 b5 HO0
  go_loopw [37, 9, 10] (fun x vo va wr => ∃ (p : Nat) (vo' va' : Value), p ≤ ws.length ∧ x = .int .i64 (p : Int) ∧ vo' = vo ∧ va' = va ∧ Bx (BlS W4.heap.size W4 wr OUT p vo' va')) (fun x _ _ _ => ws.length - (intOf x).toNat)
  case atStart => exact ⟨0, _, _, Nat.zero_le _, rfl, rfl, rfl, HI0⟩
  case round =>
    obtain ⟨p, vo, va, hp, rfl, rfl, rfl, HI⟩ := hrel
    clear HI0
    by_cases hlt : p < ws.length
    · obtain ⟨g, cpw, ev, hgB, hgl, hgc, hcell⟩ := HV.out.at_ (by omega)
      simp only [Value.slice.injEq, true_and] at ev
      obtain ⟨rfl, rfl⟩ := ev
      have hz := HI.out.bel.size
      have hw := hcell p hlt
      rw [← HI.out.bel.cell (p := ⟨g, p, none⟩) hgl] at hw
      have hgl2 : g < wr.heap.size := by omega
      obtain ⟨ho, hw0, hw1⟩ := HO.out p hlt
      obtain ⟨oa, oc, rfl⟩ := HI.out.out.shape
      have hfew := HI.out.few
      obtain ⟨va', W6, vo', W7, run6, run7, o7, n7, b7, K7⟩ := bl_word HI.out hz (by omega) ws[p] hw0 hw1
      obtain ⟨oa', oc', rfl⟩ := BM.shape (.inl o7)
      have hlen : (OUT p ++ ws[p]).length = (OUT p).length + ws[p].length := by simp
      have HB7 : Bx (Below w.heap.size w W7) := ⟨HB4.out.trans (b7.mono HB4.out.size)⟩
      rw [hlen] at o7
      by_cases hlong : 65536 < (OUT p).length + ws[p].length
      · clear hcell ho HI o7 n7 b7 K7 HP2 HND HBl
        rw [hlen] at run7
        have hl2 : (65536 : Int) < ((OUT p).length : Int) + (ws[p].length : Int) := by omega
        have hl3 : (65536 : Int) < (((OUT p).length + ws[p].length : Nat) : Int) := by omega
        clear hlen
        generalize (OUT p).length = L1 at *
        generalize ws[p] = wd at *
        generalize wd.length = L2 at *
        go_wp2_with (first
          | (at_builtin; refine wpList_appS rfl (.tmp 42) (.tmp 45) 39 39 rfl rfl rfl run6 ?_; clear run6)
          | (at_builtin; refine wpList_appS rfl (.tmp 47) (.tmp 48) 33 9 rfl rfl rfl run7 ?_; clear run7))
        go_ret
        exact ⟨rfl, HB7.out⟩
      · have hl3 : ¬ (65536 : Int) < (((OUT p).length + ws[p].length : Nat) : Int) := by omega
        have hgp := HG.out p
        rw [hlen] at run7
        by_cases hin : p < ss.length
        · obtain ⟨b2, o2, rfl, hb2, hcl2⟩ := (HSS.out.below HB7.out).at_ (by omega)
          have hs2 := hcl2 p hin
          have HCB : Bx _ := ⟨HBl.out W7 p hin⟩
          have HGP : Bx (∀ W8, Below W7.heap.size W7 W8 → _) := ⟨fun W8 hb8 => bl_gap (OUT := OUT) o7 n7 b7 K7 hb8 (gap p) ho (by rw [hlen]; omega) hgp⟩
          have hin2 : (p : Int) < (ss.length : Int) := by omega
          clear hcell ho HI o7 n7 b7 K7 HP2 HND HBl hcl2 hlen hgp hlong
          generalize ss[p] = sp at *
          generalize (OUT p).length = L1 at *
          generalize ws[p] = wd at *
          generalize wd.length = L2 at *
          go_wp2_with (first
          | (at_builtin; refine wpList_appS rfl (.tmp 42) (.tmp 45) 39 39 rfl rfl rfl run6 ?_; clear run6)
          | (at_builtin; refine wpList_appS rfl (.tmp 47) (.tmp 48) 33 9 rfl rfl rfl run7 ?_; clear run7)
          | (go_at_call 13; refine Calls.mono HCB.out ?_; clear HCB; rintro e W8 ⟨rfl, hb8⟩; obtain ⟨vo9, W9, run9, h9⟩ := HGP.out W8 hb8; have H9 : Bx _ := ⟨h9⟩; clear HGP hb8 h9)
          | (at_builtin; refine wpList_appS rfl (.tmp 62) (.tmp 63) 33 9 rfl rfl rfl run9 ?_; clear run9))
          go_roundw
          case rel => exact ⟨p + 1, _, _, hlt, by go_num, rfl, rfl, H9⟩
          case measure => simp [intOf]; omega
        · obtain ⟨vo9, W9, run9, h9⟩ := bl_gap (OUT := OUT) o7 n7 b7 K7 (Below.refl _ _) (gap p) ho (by rw [hlen]; omega) hgp
          rw [HG2.out p hin] at run9
          have H9 : Bx _ := ⟨h9⟩
          have hin2 : ¬ (p : Int) < (ss.length : Int) := by omega
          clear hcell ho HI o7 n7 b7 K7 HP2 HND HBl hlen hgp hlong h9
          generalize (OUT p).length = L1 at *
          generalize ws[p] = wd at *
          generalize wd.length = L2 at *
          go_wp2_with (first
          | (at_builtin; refine wpList_appS rfl (.tmp 42) (.tmp 45) 39 39 rfl rfl rfl run6 ?_; clear run6)
          | (at_builtin; refine wpList_appS rfl (.tmp 47) (.tmp 48) 33 9 rfl rfl rfl run7 ?_; clear run7)
          | (at_builtin; refine wpList_appS rfl (.tmp 62) (.tmp 63) 33 9 rfl rfl rfl run9 ?_; clear run9))
          go_roundw
          case rel => exact ⟨p + 1, _, _, hlt, by go_num, rfl, rfl, H9⟩
          case measure => simp [intOf]; omega
    · obtain rfl : p = ws.length := by omega
      obtain ⟨oa, oc, rfl⟩ := HI.out.out.shape
      have bw : Below w.heap.size w wr := HB4.out.trans (HI.out.bel.mono HB4.out.size)
      have hfew := HI.out.few
      by_cases hlong : 65536 < (OUT ws.length).length
      · have HBW : Bx _ := ⟨bw⟩
        clear bw HI
        generalize (OUT ws.length).length = L at *
        go_wp2
        go_ret
        exact ⟨rfl, HBW.out⟩
      · obtain ⟨a', c', e', hsrc⟩ := HI.out.out.src (by omega)
        simp only [Value.slice.injEq, true_and] at e'
        obtain ⟨rfl, rfl⟩ := e'
        have HR : Bx _ := ⟨HP2.out wr _ _ bw hsrc (by omega)⟩
        have HNl : Bx (IsNodes wr wr.heap.size na nc l) := ⟨HN4.out.later HI.out.bel⟩
        have c1 : wr.cell? ⟨W2.heap.size, 1, none⟩ = some (.int .i64 fc) := by rw [HI.out.bel.cell (p := ⟨W2.heap.size, 1, none⟩) HF4.out.2]; exact HF4.out.1
        have hlt2 : W2.heap.size < wr.heap.size := by have := HI.out.bel.size; have := HF4.out.2; omega
        have HQ := HND.out (by omega)
        have HQ2 : Bx _ := ⟨HQ⟩
        have HBW : Bx _ := ⟨bw⟩
        clear bw HI HQ hsrc HP2 HND
        generalize (OUT ws.length).length = L at *
        go_wp2_with (first
          | (go_at_call 10; refine Calls.mono HR.out ?_; clear HR; rintro e W6 ⟨ma, mc, rfl, hb6, hn6⟩; obtain ⟨W7, hW7⟩ : ∃ W7, W6.alloc (.cells #[.int .i64 ga, .int .i64 fc] 30) = W7 := ⟨_, rfl⟩; have b7 : Below W6.heap.size W6 W7 := (by rw [← hW7]; exact below1 _ _); have HB7 : Bx _ := ⟨HBW.out.trans ((hb6.trans (b7.mono hb6.size)).mono HBW.out.size)⟩; have HQ7 : Bx _ := ⟨HQ2.out W7 na ma nc mc (HNl.out.later (hb6.trans (b7.mono hb6.size))) (hn6.later b7)⟩; have d1 : W6.cell? ⟨W2.heap.size, 1, none⟩ = some (.int .i64 fc) := (by rw [hb6.cell (p := ⟨W2.heap.size, 1, none⟩) hlt2]; exact c1); have d2 : W2.heap.size < W6.heap.size := (by have := hb6.size; omega); have HW7 : Bx _ := ⟨hW7⟩; clear hb6 hn6 hW7 b7 c1 hlt2)
          | (go_at_call 11; rw [HW7.out]; refine Calls.mono HQ7.out ?_; rintro e W8 ⟨rfl, hb8⟩; have HB8 : Bx _ := ⟨HB7.out.trans (hb8.mono HB7.out.size)⟩; clear hb8))
        go_ret
        exact ⟨rfl, HB8.out⟩
/-- what stands behind each word -/
def gapOf (ss : List ByteArray) (p : Nat) : List UInt8 := if h : p < ss.length then gapB ss[p].data.toList else [32]
theorem gapOf_sep (ss : List ByteArray) (p : Nat) : Sep (gapOf ss p) := by
  unfold gapOf
  split
  · exact gap_sep _
  · exact sep1
theorem gapOf_len (ss : List ByteArray) (p : Nat) : (gapOf ss p).length ≤ 53 := by
  unfold gapOf
  split
  · exact gap_len _
  · simp
theorem blanks_walk (w : World) (a : Option Addr) (cap : Nat) (xs : List UInt8) (hs : IsSrc w a cap xs) (a2 : Option Addr) (c2 : Nat) (ss : List ByteArray) (hss : IsStrs w a2 c2 ss) (hL : Laid w) (h7 : 7 ≤ w.heap.size) :
    Calls Tryz.prog 4 #[.slice a xs.length cap, .slice a2 ss.length c2] w fun e w' => e = .returned (.bool true) ∧ Below w.heap.size w w' := by
  have HSh : Bx _ := ⟨shown_any w hL h7⟩
  have HP1 : Bx (∀ W, Below w.heap.size w W → Calls Tryz.prog 10 #[.slice a xs.length cap, .int .i64 65536] W (ParE W (parseR xs 65536).1 (parseR xs 65536).2.1 (parseR xs 65536).2.2)) := ⟨fun W hb => Parse_x W (hL.below hb) (by have := hb.size; omega) a cap xs (hs.below hb) 65536⟩
  by_cases h0 : (scanAll xs).2.2 = 0
  · obtain ⟨hc, hl⟩ := scan_covers xs h0
    have hfew := (scan_okts xs h0).2.2
    have hall := covers_all xs (scanAll xs).1 0 hc
    have hpl := blanks_plain xs (gapOf ss) (gapOf_sep ss) h0 65536
    have HT : Bx (∀ W, Below w.heap.size w W → Calls Tryz.prog 12 #[.slice a xs.length cap] W fun e w' => ∃ v, e = .returned (.tuple #[v, .bool true]) ∧ SO w' W.heap.size v (wordsOf xs (scanAll xs).1) ∧ Below W.heap.size W w') := ⟨fun W hb => texts_ok W a cap xs (hs.below hb) (hL.below hb) h0⟩
    generalize (scanAll xs).1 = toks at *
    have hwl : (wordsOf xs toks).length = toks.length := by simp [wordsOf]
    have hOn : (32 :: sepS xs (gapOf ss) (toks.take (wordsOf xs toks).length) 0) = 32 :: sepS xs (gapOf ss) toks 0 := by rw [hwl, List.take_length]
    refine blanks_go w a xs.length cap a2 c2 ss hss _ (parseR (32 :: sepS xs (gapOf ss) toks 0) 65536).1 _ _ (parseR (32 :: sepS xs (gapOf ss) toks 0) 65536).2.1 (wordsOf xs toks) (gapOf ss) (fun p => 32 :: sepS xs (gapOf ss) (toks.take p) 0) (by omega) rfl (fun p hp => ?_) (gapOf_len ss) (fun p hp => by unfold gapOf; rw [dif_neg hp]) HSh HP1 HT ⟨fun W p hp => ?_⟩ ⟨fun W a' c' hb hsrc hlen => ?_⟩ ⟨fun hlen W na ma nc mc h1 h2 => ?_⟩
    · have hp' : p < toks.length := by omega
      obtain ⟨_, h1, h2⟩ := hall p hp'
      have hcl : (cut xs toks[p].place (toks[p].place + toks[p].len)).length = toks[p].len := by rw [cut_len _ _ _ h2]; omega
      have hwp : (wordsOf xs toks)[p] = cut xs toks[p].place (toks[p].place + toks[p].len) := by simp [wordsOf]
      rw [hwp]
      refine ⟨?_, by omega, by omega⟩
      show 32 :: sepS xs (gapOf ss) (toks.take (p + 1)) 0 = _
      rw [List.take_succ_eq_append_getElem hp', sepS_snoc, List.length_take, Nat.zero_add, Nat.min_eq_left (by omega)]
      simp
    · have := blanks_any W ss[p] (hss.one _ (List.getElem_mem hp))
      unfold gapOf
      rw [dif_pos hp]
      exact this
    · simp only [hOn] at hsrc hlen ⊢
      have := Parse_x W (hL.below hb) (by have := hb.size; omega) a' c' (32 :: sepS xs (gapOf ss) toks 0) hsrc 65536
      rw [(hpl hlen).1]
      exact this
    · simp only [hOn] at hlen
      exact nodes_yes W W.heap.size na ma nc mc _ _ h1 h2 true (hpl hlen).2.1 (hpl hlen).2.2
  · have hbad : (parseR xs 65536).2.2 = ((scanAll xs).2.2 : Int) := by unfold parseR; rw [if_pos h0]
    refine blanks_bad w a xs.length cap _ _ _ _ (by rw [hbad]; simpa using h0) HSh HP1 ⟨fun W hb => texts_bad W a cap xs (hs.below hb) (hL.below hb) h0⟩
end Go.Proofs.YtecodpdfckjalaaGreatDoor
namespace Go.Proofs.YtecodpdfckjalaaGreatDoor
open Go.ChangeShapes Go.WideShapes Go.ChangeAt Go.RowKit
set_option linter.unusedVariables false
set_option linter.unusedSimpArgs false

theorem own : ownKnob Tryz.prog.godebug = none := by kernel_rfl

/-- the seven variables, as every row lists them -/
def laid7 : List (String × DataW Unit) := [("math/bits.deBruijn32tab", Rows.laid_math_bits_deBruijn32tab), ("math/bits.deBruijn64tab", Rows.laid_math_bits_deBruijn64tab), ("internal/strconv.uint64pow10", Rows.laid_internal_strconv_uint64pow10), ("strconv.ErrRange", Rows.laid_strconv_ErrRange), ("strconv.ErrSyntax", Rows.laid_strconv_ErrSyntax), ("squint/scan.words", Rows.laid_squint_scan_words), ("squint/scan.signs", Rows.laid_squint_scan_signs)]

/-- the heap that the variables' own initialisers leave meets the list -/
theorem door_met (os : Os) (args : Array Value) : laidMetH Tryz.prog laid7 ((World.doorLaid Tryz.prog 400 os).forCall (fun _ _ => 0) ⟨#[], args, []⟩).memory :=
  laidMetH_of_parts3 (fuel := 8) (laidMet_of_run' 8 (by kernel_rfl) (by kernel_rfl)) (by kernel_rfl) (by kernel_rfl)

theorem gWords : Tryz.prog.globalNamed "squint/scan.words" = some 1 := by kernel_rfl
theorem gSigns : Tryz.prog.globalNamed "squint/scan.signs" = some 0 := by kernel_rfl
theorem gRange : Tryz.prog.globalNamed "strconv.ErrRange" = some 4 := by kernel_rfl
theorem tWords : (Tryz.prog.globals[1]?).map (·.type) = some 108 := by kernel_rfl
theorem tSigns : (Tryz.prog.globals[0]?).map (·.type) = some 104 := by kernel_rfl
theorem tRange : (Tryz.prog.globals[4]?).map (·.type) = some 99 := by kernel_rfl
theorem cells9 : Tryz.prog.cellsOf 9 = 1 := by kernel_rfl

/-- a listed table of texts holds them, cell for cell -/
theorem texts_of_head {name : String} {T : List (List UInt8)} {rest : List (String × DataW Unit)} {W : World} {g n : Nat} {t : TypeId} (hg : Tryz.prog.globalNamed name = some g) (hty : (Tryz.prog.globals[g]?).map (·.type) = some t)
    (ht : Tryz.prog.underlying t = some (.array n 9)) (h : laidMet Tryz.prog ((name, .agg (T.map fun l => .lit (.string l))) :: rest) W) : TabAt W g T := by
  obtain ⟨ps, ⟨g0, t0, cs0, f0, p0, q0, hg0, ht0, hv0, hd0, _, e0⟩, _, _⟩ := h
  obtain rfl := Option.some.inj (hg.symm.trans hg0)
  obtain rfl := Option.some.inj (hty.symm.trans ht0)
  obtain ⟨xs, m, _, hx, _, hn, hel⟩ := DataW.trod_array ht hd0
  have hx1 : (T.map fun l => (DataW.lit (.string l) : DataW Unit)) = xs.map (·.1) := by
    have := congrArg Prod.fst hx
    simpa using this
  have hlen : T.length = n := by
    have := congrArg List.length hx1
    simp at this
    omega
  intro i hi
  have hc := World.var?_cell hg0 hv0 i
  rw [hc]
  have he := hel i (by omega)
  have hxi : i < xs.length := by omega
  rw [List.getElem?_eq_getElem hxi] at he
  obtain ⟨s, e1, e2, _⟩ := DataW.trod_string Tryz.underlying9 he
  rw [cells9, Nat.mul_one] at e1
  have h2 : (T.map fun l => (DataW.lit (.string l) : DataW Unit))[i]? = some (xs[i]).1 := by rw [hx1]; simp [hxi]
  rw [e2] at h2
  have hs : T.getD i [] = s.data.toList := by
    simp [List.getElem?_map, hi] at h2
    simp [List.getD, hi, h2]
  have h3 : cs0.toList[i]? = some (.string s) := by
    have := congrArg (·[0]?) e1
    simpa [List.getElem?_take, List.getElem?_drop] using this
  rw [hs]
  simpa using h3

/-- WHAT THE ROWS' LIST GIVES -/
theorem laid_of (W : World) (h : laidMetH Tryz.prog laid7 W) : Laid W := by
  rw [MakeChecks.laidMetH_plain _ _ _ (by kernel_rfl)] at h
  have h3 : laidMet Tryz.prog (("strconv.ErrRange", Rows.laid_strconv_ErrRange) :: ("strconv.ErrSyntax", Rows.laid_strconv_ErrSyntax) :: ("squint/scan.words", Rows.laid_squint_scan_words) :: ("squint/scan.signs", Rows.laid_squint_scan_signs) :: []) W := h.tail.tail.tail
  have hw := h3.tail.tail
  have hs := hw.tail
  have hr : ∃ te pe, W.cell? ⟨4, 0, none⟩ = some (.iface te pe) := by
    obtain ⟨ps, ⟨g0, t0, cs0, f0, p0, q0, hg0, ht0, hv0, hd0, _, e0⟩, _, _⟩ := h3
    obtain rfl := Option.some.inj (gRange.symm.trans hg0)
    obtain rfl := Option.some.inj (tRange.symm.trans ht0)
    have hc := World.var?_cell hg0 hv0 0
    obtain ⟨f1, u, v, hcs, _, _⟩ := iface_of_trod Tryz.underlying99 hd0
    have : cs0[0]? = some (.iface u v) := by
      have := congrArg (·[0]?) hcs
      simpa using this
    exact ⟨u, v, by rw [hc]; exact this⟩
  refine ⟨texts_of_head gWords tWords Tryz.underlying108 hw, texts_of_head gSigns tSigns Tryz.underlying104 hs, hr, ?_⟩
  obtain ⟨te, pe, hc⟩ := hr
  exact World.block_lt_of_cell? W _ hc
end Go.Proofs.YtecodpdfckjalaaGreatDoor
namespace Go.Proofs.YtecodpdfckjalaaGreatDoor
open Go.ChangeShapes Go.WideShapes Go.ChangeAt Go.RowKit
set_option linter.unusedVariables false
set_option linter.unusedSimpArgs false

theorem cellsN : Tryz.prog.cellsOf 44 = 5 := by kernel_rfl
theorem cellsI : Tryz.prog.cellsOf 3 = 1 := by kernel_rfl
theorem cellsK : Tryz.prog.cellsOf 39 = 1 := by kernel_rfl

section
variable {H : Type} {enc : TypeId × Value → H} {W : World} {base : Nat} {sp : Nat → Bool} {held : Bool}

/-- a node's kids that came in -/
theorem kids_of {fuel : Nat} {c : Value} {y : DataW H × List MemPlace} (h : DataW.trod enc Tryz.prog W base sp held fuel 39 [c] = some y) :
    ∃ ka kc ks, c = .slice ka (List.length (α := Int) ks) kc ∧ IntsV W W.heap.size (.slice ka ks.length kc) ks ∧ ∀ k ∈ ks, I64 k := by
  rcases open_ints Tryz.underlying39 Tryz.underlying3 cellsI h with ⟨hcs, _⟩ | ⟨x, l, cp, zs, hcs, _, hl, hm, hz, _, hcell, hwz⟩
  · simp at hcs
    subst hcs
    exact ⟨none, 0, [], rfl, ⟨_, _, rfl, by simp, by simp [maxLen], fun h => by simp at h⟩, fun k hk => by cases hk⟩
  · simp at hcs
    subst hcs
    have hz' : l ≤ zs.length := by rw [hz]; split <;> omega
    have hlen : (zs.take l).length = l := by simp; omega
    refine ⟨some x, cp, zs.take l, by rw [hlen], ⟨_, _, by rw [hlen], by omega, by omega, fun h0 => ?_⟩, fun k hk => ?_⟩
    · rw [hlen] at h0
      obtain ⟨b, off, spot⟩ := x
      have hc0 := hcell 0 (by omega)
      have hspot : spot = none := by simpa [Addr.add] using World.cell?_spot hc0
      subst hspot
      refine ⟨b, off, rfl, ?_, fun i hi => ?_⟩
      · have := World.block_lt_of_cell? W _ hc0
        simpa [Addr.add] using this
      · rw [hlen] at hi
        have hc := hcell i (by omega)
        have e : (⟨b, off, none⟩ : Addr).add i = ⟨b, off + i, none⟩ := by
          unfold Addr.add; split <;> simp_all
        rw [e] at hc
        rw [hc]
        have hi' : i < zs.length := by omega
        simp [List.getD, hi']
    · exact bounds_i64 (hwz k (List.mem_of_mem_take hk))

set_option maxRecDepth 100000 in
/-- a node's cells that came in -/
theorem nodeC_of {fuel : Nat} {cs : List Value} {y : DataW H × List MemPlace} (h : DataW.trod enc Tryz.prog W base sp held fuel 44 cs = some y) :
    ∃ n ka kc, cs = [.int .i64 n.kind, .int .i64 n.pos, .slice ka n.kids.length kc, .string n.name, .int .i64 n.num] ∧ IntsV W W.heap.size (.slice ka n.kids.length kc) n.kids ∧ NdWf n := by
  obtain ⟨xs, m, _, _, hl, hlen, hx⟩ := DataW.trod_struct Tryz.underlying44 h
  rw [cellsN] at hl
  match cs, hl, xs, hlen with
  | [c0, c1, c2, c3, c4], _, [y0, y1, y2, y3, y4], _ =>
    have t0 : DataW.trod enc Tryz.prog W base sp held m 3 [c0] = some y0 := by simpa [cellsI] using hx 0 _ rfl
    have t1 : DataW.trod enc Tryz.prog W base sp held m 3 [c1] = some y1 := by simpa [cellsI] using hx 1 _ rfl
    have t2 : DataW.trod enc Tryz.prog W base sp held m 39 [c2] = some y2 := by simpa [cellsK] using hx 2 _ rfl
    have t3 : DataW.trod enc Tryz.prog W base sp held m 9 [c3] = some y3 := by simpa [cells9] using hx 3 _ rfl
    have t4 : DataW.trod enc Tryz.prog W base sp held m 3 [c4] = some y4 := by simpa [cellsI] using hx 4 _ rfl
    obtain ⟨k, e0, _, w0⟩ := DataW.trod_int Tryz.underlying3 t0
    obtain ⟨pp, e1, _, w1⟩ := DataW.trod_int Tryz.underlying3 t1
    obtain ⟨ka, kc, ks, e2, hk, wk⟩ := kids_of t2
    obtain ⟨nm, e3, _, w3⟩ := DataW.trod_string Tryz.underlying9 t3
    obtain ⟨num, e4, _, w4⟩ := DataW.trod_int Tryz.underlying3 t4
    simp only [List.cons.injEq, and_true] at e0 e1 e3 e4
    subst e0 e1 e2 e3 e4
    exact ⟨⟨k, pp, ks, nm, num⟩, ka, kc, rfl, hk, ⟨bounds_i64 w0, bounds_i64 w1, bounds_i64 w4, w3, wk⟩⟩

theorem addr_plain (b off i : Nat) : (⟨b, off, none⟩ : Addr).add i = ⟨b, off + i, none⟩ := by
  unfold Addr.add; split <;> simp_all
/-- NODES THAT CAME IN -/
theorem nodes_of {a : Option Addr} {len cap : Nat} {d : DataW H} {p : List MemPlace} (h : ∃ fuel, DataW.trod enc Tryz.prog W base sp held fuel 22 (Value.slice a len cap).cells.toList = some (d, p)) :
    ∃ l : List Nd, l.length = len ∧ IsNodes W W.heap.size a cap l := by
  obtain ⟨fuel, hf⟩ := h
  have hf : DataW.trod enc Tryz.prog W base sp held fuel 22 [.slice a len cap] = some (d, p) := by simpa [Value.cells] using hf
  rcases Go.Deep.open_slice Tryz.underlying22 hf with ⟨hcs, _⟩ | ⟨x, l0, c0, m, n, D, Pl, hcs, hb, hl, hm, hmm, _, hx⟩
  · simp at hcs
    obtain ⟨rfl, rfl, rfl⟩ := hcs
    exact ⟨[], rfl, ⟨fun h => by simp at h, Nat.le_refl _⟩⟩
  · simp at hcs
    obtain ⟨rfl, rfl, rfl⟩ := hcs
    have hlm : len ≤ m := by rw [hmm]; split <;> omega
    rw [cellsN] at hx
    have hnd : ∀ i, i < len → ∃ nd : Nd, ∃ ka kc, (∀ j, j < 5 → W.cell? ((x.add (i * 5)).add j) = [Value.int .i64 nd.kind, .int .i64 nd.pos, .slice ka nd.kids.length kc, .string nd.name, .int .i64 nd.num][j]?) ∧ IntsV W W.heap.size (.slice ka nd.kids.length kc) nd.kids ∧ NdWf nd := fun i hi => by
      obtain ⟨cs', h1, h2⟩ := hx i (by omega)
      obtain ⟨nd, ka, kc, rfl, h3, h4⟩ := nodeC_of h2
      obtain ⟨_, _, h5⟩ := World.cells?_some h1
      exact ⟨nd, ka, kc, h5, h3, h4⟩
    let f : Nat → Nd := fun i => if h : i < len then (hnd i h).choose else nd0
    have hfl : ((List.range len).map f).length = len := by simp
    have hfi : ∀ i, i < len → ndN ((List.range len).map f) i = f i := fun i hi => by simp [ndN, List.getD, hi]
    refine ⟨(List.range len).map f, hfl, ⟨fun h0 => ?_, Nat.le_refl _⟩⟩
    rw [hfl] at h0
    obtain ⟨b, off, spot⟩ := x
    obtain ⟨ka0, kc0, hc0, _⟩ := (hnd 0 h0).choose_spec
    have hcell0 := hc0 0 (by omega)
    have hspot : spot = none := by
      have := World.cell?_spot hcell0
      simpa [Addr.add] using this
    subst hspot
    have hblk : b < W.heap.size := by
      have := World.block_lt_of_cell? W _ hcell0
      simpa [Addr.add] using this
    refine ⟨b, off, rfl, ⟨fun j hj => ?_, fun j hj => ?_, hblk, Nat.le_refl _, by rw [hfl]; omega, by rw [hfl]; omega⟩⟩
    · rw [hfl] at hj
      rw [hfi j hj]
      have hfj : f j = (hnd j hj).choose := by simp [f, hj]
      rw [hfj]
      have hsp := (hnd j hj).choose_spec
      generalize (hnd j hj).choose = nd at hsp ⊢
      obtain ⟨ka, kc, hc, hk, hw⟩ := hsp
      simp only [addr_plain] at hc
      refine ⟨ka, kc, ⟨hc 0 (by omega), hc 1 (by omega), hc 2 (by omega), hc 3 (by omega), hc 4 (by omega), hk⟩⟩
    · rw [hfl] at hj
      rw [hfi j hj]
      have hfj : f j = (hnd j hj).choose := by simp [f, hj]
      rw [hfj]
      obtain ⟨ka, kc, hc, hk, hw⟩ := (hnd j hj).choose_spec
      exact hw
set_option maxRecDepth 100000 in
/-- A NUMBER THAT CAME IN -/
theorem int_of {v : Value} {ba : Nat} {d : DataW H} {p : List MemPlace} (hv : Value.okWide Tryz.prog W .any ba 3 v) (h : ∃ fuel, DataW.trod enc Tryz.prog W base sp held fuel 3 v.cells.toList = some (d, p)) :
    ∃ n : Int, v = .int .i64 n ∧ I64 n := by
  obtain ⟨n, rfl⟩ := okWide_int Tryz.underlying3 hv
  obtain ⟨fuel, hf⟩ := h
  obtain ⟨k, e, _, w0⟩ := DataW.trod_int Tryz.underlying3 (show DataW.trod enc Tryz.prog W base sp held fuel 3 [.int .i64 n] = some (d, p) by simpa [Value.cells] using hf)
  simp only [List.cons.injEq, and_true, Value.int.injEq, true_and] at e
  subst e
  exact ⟨n, rfl, bounds_i64 w0⟩
set_option maxRecDepth 100000 in
/-- A TEXT THAT CAME IN -/
theorem str_of {v : Value} {ba : Nat} {d : DataW H} {p : List MemPlace} (hv : Value.okWide Tryz.prog W .any ba 9 v) (h : ∃ fuel, DataW.trod enc Tryz.prog W base sp held fuel 9 v.cells.toList = some (d, p)) : ∃ s : ByteArray, v = .string s ∧ s.size ≤ maxLen := by
  obtain ⟨n, rfl⟩ := okWide_string Tryz.underlying9 hv
  obtain ⟨fuel, hf⟩ := h
  obtain ⟨k, e, _, w0⟩ := DataW.trod_string Tryz.underlying9 (show DataW.trod enc Tryz.prog W base sp held fuel 9 [.string n] = some (d, p) by simpa [Value.cells] using hf)
  simp only [List.cons.injEq, and_true, Value.string.injEq] at e
  subst e
  exact ⟨n, rfl, w0⟩
end
end Go.Proofs.YtecodpdfckjalaaGreatDoor
namespace Go.Proofs.YtecodpdfckjalaaGreatDoor
open Go.ChangeShapes Go.WideShapes Go.ChangeAt Go.RowKit
set_option linter.unusedVariables false
set_option linter.unusedSimpArgs false

theorem laidOut : laidOutB Tryz.prog = true := by kernel_rfl
theorem cells5 : Tryz.prog.cellsOf 5 = 1 := by kernel_rfl

/-- A SLICE OF BYTES THAT CAME IN: its bytes -/
theorem src_of {H : Type} {enc : TypeId × Value → H} {W : World} {base : Nat} {a : Option Addr} {len cap : Nat} {d : DataW H} {p : List MemPlace} {sp : Nat → Bool} {held : Bool}
    (h : ∃ fuel, DataW.trod enc Tryz.prog W base sp held fuel 33 (Value.slice a len cap).cells.toList = some (d, p)) : ∃ xs : List UInt8, xs.length = len ∧ IsSrc W a cap xs := by
  obtain ⟨fuel, hf⟩ := h
  rcases open_ints Tryz.underlying33 Tryz.underlying5 cells5 hf with ⟨hcs, _⟩ | ⟨x, l, c, zs, hcs, _, hl, hm, hz, _, hcell, hwz⟩
  · simp [Value.cells] at hcs
    obtain ⟨rfl, rfl, rfl⟩ := hcs
    exact ⟨[], rfl, fun h => absurd h (by simp), Nat.le_refl _, Nat.zero_le _⟩
  · simp [Value.cells] at hcs
    obtain ⟨rfl, rfl, rfl⟩ := hcs
    have hz' : len ≤ zs.length := by rw [hz]; split <;> omega
    refine ⟨(zs.take len).map fun z => UInt8.ofNat z.toNat, by simp; omega, ?_, by simp; omega, by simp; omega⟩
    intro h0
    simp at h0
    obtain ⟨b, off, spot⟩ := x
    have hc0 := hcell 0 (by omega)
    have hspot : spot = none := by simpa [Addr.add] using World.cell?_spot hc0
    subst hspot
    refine ⟨b, off, rfl, ?_, ?_⟩
    · have := World.block_lt_of_cell? W _ hc0
      simpa [Addr.add] using this
    · intro i hi
      simp at hi
      have hi' : i < zs.length := by omega
      have hc := hcell i (by omega)
      have e : (⟨b, off, none⟩ : Addr).add i = ⟨b, off + i, none⟩ := by
        unfold Addr.add; split <;> simp_all
      rw [e] at hc
      rw [hc]
      have hw := hwz zs[i] (List.getElem_mem hi')
      obtain ⟨w0, w1⟩ := bounds_u8 hw
      simp [List.getD, hi']
      omega
theorem g64 : Tryz.prog.globalNamed "math/bits.deBruijn64tab" = some 6 := by kernel_rfl
/-- the seven variables lie there -/
theorem size7_of (W : World) (h : laidMetH Tryz.prog laid7 W) : 7 ≤ W.heap.size := by
  rw [MakeChecks.laidMetH_plain _ _ _ (by kernel_rfl)] at h
  obtain ⟨ps, ⟨g0, t0, cs0, f0, p0, q0, hg0, ht0, hv0, hd0, _, e0⟩, _, _⟩ := h.tail
  obtain rfl := Option.some.inj (g64.symm.trans hg0)
  simp only [World.var?, hg0, Option.bind_some] at hv0
  have : 6 < W.heap.size := by
    by_cases hh : 6 < W.heap.size
    · exact hh
    · rw [Array.getElem?_eq_none (by omega)] at hv0
      simp at hv0
  omega
end Go.Proofs.YtecodpdfckjalaaGreatDoor
namespace Go.Proofs.YtecodpdfckjalaaGreatDoor
open Go.ChangeShapes Go.WideShapes Go.ChangeAt Go.RowKit
set_option linter.unusedVariables false
set_option linter.unusedSimpArgs false

theorem cellsSt : Tryz.prog.cellsOf 9 = 1 := by kernel_rfl
/-- TEXTS THAT CAME IN -/
theorem strs_of {H : Type} {enc : TypeId × Value → H} {W : World} {base : Nat} {sp : Nat → Bool} {held : Bool} {a : Option Addr} {len cap : Nat} {d : DataW H} {p : List MemPlace} (h : ∃ fuel, DataW.trod enc Tryz.prog W base sp held fuel 36 (Value.slice a len cap).cells.toList = some (d, p)) :
    ∃ ss : List ByteArray, ss.length = len ∧ IsStrs W a cap ss := by
  obtain ⟨fuel, hf⟩ := h
  have hf : DataW.trod enc Tryz.prog W base sp held fuel 36 [.slice a len cap] = some (d, p) := by simpa [Value.cells] using hf
  rcases Go.Deep.open_slice1 Tryz.underlying36 cellsSt hf with ⟨hcs, _⟩ | ⟨x, l0, c0, m, n, V, D, Pl, hcs, hb, hl, hm, hmm, _, hx⟩
  · simp at hcs
    obtain ⟨rfl, rfl, rfl⟩ := hcs
    exact ⟨[], rfl, fun h => absurd h (by simp), Nat.le_refl _, Nat.zero_le _, fun s hs => by cases hs⟩
  · simp at hcs
    obtain ⟨rfl, rfl, rfl⟩ := hcs
    have hml : len ≤ m := by rw [hmm]; split <;> omega
    have hs : ∀ i, i < len → ∃ s : ByteArray, V i = .string s ∧ s.size ≤ maxLen := fun i hi => by
      obtain ⟨_, h2⟩ := hx i (by omega)
      obtain ⟨s, e, _, w0⟩ := DataW.trod_string Tryz.underlying9 h2
      simp only [List.cons.injEq, and_true] at e
      exact ⟨s, e, w0⟩
    have hspot : 0 < len → x.spot = none := fun h0 => by
      have := (hx 0 (by omega)).1
      simpa [Addr.add] using World.cell?_spot this
    refine ⟨(List.range len).map fun i => match V i with | .string s => s | _ => ⟨#[]⟩, by simp, fun h0 => ?_, by simpa using hl, by simp; omega, fun s hs' => ?_⟩
    · simp at h0
      obtain ⟨b, off, spot⟩ := x
      have hsp : spot = none := hspot h0
      subst hsp
      refine ⟨b, off, rfl, ?_, fun i hi => ?_⟩
      · have := World.block_lt_of_cell? W _ (hx 0 (by omega)).1
        simpa [Addr.add] using this
      · simp at hi
        have e : (⟨b, off, none⟩ : Addr).add i = ⟨b, off + i, none⟩ := by unfold Addr.add; split <;> simp_all
        have hc := (hx i (by omega)).1
        rw [e] at hc
        rw [hc]
        obtain ⟨s, hV, _⟩ := hs i hi
        simp [hV]
    · simp only [List.mem_map, List.mem_range] at hs'
      obtain ⟨i, hi, rfl⟩ := hs'
      obtain ⟨s, hV, hz⟩ := hs i hi
      rw [hV]
      exact hz
end Go.Proofs.YtecodpdfckjalaaGreatDoor
