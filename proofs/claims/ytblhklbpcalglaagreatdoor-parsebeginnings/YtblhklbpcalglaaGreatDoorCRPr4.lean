import Derived.Test.YtblhklbpcalglaaGreatDoorCRPrs
import Derived.Deep.RegionHeld
import Derived.Deep.QuietTactic
import Derived.BigQuiet
namespace Go.Proofs.YtblhklbpcalglaaGreatDoor
open Go.RowKit
set_option linter.unusedVariables false
set_option linter.unusedSimpArgs false
theorem hi_zero (l : List Nd) (nest : Int) : ∀ (hs : List Nat) (i : Nat), (hiGo l nest hs i).2 = 0 → hiGo l nest hs i = (0, 0)
  | [], i, _ => rfl
  | h :: r, i, e => by
    rw [hiGo] at e ⊢
    split at e
    · simp at e
    · rename_i hn
      rw [if_neg hn]
      exact hi_zero l nest r (i + 1) e
set_option maxRecDepth 100000 in
set_option maxHeartbeats 1000000 in
theorem Parse_good (w : World) (hL : Laid w) (h7 : 7 ≤ w.heap.size) (a : Option Addr) (cap : Nat) (xs : List UInt8) (hs : IsSrc w a cap xs) (nest : Int) (h0 : (scanAll xs).2.2 = 0) (ts : List Tr) (s' : List PTok) (hR : pF (parseF (scanAll xs).1.length + 1) .program (pts xs (withEnd (scanAll xs).1 xs.length) 0) = .ok ts s') (hxy : hiGo (flats ts 0) nest (heightsL (flats ts 0)) 0 = (0, 0)) :
    Calls Tryz.prog 5 #[.slice a xs.length cap, .int .i64 nest] w (ParQ w (flats ts 0, 0, 0)) := by
  obtain ⟨W1, hW1⟩ : ∃ W1, w.alloc (.cells #[.int .i64 0, .int .i64 0] 27) = W1 := ⟨_, rfl⟩
  have b1 : Below w.heap.size w W1 := by rw [← hW1]; exact below1 _ _
  have hz1 : W1.heap.size = w.heap.size + 1 := by rw [← hW1]; simp
  have c1 : W1.heap[w.heap.size]? = some (.cells #[.int .i64 0, .int .i64 0] 27 (0, 0)) := by rw [← hW1]; exact heap_alloc_new _ _
  have HC := Scan_any a cap xs W1 (hs.below b1) (hL.below b1)
  obtain ⟨A, hA⟩ : ∃ A : Nat, (scanAll xs).2.1 = A := ⟨_, rfl⟩
  rw [h0, hA, hz1] at HC
  have HP := read_at w W1 hL h7 b1 hz1 c1 a cap xs hs h0 A 0
  rw [hR] at HP
  have eR : ∀ W v, ReadP W (w.heap.size + 1) v (.ok ts s') = fun e w' => ∃ nv rb, e = .returned (.tuple #[nv, .agg #[.int .i64 0, .int .i64 0]]) ∧ NodesO (fun _ => False) w' rb nv (flats ts 0) ∧ W.heap.size ≤ rb ∧ Below (w.heap.size + 1) W w' ∧ Kx v W w' := fun _ _ => rfl
  simp only [eR] at HP
  have hin := read_in xs h0 _ ts s' hR
  have HN : Bx (∀ (W2 W3 W4 : World) (rb : Nat) (nv : Value), TS w W3 W2.heap.size A 0 → TS w W4 W2.heap.size A 0 → NodesO (fun _ => False) W4 rb nv (flats ts 0) → W3.heap.size ≤ rb → _) := ⟨fun W2 W3 W4 rb nv t3 t4 hno hrb => high_at t4 hno (Nat.lt_of_lt_of_le (heapLt t3.t7) hrb) hin.1 hin.2.1 hin.2.2 nest 0 0 hxy⟩
  have HS : Bx _ := ⟨HC⟩
  have HR : Bx _ := ⟨HP⟩
  have HW : Bx (w.alloc (.cells #[.int .i64 0, .int .i64 0] 27) = W1) := ⟨hW1⟩
  clear hW1 b1 hz1 c1 HC HP hs hL hA hR h0 eR hin hxy
  generalize (scanAll xs).1 = toks at *
  generalize flats ts 0 = l at *
  go_enter Tryz.func5, Tryz.ntmps5
  go_wp2_with (first
    | (go_at_call 6; rw [HW.out]; refine Calls.mono HS.out ?_; rintro e W2 ⟨v, rfl, hv, hb⟩; obtain ⟨W3, hW3⟩ : ∃ W3, W2.alloc (.cells #[.int .i64 (A : Int), .int .i64 0] 27) = W3 := ⟨_, rfl⟩; have hp := HR.out v W2 W3 hv hb hW3; have HQ : Bx _ := ⟨hp⟩; have HW3 : Bx _ := ⟨hW3⟩; clear hv hb hp hW3)
    | (go_at_call 8; rw [HW3.out]; refine Calls.mono HQ.out.1 ?_; rintro e W4 ⟨nv, rb, rfl, hno, hrb, q1, q2⟩; have t4 := HQ.out.2.2 W4 q1 q2; obtain ⟨na, nc, W5, rfl, hW5, t5, hcall, hno5⟩ := HN.out W2 W3 W4 rb nv HQ.out.2.1 t4 hno hrb; have HT : Bx _ := ⟨hcall⟩; have HNO : Bx _ := ⟨hno5⟩; have HRB : Bx (W3.heap.size ≤ rb) := ⟨hrb⟩; have HW5 : Bx _ := ⟨hW5⟩; have T5 : Bx _ := ⟨t5⟩; obtain ⟨c0, c1, d0, d1, e0, e1, f0, f1, l1, l2⟩ := t4.cells; clear q1 q2 t4 t5 hcall hW5 hno hno5 hrb)
    | (go_at_call 9; rw [HW5.out]; refine Calls.mono HT.out ?_; rintro e W6 ⟨rfl, hb6⟩; have t6 := T5.out.below hb6; have T6 : Bx _ := ⟨t6⟩; have HN6 : Bx _ := ⟨HNO.out.bel hb6⟩; have hl3 := HQ.out.2.1.hlt; have hne1 : w.heap.size ≠ W2.heap.size := Nat.ne_of_lt hl3; have hne2 : W2.heap.size ≠ w.heap.size := hne1.symm; clear c0 c1 d0 d1 e0 e1 f0 f1 l1 l2 hb6; obtain ⟨c0, c1, d0, d1, e0, e1, f0, f1, l1, l2⟩ := t6.cells; clear t6))
  have h3 := heapLt HQ.out.2.1.t7
  have hrb := HRB.out
  refine bodyPost_ret (v := .tuple #[.slice na l.length nc, .agg #[.int .i64 0, .int .i64 0]]) (by simp [results, Tryz.results5, go_sem, d0, d1, hne1, hne2]) rfl ⟨_, rfl, (((T6.out.set 0 0).bel.setCell (p := ⟨w.heap.size, 0, none⟩) (Nat.le_refl _) _).setCell (p := ⟨w.heap.size, 1, none⟩) (Nat.le_refl _) _), fun h => absurd rfl h, fun _ => ⟨rb, by omega, (HN6.out.set2 (by omega) _ _).set2 (by omega) _ _⟩⟩
theorem Parse_any (w : World) (hL : Laid w) (h7 : 7 ≤ w.heap.size) (a : Option Addr) (cap : Nat) (xs : List UInt8) (hs : IsSrc w a cap xs) (nest : Int) :
    Calls Tryz.prog 5 #[.slice a xs.length cap, .int .i64 nest] w (ParQ w (parseR xs nest)) := by
  unfold parseR
  by_cases h0 : (scanAll xs).2.2 = 0
  · rw [if_neg (fun h => h h0)]
    have hne := parse_ne xs h0
    match hR : pF (parseF (scanAll xs).1.length + 1) .program (pts xs (withEnd (scanAll xs).1 xs.length) 0) with
    | .out => exact absurd hR hne
    | .err s' => exact Parse_bad w hL h7 a cap xs hs nest h0 s' hR
    | .ok ts s' =>
      simp only
      by_cases hy : (hiGo (flats ts 0) nest (heightsL (flats ts 0)) 0).2 = 0
      · rw [if_neg (fun h => h hy)]
        refine Parse_good w hL h7 a cap xs hs nest h0 ts s' hR ?_
        exact hi_zero _ _ _ _ hy
      · rw [if_pos hy]
        exact Parse_high w hL h7 a cap xs hs nest h0 ts s' hR _ _ rfl hy
  · rw [if_pos h0]
    exact Parse_scan w hL a cap xs hs nest _ _ rfl h0
end Go.Proofs.YtblhklbpcalglaaGreatDoor
namespace Go.Proofs.YtblhklbpcalglaaGreatDoor
open Go.RowKit
set_option linter.unusedVariables false
set_option linter.unusedSimpArgs false
def shX : List UInt8 := [118, 97, 108, 32, 120, 32, 61, 32, 49, 32, 45, 32, 50, 32, 45, 32, 51, 59]
def shN : List Nd := [⟨11, 8, [], ⟨#[]⟩, 1⟩, ⟨11, 12, [], ⟨#[]⟩, 2⟩, ⟨22, 10, [0, 1], ⟨#[]⟩, 32⟩, ⟨11, 16, [], ⟨#[]⟩, 3⟩, ⟨22, 14, [2, 3], ⟨#[]⟩, 32⟩, ⟨31, 0, [4], ⟨#[120]⟩, 0⟩, ⟨46, 0, [5], ⟨#[]⟩, 0⟩]
set_option maxRecDepth 100000 in
theorem shR : parseR shX 9 = (shN, 0, 0) := by kernel_rfl
end Go.Proofs.YtblhklbpcalglaaGreatDoor
namespace Go.Proofs.YtblhklbpcalglaaGreatDoor
open Go.RowKit
set_option linter.unusedVariables false
set_option linter.unusedSimpArgs false
structure IntsW (w : World) (B : Nat) (a : Option Addr) (cap : Nat) (ks : List Int) : Prop where
  cap : ks.length ≤ cap
  max : ks.length ≤ maxLen
  at_ : 0 < ks.length → ∃ b o, a = some ⟨b, o, none⟩ ∧ b < B ∧ ∀ i (h : i < ks.length), w.cell? ⟨b, o + i, none⟩ = some (.int .i64 ks[i])
theorem IntsV.w {w : World} {B : Nat} {a : Option Addr} {n cap : Nat} {ks : List Int} (h : IntsV w B (.slice a n cap) ks) : n = ks.length ∧ IntsW w B a cap ks := by
  obtain ⟨a', c', e, h1, h2, h3⟩ := h.ex
  simp only [Value.slice.injEq] at e
  obtain ⟨rfl, rfl, rfl⟩ := e
  exact ⟨rfl, h1, h2, h3⟩
theorem take_eqS {α : Type} {xs ys : List α} {p : Nat} (h : xs.take p = ys.take p) (h1 : p < xs.length) (h2 : p < ys.length) (he : xs[p] = ys[p]) : xs.take (p + 1) = ys.take (p + 1) := by
  rw [List.take_succ_eq_append_getElem h1, List.take_succ_eq_append_getElem h2, h, he]
set_option maxRecDepth 100000 in
set_option maxHeartbeats 2000000 in
theorem numbers_any (w : World) (B : Nat) (a1 a2 : Option Addr) (c1 c2 : Nat) (xs ys : List Int) (h1 : IntsW w B a1 c1 xs) (h2 : IntsW w B a2 c2 ys) :
    Calls Tryz.prog 7 #[.slice a1 xs.length c1, .slice a2 ys.length c2] w fun e w' => e = .returned (.bool (decide (xs = ys))) ∧ ∃ k, w' = w.drewN k := by
  have hl1 := h1.max
  have hl2 := h2.max
  unfold maxLen at hl1 hl2
  by_cases hlen : xs.length = ys.length
  · have HX : Bx _ := ⟨h1⟩
    have HY : Bx _ := ⟨h2⟩
    clear h1 h2
    generalize hn : xs.length = n at *
    have HN : Bx (xs.length = n ∧ ys.length = n) := ⟨hn, hlen.symm⟩
    rw [← hlen] at hl2
    rw [← hlen]
    clear hn hlen
    go_enter Tryz.func7, Tryz.ntmps7
    go_wp2
    go_loopw [13] (fun x wr => ∃ p k : Nat, p ≤ n ∧ x = .int .i64 p ∧ wr = w.drewN k ∧ Bx (xs.take p = ys.take p)) (fun x _ => n - (intOf x).toNat)
    case atStart => exact ⟨0, 0, Nat.zero_le _, rfl, rfl, ⟨rfl⟩⟩
    case round =>
      obtain ⟨p, k, hp, rfl, rfl, HR⟩ := hrel
      by_cases hlt : p < n
      · have hp1 : p < xs.length := by rw [HN.out.1]; exact hlt
        have hp2 : p < ys.length := by rw [HN.out.2]; exact hlt
        obtain ⟨b1, o1, rfl, hb1, hcell1⟩ := HX.out.at_ (by omega)
        have hc1 := HX.out.cap
        rw [HN.out.1] at hc1
        obtain ⟨b2, o2, rfl, hb2, hcell2⟩ := HY.out.at_ (by omega)
        have hc2 := HY.out.cap
        rw [HN.out.2] at hc2
        have k1 := hcell1 p hp1
        have k2 := hcell2 p hp2
        by_cases he : xs[p] = ys[p]
        · have HT : Bx _ := ⟨take_eqS HR.out hp1 hp2 he⟩
          rw [← he] at k2
          generalize xs[p] = z at *
          clear hcell1 hcell2 HR HX HY
          go_wp2
          go_quiet (fail)
          go_wp2
          go_roundw
          case rel => exact ⟨p + 1, k + nq, by omega, by go_num, by first | rfl | rw [World.drewN_drewN], HT⟩
          case measure => simp [intOf]; omega
        · have hf : Bx (decide (xs = ys) = false) := ⟨decide_eq_false (fun e => he (by subst e; rfl))⟩
          have hz : (xs[p] != ys[p]) = true := by simpa using he
          generalize xs[p] = z at *
          generalize ys[p] = z2 at *
          clear hcell1 hcell2 HR HX HY
          go_wp2
          go_quiet (fail)
          go_wp2
          go_ret
          exact ⟨ret_bool hf.out.symm, k + nq, by first | rfl | rw [World.drewN_drewN]⟩
      · have hf : Bx (decide (xs = ys) = true) := ⟨decide_eq_true (by
          have := HR.out
          rw [List.take_of_length_le (by rw [HN.out.1]; omega), List.take_of_length_le (by rw [HN.out.2]; omega)] at this
          exact this)⟩
        clear HR HX HY HN
        go_wp2
        go_ret
        exact ⟨ret_bool hf.out.symm, k, rfl⟩
  · have hne : decide (xs = ys) = false := decide_eq_false (fun e => hlen (by rw [e]))
    rw [hne]
    have hne2 : ((xs.length : Int) != (ys.length : Int)) = true := by simp; omega
    clear h1 h2 hlen hne
    generalize xs.length = n1 at *
    generalize ys.length = n2 at *
    go_enter Tryz.func7, Tryz.ntmps7
    go_wp2
    go_ret
    exact ⟨rfl, 0, rfl⟩
end Go.Proofs.YtblhklbpcalglaaGreatDoor
namespace Go.Proofs.YtblhklbpcalglaaGreatDoor
open Go.RowKit
set_option linter.unusedVariables false
set_option linter.unusedSimpArgs false
structure ShC (W : World) (g cap : Nat) : Prop where
  k2 : W.cell? ⟨g, 10, none⟩ = some (.int .i64 22)
  k4 : W.cell? ⟨g, 20, none⟩ = some (.int .i64 22)
  s5 : W.cell? ⟨g, 28, none⟩ = some (.string ⟨#[120]⟩)
  hc : 7 ≤ cap
  lt : g < W.heap.size
theorem sh_in {W : World} {rb : Nat} {nv : Value} (h : NodesO (fun _ => False) W rb nv shN) : ∃ g cap a4 c4 a6 c6, nv = .slice (some ⟨g, 0, none⟩) 7 cap ∧ ShC W g cap ∧ W.cell? ⟨g, 22, none⟩ = some (.slice a4 2 c4) ∧ IntsW W W.heap.size a4 c4 [2, 3] ∧ W.cell? ⟨g, 32, none⟩ = some (.slice a6 1 c6) ∧ IntsW W W.heap.size a6 c6 [5] := by
  have hwf : ∀ n ∈ shN, NdWf n := by
    intro n hn
    simp only [shN, List.mem_cons, List.not_mem_nil, or_false] at hn
    rcases hn with rfl | rfl | rfl | rfl | rfl | rfl | rfl <;> exact ⟨by unfold I64; decide, by unfold I64; decide, by unfold I64; decide, by unfold maxLen; decide, by unfold I64; decide⟩
  obtain ⟨a, cap, e, hn⟩ := nodes_in h hwf (by decide) (by
    intro n hn
    simp only [shN, List.mem_cons, List.not_mem_nil, or_false] at hn
    rcases hn with rfl | rfl | rfl | rfl | rfl | rfl | rfl <;> decide)
  obtain ⟨g, o, rfl, hN⟩ := hn.at_ (by decide)
  have ho : o = 0 := by
    obtain ⟨ks, _, h2, _⟩ := h.ex
    rcases h2.2 with ⟨e', _⟩ | ⟨g', cap', cur', e', _⟩
    · rw [e] at e'; simp at e'
    · rw [e] at e'; simp at e'; exact e'.1.2
  subst ho
  obtain ⟨ka2, kc2, h2⟩ := hN.at_ 2 (by decide)
  obtain ⟨ka4, kc4, h4⟩ := hN.at_ 4 (by decide)
  obtain ⟨ka5, kc5, h5⟩ := hN.at_ 5 (by decide)
  obtain ⟨ka6, kc6, h6⟩ := hN.at_ 6 (by decide)
  exact ⟨g, cap, ka4, kc4, ka6, kc6, e, ⟨h2.c0, h4.c0, h5.c3, hN.cap, hN.lo⟩, h4.c2, (IntsV.w h4.kids).2, h6.c2, (IntsV.w h6.kids).2⟩
end Go.Proofs.YtblhklbpcalglaaGreatDoor
