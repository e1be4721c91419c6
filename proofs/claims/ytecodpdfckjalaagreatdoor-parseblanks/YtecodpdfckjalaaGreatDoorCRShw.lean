import Derived.Test.YtecodpdfckjalaaGreatDoorCRPr3
import Derived.Lib.SlBytesConst
import Derived.Deep.RegionHeld3
import Derived.Lib.AppendStr
import Derived.Deep.AppendLies
import Derived.Lib.BufferRead
namespace Go.Proofs.YtecodpdfckjalaaGreatDoor
open Go.RowKit
set_option linter.unusedVariables false
set_option linter.unusedSimpArgs false

/-- the example is parsed -/
theorem parse_shown (w W1 : World) (hL : Laid w) (h7 : 7 ≤ w.heap.size) (hW1 : w.alloc (.cells #[.int .u8 118, .int .u8 97, .int .u8 108, .int .u8 32, .int .u8 120, .int .u8 32, .int .u8 61, .int .u8 32, .int .u8 49, .int .u8 32, .int .u8 45, .int .u8 32, .int .u8 50, .int .u8 32, .int .u8 45, .int .u8 32, .int .u8 51, .int .u8 59] 5 (18, 19)) = W1) :
    Calls Tryz.prog 10 #[.slice (some ⟨w.heap.size, 0, none⟩) 18 18, .int .i64 9] W1 (ParQ W1 (shN, 0, 0)) ∧ Below w.heap.size w W1 ∧ W1.heap.size = w.heap.size + 1 := by
  have hh1 : W1.heap[w.heap.size]? = some (.cells #[.int .u8 118, .int .u8 97, .int .u8 108, .int .u8 32, .int .u8 120, .int .u8 32, .int .u8 61, .int .u8 32, .int .u8 49, .int .u8 32, .int .u8 45, .int .u8 32, .int .u8 50, .int .u8 32, .int .u8 45, .int .u8 32, .int .u8 51, .int .u8 59] 5 (18, 19)) := by rw [← hW1]; exact heap_alloc_new _ _
  have b1 : Below w.heap.size w W1 := by rw [← hW1]; exact below1 _ _
  have hz1 : W1.heap.size = w.heap.size + 1 := by rw [← hW1]; simp
  have hsrc : IsSrc W1 (some ⟨w.heap.size, 0, none⟩) 18 shX := ⟨fun _ => ⟨w.heap.size, 0, rfl, by omega, fun i hi => by
    have hi : i < 18 := hi
    match i, hi with
    | 0, _ | 1, _ | 2, _ | 3, _ | 4, _ | 5, _ | 6, _ | 7, _ | 8, _ | 9, _ | 10, _ | 11, _ | 12, _ | 13, _ | 14, _ | 15, _ | 16, _ | 17, _ => simp [World.cell?, hh1, shX]
    | n + 18, h => omega⟩, by decide, by unfold maxLen; decide⟩
  have HC := Parse_any W1 (hL.below b1) (by omega) (some ⟨w.heap.size, 0, none⟩) 18 shX hsrc 9
  rw [shR] at HC
  exact ⟨HC, b1, hz1⟩
end Go.Proofs.YtecodpdfckjalaaGreatDoor
namespace Go.Proofs.YtecodpdfckjalaaGreatDoor
open Go.RowKit
set_option linter.unusedVariables false
set_option linter.unusedSimpArgs false
theorem IntsW.later {W X : World} {B : Nat} {a : Option Addr} {c : Nat} {xs : List Int} (h : IntsW W B a c xs) (hb : Below B W X) (hB : B ≤ X.heap.size) : IntsW X X.heap.size a c xs := by
  refine ⟨h.cap, h.max, fun h0 => ?_⟩
  obtain ⟨b, o, e, hlt, hc⟩ := h.at_ h0
  exact ⟨b, o, e, by omega, fun i hi => by rw [hb.cell (p := ⟨b, o + i, none⟩) hlt]; exact hc i hi⟩
theorem nums_two {W X : World} {a : Option Addr} {c g2 : Nat} {xs : List Int} (n : Nat) (hn : xs.length = n) (hm : n ≤ maxLen) (hI : IntsW W W.heap.size a c xs) (hb : Below W.heap.size W X) (hX : X.heap[g2]? = some (.cells (intsC xs).toArray 3 (0, 0))) :
    Calls Tryz.prog 15 #[.slice a n c, .slice (some ⟨g2, 0, none⟩) n n] X fun e w' => e = .returned (.bool true) ∧ Below X.heap.size X w' := by
  subst hn
  have h2 : IntsW X X.heap.size (some ⟨g2, 0, none⟩) xs.length xs := ⟨Nat.le_refl _, hm, fun _ => ⟨g2, 0, rfl, heapLt hX, fun i hi => by simp [World.cell?, hX, intsC, hi]⟩⟩
  refine Calls.mono (numbers_any X X.heap.size a (some ⟨g2, 0, none⟩) c xs.length xs xs (hI.later hb hb.size) h2) ?_
  rintro e w' ⟨rfl, k, rfl⟩
  exact ⟨by simp, below_drewN (Below.refl _ _) _⟩
theorem sh_all {w W1 W2 : World} {g : Nat} {a4 a6 : Option Addr} {c4 c6 : Nat} (b1 : Below w.heap.size w W1) (z1 : W1.heap.size = w.heap.size + 1) (b2 : Below W1.heap.size W1 W2) (hg : g < W2.heap.size) (s3 : W2.cell? ⟨g, 28, none⟩ = some (.string ⟨#[120]⟩)) (i4 : IntsW W2 W2.heap.size a4 c4 [2, 3]) (k6 : W2.cell? ⟨g, 32, none⟩ = some (.slice a6 1 c6)) (i6 : IntsW W2 W2.heap.size a6 c6 [5]) :
    ∀ X1, (W2.alloc (.cells #[.int .i64 0, .int .i64 0] 30)).alloc (.cells #[.int .i64 2, .int .i64 3] 3) = X1 →
      Calls Tryz.prog 15 #[.slice a4 2 c4, .slice (some ⟨W2.heap.size + 1, 0, none⟩) 2 2] X1 (fun e w' => e = .returned (.bool true) ∧ Below X1.heap.size X1 w') ∧
      ∀ X2, Below X1.heap.size X1 X2 → X2.cell? ⟨g, 28, none⟩ = some (.string ⟨#[120]⟩) ∧ X2.cell? ⟨g, 32, none⟩ = some (.slice a6 1 c6) ∧ g < X2.heap.size ∧ W2.heap.size + 2 ≤ X2.heap.size ∧
        ∀ X3, X2.alloc (.cells #[.int .i64 5] 3) = X3 → Calls Tryz.prog 15 #[.slice a6 1 c6, .slice (some ⟨X2.heap.size, 0, none⟩) 1 1] X3 (fun e w' => e = .returned (.bool true) ∧ Below w.heap.size w w') := by
  intro X1 hX1
  have bx : Below W2.heap.size W2 X1 := by rw [← hX1]; exact (below1 W2 _).trans ((below1 _ _).mono (by simp))
  have zx : X1.heap.size = W2.heap.size + 2 := by rw [← hX1]; simp
  have hx : X1.heap[W2.heap.size + 1]? = some (.cells (intsC [2, 3]).toArray 3 (0, 0)) := by
    rw [← hX1]
    have := heap_alloc_new (W2.alloc (.cells #[.int .i64 0, .int .i64 0] 30)) (.cells #[.int .i64 2, .int .i64 3] 3)
    rw [show (W2.alloc (.cells #[.int .i64 0, .int .i64 0] 30)).heap.size = W2.heap.size + 1 by simp] at this
    exact this
  refine ⟨nums_two 2 rfl (by unfold maxLen; decide) i4 bx hx, fun X2 b3 => ?_⟩
  have hz3 := b3.size
  have b23 : Below W2.heap.size W2 X2 := bx.trans (b3.mono (by omega))
  refine ⟨by rw [b23.cell (p := ⟨g, 28, none⟩) hg]; exact s3, by rw [b23.cell (p := ⟨g, 32, none⟩) hg]; exact k6, by omega, by omega, fun X3 hX3 => ?_⟩
  have b4 : Below X2.heap.size X2 X3 := by rw [← hX3]; exact below1 _ _
  have hy : X3.heap[X2.heap.size]? = some (.cells (intsC [5]).toArray 3 (0, 0)) := by rw [← hX3]; exact heap_alloc_new _ _
  have hzz := b2.size
  have b24 : Below W2.heap.size W2 X3 := b23.trans (b4.mono (by omega))
  have hz4 := b24.size
  refine Calls.mono (nums_two 1 rfl (by unfold maxLen; decide) i6 b24 hy) ?_
  rintro e w' ⟨rfl, hb⟩
  exact ⟨rfl, b1.trans ((b2.mono (by omega)).trans ((b24.mono (by omega)).trans (hb.mono (by omega))))⟩
set_option maxRecDepth 100000 in
set_option maxHeartbeats 1000000 in
theorem shown_any (w : World) (hL : Laid w) (h7 : 7 ≤ w.heap.size) :
    Calls Tryz.prog 7 #[] w fun e w' => e = .returned (.bool true) ∧ Below w.heap.size w w' := by
  have hcv := fun (w : World) (C : Array Value) (n c : Nat) => Lib.run_convert_bytes_const (P := Tryz.prog) w 33 5 C n c Tryz.underlying33 Tryz.underlying5
  have HP : Bx _ := ⟨fun W1 => parse_shown w W1 hL h7⟩
  clear hL
  go_enter Tryz.func7, Tryz.ntmps7
  go_wp2_with (first
    | (go_at_call 10; obtain ⟨W1, hW1⟩ : ∃ W1, w.alloc (.cells #[.int .u8 118, .int .u8 97, .int .u8 108, .int .u8 32, .int .u8 120, .int .u8 32, .int .u8 61, .int .u8 32, .int .u8 49, .int .u8 32, .int .u8 45, .int .u8 32, .int .u8 50, .int .u8 32, .int .u8 45, .int .u8 32, .int .u8 51, .int .u8 59] 5 (18, 19)) = W1 := ⟨_, rfl⟩; have hp := HP.out W1 hW1; rw [hW1]; refine Calls.mono hp.1 ?_; clear hcv; rintro e W2 ⟨nv, rfl, hb, _, hx⟩; obtain ⟨rb, hrb, hno⟩ := hx rfl; obtain ⟨g, cap, a4, c4, a6, c6, rfl, hS, k4, i4, k6, i6⟩ := sh_in hno; obtain ⟨s1, s2, s3, s4, s5⟩ := hS; have HS : Bx _ := ⟨sh_all hp.2.1 hp.2.2 hb s5 s3 i4 k6 i6⟩; clear hb hx hno i4 i6 hrb hp hW1)
    | (go_at_call 15; obtain ⟨X1, hX1⟩ : ∃ X1, (W2.alloc (.cells #[.int .i64 0, .int .i64 0] 30)).alloc (.cells #[.int .i64 2, .int .i64 3] 3) = X1 := ⟨_, rfl⟩; rw [hX1]; have hq := HS.out X1 hX1; clear hX1; refine Calls.mono hq.1 ?_; rintro e X2 ⟨rfl, hb2⟩; obtain ⟨t1, t2, t3, t4, hc6⟩ := hq.2 X2 hb2; have HS6 : Bx _ := ⟨hc6⟩; clear s1 s2 s3 s5 k4 k6 HS hq hb2 hc6)
    | (go_at_call 15; obtain ⟨X3, hX3⟩ : ∃ X3, X2.alloc (.cells #[.int .i64 5] 3) = X3 := ⟨_, rfl⟩; rw [hX3]; have hq := HS6.out X3 hX3; clear hX3; refine Calls.mono hq ?_; rintro e X4 ⟨rfl, hb4⟩))
  go_ret
  exact ⟨rfl, hb4⟩
end Go.Proofs.YtecodpdfckjalaaGreatDoor
namespace Go.Proofs.YtecodpdfckjalaaGreatDoor
open Go.RowKit
set_option linter.unusedVariables false
set_option linter.unusedSimpArgs false

/-! ### squintlaw03.nodes, of two lists that read alike -/
def NdSame (but : Bool) (x y : Nd) : Prop := x.kind = y.kind ∧ x.kids = y.kids ∧ x.name = y.name ∧ x.num = y.num ∧ (but = false → x.pos = y.pos)
theorem NdSame.refl (but : Bool) (x : Nd) : NdSame but x x := ⟨rfl, rfl, rfl, rfl, fun _ => rfl⟩
theorem two_nd (wr : World) (a0 a1 a2 a3 a4 b0 b1 b2 b3 b4 : Value) (X : World) (h : ((wr.alloc (.cells #[a0, a1, a2, a3, a4] 44)).alloc (.cells #[b0, b1, b2, b3, b4] 44)).drew = X) :
    (X.cell? ⟨wr.heap.size, 0, none⟩ = some a0 ∧ X.cell? ⟨wr.heap.size, 1, none⟩ = some a1 ∧ X.cell? ⟨wr.heap.size, 2, none⟩ = some a2 ∧ X.cell? ⟨wr.heap.size, 3, none⟩ = some a3 ∧ X.cell? ⟨wr.heap.size, 4, none⟩ = some a4) ∧
    (X.cell? ⟨wr.heap.size + 1, 0, none⟩ = some b0 ∧ X.cell? ⟨wr.heap.size + 1, 1, none⟩ = some b1 ∧ X.cell? ⟨wr.heap.size + 1, 2, none⟩ = some b2 ∧ X.cell? ⟨wr.heap.size + 1, 3, none⟩ = some b3 ∧ X.cell? ⟨wr.heap.size + 1, 4, none⟩ = some b4) ∧ Below wr.heap.size wr X := by
  have z : (wr.alloc (.cells #[a0, a1, a2, a3, a4] 44)).heap.size = wr.heap.size + 1 := by simp
  have h1 : (wr.alloc (.cells #[a0, a1, a2, a3, a4] 44)).heap[wr.heap.size]? = some (.cells #[a0, a1, a2, a3, a4] 44 (0, 0)) := heap_alloc_new _ _
  have h2 : X.heap[wr.heap.size + 1]? = some (.cells #[b0, b1, b2, b3, b4] 44 (0, 0)) := by
    rw [← h, ← z]
    exact heap_alloc_new (wr.alloc (.cells #[a0, a1, a2, a3, a4] 44)) _
  have b : Below wr.heap.size wr X := by
    rw [← h]
    exact ((below1 wr _).trans ((below1 _ _).mono (by simp))).drew
  have h3 : X.heap[wr.heap.size]? = some (.cells #[a0, a1, a2, a3, a4] 44 (0, 0)) := by
    rw [← h]
    exact ((below1 (wr.alloc (.cells #[a0, a1, a2, a3, a4] 44)) (.cells #[b0, b1, b2, b3, b4] 44)).block wr.heap.size (by simp)).trans h1
  refine ⟨⟨?_, ?_, ?_, ?_, ?_⟩, ⟨?_, ?_, ?_, ?_, ?_⟩, b⟩ <;> simp [World.cell?, h2, h3]
set_option maxRecDepth 100000 in
set_option maxHeartbeats 4000000 in
theorem nodes_some (w : World) (B nb no nc mb mo mc : Nat) (l m : List Nd) (hl : Nodes w B nb no nc l) (hm : Nodes w B mb mo mc m) (but : Bool) (hlen : l.length = m.length) (hs : ∀ p, p < l.length → NdSame but (ndN l p) (ndN m p)) :
    Calls Tryz.prog 11 #[.slice (some ⟨nb, no, none⟩) l.length nc, .slice (some ⟨mb, mo, none⟩) m.length mc, .bool but] w fun e w' => e = .returned (.bool true) ∧ Below w.heap.size w w' := by
  have hl1 := hl.max
  have hc1 := hl.cap
  have hc2 := hm.cap
  unfold maxLen at hl1
  rw [← hlen] at hc2 ⊢
  have HX : Bx _ := ⟨hl⟩
  have HY : Bx _ := ⟨hm⟩
  have HS0 : Bx _ := ⟨hs⟩
  have HN : Bx (l.length = m.length) := ⟨hlen⟩
  have hB := hl.hi
  have hnb := hl.lo
  have hmb := hm.lo
  clear hl hm hs hlen
  generalize hn : l.length = n at *
  have HNN : Bx (l.length = n) := ⟨hn⟩
  clear hn
  go_enter Tryz.func11, Tryz.ntmps11
  go_wp2
  go_loopw [17] (fun x wr => ∃ p : Nat, p ≤ n ∧ x = .int .i64 p ∧ Bx (Below w.heap.size w wr)) (fun x _ => n - (intOf x).toNat)
  case atStart => exact ⟨0, Nat.zero_le _, rfl, ⟨Below.refl _ _⟩⟩
  case round =>
    obtain ⟨p, hp, rfl, HS⟩ := hrel
    by_cases hlt : p < n
    · have hp1 : p < l.length := by rw [HNN.out]; exact hlt
      have hp2 : p < m.length := by rw [← HN.out]; exact hlt
      have hsz := HS.out.size
      obtain ⟨ka, kc, hA⟩ := (HX.out.below (HS.out.mono hB)).at_ p hp1
      obtain ⟨ka2, kc2, hA2⟩ := (HY.out.below (HS.out.mono hB)).at_ p hp2
      have hsm := HS0.out p hlt
      generalize ndN l p = u at *
      generalize ndN m p = v at *
      obtain ⟨ukd, ups, uks, unm, unum⟩ := u
      obtain ⟨vkd, vps, vks, vnm, vnum⟩ := v
      obtain ⟨e1, e2, e3, e4, e5⟩ := hsm
      simp only at e1 e2 e3 e4 e5
      subst e1 e2 e3 e4
      have HC : Bx (∀ W, Below wr.heap.size wr W → Calls Tryz.prog 15 #[.slice ka uks.length kc, .slice ka2 uks.length kc2] W fun e w' => e = .returned (.bool true) ∧ Below W.heap.size W w') := ⟨fun W hb => by
        have i1 : IntsV W B (.slice ka uks.length kc) uks := hA.kids.below (hb.mono (by omega))
        have i2 : IntsV W B (.slice ka2 uks.length kc2) uks := hA2.kids.below (hb.mono (by omega))
        refine Calls.mono (numbers_any W B ka ka2 kc kc2 uks uks (IntsV.w i1).2 (IntsV.w i2).2) ?_
        rintro e w' ⟨rfl, k, rfl⟩
        exact ⟨by simp, below_drewN (Below.refl _ _) _⟩⟩
      have HB9 : Bx (∀ W, Below wr.heap.size wr W → Below w.heap.size w W) := ⟨fun W hb => HS.out.trans (hb.mono hsz)⟩
      have x0 := hA.c0
      have x1 := hA.c1
      have x2 := hA.c2
      have x3 := hA.c3
      have x4 := hA.c4
      have y0 := hA2.c0
      have y1 := hA2.c1
      have y2 := hA2.c2
      have y3 := hA2.c3
      have y4 := hA2.c4
      simp only at x0 x1 x2 x3 x4 y0 y1 y2 y3 y4
      have HA : Bx _ := ⟨hA⟩
      clear hA hA2 HX HY HS HS0 HN HNN hp1 hp2
      generalize uks.length = lx at *
      have n1 := World.new_ne wr _ x0
      have n2 := World.new_ne wr _ y0
      go_wp2_with fail
      go_region_held3 (fun w' => (w'.cell? ⟨nb, no + p * 5, none⟩ = some (.int .i64 ukd) ∧ w'.cell? ⟨nb, no + p * 5 + 1, none⟩ = some (.int .i64 ups) ∧ w'.cell? ⟨nb, no + p * 5 + 2, none⟩ = some (.slice ka lx kc) ∧ w'.cell? ⟨nb, no + p * 5 + 3, none⟩ = some (.string unm) ∧ w'.cell? ⟨nb, no + p * 5 + 4, none⟩ = some (.int .i64 unum)) ∧ (w'.cell? ⟨mb, mo + p * 5, none⟩ = some (.int .i64 ukd) ∧ w'.cell? ⟨mb, mo + p * 5 + 1, none⟩ = some (.int .i64 vps) ∧ w'.cell? ⟨mb, mo + p * 5 + 2, none⟩ = some (.slice ka2 lx kc2) ∧ w'.cell? ⟨mb, mo + p * 5 + 3, none⟩ = some (.string unm) ∧ w'.cell? ⟨mb, mo + p * 5 + 4, none⟩ = some (.int .i64 unum)))
        (go_keep)
        (fail)
      all_goals
        generalize hX : ((wr.alloc _).alloc _).drew = X
        obtain ⟨⟨c0, c1, c2, c3, c4⟩, ⟨d0, d1, d2, d3, d4⟩, bX⟩ := two_nd wr _ _ _ _ _ _ _ _ _ _ X hX
        have HBX : Bx _ := ⟨bX⟩
        clear hX bX x0 x1 x2 x3 x4 y0 y1 y2 y3 y4
        by_cases hpos : ups = vps
        · subst hpos
          go_wp2_with (first | (go_at_call 15; refine Calls.mono (HC.out _ HBX.out) ?_; rintro e w5 ⟨rfl, hb5⟩; have HB5 : Bx _ := ⟨HB9.out _ (HBX.out.trans (hb5.mono HBX.out.size))⟩; clear hb5))
          go_roundw
          case rel => exact ⟨p + 1, by omega, by go_num, HB5⟩
          case measure => simp [intOf]; omega
        · obtain rfl : but = true := by
            cases but with
            | true => rfl
            | false => exact absurd (e5 rfl) hpos
          have hne : (ups != vps) = true := by simpa using hpos
          go_wp2_with (first | (go_at_call 15; refine Calls.mono (HC.out _ HBX.out) ?_; rintro e w5 ⟨rfl, hb5⟩; have HB5 : Bx _ := ⟨HB9.out _ (HBX.out.trans (hb5.mono HBX.out.size))⟩; clear hb5))
          go_roundw
          case rel => exact ⟨p + 1, by omega, by go_num, HB5⟩
          case measure => simp [intOf]; omega
    · go_wp2
      go_ret
      exact ⟨rfl, HS.out⟩
end Go.Proofs.YtecodpdfckjalaaGreatDoor
namespace Go.Proofs.YtecodpdfckjalaaGreatDoor
open Go.RowKit
set_option linter.unusedVariables false
set_option linter.unusedSimpArgs false

/-! ### heights of what is read: the last node is the highest -/
mutual
def Tr.ht : Tr → Nat
  | .mk _ _ _ _ ks => hts ks + 1
def hts : List Tr → Nat
  | [] => 0
  | t :: r => max t.ht (hts r)
end
mutual
def hl : Tr → List Nat
  | .mk _ _ _ _ ks => hls ks ++ [hts ks + 1]
def hls : List Tr → List Nat
  | [] => []
  | t :: r => hl t ++ hls r
end
mutual
theorem hl_len : ∀ (t : Tr), (hl t).length = t.size
  | .mk k p n nm ks => by
    rw [hl, Tr.size, List.length_append, hls_len ks]
    rfl
theorem hls_len : ∀ (ts : List Tr), (hls ts).length = sizes ts
  | [] => rfl
  | t :: r => by
    rw [hls, sizes, List.length_append, hl_len t, hls_len r]
end
mutual
theorem hl_le : ∀ (t : Tr), ∀ h ∈ hl t, h ≤ t.ht
  | .mk k p n nm ks, h, hh => by
    rw [hl] at hh
    rw [Tr.ht]
    rcases List.mem_append.1 hh with hh | hh
    · have := hls_le ks h hh
      omega
    · have := List.mem_singleton.1 hh
      omega
theorem hls_le : ∀ (ts : List Tr), ∀ h ∈ hls ts, h ≤ hts ts
  | [], h, hh => by simp [hls] at hh
  | t :: r, h, hh => by
    rw [hls] at hh
    rw [hts]
    rcases List.mem_append.1 hh with hh | hh
    · have := hl_le t h hh
      omega
    · have := hls_le r h hh
      omega
end
theorem hl_last (t : Tr) : ∃ r, hl t = r ++ [t.ht] := by
  cases t with
  | mk k p n nm ks => exact ⟨hls ks, by rw [hl, Tr.ht]⟩
theorem top_ends : ∀ (ks : List Tr) (A : List Nat) (t : Nat), topGo (A ++ hls ks) (ends ks A.length) t = max t (hts ks)
  | [], A, t => by simp [ends, topGo, hts]
  | x :: r, A, t => by
    obtain ⟨q, hq⟩ := hl_last x
    have hz := hl_len x
    have hp := size_pos x
    have ih := top_ends r (A ++ hl x) (max t x.ht)
    rw [List.length_append, hz] at ih
    rw [ends, topGo, hls, hts, ← List.append_assoc]
    have e1 : ((A ++ hl x) ++ hls r).getD (((A.length + x.size - 1 : Nat) : Int)).toNat 0 = x.ht := by
      have hql : q.length + 1 = x.size := by rw [← hz, hq]; simp
      rw [Int.toNat_natCast, show A.length + x.size - 1 = A.length + q.length by omega, hq, List.getD_eq_getElem?_getD, List.append_assoc, List.getElem?_append_right (by omega), show A.length + q.length - A.length = q.length by omega, List.append_assoc, List.getElem?_append_right (by omega)]
      simp
    rw [if_pos ⟨by omega, by simp only [List.length_append, hz]; omega⟩, e1, ih]
    omega
mutual
theorem hg_flat : ∀ (t : Tr) (A B : List Nd) (hs : List Nat) (n : Nat), hs.length = A.length → heightsGo (A ++ flat t A.length ++ B) (t.size + n) hs = heightsGo (A ++ flat t A.length ++ B) n (hs ++ hl t)
  | .mk k p m nm ks, A, B, hs, n, hh => by
    have ih := hg_flats ks A ([⟨k, p, ends ks A.length, ⟨nm.toArray⟩, m⟩] ++ B) hs (n + 1) hh
    simp only [flat, Tr.size, hl] at ih ⊢
    have e : ∀ (X Y Z : List Nd), A ++ (X ++ Y) ++ Z = A ++ X ++ (Y ++ Z) := fun X Y Z => by simp [List.append_assoc]
    rw [e, show sizes ks + 1 + n = sizes ks + (n + 1) by omega, ih, heightsGo]
    congr 1
    rw [List.append_assoc]
    congr 1
    have hlen : (hs ++ hls ks).length = (A ++ flats ks A.length).length := by simp [hls_len, flats_len, hh]
    have en : ndN (A ++ flats ks A.length ++ ([⟨k, p, ends ks A.length, ⟨nm.toArray⟩, m⟩] ++ B)) (hs ++ hls ks).length = ⟨k, p, ends ks A.length, ⟨nm.toArray⟩, m⟩ := by
      rw [hlen]
      unfold ndN
      rw [List.getD_eq_getElem?_getD, List.getElem?_append_right (Nat.le_refl _)]
      simp
    rw [en]
    simp only
    rw [← hh, top_ends ks hs 0]
    simp
theorem hg_flats : ∀ (ts : List Tr) (A B : List Nd) (hs : List Nat) (n : Nat), hs.length = A.length → heightsGo (A ++ flats ts A.length ++ B) (sizes ts + n) hs = heightsGo (A ++ flats ts A.length ++ B) n (hs ++ hls ts)
  | [], A, B, hs, n, hh => by simp [flats, sizes, hls]
  | t :: r, A, B, hs, n, hh => by
    have i1 := hg_flat t A (flats r (A.length + t.size) ++ B) hs (sizes r + n) hh
    have i2 := hg_flats r (A ++ flat t A.length) B (hs ++ hl t) n (by simp [hl_len, flat_len, hh])
    have e1 : (A ++ flat t A.length).length = A.length + t.size := by simp [flat_len]
    rw [e1] at i2
    have e : A ++ flats (t :: r) A.length ++ B = A ++ flat t A.length ++ (flats r (A.length + t.size) ++ B) := by rw [flats]; simp [List.append_assoc]
    have e' : A ++ flat t A.length ++ flats r (A.length + t.size) ++ B = A ++ flat t A.length ++ (flats r (A.length + t.size) ++ B) := by simp [List.append_assoc]
    rw [e'] at i2
    rw [e, sizes, hls, show t.size + sizes r + n = t.size + (sizes r + n) by omega, i1, i2, List.append_assoc hs]
end
theorem heights_flats (ts : List Tr) : heightsL (flats ts 0) = hls ts := by
  have h := hg_flats ts [] [] [] 0 rfl
  simp only [List.nil_append, List.append_nil, List.length_nil, Nat.add_zero] at h
  unfold heightsL
  rw [flats_len, h]
  rfl
/-! ### the first that is too high -/
theorem hi_none (l : List Nd) (nest : Int) : ∀ (hs : List Nat) (i : Nat), (∀ h ∈ hs, (h : Int) ≤ nest) → hiGo l nest hs i = (0, 0)
  | [], i, _ => rfl
  | h :: r, i, hh => by
    have := hh h (List.mem_cons_self ..)
    rw [hiGo, if_neg (by omega)]
    exact hi_none l nest r (i + 1) (fun x hx => hh x (List.mem_cons_of_mem _ hx))
theorem hi_some (l : List Nd) (nest : Int) : ∀ (hs : List Nat) (i : Nat), (∃ h ∈ hs, nest < (h : Int)) → (hiGo l nest hs i).2 = 31
  | [], i, ⟨h, hm, _⟩ => by simp at hm
  | h :: r, i, ⟨x, hm, hx⟩ => by
    rw [hiGo]
    split
    · rfl
    · rename_i hn
      rcases List.mem_cons.1 hm with rfl | hm
      · exact absurd hx hn
      · exact hi_some l nest r (i + 1) ⟨x, hm, hx⟩
theorem hi_exists (l : List Nd) (nest : Int) : ∀ (hs : List Nat) (i : Nat), (hiGo l nest hs i).2 ≠ 0 → ∃ h ∈ hs, nest < (h : Int)
  | [], i, e => by simp [hiGo] at e
  | h :: r, i, e => by
    rw [hiGo] at e
    split at e
    · rename_i hn
      exact ⟨h, List.mem_cons_self .., hn⟩
    · obtain ⟨x, hx, hy⟩ := hi_exists l nest r (i + 1) e
      exact ⟨x, List.mem_cons_of_mem _ hx, hy⟩
theorem hi_at (l : List Nd) (nest : Int) : ∀ (hs : List Nat) (i p : Nat) (hp : p < hs.length), (∀ j, j < p → (hs.getD j 0 : Int) ≤ nest) → nest < (hs.getD p 0 : Nat) → hiGo l nest hs i = ((ndN l (i + p)).pos, 31)
  | [], i, p, hp, _, _ => by simp at hp
  | h :: r, i, 0, hp, _, h2 => by
    rw [hiGo, if_pos (by simpa using h2)]
    rfl
  | h :: r, i, p + 1, hp, h1, h2 => by
    have h0 := h1 0 (by omega)
    rw [hiGo, if_neg (by simpa using h0), hi_at l nest r (i + 1) p (by simpa using hp) (fun j hj => by simpa using h1 (j + 1) (by omega)) (by simpa using h2), show i + 1 + p = i + (p + 1) by omega]
theorem program_one {f : Nat} {s s' : List PTok} {ts : List Tr} (h : pF (f + 1) .program s = .ok ts s') : ∃ t, ts = [t] := by
  simp only [pF, body] at h
  match h1 : pF f .types s with
  | .out => rw [h1] at h; simp [andT] at h
  | .err _ => rw [h1] at h; simp [andT] at h
  | .ok a s1 =>
    rw [h1] at h
    simp only [andT] at h
    match h2 : pF f .tops s1 with
    | .out => rw [h2] at h; simp at h
    | .err _ => rw [h2] at h; simp at h
    | .ok b s2 =>
      rw [h2] at h
      simp only [Res.ok.injEq] at h
      exact ⟨_, h.1.symm⟩
/-- P3.6, plain -/
structure NestR (l m : List Nd) (fa fc ga gc nest : Int) : Prop where
  deep : fc = 31 → nest ≤ 65536 → gc = 31
  bad : fc ≠ 31 → fc ≠ 0 → ga = fa ∧ gc = fc
  bad0 : fc ≠ 0 → l = []
  gbad : gc ≠ 0 → m = []
  top : fc = 0 → fa = 0 ∧ 0 < l.length ∧ (∀ h ∈ heightsL l, h ≤ (heightsL l).getD (l.length - 1) 0) ∧ (((heightsL l).getD (l.length - 1) 0 : Nat) ≤ nest → m = l ∧ ga = 0 ∧ gc = 0) ∧ (nest < ((heightsL l).getD (l.length - 1) 0 : Nat) → gc = 31 ∧ ∀ p, p < l.length → (∀ j, j < p → ((heightsL l).getD j 0 : Int) ≤ nest) → nest < ((heightsL l).getD p 0 : Nat) → ga = (ndN l p).pos)
theorem nest_plain (xs : List UInt8) (nest : Int) : NestR (parseR xs 65536).1 (parseR xs nest).1 (parseR xs 65536).2.1 (parseR xs 65536).2.2 (parseR xs nest).2.1 (parseR xs nest).2.2 nest := by
  unfold parseR
  by_cases h0 : (scanAll xs).2.2 = 0
  · rw [if_neg (fun h => h h0), if_neg (fun h => h h0)]
    have hne := parse_ne xs h0
    match hR : pF (parseF (scanAll xs).1.length + 1) .program (pts xs (withEnd (scanAll xs).1 xs.length) 0) with
    | .out => exact absurd hR hne
    | .err s' =>
      exact ⟨fun h => by simp at h, fun _ _ => ⟨rfl, rfl⟩, fun _ => rfl, fun _ => rfl, fun h => by simp at h⟩
    | .ok ts s' =>
      obtain ⟨t, rfl⟩ := program_one hR
      simp only
      have hh : heightsL (flats [t] 0) = hl t := by rw [heights_flats]; simp [hls]
      obtain ⟨q, hq⟩ := hl_last t
      have hlen : (flats [t] 0).length = q.length + 1 := by rw [← heightsL_len, hh, hq]; simp
      have hlast : (hl t).getD ((flats [t] 0).length - 1) 0 = t.ht := by rw [hlen, hq]; simp [List.getD_eq_getElem?_getD]
      have hle := hl_le t
      have hmem : t.ht ∈ hl t := by rw [hq]; simp
      have gb : ∀ n : Int, ((if (hiGo (flats [t] 0) n (heightsL (flats [t] 0)) 0).2 ≠ 0 then (([] : List Nd), hiGo (flats [t] 0) n (heightsL (flats [t] 0)) 0) else (flats [t] 0, 0, 0))).2.2 ≠ 0 → ((if (hiGo (flats [t] 0) n (heightsL (flats [t] 0)) 0).2 ≠ 0 then (([] : List Nd), hiGo (flats [t] 0) n (heightsL (flats [t] 0)) 0) else (flats [t] 0, 0, 0))).1 = [] := fun n h => by
        split at h
        · rename_i hh
          rw [if_pos hh]
        · simp at h
      refine ⟨fun h hn => ?_, fun h1 h2 => ?_, gb _, gb _, fun h => ?_⟩
      · split at h
        · rename_i h1
          obtain ⟨x, hx, hy⟩ := hi_exists _ _ _ _ h1
          have e := hi_some (flats [t] 0) nest (heightsL (flats [t] 0)) 0 ⟨x, hx, by omega⟩
          rw [if_pos (by rw [e]; decide)]
          exact e
        · simp at h
      · exfalso
        split at h1
        · rename_i h3
          obtain ⟨x, hx, hy⟩ := hi_exists _ _ _ _ h3
          exact h1 (hi_some (flats [t] 0) 65536 (heightsL (flats [t] 0)) 0 ⟨x, hx, hy⟩)
        · rename_i h3
          rw [if_neg h3] at h2
          exact h2 rfl
      · split at h
        · rename_i h3
          exact absurd h h3
        · rename_i h3
          rw [if_neg h3]
          simp only
          rw [hh, hlast]
          refine ⟨by first | rfl | trivial, by omega, hle, fun hn => ?_, fun hn => ?_⟩
          · have e := hi_none (flats [t] 0) nest (hl t) 0 (fun x hx => by have := hle x hx; omega)
            rw [if_neg (by rw [e]; simp)]
            exact ⟨rfl, rfl, rfl⟩
          · have e := hi_some (flats [t] 0) nest (hl t) 0 ⟨t.ht, hmem, hn⟩
            rw [if_pos (by rw [e]; decide)]
            refine ⟨e, fun p hp h1 h2 => ?_⟩
            have e2 := hi_at (flats [t] 0) nest (hl t) 0 p (by rw [← hh, heightsL_len]; exact hp) h1 h2
            rw [e2]
            simp
  · rw [if_pos h0, if_pos h0]
    have h0' : (((scanAll xs).2.2 : Nat) : Int) ≠ 0 := by omega
    exact ⟨fun h _ => h, fun _ _ => ⟨rfl, rfl⟩, fun _ => rfl, fun _ => rfl, fun h => absurd h h0'⟩
end Go.Proofs.YtecodpdfckjalaaGreatDoor
namespace Go.Proofs.YtecodpdfckjalaaGreatDoor
open Go.RowKit
set_option linter.unusedVariables false
set_option linter.unusedSimpArgs false

/-! ### parse.Parse, as the statements use it: what is told may be read -/
theorem parse_empty (xs : List UInt8) (nest : Int) (h : (parseR xs nest).2.2 ≠ 0) : (parseR xs nest).1 = [] := by
  unfold parseR at h ⊢
  by_cases h0 : (scanAll xs).2.2 = 0
  · rw [if_neg (fun h => h h0)] at h ⊢
    match hR : pF (parseF (scanAll xs).1.length + 1) .program (pts xs (withEnd (scanAll xs).1 xs.length) 0) with
    | .out => rfl
    | .err s' => rfl
    | .ok ts s' =>
      rw [hR] at h
      simp only at h ⊢
      split at h
      · rename_i h1
        rw [if_pos h1]
      · simp at h
  · rw [if_pos h0]
theorem parse_good (xs : List UInt8) (nest : Int) (h : (parseR xs nest).2.2 = 0) : (scanAll xs).2.2 = 0 ∧ ∃ t s', pF (parseF (scanAll xs).1.length + 1) .program (pts xs (withEnd (scanAll xs).1 xs.length) 0) = .ok [t] s' ∧ parseR xs nest = (flats [t] 0, 0, 0) ∧ hiGo (flats [t] 0) nest (heightsL (flats [t] 0)) 0 = (0, 0) := by
  unfold parseR at h ⊢
  by_cases h0 : (scanAll xs).2.2 = 0
  · rw [if_neg (fun h => h h0)] at h ⊢
    refine ⟨h0, ?_⟩
    have hne := parse_ne xs h0
    match hR : pF (parseF (scanAll xs).1.length + 1) .program (pts xs (withEnd (scanAll xs).1 xs.length) 0) with
    | .out => exact absurd hR hne
    | .err s' => rw [hR] at h; simp at h
    | .ok ts s' =>
      obtain ⟨t, rfl⟩ := program_one hR
      rw [hR] at h
      simp only at h ⊢
      split at h
      · rename_i h1
        exact absurd h h1
      · rename_i h1
        rw [if_neg h1]
        refine ⟨t, s', rfl, rfl, ?_⟩
        exact hi_zero _ _ _ _ (by simpa using h1)
  · rw [if_pos h0] at h
    exact absurd h (by simp only; omega)
theorem parse_wf (xs : List UInt8) (nest : Int) : (∀ n ∈ (parseR xs nest).1, NdWf n) ∧ (parseR xs nest).1.length ≤ 200000 ∧ ∀ n ∈ (parseR xs nest).1, n.kids.length ≤ 200000 := by
  by_cases h : (parseR xs nest).2.2 = 0
  · obtain ⟨h0, t, s', hR, e, _⟩ := parse_good xs nest h
    rw [e]
    exact read_in xs h0 _ [t] s' hR
  · rw [parse_empty xs nest h]
    exact ⟨fun n hn => by simp at hn, by simp, fun n hn => by simp at hn⟩
def ParX (w : World) (R : List Nd × Int × Int) (e : Ending) (w' : World) : Prop :=
  ∃ a cap, e = .returned (.tuple #[.slice a R.1.length cap, .agg #[.int .i64 R.2.1, .int .i64 R.2.2]]) ∧ Below w.heap.size w w' ∧ IsNodes w' w'.heap.size a cap R.1
theorem Parse_x (w : World) (hL : Laid w) (h7 : 7 ≤ w.heap.size) (a : Option Addr) (cap : Nat) (xs : List UInt8) (hs : IsSrc w a cap xs) (nest : Int) :
    Calls Tryz.prog 10 #[.slice a xs.length cap, .int .i64 nest] w (ParX w (parseR xs nest)) := by
  refine Calls.mono (Parse_any w hL h7 a cap xs hs nest) ?_
  rintro e w' ⟨nv, rfl, hb, h1, h2⟩
  by_cases h : (parseR xs nest).2.2 = 0
  · obtain ⟨rb, _, hno⟩ := h2 h
    obtain ⟨g1, g2, g3⟩ := parse_wf xs nest
    obtain ⟨a', c', rfl, hn⟩ := nodes_in hno g1 g2 g3
    exact ⟨a', c', rfl, hb, hn⟩
  · have e0 := parse_empty xs nest h
    refine ⟨none, 0, ?_, hb, ?_⟩
    · rw [h1 h, e0]; rfl
    · rw [e0]; exact ⟨fun h => absurd h (by simp), Nat.le_refl _⟩
/-- two lists, also where they are empty -/
theorem nodes_yes (w : World) (B : Nat) (a b : Option Addr) (ca cb : Nat) (l m : List Nd) (hl : IsNodes w B a ca l) (hm : IsNodes w B b cb m) (but : Bool) (hlen : l.length = m.length) (hs : ∀ p, p < l.length → NdSame but (ndN l p) (ndN m p)) :
    Calls Tryz.prog 11 #[.slice a l.length ca, .slice b m.length cb, .bool but] w fun e w' => e = .returned (.bool true) ∧ Below w.heap.size w w' := by
  by_cases h0 : 0 < l.length
  · obtain ⟨nb, no, rfl, h1⟩ := hl.at_ h0
    obtain ⟨mb, mo, rfl, h2⟩ := hm.at_ (by omega)
    exact nodes_some w B nb no ca mb mo cb l m h1 h2 but hlen hs
  · have e1 : l.length = 0 := by omega
    have e2 : m.length = 0 := by omega
    rw [e1, e2]
    clear hl hm hs e1 e2 hlen h0
    go_enter Tryz.func11, Tryz.ntmps11
    go_wp2
    refine wp_loop_rounds 1 ?_
    rw [rounds_succ]
    go_wp2
    go_ret
    exact ⟨rfl, Below.refl _ _⟩
end Go.Proofs.YtecodpdfckjalaaGreatDoor
namespace Go.Proofs.YtecodpdfckjalaaGreatDoor
open Go.RowKit
set_option linter.unusedVariables false
set_option linter.unusedSimpArgs false

theorem IntsV.upP {w : World} {B C : Nat} {v : Value} {ks : List Int} (h : IntsV w B v ks) (hB : B ≤ C) : IntsV w C v ks := by
  obtain ⟨a, c, e, h1, h2, h3⟩ := h.ex
  refine ⟨a, c, e, h1, h2, fun h0 => ?_⟩
  obtain ⟨b, o, e1, e2, e3⟩ := h3 h0
  exact ⟨b, o, e1, by omega, e3⟩
theorem IsNodes.upP {w : World} {B C cap : Nat} {a : Option Addr} {l : List Nd} (h : IsNodes w B a cap l) (hB : B ≤ C) (hC : C ≤ w.heap.size) : IsNodes w C a cap l := by
  refine ⟨fun h0 => ?_, hC⟩
  obtain ⟨nb, no, e, hn⟩ := h.at_ h0
  refine ⟨nb, no, e, fun j hj => ?_, hn.wf, by have := hn.lo; omega, hC, hn.max, hn.cap⟩
  obtain ⟨ka, kc, q⟩ := hn.at_ j hj
  exact ⟨ka, kc, q.c0, q.c1, q.c2, q.c3, q.c4, q.kids.upP hB⟩
/-- nodes that were told stay, whatever is made behind them -/
theorem IsNodes.later {w w' : World} {cap : Nat} {a : Option Addr} {l : List Nd} (h : IsNodes w w.heap.size a cap l) (hb : Below w.heap.size w w') : IsNodes w' w'.heap.size a cap l :=
  (h.below hb).upP hb.size (Nat.le_refl _)
/-- behind the two calls of Parse -/
structure NsS (w W : World) (b1 b2 : Nat) (na ma : Option Addr) (nc mc : Nat) (l m : List Nd) (fa fc ga gc : Int) : Prop where
  bel : Below w.heap.size w W
  f0 : W.cell? ⟨b1, 0, none⟩ = some (.int .i64 fa)
  f1 : W.cell? ⟨b1, 1, none⟩ = some (.int .i64 fc)
  g0 : W.cell? ⟨b2, 0, none⟩ = some (.int .i64 ga)
  g1 : W.cell? ⟨b2, 1, none⟩ = some (.int .i64 gc)
  nl : IsNodes W W.heap.size na nc l
  nm : IsNodes W W.heap.size ma mc m
theorem NsS.later {w W W' : World} {b1 b2 : Nat} {na ma : Option Addr} {nc mc : Nat} {l m : List Nd} {fa fc ga gc : Int} (h : NsS w W b1 b2 na ma nc mc l m fa fc ga gc) (hb : Below W.heap.size W W') : NsS w W' b1 b2 na ma nc mc l m fa fc ga gc := by
  have k1 := World.block_lt_of_cell? W _ h.f0
  have k2 := World.block_lt_of_cell? W _ h.g0
  exact ⟨h.bel.trans (hb.mono h.bel.size), by rw [hb.cell (p := ⟨b1, 0, none⟩) k1]; exact h.f0, by rw [hb.cell (p := ⟨b1, 1, none⟩) k1]; exact h.f1, by rw [hb.cell (p := ⟨b2, 0, none⟩) k2]; exact h.g0, by rw [hb.cell (p := ⟨b2, 1, none⟩) k2]; exact h.g1, h.nl.later hb, h.nm.later hb⟩
theorem ns_of {w W2 W3 W4 W5 : World} {na ma : Option Addr} {nc mc : Nat} {l m : List Nd} {fa fc ga gc : Int} (b2 : Below w.heap.size w W2) (n2 : IsNodes W2 W2.heap.size na nc l) (h3 : W2.alloc (.cells #[.int .i64 fa, .int .i64 fc] 30) = W3) (b4 : Below W3.heap.size W3 W4) (n4 : IsNodes W4 W4.heap.size ma mc m) (h5 : W4.alloc (.cells #[.int .i64 ga, .int .i64 gc] 30) = W5) :
    NsS w W5 W2.heap.size W4.heap.size na ma nc mc l m fa fc ga gc := by
  have c3 : W3.heap[W2.heap.size]? = some (.cells #[.int .i64 fa, .int .i64 fc] 30 (0, 0)) := by rw [← h3]; exact heap_alloc_new _ _
  have b3 : Below W2.heap.size W2 W3 := by rw [← h3]; exact below1 _ _
  have c5 : W5.heap[W4.heap.size]? = some (.cells #[.int .i64 ga, .int .i64 gc] 30 (0, 0)) := by rw [← h5]; exact heap_alloc_new _ _
  have b5 : Below W4.heap.size W4 W5 := by rw [← h5]; exact below1 _ _
  have z3 : W2.heap.size < W3.heap.size := heapLt c3
  have z4 := b4.size
  have z2 := b2.size
  have b35 : Below W3.heap.size W3 W5 := b4.trans (b5.mono z4)
  have c35 := (b35.block _ z3).trans c3
  refine ⟨b2.trans ((b3.trans (b35.mono (by omega))).mono z2), by simp [World.cell?, c35], by simp [World.cell?, c35], by simp [World.cell?, c5], by simp [World.cell?, c5], ?_, n4.later b5⟩
  exact n2.later (b3.trans (b35.mono (by omega)))

def ParE (w : World) (l : List Nd) (fa fc : Int) (e : Ending) (w' : World) : Prop :=
  ∃ a cap, e = .returned (.tuple #[.slice a l.length cap, .agg #[.int .i64 fa, .int .i64 fc]]) ∧ Below w.heap.size w w' ∧ IsNodes w' w'.heap.size a cap l

/-! ### the cases -/
theorem bel_one {w W2 W3 : World} {o : Obj} (h : Below w.heap.size w W2) (e : W2.alloc o = W3) : Below w.heap.size w W3 := by
  rw [← e]
  exact h.trans ((below1 _ _).mono h.size)
theorem fault_at {W2 W3 W4 : World} {fa fc : Int} (h3 : W2.alloc (.cells #[.int .i64 fa, .int .i64 fc] 30) = W3) (b4 : Below W3.heap.size W3 W4) : W4.cell? ⟨W2.heap.size, 0, none⟩ = some (.int .i64 fa) ∧ W4.cell? ⟨W2.heap.size, 1, none⟩ = some (.int .i64 fc) ∧ W2.heap.size < W4.heap.size := by
  have c3 : W3.heap[W2.heap.size]? = some (.cells #[.int .i64 fa, .int .i64 fc] 30 (0, 0)) := by rw [← h3]; exact heap_alloc_new _ _
  have z3 : W2.heap.size < W3.heap.size := heapLt c3
  have c35 := (b4.block _ z3).trans c3
  exact ⟨by simp [World.cell?, c35], by simp [World.cell?, c35], by have := b4.size; omega⟩
set_option maxRecDepth 100000 in
set_option maxHeartbeats 2000000 in
theorem nest_a1 (w : World) (a : Option Addr) (n cap : Nat) (nest : Int) (l m : List Nd) (fa ga gc : Int) (hn : 65536 < nest)
    (HSh : Bx (Calls Tryz.prog 7 #[] w fun e w' => e = .returned (.bool true) ∧ Below w.heap.size w w'))
    (HP1 : Bx (∀ W, Below w.heap.size w W → Calls Tryz.prog 10 #[.slice a n cap, .int .i64 65536] W (ParE W l fa 31)))
    (HP2 : Bx (∀ W, Below w.heap.size w W → Calls Tryz.prog 10 #[.slice a n cap, .int .i64 nest] W (ParE W m ga gc))) :
    Calls Tryz.prog 5 #[.slice a n cap, .int .i64 nest] w fun e w' => e = .returned (.bool true) ∧ Below w.heap.size w w' := by
  go_enter Tryz.func5, Tryz.ntmps5
  go_wp2_with (first
    | (go_at_call 7; refine Calls.mono HSh.out ?_; rintro e W1 ⟨rfl, hb1⟩; clear HSh)
    | (go_at_call 10; refine Calls.mono (HP1.out _ hb1) ?_; clear HP1; rintro e W2 ⟨na, nc, rfl, hb2, hn2⟩; obtain ⟨W3, hW3⟩ : ∃ W3, W2.alloc (.cells #[.int .i64 fa, .int .i64 31] 30) = W3 := ⟨_, rfl⟩; have HW3 : Bx _ := ⟨hW3⟩; have HN2 : Bx _ := ⟨hn2⟩; have HB2 : Bx _ := ⟨hb1.trans (hb2.mono hb1.size)⟩; clear hW3 hn2 hb1 hb2)
    | (go_at_call 10; rw [HW3.out]; refine Calls.mono (HP2.out _ (bel_one HB2.out HW3.out)) ?_; clear HP2; rintro e W4 ⟨ma, mc, rfl, hb4, hn4⟩; obtain ⟨W5, hW5⟩ : ∃ W5, W4.alloc (.cells #[.int .i64 ga, .int .i64 gc] 30) = W5 := ⟨_, rfl⟩; have HS5 : Bx _ := ⟨ns_of HB2.out HN2.out HW3.out hb4 hn4 hW5⟩; have HW5 : Bx _ := ⟨hW5⟩; obtain ⟨k0, k1, k2⟩ := fault_at HW3.out hb4; clear hW5 hn4 hb4 HW3 HN2 HB2))
  go_ret
  refine ⟨rfl, ?_⟩
  first | exact HS5.out.bel | (rw [HW5.out]; exact HS5.out.bel)
set_option maxRecDepth 100000 in
set_option maxHeartbeats 2000000 in
theorem nest_a2 (w : World) (a : Option Addr) (n cap : Nat) (nest : Int) (l m : List Nd) (fa ga : Int) (hn : ¬ 65536 < nest)
    (HSh : Bx (Calls Tryz.prog 7 #[] w fun e w' => e = .returned (.bool true) ∧ Below w.heap.size w w'))
    (HP1 : Bx (∀ W, Below w.heap.size w W → Calls Tryz.prog 10 #[.slice a n cap, .int .i64 65536] W (ParE W l fa 31)))
    (HP2 : Bx (∀ W, Below w.heap.size w W → Calls Tryz.prog 10 #[.slice a n cap, .int .i64 nest] W (ParE W m ga 31))) :
    Calls Tryz.prog 5 #[.slice a n cap, .int .i64 nest] w fun e w' => e = .returned (.bool true) ∧ Below w.heap.size w w' := by
  have hn2 : nest ≤ 65536 := by omega
  clear hn
  go_enter Tryz.func5, Tryz.ntmps5
  go_wp2_with (first
    | (go_at_call 7; refine Calls.mono HSh.out ?_; rintro e W1 ⟨rfl, hb1⟩; clear HSh)
    | (go_at_call 10; refine Calls.mono (HP1.out _ hb1) ?_; clear HP1; rintro e W2 ⟨na, nc, rfl, hb2, hn2⟩; obtain ⟨W3, hW3⟩ : ∃ W3, W2.alloc (.cells #[.int .i64 fa, .int .i64 31] 30) = W3 := ⟨_, rfl⟩; have HW3 : Bx _ := ⟨hW3⟩; have HN2 : Bx _ := ⟨hn2⟩; have HB2 : Bx _ := ⟨hb1.trans (hb2.mono hb1.size)⟩; clear hW3 hn2 hb1 hb2)
    | (go_at_call 10; rw [HW3.out]; refine Calls.mono (HP2.out _ (bel_one HB2.out HW3.out)) ?_; clear HP2; rintro e W4 ⟨ma, mc, rfl, hb4, hn4⟩; obtain ⟨W5, hW5⟩ : ∃ W5, W4.alloc (.cells #[.int .i64 ga, .int .i64 31] 30) = W5 := ⟨_, rfl⟩; have HS5 : Bx _ := ⟨ns_of HB2.out HN2.out HW3.out hb4 hn4 hW5⟩; have HW5 : Bx _ := ⟨hW5⟩; obtain ⟨k0, k1, k2⟩ := fault_at HW3.out hb4; clear hW5 hn4 hb4 HW3 HN2 HB2))
  go_ret
  refine ⟨rfl, ?_⟩
  first | exact HS5.out.bel | (rw [HW5.out]; exact HS5.out.bel)
set_option maxRecDepth 100000 in
set_option maxHeartbeats 2000000 in
theorem nest_b (w : World) (a : Option Addr) (n cap : Nat) (nest : Int) (l m : List Nd) (fa fc : Int) (h31 : (fc == 31) = false) (h0 : (fc != 0) = true)
    (HSh : Bx (Calls Tryz.prog 7 #[] w fun e w' => e = .returned (.bool true) ∧ Below w.heap.size w w'))
    (HP1 : Bx (∀ W, Below w.heap.size w W → Calls Tryz.prog 10 #[.slice a n cap, .int .i64 65536] W (ParE W l fa fc)))
    (HP2 : Bx (∀ W, Below w.heap.size w W → Calls Tryz.prog 10 #[.slice a n cap, .int .i64 nest] W (ParE W m fa fc))) :
    Calls Tryz.prog 5 #[.slice a n cap, .int .i64 nest] w fun e w' => e = .returned (.bool true) ∧ Below w.heap.size w w' := by
  go_enter Tryz.func5, Tryz.ntmps5
  go_wp2_with (first
    | (go_at_call 7; refine Calls.mono HSh.out ?_; rintro e W1 ⟨rfl, hb1⟩; clear HSh)
    | (go_at_call 10; refine Calls.mono (HP1.out _ hb1) ?_; clear HP1; rintro e W2 ⟨na, nc, rfl, hb2, hn2⟩; obtain ⟨W3, hW3⟩ : ∃ W3, W2.alloc (.cells #[.int .i64 fa, .int .i64 fc] 30) = W3 := ⟨_, rfl⟩; have HW3 : Bx _ := ⟨hW3⟩; have HN2 : Bx _ := ⟨hn2⟩; have HB2 : Bx _ := ⟨hb1.trans (hb2.mono hb1.size)⟩; clear hW3 hn2 hb1 hb2)
    | (go_at_call 10; rw [HW3.out]; refine Calls.mono (HP2.out _ (bel_one HB2.out HW3.out)) ?_; clear HP2; rintro e W4 ⟨ma, mc, rfl, hb4, hn4⟩; obtain ⟨W5, hW5⟩ : ∃ W5, W4.alloc (.cells #[.int .i64 fa, .int .i64 fc] 30) = W5 := ⟨_, rfl⟩; have HS5 : Bx _ := ⟨ns_of HB2.out HN2.out HW3.out hb4 hn4 hW5⟩; have HW5 : Bx _ := ⟨hW5⟩; obtain ⟨k0, k1, k2⟩ := fault_at HW3.out hb4; clear hW5 hn4 hb4 HW3 HN2 HB2))
  go_ret
  refine ⟨by simp, ?_⟩
  first | exact HS5.out.bel | (rw [HW5.out]; exact HS5.out.bel)
theorem ga_at {w W : World} {b1 b2 : Nat} {na ma : Option Addr} {nc mc : Nat} {l m : List Nd} {fa fc ga gc : Int} (h : NsS w W b1 b2 na ma nc mc l m fa fc ga gc) : W.cell? ⟨b2, 0, none⟩ = some (.int .i64 ga) ∧ W.cell? ⟨b2, 1, none⟩ = some (.int .i64 gc) ∧ b2 < W.heap.size := ⟨h.g0, h.g1, World.block_lt_of_cell? W _ h.g0⟩
set_option maxRecDepth 100000 in
set_option maxHeartbeats 2000000 in
theorem nest_c1 (w : World) (a : Option Addr) (n cap : Nat) (nest : Int) (l : List Nd) (top : Nat) (h0 : 0 < l.length) (hz : l.length ≤ 200000) (hlen : (heightsL l).length = l.length) (htop : (heightsL l).getD (l.length - 1) 0 = top) (hn : (top : Int) ≤ nest)
    (HSh : Bx (Calls Tryz.prog 7 #[] w fun e w' => e = .returned (.bool true) ∧ Below w.heap.size w w'))
    (HP1 : Bx (∀ W, Below w.heap.size w W → Calls Tryz.prog 10 #[.slice a n cap, .int .i64 65536] W (ParE W l 0 0)))
    (HP2 : Bx (∀ W, Below w.heap.size w W → Calls Tryz.prog 10 #[.slice a n cap, .int .i64 nest] W (ParE W l 0 0))) :
    Calls Tryz.prog 5 #[.slice a n cap, .int .i64 nest] w fun e w' => e = .returned (.bool true) ∧ Below w.heap.size w w' := by
  have HH : Bx (∀ W na nc, IsNodes W W.heap.size na nc l → Calls Tryz.prog 14 #[.slice na l.length nc] W fun e w' => e = .returned (.slice (some ⟨W.heap.size, 0, none⟩) l.length l.length) ∧ FRow w' W.heap.size l.length (heightsL l) ∧ Below W.heap.size W w') := ⟨fun W na nc hn => Height_any W W.heap.size na nc l hn (by omega)⟩
  have HND : Bx (∀ W na ma nc mc, IsNodes W W.heap.size na nc l → IsNodes W W.heap.size ma mc l → Calls Tryz.prog 11 #[.slice na l.length nc, .slice ma l.length mc, .bool false] W fun e w' => e = .returned (.bool true) ∧ Below W.heap.size W w') := ⟨fun W na ma nc mc h1 h2 => nodes_yes W W.heap.size na ma nc mc l l h1 h2 false rfl (fun p _ => NdSame.refl _ _)⟩
  have hl0 : ((l.length : Int) == 0) = false := by rw [beq_eq_false_iff_ne]; omega
  have HLL : Bx (l.length = l.length ∧ (heightsL l).getD (l.length - 1) 0 = top ∧ l.length - 1 < (heightsL l).length) := ⟨rfl, htop, by omega⟩
  generalize heightsL l = hs at *
  clear htop hlen
  go_enter Tryz.func5, Tryz.ntmps5
  go_wp2_with (first
    | (go_at_call 7; refine Calls.mono HSh.out ?_; rintro e W1 ⟨rfl, hb1⟩; clear HSh)
    | (go_at_call 10; refine Calls.mono (HP1.out _ hb1) ?_; clear HP1; rintro e W2 ⟨na, nc, rfl, hb2, hn2⟩; obtain ⟨W3, hW3⟩ : ∃ W3, W2.alloc (.cells #[.int .i64 0, .int .i64 0] 30) = W3 := ⟨_, rfl⟩; have HW3 : Bx _ := ⟨hW3⟩; have HN2 : Bx _ := ⟨hn2⟩; have HB2 : Bx _ := ⟨hb1.trans (hb2.mono hb1.size)⟩; clear hW3 hn2 hb1 hb2)
    | (go_at_call 10; rw [HW3.out]; refine Calls.mono (HP2.out _ (bel_one HB2.out HW3.out)) ?_; clear HP2; rintro e W4 ⟨ma, mc, rfl, hb4, hn4⟩; obtain ⟨W5, hW5⟩ : ∃ W5, W4.alloc (.cells #[.int .i64 0, .int .i64 0] 30) = W5 := ⟨_, rfl⟩; have HS5 : Bx _ := ⟨ns_of HB2.out HN2.out HW3.out hb4 hn4 hW5⟩; have HW5 : Bx _ := ⟨hW5⟩; obtain ⟨k0, k1, k2⟩ := fault_at HW3.out hb4; clear hW5 hn4 hb4 HW3 HN2 HB2)
    | (go_at_call 14; rw [HW5.out]; refine Calls.mono (HH.out _ _ _ HS5.out.nl) ?_; rintro e W6 ⟨rfl, hr, hb6⟩; have HF : Bx _ := ⟨hr⟩; have HS6 : Bx _ := ⟨HS5.out.later hb6⟩; have ht := hr.firsts (l.length - 1) HLL.out.2.2; rw [HLL.out.2.1] at ht; obtain ⟨g0, g1, g2⟩ := ga_at HS6.out; clear hr hb6 HH k0 k1 k2)
    | (go_at_call 11; refine Calls.mono (HND.out _ _ _ _ _ HS6.out.nl HS6.out.nm) ?_; rintro e W7 ⟨rfl, hb7⟩; have HB7 : Bx _ := ⟨HS6.out.bel.trans (hb7.mono HS6.out.bel.size)⟩; clear hb7))
  go_ret
  exact ⟨rfl, HB7.out⟩
set_option maxRecDepth 100000 in
set_option maxHeartbeats 2000000 in
theorem nest_c2 (w : World) (a : Option Addr) (n cap : Nat) (nest : Int) (l : List Nd) (ga : Int) (top : Nat) (h0 : 0 < l.length) (hz : l.length ≤ 200000) (hlen : (heightsL l).length = l.length) (htop : (heightsL l).getD (l.length - 1) 0 = top) (hn : nest < (top : Int)) (hga : ∀ p, p < l.length → (∀ j, j < p → ((heightsL l).getD j 0 : Int) ≤ nest) → nest < ((heightsL l).getD p 0 : Nat) → ga = (ndN l p).pos)
    (HSh : Bx (Calls Tryz.prog 7 #[] w fun e w' => e = .returned (.bool true) ∧ Below w.heap.size w w'))
    (HP1 : Bx (∀ W, Below w.heap.size w W → Calls Tryz.prog 10 #[.slice a n cap, .int .i64 65536] W (ParE W l 0 0)))
    (HP2 : Bx (∀ W, Below w.heap.size w W → Calls Tryz.prog 10 #[.slice a n cap, .int .i64 nest] W (ParE W [] ga 31))) :
    Calls Tryz.prog 5 #[.slice a n cap, .int .i64 nest] w fun e w' => e = .returned (.bool true) ∧ Below w.heap.size w w' := by
  have HH : Bx (∀ W na nc, IsNodes W W.heap.size na nc l → Calls Tryz.prog 14 #[.slice na l.length nc] W fun e w' => e = .returned (.slice (some ⟨W.heap.size, 0, none⟩) l.length l.length) ∧ FRow w' W.heap.size l.length (heightsL l) ∧ Below W.heap.size W w') := ⟨fun W na nc hn => Height_any W W.heap.size na nc l hn (by omega)⟩
  have hl0 : ((l.length : Int) == 0) = false := by rw [beq_eq_false_iff_ne]; omega
  have HLL : Bx (l.length = l.length ∧ (heightsL l).getD (l.length - 1) 0 = top ∧ l.length - 1 < (heightsL l).length) := ⟨rfl, htop, by omega⟩
  generalize heightsL l = hs at *
  clear htop hlen
  have Hga : Bx _ := ⟨hga⟩
  have HL : Bx (l.length = l.length) := ⟨rfl⟩
  clear hga
  have hn2 : ¬ ((top : Int) ≤ nest) := by omega
  go_enter Tryz.func5, Tryz.ntmps5
  go_wp2_with (first
    | (go_at_call 7; refine Calls.mono HSh.out ?_; rintro e W1 ⟨rfl, hb1⟩; clear HSh)
    | (go_at_call 10; refine Calls.mono (HP1.out _ hb1) ?_; clear HP1; rintro e W2 ⟨na, nc, rfl, hb2, hn2⟩; obtain ⟨W3, hW3⟩ : ∃ W3, W2.alloc (.cells #[.int .i64 0, .int .i64 0] 30) = W3 := ⟨_, rfl⟩; have HW3 : Bx _ := ⟨hW3⟩; have HN2 : Bx _ := ⟨hn2⟩; have HB2 : Bx _ := ⟨hb1.trans (hb2.mono hb1.size)⟩; clear hW3 hn2 hb1 hb2)
    | (go_at_call 10; rw [HW3.out]; refine Calls.mono (HP2.out _ (bel_one HB2.out HW3.out)) ?_; clear HP2; rintro e W4 ⟨ma, mc, rfl, hb4, hn4⟩; obtain ⟨W5, hW5⟩ : ∃ W5, W4.alloc (.cells #[.int .i64 ga, .int .i64 31] 30) = W5 := ⟨_, rfl⟩; have HS5 : Bx _ := ⟨ns_of HB2.out HN2.out HW3.out hb4 hn4 hW5⟩; have HW5 : Bx _ := ⟨hW5⟩; obtain ⟨k0, k1, k2⟩ := fault_at HW3.out hb4; clear hW5 hn4 hb4 HW3 HN2 HB2)
    | (go_at_call 14; rw [HW5.out]; refine Calls.mono (HH.out _ _ _ HS5.out.nl) ?_; rintro e W6 ⟨rfl, hr, hb6⟩; have HF : Bx _ := ⟨hr⟩; have HS6 : Bx _ := ⟨HS5.out.later hb6⟩; have ht := hr.firsts (l.length - 1) HLL.out.2.2; rw [HLL.out.2.1] at ht; obtain ⟨g0, g1, g2⟩ := ga_at HS6.out; clear hr hb6 HH k0 k1 k2))
  have hz3 : l.length ≤ 200000 := hz
  go_loopw [10] (fun v wr => wr = W6 ∧ ∃ p : Nat, p < l.length ∧ v = .int .i64 p ∧ Bx (∀ j, j < p → (hs.getD j 0 : Int) ≤ nest)) (fun v _ => l.length - (intOf v).toNat)
  case atStart => exact ⟨rfl, 0, h0, rfl, ⟨fun j hj => by omega⟩⟩
  case round =>
    obtain ⟨rfl, p, hp, rfl, HP⟩ := hrel
    have hc := HF.out.firsts p (by have := HLL.out.2.2; omega)
    by_cases hle : (hs.getD p 0 : Int) ≤ nest
    · have hne : p + 1 < l.length := by
        by_cases he : p = l.length - 1
        · rw [he, HLL.out.2.1] at hle
          omega
        · omega
      have HP2 : Bx (∀ j, j < p + 1 → (hs.getD j 0 : Int) ≤ nest) := ⟨fun j hj => by
        by_cases he : j = p
        · rw [he]; exact hle
        · exact HP.out j (by omega)⟩
      generalize hs.getD p 0 = hh at hc hle
      go_wp2
      go_roundw
      case rel => exact ⟨by first | rfl | trivial, p + 1, hne, by go_num, HP2⟩
      case measure => simp [intOf]; omega
    · have hg := Hga.out p hp HP.out (by omega)
      obtain ⟨nb, no, rfl, hN⟩ := HS6.out.nl.at_ (by omega)
      obtain ⟨ka, kc, hA⟩ := hN.at_ p hp
      have q1 := hA.c1
      rw [← hg] at q1
      have hcap := hN.cap
      have hlt : nest < (hs.getD p 0 : Int) := by omega
      generalize hs.getD p 0 = hh at hc hle hlt
      clear hA hN hg
      go_wp2
      go_quiet (fail)
      go_wp2
      go_ret
      exact ⟨by simp, below_drewN HS6.out.bel _⟩
theorem nest_walk (w : World) (a : Option Addr) (cap : Nat) (xs : List UInt8) (hs : IsSrc w a cap xs) (nest : Int) (hn : I64 nest) (hL : Laid w) (h7 : 7 ≤ w.heap.size) :
    Calls Tryz.prog 5 #[.slice a xs.length cap, .int .i64 nest] w fun e w' => e = .returned (.bool true) ∧ Below w.heap.size w w' := by
  have HSh : Bx _ := ⟨shown_any w hL h7⟩
  have HP : ∀ n W, Below w.heap.size w W → Calls Tryz.prog 10 #[.slice a xs.length cap, .int .i64 n] W (ParE W (parseR xs n).1 (parseR xs n).2.1 (parseR xs n).2.2) := fun n W hb => Parse_x W (hL.below hb) (by have := hb.size; omega) a cap xs (hs.below hb) n
  have H1 := HP 65536
  have H2 := HP nest
  have hR := nest_plain xs nest
  have hz := (parse_wf xs 65536).2.1
  generalize parseR xs 65536 = R1 at *
  generalize parseR xs nest = R2 at *
  obtain ⟨l, fa, fc⟩ := R1
  obtain ⟨m, ga, gc⟩ := R2
  simp only at H1 H2 hR hz
  by_cases c1 : fc = 31
  · subst c1
    by_cases c2 : 65536 < nest
    · exact nest_a1 w a xs.length cap nest l m fa ga gc c2 HSh ⟨H1⟩ ⟨H2⟩
    · obtain rfl := hR.deep rfl (by omega)
      exact nest_a2 w a xs.length cap nest l m fa ga c2 HSh ⟨H1⟩ ⟨H2⟩
  · by_cases c0 : fc = 0
    · subst c0
      obtain ⟨rfl, t1, t2, t3, t4⟩ := hR.top rfl
      by_cases ct : ((heightsL l).getD (l.length - 1) 0 : Int) ≤ nest
      · obtain ⟨rfl, rfl, rfl⟩ := t3 ct
        exact nest_c1 w a xs.length cap nest m _ t1 hz (heightsL_len m) rfl ct HSh ⟨H1⟩ ⟨H2⟩
      · obtain ⟨rfl, hg⟩ := t4 (by omega)
        obtain rfl := hR.gbad (by decide)
        exact nest_c2 w a xs.length cap nest l ga _ t1 hz (heightsL_len l) rfl (by omega) hg HSh ⟨H1⟩ ⟨H2⟩
    · obtain ⟨rfl, rfl⟩ := hR.bad c1 c0
      exact nest_b w a xs.length cap nest l m ga gc (by simpa using c1) (by simpa using c0) HSh ⟨H1⟩ ⟨H2⟩
end Go.Proofs.YtecodpdfckjalaaGreatDoor
namespace Go.Proofs.YtecodpdfckjalaaGreatDoor
open Go.RowKit
set_option linter.unusedVariables false
set_option linter.unusedSimpArgs false

/-! ### rows of one's own: bytes, texts, numbers -/
theorem app1 {e t : TypeId} {i0 : TypeInfo} {z : Value} {s bt : Nat} (ht : Tryz.prog.underlying t = some (.slice e)) (hi : Tryz.prog.info? e = some i0) (hz : i0.zero = some z) (hs : i0.size = s) (hb : i0.bytes = bt) (hzs : z.cells.size = s) (hs0 : 0 < s)
    (W : World) (B : Nat) (v : Value) (n : Nat) (xs : List Value) (ho : W.ownsRow B e s v n xs) (cs : Array Value) (hcs : cs.toList.length = s) (h1 : ∀ u ∈ cs.toList, u.oneCell' = true) (hn : n + 1 ≤ maxLen) (hby : (n + 1) * bt ≤ 140737488355328) (hB : B ≤ W.heap.size) :
    ∃ g c W3, (∀ ty, (Builtin.append_ #[t, t] ty #[v, .slice (some ⟨W.heap.size, 0, none⟩) 1 1]).run Tryz.prog (W.alloc (.cells cs e)) = .ok (.slice (some ⟨g, 0, none⟩) (n + 1) c) W3) ∧ W3.ownsRow B e s (.slice (some ⟨g, 0, none⟩) (n + 1) c) (n + 1) (xs ++ cs.toList) ∧ W.grownBy W3 v.ownBlock := by
  have ho' : (W.alloc (.cells cs e)).ownsRow B e s v n xs := ho.alloc _
  obtain ⟨g, c, W3, r1, r2, r3, r4, r5⟩ := run_append_lies (P := Tryz.prog) (W.alloc (.cells cs e)) t e B e i0 z s bt ht hi hz hs hb hzs hs0 v n xs ho' ⟨W.heap.size, 0, none⟩ 1 1 cs.toList (by omega) (World.news_of_block (heap_alloc_new W _)) h1 (by omega) hn hby (by simp; omega) _ rfl
  refine ⟨g, c, W3, fun ty => r1, r2, ⟨r3.os, r3.tape, r3.output, Nat.le_trans (by simp) r3.size, fun k hk hne => ?_⟩⟩
  rw [r3.block k (by simp; omega) hne, Below.heap_alloc W _ k hk]
theorem owns_lo {W : World} {B : Nat} {e : TypeId} {s : Nat} {v : Value} {n : Nat} {cs : List Value} (h : W.ownsRow B e s v n cs) {g : Nat} (hg : v.ownBlock = some g) : B ≤ g ∧ g < W.heap.size := by
  rcases h.2 with ⟨rfl, _⟩ | ⟨g', cap, cur, rfl, hB, hgg, rest⟩
  · cases hg
  · simp only [Value.ownBlock, Option.some.injEq] at hg
    subst hg
    exact ⟨hB, (Array.getElem?_eq_some_iff.1 hgg).1⟩
/-- a row of another kind grows -/
theorem owns_other {W W' : World} {B B2 : Nat} {e e2 : TypeId} {s s2 : Nat} {v v2 : Value} {n n2 : Nat} {cs cs2 : List Value} (h : W.ownsRow B e s v n cs) (h2 : W.ownsRow B2 e2 s2 v2 n2 cs2) (hne : e ≠ e2) (hg : W.grownBy W' v2.ownBlock) : W'.ownsRow B e s v n cs := by
  refine ⟨h.1, ?_⟩
  rcases h.2 with hn | ⟨g, cap, cur, rfl, hB, hgg, rest⟩
  · exact .inl hn
  · refine .inr ⟨g, cap, cur, rfl, hB, ?_, rest⟩
    rw [hg.block g (Array.getElem?_eq_some_iff.1 hgg).1 (fun e0 => ?_)]
    · exact hgg
    · rcases h2.2 with ⟨rfl, _⟩ | ⟨g', cap', cur', rfl, _, hgg', _⟩
      · cases e0
      · simp only [Value.ownBlock, Option.some.injEq] at e0
        subst e0
        rw [hgg] at hgg'
        injection hgg' with q
        injection q with _ q _
        exact hne q
/-- bytes -/
def BO (w : World) (B : Nat) (v : Value) (bs : List UInt8) : Prop := w.ownsRow B 5 1 v bs.length (Lib.byteCells bs)
/-- texts -/
def SO (w : World) (B : Nat) (v : Value) (ws : List (List UInt8)) : Prop := w.ownsRow B 9 1 v ws.length (ws.map strV)
/-- numbers -/
def NO (w : World) (B : Nat) (v : Value) (ks : List Int) : Prop := w.ownsRow B 3 1 v ks.length (ks.map (Value.int .i64))
theorem infoU8q : (Tryz.prog.info? 5).map (fun i => (i.zero, i.size, i.bytes)) = some (some (.int .u8 0), 1, 1) := by kernel_rfl
theorem infoStq : (Tryz.prog.info? 9).map (fun i => (i.zero, i.size, i.bytes)) = some (some (.string ⟨#[]⟩), 1, 16) := by kernel_rfl
theorem infoInq : (Tryz.prog.info? 3).map (fun i => (i.zero, i.size, i.bytes)) = some (some (.int .i64 0), 1, 8) := by kernel_rfl
theorem app_str (W : World) (B : Nat) (v : Value) (ws : List (List UInt8)) (ho : SO W B v ws) (x : List UInt8) (hB : B ≤ W.heap.size) (hl : ws.length ≤ 1000000) :
    ∃ v' W3, (∀ ty, (Builtin.append_ #[36, 36] ty #[v, .slice (some ⟨W.heap.size, 0, none⟩) 1 1]).run Tryz.prog (W.alloc (.cells #[strV x] 9)) = .ok v' W3) ∧ SO W3 B v' (ws ++ [x]) ∧ W.grownBy W3 v.ownBlock := by
  obtain ⟨i0, hi0, hz0, hz1, hz2⟩ := info_parts infoStq
  obtain ⟨g, c, W3, h1, h2, h3⟩ := app1 Tryz.underlying36 hi0 hz0 hz1 hz2 rfl (by decide) W B v ws.length _ ho #[strV x] rfl (by simp [strV, Value.oneCell']) (by unfold maxLen; omega) (by omega) hB
  refine ⟨_, W3, h1, ?_, h3⟩
  unfold SO
  rw [List.map_append, List.length_append]
  exact h2
theorem app_int (W : World) (B : Nat) (v : Value) (ks : List Int) (ho : NO W B v ks) (x : Int) (hB : B ≤ W.heap.size) (hl : ks.length ≤ 1000000) :
    ∃ v' W3, (∀ ty, (Builtin.append_ #[39, 39] ty #[v, .slice (some ⟨W.heap.size, 0, none⟩) 1 1]).run Tryz.prog (W.alloc (.cells #[.int .i64 x] 3)) = .ok v' W3) ∧ NO W3 B v' (ks ++ [x]) ∧ W.grownBy W3 v.ownBlock := by
  obtain ⟨i0, hi0, hz0, hz1, hz2⟩ := info_parts infoInq
  obtain ⟨g, c, W3, h1, h2, h3⟩ := app1 Tryz.underlying39 hi0 hz0 hz1 hz2 rfl (by decide) W B v ks.length _ ho #[.int .i64 x] rfl (by simp [Value.oneCell']) (by unfold maxLen; omega) (by omega) hB
  refine ⟨_, W3, h1, ?_, h3⟩
  unfold NO
  rw [List.map_append, List.length_append]
  exact h2
theorem app_byte (W : World) (B : Nat) (v : Value) (bs : List UInt8) (ho : BO W B v bs) (x : UInt8) (hB : B ≤ W.heap.size) (hl : bs.length ≤ 1000000) :
    ∃ v' W3, (∀ ty, (Builtin.append_ #[33, 33] ty #[v, .slice (some ⟨W.heap.size, 0, none⟩) 1 1]).run Tryz.prog (W.alloc (.cells #[.int .u8 (x.toNat : Int)] 5)) = .ok v' W3) ∧ BO W3 B v' (bs ++ [x]) ∧ W.grownBy W3 v.ownBlock := by
  obtain ⟨i0, hi0, hz0, hz1, hz2⟩ := info_parts infoU8q
  obtain ⟨g, c, W3, h1, h2, h3⟩ := app1 Tryz.underlying33 hi0 hz0 hz1 hz2 rfl (by decide) W B v bs.length _ ho #[.int .u8 (x.toNat : Int)] rfl (by simp [Value.oneCell']) (by unfold maxLen; omega) (by omega) hB
  refine ⟨_, W3, h1, ?_, h3⟩
  unfold BO
  rw [Lib.byteCells_append, List.length_append]
  exact h2
theorem app_bytes (W : World) (B : Nat) (v : Value) (bs : List UInt8) (ho : BO W B v bs) (s : List UInt8) (hB : B ≤ W.heap.size) (hl : bs.length + s.length ≤ 1000000) :
    ∃ v' W3, (∀ ty, (Builtin.append_ #[33, 9] ty #[v, strV s]).run Tryz.prog W = .ok v' W3) ∧ BO W3 B v' (bs ++ s) ∧ W.grownBy W3 v.ownBlock := by
  obtain ⟨i0, hi, hz0, hz1, hz2⟩ := info_parts infoU8q
  have hsz : (⟨s.toArray⟩ : ByteArray).size = s.length := by simp [ByteArray.size]
  obtain ⟨v', w', hr, h1, h2, h3⟩ := Lib.run_append_own_string (P := Tryz.prog) W B 33 9 0 5 i0 Tryz.underlying33 Tryz.underlying9 hi hz0 hz1 hz2 v bs.length (Lib.byteCells bs) ho ⟨s.toArray⟩ (by rw [hsz]; unfold maxLen; omega) (by rw [hsz]; omega) hB
  refine ⟨v', w', fun ty => hr, ?_, h2⟩
  unfold BO
  rw [List.length_append, Lib.byteCells_append]
  rw [hsz] at h1
  simpa [Lib.strCells_eq] using h1
theorem BO.str {w : World} {B : Nat} {v : Value} {bs : List UInt8} (h : BO w B v bs) : (convert 33 9 v).run Tryz.prog w = .ok (strV bs) w := by
  have h' : w.ownsRow B 5 1 v bs.length (Lib.byteCells bs) := h
  rcases h'.2 with ⟨rfl, hn⟩ | ⟨g, cap, cur, rfl, hB, hg, q1, q2, q3, q4⟩
  · have : bs = [] := List.eq_nil_of_length_eq_zero hn
    subst this
    exact Lib.run_convert_nil_bytes w 33 9 5 0 Tryz.underlying33 Tryz.underlying5 Tryz.underlying9
  · have hsz : (⟨bs.toArray⟩ : ByteArray).size = bs.length := by simp [ByteArray.size]
    have hc : Lib.Bytes w g 0 ⟨bs.toArray⟩ := fun i hi => by
      rw [hsz] at hi
      rw [Nat.zero_add]
      have e := congrArg (·[i]?) q4
      simp only [Lib.byteCells, List.getElem?_map] at e
      rw [List.getElem?_take_of_lt (by omega), Array.getElem?_toList, List.getElem?_eq_getElem hi] at e
      simp [World.cell?, hg, e, ByteArray.get!, hi]
      rfl
    have := Lib.run_convert_whole (P := Tryz.prog) w 33 5 9 Tryz.underlying33 Tryz.underlying5 Tryz.underlying9 g 0 ⟨bs.toArray⟩ hc cap
    rw [hsz] at this
    exact this
/-- bytes of one's own may be read as a source -/
theorem BO.src {w : World} {B : Nat} {v : Value} {bs : List UInt8} (h : BO w B v bs) (hm : bs.length ≤ maxLen) : ∃ a cap, v = .slice a bs.length cap ∧ IsSrc w a cap bs := by
  have h' : w.ownsRow B 5 1 v bs.length (Lib.byteCells bs) := h
  rcases h'.2 with ⟨rfl, hn⟩ | ⟨g, cap, cur, rfl, hB, hg, q1, q2, q3, q4⟩
  · exact ⟨none, 0, by rw [hn], fun h => by omega, by omega, hm⟩
  · refine ⟨_, cap, rfl, fun _ => ⟨g, 0, rfl, (Array.getElem?_eq_some_iff.1 hg).1, fun i hi => ?_⟩, by omega, hm⟩
    have e := congrArg (·[i]?) q4
    simp only [Lib.byteCells, List.getElem?_map] at e
    rw [List.getElem?_take_of_lt (by omega), Array.getElem?_toList, List.getElem?_eq_getElem hi] at e
    simp [World.cell?, hg, e, List.getD, hi]
/-- texts of one's own, read -/
theorem SO.at_ {w : World} {B : Nat} {v : Value} {ws : List (List UInt8)} (h : SO w B v ws) (h0 : 0 < ws.length) : ∃ g cap, v = .slice (some ⟨g, 0, none⟩) ws.length cap ∧ B ≤ g ∧ g < w.heap.size ∧ ws.length ≤ cap ∧ ∀ j (hj : j < ws.length), w.cell? ⟨g, j, none⟩ = some (strV ws[j]) := by
  have h' : w.ownsRow B 9 1 v ws.length (ws.map strV) := h
  rcases h'.2 with ⟨rfl, hn⟩ | ⟨g, cap, cur, rfl, hB, hg, q1, q2, q3, q4⟩
  · omega
  · refine ⟨g, cap, rfl, hB, (Array.getElem?_eq_some_iff.1 hg).1, by omega, fun j hj => ?_⟩
    have e := congrArg (·[j]?) q4
    simp only [List.getElem?_map] at e
    rw [List.getElem?_take_of_lt (by omega), Array.getElem?_toList, List.getElem?_eq_getElem hj] at e
    simp [World.cell?, hg, e]
theorem SO.none_ {w : World} {B : Nat} {v : Value} (h : SO w B v []) : ∃ a cap, v = .slice a 0 cap := by
  have h' : w.ownsRow B 9 1 v 0 [] := h
  rcases h'.2 with ⟨rfl, hn⟩ | ⟨g, cap, cur, rfl, hB, hg, q1, q2, q3, q4⟩
  · exact ⟨_, _, rfl⟩
  · exact ⟨_, _, rfl⟩
end Go.Proofs.YtecodpdfckjalaaGreatDoor
