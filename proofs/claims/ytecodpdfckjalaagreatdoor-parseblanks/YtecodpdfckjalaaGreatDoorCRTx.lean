import Derived.Test.YtecodpdfckjalaaGreatDoorCRShw
import Derived.Test.YtecodpdfckjalaaGreatDoorCNext
import Derived.Deep.AppendSrc
import Derived.Test.YtecodpdfckjalaaGreatDoorCRRd2
import Derived.Test.YtecodpdfckjalaaGreatDoorCTLv
namespace Go.Proofs.YtecodpdfckjalaaGreatDoor
open Go.RowKit
set_option linter.unusedVariables false
set_option linter.unusedSimpArgs false

/-! ### squintlaw03.texts -/
def wordsOf (xs : List UInt8) (l : List Tok) : List (List UInt8) := l.map fun t => cut xs t.place (t.place + t.len)
theorem words_take (xs : List UInt8) (l : List Tok) (p : Nat) (h : p < l.length) : wordsOf xs (l.take (p + 1)) = wordsOf xs (l.take p) ++ [cut xs l[p].place (l[p].place + l[p].len)] := by
  unfold wordsOf
  rw [List.take_succ_eq_append_getElem h, List.map_append]
  rfl
set_option maxRecDepth 100000 in
set_option maxHeartbeats 1000000 in
theorem texts_no (w : World) (a : Option Addr) (n cap : Nat) (A C : Nat) (hC : ((C : Int) != 0) = true) (HS : Bx (Calls Tryz.prog 19 #[.slice a n cap] w fun e w' => ∃ v, e = .returned (.tuple #[v, .agg #[.int .i64 (A : Int), .int .i64 (C : Int)]]) ∧ Below w.heap.size w w')) :
    Calls Tryz.prog 12 #[.slice a n cap] w fun e w' => e = .returned (.tuple #[.slice none 0 0, .bool false]) ∧ Below w.heap.size w w' := by
  go_enter Tryz.func12, Tryz.ntmps12
  go_wp2_with (first | (go_at_call 19; refine Calls.mono HS.out ?_; rintro e W2 ⟨v, rfl, hb⟩; have HB : Bx _ := ⟨hb⟩; clear hb HS))
  exact bodyPost_ret (v := .tuple #[.slice none 0 0, .bool false]) (by simp [results, Tryz.results12, go_sem]) rfl ⟨rfl, bel_one HB.out rfl⟩
set_option maxRecDepth 100000 in
set_option maxHeartbeats 2000000 in
theorem texts_none (w : World) (a : Option Addr) (n cap : Nat) (HS : Bx (Calls Tryz.prog 19 #[.slice a n cap] w fun e w' => ∃ x c, e = .returned (.tuple #[.slice x 0 c, .agg #[.int .i64 0, .int .i64 0]]) ∧ Below w.heap.size w w')) :
    Calls Tryz.prog 12 #[.slice a n cap] w fun e w' => ∃ v, e = .returned (.tuple #[v, .bool true]) ∧ SO w' w.heap.size v [] ∧ Below w.heap.size w w' := by
  go_enter Tryz.func12, Tryz.ntmps12
  go_wp2_with (first | (go_at_call 19; refine Calls.mono HS.out ?_; rintro e W2 ⟨x, c, rfl, hb⟩; have HB : Bx _ := ⟨hb⟩; clear hb HS))
  refine wp_loop_rounds 1 ?_
  rw [rounds_succ]
  go_wp2
  exact bodyPost_ret (v := .tuple #[.slice none 0 0, .bool true]) (by simp [results, Tryz.results12, go_sem]) rfl ⟨_, rfl, World.ownsRow_nil _ _ _ _, bel_one HB.out rfl⟩
set_option maxRecDepth 100000 in
set_option maxHeartbeats 2000000 in
theorem texts_some (w : World) (b o cap : Nat) (xs : List UInt8) (toks : List Tok) (hs : Src w b o xs) (hb : b < w.heap.size) (hcap : xs.length ≤ cap) (hl : xs.length ≤ 65536) (h0 : 0 < toks.length) (hin : ∀ p (h : p < toks.length), 1 ≤ toks[p].len ∧ toks[p].place + toks[p].len ≤ xs.length) (hfew : toks.length ≤ 65536)
    (HS : Bx (Calls Tryz.prog 19 #[.slice (some ⟨b, o, none⟩) xs.length cap] w fun e w' => ∃ g cp, e = .returned (.tuple #[.slice (some ⟨g, 0, none⟩) toks.length cp, .agg #[.int .i64 0, .int .i64 0]]) ∧ Below w.heap.size w w' ∧ toks.length ≤ cp ∧ Toks w' g toks)) :
    Calls Tryz.prog 12 #[.slice (some ⟨b, o, none⟩) xs.length cap] w fun e w' => ∃ v, e = .returned (.tuple #[v, .bool true]) ∧ SO w' w.heap.size v (wordsOf xs toks) ∧ Below w.heap.size w w' := by
  have HSR : Bx (∀ W, Below w.heap.size w W → Src W b o xs) := ⟨fun W hW => hs.below hb hW⟩
  have HIN : Bx _ := ⟨hin⟩
  clear hs hin
  go_enter Tryz.func12, Tryz.ntmps12
  go_wp2_with (first | (go_at_call 19; refine Calls.mono HS.out ?_; clear HS; rintro e W2 ⟨g, cp, rfl, hb2, hcp, hT⟩; obtain ⟨W3, hW3⟩ : ∃ W3, W2.alloc (.cells #[.int .i64 0, .int .i64 0] 30) = W3 := ⟨_, rfl⟩; have HB3 : Bx _ := ⟨bel_one hb2 hW3⟩; have HT3 : Bx (Toks W3 g toks) := ⟨hT.later (by rw [← hW3]; exact below1 _ _)⟩; have HW3 : Bx _ := ⟨hW3⟩; clear hb2 hT hW3))
  rw [HW3.out]
  clear HW3
  go_loopw [19, 6] (fun x v wr => ∃ (p : Nat) (vv : Value), p ≤ toks.length ∧ x = .int .i64 (p : Int) ∧ vv = v ∧ Bx (SO wr W3.heap.size vv (wordsOf xs (toks.take p)) ∧ Below W3.heap.size W3 wr)) (fun x _ _ => toks.length - (intOf x).toNat)
  case atStart => exact ⟨0, _, Nat.zero_le _, rfl, rfl, ⟨World.ownsRow_nil _ _ _ _, Below.refl _ _⟩⟩
  case round =>
    obtain ⟨p, vv, hp, rfl, rfl, HI⟩ := hrel
    by_cases hlt : p < toks.length
    · have hz := HI.out.2.size
      obtain ⟨c0, c1, c2, c3⟩ := (HT3.out.later HI.out.2).at_ p hlt
      have hgl := (HT3.out.later HI.out.2).lt
      obtain ⟨hI1, hI⟩ := HIN.out p hlt
      have hwt := words_take xs toks p hlt
      have hbw := HB3.out.trans (HI.out.2.mono HB3.out.size)
      generalize toks[p] = t at *
      obtain ⟨kd0, pl, ln, nu⟩ := t
      simp only at c0 c1 c2 c3 hI hI1 hwt
      obtain ⟨X1, hX1⟩ : ∃ X1, wr.alloc (.cells #[.int .i64 (kd0 : Int), .int .i64 (pl : Int), .int .i64 (ln : Int), .int .i64 (nu : Int)] 62) = X1 := ⟨_, rfl⟩
      have bX : Below wr.heap.size wr X1 := by rw [← hX1]; exact below1 _ _
      have sX : SO X1 W3.heap.size vv (wordsOf xs (toks.take p)) := owns_below HI.out.1 bX
      have hsr := HSR.out X1 (hbw.trans (bX.mono hbw.size))
      have hsl : ∀ W1 : World, (Instr.slice 33 (.slice (some ⟨b, o, none⟩) xs.length cap) (some (.int .i64 (pl : Int))) (some (.int .i64 ((pl : Int) + (ln : Int)))) none).run Tryz.prog W1 = .ok (.slice (some ⟨b, o + pl, none⟩) ln (cap - pl)) W1 := fun W1 => by
        have h := Lib.run_slice_window (P := Tryz.prog) W1 33 5 Tryz.underlying33 sizeOf5 b o xs.length cap pl (pl + ln) (by omega) (by omega)
        rw [Nat.add_sub_cancel_left] at h
        exact h
      have hcv : (convert 33 9 (.slice (some ⟨b, o + pl, none⟩) ln (cap - pl))).run Tryz.prog X1 = .ok (.string ⟨(cut xs pl (pl + ln)).toArray⟩) X1 := by
        have := run_conv X1 b o (cap - pl) xs pl (pl + ln) hsr (by omega) hI
        rw [Nat.add_sub_cancel_left] at this
        exact this
      obtain ⟨v', W5, run, s5, g5⟩ := app_str X1 W3.heap.size vv _ sX (cut xs pl (pl + ln)) (by have := bX.size; omega) (by unfold wordsOf; rw [List.length_map, List.length_take]; omega)
      have b5 : Below W3.heap.size W3 W5 := Below.grown (HI.out.2.trans (bX.mono hz)) g5 (by have := bX.size; omega) (fun k hk => (owns_lo sX hk).1)
      rw [← hwt] at s5
      have HX : Bx (SO W5 W3.heap.size v' (wordsOf xs (toks.take (p + 1))) ∧ Below W3.heap.size W3 W5) := ⟨s5, b5⟩
      have x1 : X1.cell? ⟨wr.heap.size, 1, none⟩ = some (.int .i64 (pl : Int)) := by rw [← hX1]; simp
      have x2 : X1.cell? ⟨wr.heap.size, 2, none⟩ = some (.int .i64 (ln : Int)) := by rw [← hX1]; simp
      clear sX s5 g5 b5 hsr HI bX hbw hwt
      unfold strV at run
      generalize cut xs pl (pl + ln) = st at *
      have q1 : ¬ ((pl : Int) < 0) := by omega
      have q2 : ¬ ((ln : Int) < 0) := by omega
      have q3 : ¬ ((xs.length : Int) < (pl : Int) + (ln : Int)) := by omega
      go_wp2_with (first | (at_builtin; refine wpList_app rfl (.tmp 41) (.tmp 52) 36 rfl rfl rfl run ?_; clear run))
      go_roundw
      case rel => exact ⟨p + 1, _, hlt, by go_num, rfl, HX⟩
      case measure => simp [intOf]; omega
    · obtain rfl : p = toks.length := by omega
      have HX : Bx (SO wr w.heap.size vv (wordsOf xs toks) ∧ Below w.heap.size w wr) := ⟨by
        have := HI.out.1
        rw [List.take_length] at this
        exact owns_base this HB3.out.size, HB3.out.trans (HI.out.2.mono HB3.out.size)⟩
      clear HI
      go_wp2
      exact bodyPost_ret (v := .tuple #[vv, .bool true]) (by simp [results, Tryz.results12, go_sem]) rfl ⟨_, rfl, HX.out.1, HX.out.2⟩
/-- **texts** of a source that scans -/
theorem texts_ok (w : World) (a : Option Addr) (cap : Nat) (xs : List UInt8) (hs : IsSrc w a cap xs) (hL : Laid w) (h0 : (scanAll xs).2.2 = 0) :
    Calls Tryz.prog 12 #[.slice a xs.length cap] w fun e w' => ∃ v, e = .returned (.tuple #[v, .bool true]) ∧ SO w' w.heap.size v (wordsOf xs (scanAll xs).1) ∧ Below w.heap.size w w' := by
  obtain ⟨hc, hl⟩ := scan_covers xs h0
  have hfew := (scan_okts xs h0).2.2
  have HS := Scan_any a cap xs w hs hL
  have hA : (scanAll xs).2.1 = 0 := by rw [covers_scan xs _ hc hl]
  rw [h0, hA] at HS
  have hall := covers_all xs (scanAll xs).1 0 hc
  have hlen := covers_len xs (scanAll xs).1 0 (Nat.zero_le _) hc
  generalize (scanAll xs).1 = toks at *
  by_cases ht : toks.length = 0
  · obtain rfl := List.eq_nil_of_length_eq_zero ht
    refine texts_none w a xs.length cap ⟨HS.mono ?_⟩
    rintro e w' ⟨v, rfl, hv, hb⟩
    obtain ⟨x, c, rfl⟩ := owns_none hv
    exact ⟨x, c, rfl, hb⟩
  · obtain ⟨b, o, rfl, hb, hsrc⟩ := hs.at_ (by omega)
    refine texts_some w b o cap xs toks hsrc hb hs.cap_ hl (by omega) (fun p hp => (hall p hp).2) hfew ⟨HS.mono ?_⟩
    rintro e w' ⟨v, rfl, hv, hb⟩
    obtain ⟨g, cp, rfl, _, h2, h3⟩ := toks_of_owns hv (by omega)
    exact ⟨g, cp, rfl, hb, h2, h3⟩
theorem texts_bad (w : World) (a : Option Addr) (cap : Nat) (xs : List UInt8) (hs : IsSrc w a cap xs) (hL : Laid w) (h0 : (scanAll xs).2.2 ≠ 0) :
    Calls Tryz.prog 12 #[.slice a xs.length cap] w fun e w' => e = .returned (.tuple #[.slice none 0 0, .bool false]) ∧ Below w.heap.size w w' := by
  refine texts_no w a xs.length cap (scanAll xs).2.1 (scanAll xs).2.2 (by simpa using h0) ⟨(Scan_any a cap xs w hs hL).mono ?_⟩
  rintro e w' ⟨v, he, _, hb⟩
  exact ⟨v, he, hb⟩
end Go.Proofs.YtecodpdfckjalaaGreatDoor
namespace Go.Proofs.YtecodpdfckjalaaGreatDoor
open Go.RowKit
set_option linter.unusedVariables false
set_option linter.unusedSimpArgs false

/-! ### bytes of one's own, also such as are a constant's -/
theorem bcells_len (bs : List UInt8) : (Lib.byteCells bs).length = bs.length := by simp [Lib.byteCells]
theorem grown_bo (W : World) (B : Nat) (bs : List UInt8) (n old : Nat) (hB : B ≤ W.heap.size) (hn : bs.length = n) (hm : n ≤ maxLen) :
    (W.drew.alloc (.cells ((Lib.byteCells bs).toArray ++ Builtin.zeroCells (Value.int .u8 0).cells (grownCap W n old 5 - n)) 5)).ownsRow B 5 1 (.slice (some ⟨W.heap.size, 0, none⟩) n (grownCap W n old 5)) n (Lib.byteCells bs) := by
  have hge := grownCap_ge W n old 5
  have hcm := grownCap_le_maxLen W n old 5 hm
  have hl := bcells_len bs
  refine ⟨by omega, .inr ⟨W.heap.size, _, _, rfl, hB, heap_alloc_new W.drew _, hge, hcm, ?_, ?_⟩⟩
  · have hz1 : (Value.int IntKind.u8 0).cells.size = 1 := rfl
    simp only [Array.size_append, List.size_toArray, size_zeroCells, hz1, hl]
    omega
  · simp only [Array.toList_append]
    rw [show n * 1 = (Lib.byteCells bs).length by omega]
    exact List.take_left
/-- bytes in a row that is full, whatever is marked of it -/
structure FullB (W : World) (B : Nat) (v : Value) (bs : List UInt8) : Prop where
  ex : ∃ g fz, v = .slice (some ⟨g, 0, none⟩) bs.length bs.length ∧ B ≤ g ∧ W.heap[g]? = some (.cells (Lib.byteCells bs).toArray 5 fz)
theorem FullB.cell {W : World} {g : Nat} {bs : List UInt8} {fz : Nat × Nat} (hg : W.heap[g]? = some (.cells (Lib.byteCells bs).toArray 5 fz)) : ∀ j u, (Lib.byteCells bs)[j]? = some u → W.cell? ((⟨g, 0, none⟩ : Addr).add j) = some u := fun j u hu => by
  have hadd : (⟨g, 0, none⟩ : Addr).add j = ⟨g, j, none⟩ := by unfold Addr.add; split <;> simp_all
  rw [hadd, cell_of_row W g j _ 5 fz hg]
  simpa using hu
theorem first_app (W : World) (tx : TypeId) (x : Value) (m : Nat) (news bs : List UInt8) (g : Nat) (fz : Nat × Nat) (hg : W.heap[g]? = some (.cells (Lib.byteCells bs).toArray 5 fz)) (hm : news.length = m) (hs : _root_.Go.Src Tryz.prog 1 tx x m (Lib.byteCells news) W) (h0 : 0 < m) (hl : bs.length + m ≤ 1000000) :
    ∃ v' W3, (∀ ty, (Builtin.append_ #[33, tx] ty #[.slice (some ⟨g, 0, none⟩) bs.length bs.length, x]).run Tryz.prog W = .ok v' W3) ∧ BO W3 W.heap.size v' (bs ++ news) ∧ Below W.heap.size W W3 := by
  obtain ⟨i0, hi, hz0, hz1, hz2⟩ := info_parts infoU8q
  have hold : (Builtin.firstCells i0.size bs.length (.slice (some ⟨g, 0, none⟩) bs.length bs.length)).run Tryz.prog W.drew = .ok (Lib.byteCells bs).toArray W.drew := run_firstCells_some W.drew i0.size bs.length ⟨g, 0, none⟩ bs.length bs.length (Lib.byteCells bs) (by rw [hz1, bcells_len]; omega) (by simpa using FullB.cell hg)
  have hr := fun ty => run_append_grow_src (P := Tryz.prog) W 33 tx ty 5 i0 (.int .u8 0) Tryz.underlying33 hi hz0 (some ⟨g, 0, none⟩) bs.length bs.length (Lib.byteCells bs) hold x m (Lib.byteCells news) (by rw [hz1]; exact hs) (by omega) (by omega) (growslice_fits (by omega) (by rw [hz2]; omega))
  refine ⟨_, _, hr, ?_, (Below.refl _ _).drew.alloc (Nat.le_refl _) _⟩
  have := grown_bo W W.heap.size (bs ++ news) (bs.length + m) bs.length (Nat.le_refl _) (by simp; omega) (by unfold maxLen; omega)
  unfold BO
  rw [Lib.byteCells_append] at this ⊢
  rw [List.length_append, hm]
  exact this
theorem src_str (W : World) (s : List UInt8) : _root_.Go.Src Tryz.prog 1 9 (strV s) s.length (Lib.byteCells s) W := by
  have h := _root_.Go.Src.ofString (P := Tryz.prog) W Tryz.underlying9 (⟨s.toArray⟩ : ByteArray)
  have e : (⟨s.toArray⟩ : ByteArray).size = s.length := by simp [ByteArray.size]
  rw [e] at h
  exact h
theorem src_byte (W : World) (x : UInt8) : _root_.Go.Src Tryz.prog 1 33 (.slice (some ⟨W.heap.size, 0, none⟩) 1 1) 1 (Lib.byteCells [x]) (W.alloc (.cells #[.int .u8 (x.toNat : Int)] 5)) := by
  refine _root_.Go.Src.ofSlice (P := Tryz.prog) _ Tryz.underlying33 ⟨W.heap.size, 0, none⟩ 1 1 _ (by simp [Lib.byteCells]) ?_ ?_
  · exact World.news_of_block (cs := #[Value.int .u8 (x.toNat : Int)]) (heap_alloc_new W _)
  · intro u hu
    simp only [Lib.byteCells, List.map_cons, List.map_nil, List.mem_singleton] at hu
    subst hu
    rfl
/-- bytes that may be appended to -/
def BM (W : World) (B : Nat) (v : Value) (bs : List UInt8) : Prop := BO W B v bs ∨ FullB W B v bs
theorem BM.below {W W' : World} {B : Nat} {v : Value} {bs : List UInt8} (h : BM W B v bs) (hb : Below W.heap.size W W') : BM W' B v bs := by
  rcases h with h | ⟨g, fz, rfl, h1, h2⟩
  · exact .inl (owns_below h hb)
  · exact .inr ⟨g, fz, rfl, h1, by rw [hb.block g (heapLt h2)]; exact h2⟩
theorem BM.lo {W : World} {B : Nat} {v : Value} {bs : List UInt8} (h : BM W B v bs) {g : Nat} (hg : v.ownBlock = some g) : B ≤ g ∧ g < W.heap.size := by
  rcases h with h | ⟨g', fz, rfl, h1, h2⟩
  · exact owns_lo h hg
  · simp only [Value.ownBlock, Option.some.injEq] at hg
    subst hg
    exact ⟨h1, heapLt h2⟩
theorem grown_of {W W' : World} (row : Option Nat) (h : Below W.heap.size W W') : W.grownBy W' row := ⟨h.os, h.tape, h.output, h.size, fun k hk _ => h.block k hk⟩
theorem BM.str_ (W : World) (B : Nat) (v : Value) (bs : List UInt8) (h : BM W B v bs) (s : List UInt8) (h0 : 0 < s.length) (hB : B ≤ W.heap.size) (hl : bs.length + s.length ≤ 1000000) :
    ∃ v' W3, (∀ ty, (Builtin.append_ #[33, 9] ty #[v, strV s]).run Tryz.prog W = .ok v' W3) ∧ BO W3 B v' (bs ++ s) ∧ W.grownBy W3 v.ownBlock := by
  rcases h with h | ⟨g, fz, rfl, h1, h2⟩
  · exact app_bytes W B v bs h s hB hl
  · obtain ⟨v', W3, q1, q2, q3⟩ := first_app W 9 (strV s) s.length s bs g fz h2 rfl (src_str W s) h0 hl
    exact ⟨v', W3, q1, owns_base q2 hB, grown_of _ q3⟩
theorem BM.byte_ (W : World) (B : Nat) (v : Value) (bs : List UInt8) (h : BM W B v bs) (x : UInt8) (hB : B ≤ W.heap.size) (hl : bs.length + 1 ≤ 1000000) :
    ∃ v' W3, (∀ ty, (Builtin.append_ #[33, 33] ty #[v, .slice (some ⟨W.heap.size, 0, none⟩) 1 1]).run Tryz.prog (W.alloc (.cells #[.int .u8 (x.toNat : Int)] 5)) = .ok v' W3) ∧ BO W3 B v' (bs ++ [x]) ∧ W.grownBy W3 v.ownBlock := by
  rcases h with h | ⟨g, fz, rfl, h1, h2⟩
  · exact app_byte W B v bs h x hB (by omega)
  · have b1 : Below W.heap.size W (W.alloc (.cells #[.int .u8 (x.toNat : Int)] 5)) := below1 _ _
    obtain ⟨v', W3, q1, q2, q3⟩ := first_app (W.alloc (.cells #[.int .u8 (x.toNat : Int)] 5)) 33 _ 1 [x] bs g fz (by rw [b1.block g (heapLt h2)]; exact h2) rfl (src_byte W x) (by omega) hl
    exact ⟨v', W3, q1, owns_base q2 (by simp; omega), grown_of _ (b1.trans (q3.mono (by simp)))⟩
theorem BM.src {w : World} {B : Nat} {v : Value} {bs : List UInt8} (h : BM w B v bs) (hm : bs.length ≤ 1000000) : ∃ a cap, v = .slice a bs.length cap ∧ IsSrc w a cap bs := by
  rcases h with h | ⟨g, fz, rfl, h1, h2⟩
  · exact BO.src h (by unfold maxLen; omega)
  · refine ⟨_, _, rfl, fun _ => ⟨g, 0, rfl, heapLt h2, fun i hi => ?_⟩, Nat.le_refl _, by unfold maxLen; omega⟩
    have := FullB.cell h2 i (.int .u8 (bs[i].toNat : Int)) (by simp [Lib.byteCells, hi])
    have hadd : (⟨g, 0, none⟩ : Addr).add i = ⟨g, 0 + i, none⟩ := by unfold Addr.add; split <;> simp_all
    rw [hadd] at this
    rw [this]
end Go.Proofs.YtecodpdfckjalaaGreatDoor
namespace Go.Proofs.YtecodpdfckjalaaGreatDoor
open Go.RowKit
set_option linter.unusedVariables false
set_option linter.unusedSimpArgs false

theorem spanL_all (p : Int → Bool) : ∀ l : List UInt8, spanL p (l.take (spanL p l)) = spanL p l
  | [] => rfl
  | c :: r => by
    by_cases h : p (c.toNat : Int) = true
    · simp [spanL, h, spanL_all p r]
    · simp [spanL, h]
theorem take_drop_zero (l : List UInt8) : l.drop 0 = l := rfl
theorem spanTo_alone (p : Int → Bool) (xs : List UInt8) (k : Nat) : spanTo p (cut xs k (spanTo p xs k)) 0 = spanTo p xs k - k := by
  unfold cut spanTo
  rw [Nat.add_sub_cancel_left, List.drop_zero, spanL_all, Nat.zero_add]
theorem cut_alone (xs : List UInt8) (k e : Nat) : cut (cut xs k e) 0 (e - k) = cut xs k e := by
  unfold cut
  rw [List.drop_zero, Nat.sub_zero, List.take_take, Nat.min_self]
theorem getD_cut (xs : List UInt8) (k e : Nat) (h : k < e) (hk : k < xs.length) : (cut xs k e).getD 0 0 = xs.getD k 0 := by
  unfold cut
  rw [drop_at xs k hk]
  obtain ⟨n, hn⟩ : ∃ n, e - k = n + 1 := ⟨e - k - 1, by omega⟩
  rw [hn]
  simp [List.getD, hk]

theorem prefix_take (s l : List UInt8) (L : Nat) (h : s.isPrefixOf l = true → s.length ≤ L) : s.isPrefixOf (l.take L) = s.isPrefixOf l := by
  rw [Bool.eq_iff_iff, List.isPrefixOf_iff_prefix, List.isPrefixOf_iff_prefix]
  rw [List.isPrefixOf_iff_prefix] at h
  constructor
  · intro hp; exact hp.trans (List.take_prefix _ _)
  · intro hp
    have hle := h hp
    exact (List.prefix_take_iff).2 ⟨hp, hle⟩
theorem best_alone (l : List UInt8) : bestS (l.take (bestS l).2) = bestS l := by
  have h := (bestFrom_spec l signsT 40 (0, 0)).2.1
  exact bestFrom_congr _ _ signsT 40 (0, 0) (fun s hs => prefix_take s l _ (h s hs))
theorem best_text (l : List UInt8) (h : (bestS l).2 ≠ 0) : textK ((bestS l).1 : Int) = l.take (bestS l).2 ∧ 40 ≤ (bestS l).1 := by
  rcases (bestFrom_spec l signsT 40 (0, 0)).2.2 with h3 | ⟨i, a1, a2, a3, a4⟩
  · have : bestS l = (0, 0) := h3
    rw [this] at h; simp at h
  · have a1 : i < 27 := a1
    have e : (bestS l).1 = 40 + i := a2
    have a4' : (signsT.getD i []).length = (bestS l).2 := a4
    refine ⟨?_, by omega⟩
    rw [e, ← a4']
    unfold textK
    rw [if_neg (by omega), if_pos (by omega), show (((40 + i : Nat) : Int) - 40).toNat = i by omega]
    exact List.prefix_iff_eq_take.1 (List.isPrefixOf_iff_prefix.1 a3)

/-- THE TOKEN ALONE IS ITSELF, AND HAS ITS TEXT -/
theorem next_alone (xs : List UInt8) (k : Nat) (t : Tok) (hk : k < xs.length) (h : nextR xs k = (t, 0)) :
    nextR (cut xs k (k + t.len)) 0 = (⟨t.kind, 0, t.len, t.num⟩, 0) ∧ (10 ≤ t.kind → textK (t.kind : Int) = cut xs k (k + t.len)) ∧ (t.kind ≠ 2 → t.num = 0) := by
  have h2 : (nextR xs k).2 = 0 := by rw [h]
  have h1 : (nextR xs k).1 = t := by rw [h]
  have hlen := nextR_len xs k hk h2
  rw [h1] at hlen
  have hg : xs.getD k 0 = xs[k] := by simp [List.getD, hk]
  have hd0 := getD_cut xs k (k + t.len) (by omega) hk
  have hR : nextR xs k = if wsI ((xs.getD k 0).toNat : Int) = true then wordR xs k else if digI ((xs.getD k 0).toNat : Int) = true then numR xs k else signR xs k := rfl
  have hA : nextR (cut xs k (k + t.len)) 0 = if wsI ((xs.getD k 0).toNat : Int) = true then wordR (cut xs k (k + t.len)) 0 else if digI ((xs.getD k 0).toNat : Int) = true then numR (cut xs k (k + t.len)) 0 else signR (cut xs k (k + t.len)) 0 := by
    unfold nextR; rw [hd0]
  rw [hA]
  by_cases w1 : wsI ((xs.getD k 0).toNat : Int) = true
  · rw [if_pos w1] at hR ⊢
    rw [hR] at h
    have hs := spanTo_alone wbI xs k
    have hc := cut_alone xs k (spanTo wbI xs k)
    have hle := spanTo_le wbI xs k (by omega)
    unfold wordR at h
    split at h
    · rename_i n1
      have e := (Prod.mk.inj h).1
      subst e
      simp only at hs hc ⊢
      have e2 : k + (spanTo wbI xs k - k) = spanTo wbI xs k := by omega
      rw [e2]
      have n1' : wordK (cut xs k (spanTo wbI xs k)) ≠ 0 := n1
      refine ⟨?_, fun _ => ?_, fun _ => trivial⟩
      · unfold wordR
        rw [hs]
        have e3 : ((cut xs k (spanTo wbI xs k)).drop 0).take (spanTo wbI xs k - k - 0) = cut xs k (spanTo wbI xs k) := hc
        rw [e3, if_pos n1']
        rfl
      · have : kindK (cut xs k (spanTo wbI xs k)) = wordK (cut xs k (spanTo wbI xs k)) := by unfold kindK; rw [if_neg n1']
        have h3 := kind_text (cut xs k (spanTo wbI xs k)) (by rw [this]; exact n1')
        rw [this] at h3
        exact h3
    · rename_i n1
      split at h
      · simp at h
      · rename_i n2
        have e := (Prod.mk.inj h).1
        subst e
        simp only at hs hc ⊢
        have e2 : k + (spanTo wbI xs k - k) = spanTo wbI xs k := by omega
        rw [e2]
        refine ⟨?_, fun h => absurd h (by omega), fun _ => trivial⟩
        unfold wordR
        rw [hs]
        have e3 : ((cut xs k (spanTo wbI xs k)).drop 0).take (spanTo wbI xs k - k - 0) = cut xs k (spanTo wbI xs k) := hc
        have n1' : ¬ wordK (cut xs k (spanTo wbI xs k)) ≠ 0 := n1
        rw [e3, if_neg n1', if_neg (by omega)]
        rfl
  · rw [if_neg w1] at hR ⊢
    by_cases w2 : digI ((xs.getD k 0).toNat : Int) = true
    · rw [if_pos w2] at hR ⊢
      rw [hR] at h
      have hs := spanTo_alone digI xs k
      have hc := cut_alone xs k (spanTo digI xs k)
      have hle := spanTo_le digI xs k (by omega)
      have hcl := cut_len xs k (spanTo digI xs k) hle.2
      unfold numR at h
      split at h
      · simp at h
      · rename_i n1
        split at h
        · simp at h
        · rename_i n2
          split at h
          · rename_i n3
            have e := (Prod.mk.inj h).1
            subst e
            simp only at hs hc hd0 ⊢
            have e2 : k + (spanTo digI xs k - k) = spanTo digI xs k := by omega
            rw [e2] at hd0 ⊢
            refine ⟨?_, fun h => absurd h (by omega), fun h => absurd rfl h⟩
            unfold numR
            rw [hs, hd0, hcl, hc, if_neg (by omega), Nat.sub_zero, if_neg n2, if_pos n3]
          · simp at h
    · rw [if_neg w2] at hR ⊢
      rw [hR] at h
      unfold signR at h
      split at h
      · simp at h
      · rename_i n1
        have e := (Prod.mk.inj h).1
        subst e
        simp only
        have hb := best_alone (xs.drop k)
        have ht := best_text (xs.drop k) n1
        have e3 : cut xs k (k + (bestS (xs.drop k)).2) = (xs.drop k).take (bestS (xs.drop k)).2 := by unfold cut; rw [Nat.add_sub_cancel_left]
        rw [e3]
        refine ⟨?_, fun _ => ht.1, fun _ => trivial⟩
        unfold signR
        rw [List.drop_zero, hb, if_neg n1]

end Go.Proofs.YtecodpdfckjalaaGreatDoor
namespace Go.Proofs.YtecodpdfckjalaaGreatDoor
set_option linter.unusedVariables false
set_option linter.unusedSimpArgs false

/-! ### places are not seen -/
def pS (t : PTok) : PTok := ⟨t.kind, 0, t.num, t.name⟩
mutual
def tS : Tr → Tr
  | .mk k _ n m ks => .mk k 0 n m (tsS ks)
def tsS : List Tr → List Tr
  | [] => []
  | t :: r => tS t :: tsS r
end
theorem tsS_app : ∀ a b : List Tr, tsS (a ++ b) = tsS a ++ tsS b
  | [], b => by simp [tsS]
  | t :: r, b => by simp [tsS, tsS_app r b]
theorem tsS_len : ∀ a : List Tr, (tsS a).length = a.length
  | [] => rfl
  | t :: r => by simp [tsS, tsS_len r]
def rS : Rl → Rl
  | .ops n a m => .ops n (tsS a) m
  | .post k => .post (tsS k)
  | r => r
def resS : Res → Res
  | .ok a s => .ok (tsS a) (s.map pS)
  | .err s => .err (s.map pS)
  | .out => .out
theorem kd_S (s : List PTok) : kd (s.map pS) = kd s := by cases s <;> rfl
theorem tl_S (s : List PTok) : tl (s.map pS) = (tl s).map pS := by cases s <;> rfl
theorem nm_S (s : List PTok) : (hd (s.map pS)).name = (hd s).name := by cases s <;> rfl
theorem nu_S (s : List PTok) : (hd (s.map pS)).num = (hd s).num := by cases s <;> rfl
theorem pl_S (s : List PTok) : (hd (s.map pS)).place = 0 := by cases s <;> rfl
theorem and_S {x y : Res} {k k' : List Tr → List PTok → Res} (h : y = resS x) (hk : ∀ a s, k' (tsS a) (s.map pS) = resS (k a s)) : andT y k' = resS (andT x k) := by
  subst h
  cases x with
  | ok a s => exact hk a s
  | err s => rfl
  | out => rfl
theorem want_S {c : Nat} {s : List PTok} {k k' : List PTok → Res} (hk : ∀ s, k' (s.map pS) = resS (k s)) : want c (s.map pS) k' = resS (want c s k) := by
  unfold want
  rw [kd_S, tl_S]
  split
  · exact hk _
  · rfl
theorem name_S {s : List PTok} {k k' : List UInt8 → List PTok → Res} (hk : ∀ n s, k' n (s.map pS) = resS (k n s)) : nameK (s.map pS) k' = resS (nameK s k) := by
  unfold nameK
  rw [kd_S, tl_S, nm_S]
  split
  · exact hk _ _
  · rfl
theorem num_S {s : List PTok} {k k' : Nat → List PTok → Res} (hk : ∀ n s, k' n (s.map pS) = resS (k n s)) : numK (s.map pS) k' = resS (numK s k) := by
  unfold numK
  rw [kd_S, tl_S, nu_S]
  split
  · exact hk _ _
  · rfl
theorem mk_S {kind num : Int} {s r : List PTok} {name : List UInt8} {kids kids' : List Tr} (h : kids' = tsS kids) : mk1 kind (s.map pS) num name kids' (r.map pS) = resS (mk1 kind s num name kids r) := by
  subst h
  unfold mk1
  rw [pl_S]
  rfl
theorem if_S {p q : Prop} [Decidable p] [Decidable q] {a b c d : Res} (h : p ↔ q) (h1 : a = resS c) (h2 : b = resS d) : (if p then a else b) = resS (if q then c else d) := by
  by_cases hq : q
  · rw [if_pos (h.2 hq), if_pos hq]; exact h1
  · rw [if_neg (fun e => hq (h.1 e)), if_neg hq]; exact h2
theorem ok_S {a a' : List Tr} {s : List PTok} (h : a' = tsS a) : Res.ok a' (s.map pS) = resS (.ok a s) := by subst h; rfl
theorem of_S (o : One) : rS (.of o) = .of o := by cases o <;> rfl
theorem of_S' (o : One) : rS (.of o) = .of o := of_S o
set_option maxHeartbeats 2000000 in
theorem body_S {g g' : Rl → List PTok → Res} (H : ∀ r s, g' (rS r) (s.map pS) = resS (g r s)) (r : Rl) (s : List PTok) : body g' (rS r) (s.map pS) = resS (body g r s) := by
  have len : ∀ s : List PTok, (s.map pS).length = s.length := fun s => by simp
  have H' : ∀ r, rS r = r → ∀ s, g' r (s.map pS) = resS (g r s) := fun r e s => by have := H r s; rw [e] at this; exact this
  have F : ∀ {c : Nat} {s : List PTok}, (kd (s.map pS) = c ↔ kd s = c) := fun {c s} => by rw [kd_S]
  cases r
  case ops least left most =>
    simp only [rS, body, kd_S, tl_S]
    refine if_S Iff.rfl (ok_S rfl) ?_
    refine and_S (H' (.operands _) rfl _) (fun a s1 => ?_)
    have := H (.ops least [.mk 22 (hd s).place (betw (kd s)) [] (left ++ a)] (if binLevelI (betw (kd s)) = 3 then 2 else binLevelI (betw (kd s)))) s1
    simp only [rS, tsS, tS, tsS_app] at this
    rw [pl_S]
    exact this
  case post kid =>
    simp only [rS, body, kd_S, tl_S]
    refine if_S Iff.rfl ?_ (if_S Iff.rfl ?_ (if_S Iff.rfl ?_ (ok_S rfl)))
    · refine and_S (H' (.listed _) rfl _) (fun a s1 => ?_)
      have := H (.post [.mk 23 (hd s).place 0 [] (kid ++ a)]) s1
      simp only [rS, tsS, tS, tsS_app] at this
      rw [pl_S]
      exact this
    · refine want_S (fun s1 => and_S (H' (.operands _) rfl _) (fun a s2 => want_S (fun s3 => ?_)))
      have := H (.post [.mk 24 (hd s).place 0 [] (kid ++ a)]) s3
      simp only [rS, tsS, tS, tsS_app] at this
      rw [pl_S]
      exact this
    · refine want_S (fun s1 => num_S (fun n s2 => ?_))
      have := H (.post [.mk 25 (hd s).place n [] kid]) s2
      simp only [rS, tsS, tS] at this
      rw [pl_S]
      exact this
  case operands least =>
    simp only [rS, body]
    exact and_S (H' .unary rfl _) (fun a s1 => H (.ops least a 5) s1)
  case postf =>
    simp only [rS, body]
    exact and_S (H' .primary rfl _) (fun a s1 => H (.post a) s1)
  case parted o =>
    simp only [rS, body]
    refine and_S (H' _ (of_S o) _) (fun a s1 => if_S F ?_ (ok_S rfl))
    rw [tl_S]
    exact and_S (H' (.parted o) rfl _) (fun b s2 => ok_S (tsS_app a b).symm)
  all_goals
    simp only [rS, body]
    repeat' (first
      | exact H' _ rfl _
      | refine and_S (H' _ rfl _) (fun a s1 => ?_)
      | refine want_S (fun s1 => ?_)
      | refine name_S (fun n s1 => ?_)
      | refine num_S (fun n s1 => ?_)
      | refine mk_S ?_
      | refine ok_S ?_
      | refine if_S ?_ ?_ ?_
      | rw [tl_S])
  all_goals
    first
    | rfl
    | exact F
    | (simp only [kd_S]; done)
    | (simp only [tsS_app]; done)
    | (simp only [len]; done)
    | (simp [kd_S, tl_S, pl_S, nm_S, nu_S, resS, tsS, tS, tsS_app, tsS_len]; done)
theorem pF_S : ∀ (f : Nat) (r : Rl) (s : List PTok), pF f (rS r) (s.map pS) = resS (pF f r s)
  | 0, _, _ => rfl
  | f + 1, r, s => body_S (pF_S f) r s
end Go.Proofs.YtecodpdfckjalaaGreatDoor
namespace Go.Proofs.YtecodpdfckjalaaGreatDoor
open Go.RowKit
set_option linter.unusedVariables false
set_option linter.unusedSimpArgs false

/-! ### tokens with other blanks between them -/
theorem endsB : Ends 32 := ⟨rfl, rfl, rfl, by decide⟩
/-- bytes that may stand between two tokens -/
structure Sep (s : List UInt8) : Prop where
  head : ∃ z, s = 32 :: z
  skip : ∀ z, skipL false (s ++ z) = s.length + skipL false z
theorem sep1 : Sep [32] := ⟨⟨[], rfl⟩, fun z => by
  show skipL false (32 :: z) = 1 + skipL false z
  rw [skipL, if_pos (by rfl)]
  omega⟩
theorem skip_rem (z : List UInt8) : ∀ (b : List UInt8), (∀ c ∈ b, c ≠ 10) → skipL true (b ++ 10 :: z) = b.length + 1 + skipL false z
  | [], _ => by
    show skipL true (10 :: z) = _
    rw [skipL, if_neg (by decide)]
    simp
    omega
  | c :: r, h => by
    have ih := skip_rem z r (fun x hx => h x (List.mem_cons_of_mem _ hx))
    have hc := h c (List.mem_cons_self ..)
    have hr : remI (c.toNat : Int) = true := by
      simp only [remI, bne_iff_ne, ne_eq]
      intro e
      exact hc (by
        have : c.toNat = 10 := by omega
        exact UInt8.toNat_inj.1 this)
    rw [List.cons_append, skipL, if_pos hr, ih]
    simp
    omega
theorem sep_rem (b : List UInt8) (h : ∀ c ∈ b, c ≠ 10) : Sep (32 :: 35 :: (b ++ [10])) := ⟨⟨_, rfl⟩, fun z => by
  have := skip_rem z b h
  show skipL false (32 :: 35 :: ((b ++ [10]) ++ z)) = _
  rw [skipL, if_pos (by rfl), skipL, if_neg (by decide), if_pos (by rfl), List.append_assoc]
  show skipL true (b ++ 10 :: z) + 1 + 1 = _
  rw [this]
  simp
  omega⟩
def sepS (one : List UInt8) (gap : Nat → List UInt8) : List Tok → Nat → List UInt8
  | [], _ => []
  | t :: r, i => cut one t.place (t.place + t.len) ++ (gap i ++ sepS one gap r (i + 1))
def sepT (gap : Nat → List UInt8) : Nat → List Tok → Nat → List Tok
  | _, [], _ => []
  | n, t :: r, i => ⟨t.kind, n, t.len, t.num⟩ :: sepT gap (n + t.len + (gap i).length) r (i + 1)
theorem sepT_len (gap : Nat → List UInt8) : ∀ (l : List Tok) (n i : Nat), (sepT gap n l i).length = l.length
  | [], n, i => rfl
  | t :: r, n, i => by simp [sepT, sepT_len gap r]
theorem covers_sep (one : List UInt8) (gap : Nat → List UInt8) (hg : ∀ i, Sep (gap i)) : ∀ (l : List Tok) (k i : Nat), k ≤ one.length → Covers one k l → ∀ (pre s0 : List UInt8), Sep s0 → Covers (pre ++ (s0 ++ sepS one gap l i)) pre.length (sepT gap (pre.length + s0.length) l i)
  | [], k, i, hk, h, pre, s0, hs => by
    show skipTo (pre ++ (s0 ++ [])) pre.length = _
    have : skipTo (pre ++ (s0 ++ [])) (pre.length + 0) = pre.length + skipTo (s0 ++ []) 0 := skipTo_pre _ _ _
    rw [Nat.add_zero] at this
    rw [this]
    unfold skipTo
    rw [List.drop_zero, hs.skip]
    simp [skipL, sepS]
  | t :: r, k, i, hk, h, pre, s0, hs => by
    obtain ⟨q1, q2, q3, q4⟩ := h
    have hlen := nextR_len one t.place q2 (by rw [q3])
    rw [q3] at hlen
    simp only at hlen
    obtain ⟨hb, h35⟩ := skipTo_head one k t.place q1 q2
    have hN := (next_alone one t.place t q2 q3).1
    have hd0 := getD_cut one t.place (t.place + t.len) (by omega) q2
    have hcl : (cut one t.place (t.place + t.len)).length = t.len := by rw [cut_len _ _ _ hlen.2]; omega
    have ih := covers_sep one gap hg r (t.place + t.len) (i + 1) hlen.2 q4 (pre ++ s0 ++ cut one t.place (t.place + t.len)) (gap i) (hg i)
    obtain ⟨z, hz⟩ := (hg i).head
    rw [show sepS one gap (t :: r) i = cut one t.place (t.place + t.len) ++ (gap i ++ sepS one gap r (i + 1)) from rfl]
    have hone : one.getD t.place 0 = one[t.place] := by simp [List.getD, q2]
    rw [hone] at hd0
    generalize cut one t.place (t.place + t.len) = s at *
    have hsk0 : skipL false (s ++ (gap i ++ sepS one gap r (i + 1))) = 0 := by
      cases s with
      | nil => simp at hcl; omega
      | cons c s' =>
        have hc : c = one[t.place] := by simpa [List.getD] using hd0
        simp only [List.cons_append, skipL]
        rw [hc, if_neg (by rw [hb]; simp), if_neg (by rw [h35]; simp)]
    have hnx : nextR (s ++ (gap i ++ sepS one gap r (i + 1))) 0 = (⟨t.kind, 0, t.len, t.num⟩, 0) := by
      rw [hz, List.cons_append, next_ends 32 endsB _ s 0 (by omega)]; exact hN
    have e5 : (pre ++ s0).length = pre.length + s0.length := by simp
    have eA : pre ++ (s0 ++ (s ++ (gap i ++ sepS one gap r (i + 1)))) = (pre ++ s0) ++ (s ++ (gap i ++ sepS one gap r (i + 1))) := by simp
    have eB : pre ++ (s0 ++ (s ++ (gap i ++ sepS one gap r (i + 1)))) = (pre ++ s0 ++ s) ++ (gap i ++ sepS one gap r (i + 1)) := by simp
    refine ⟨?_, ?_, ?_, ?_⟩
    · show skipTo _ _ = pre.length + s0.length
      have : skipTo (pre ++ (s0 ++ (s ++ (gap i ++ sepS one gap r (i + 1))))) (pre.length + 0) = pre.length + skipTo (s0 ++ (s ++ (gap i ++ sepS one gap r (i + 1)))) 0 := skipTo_pre _ _ _
      rw [Nat.add_zero pre.length] at this
      rw [this]
      unfold skipTo
      rw [List.drop_zero, hs.skip, hsk0]
      omega
    · show pre.length + s0.length < _
      simp; omega
    · show nextR _ (pre.length + s0.length) = _
      have := next_pre (pre ++ s0) (s ++ (gap i ++ sepS one gap r (i + 1))) 0 _ hnx
      rw [e5, Nat.add_zero (pre.length + s0.length)] at this
      rw [eA, this]
      simp [shiftT]
    · show Covers _ (pre.length + s0.length + t.len) (sepT gap (pre.length + s0.length + t.len + (gap i).length) r (i + 1))
      rw [eB]
      have : (pre ++ s0 ++ s).length = pre.length + s0.length + t.len := by simp; omega
      rw [this] at ih
      exact ih
/-- what is read of them, places aside -/
theorem cut_mid (pre s z : List UInt8) : cut (pre ++ (s ++ z)) pre.length (pre.length + s.length) = s := by
  unfold cut
  rw [List.drop_left, show pre.length + s.length - pre.length = s.length by omega, List.take_left]
theorem sep_toks (one : List UInt8) (gap : Nat → List UInt8) : ∀ (l : List Tok) (k i : Nat), Covers one k l → ∀ (pre : List UInt8), ((sepT gap pre.length l i).map (ptok (pre ++ sepS one gap l i))).map pS = (l.map (ptok one)).map pS
  | [], k, i, h, pre => rfl
  | t :: r, k, i, h, pre => by
    obtain ⟨q1, q2, q3, q4⟩ := h
    have hlen := nextR_len one t.place q2 (by rw [q3])
    rw [q3] at hlen
    simp only at hlen
    have hcl : (cut one t.place (t.place + t.len)).length = t.len := by rw [cut_len _ _ _ hlen.2]; omega
    have ih := sep_toks one gap r (t.place + t.len) (i + 1) q4 (pre ++ (cut one t.place (t.place + t.len) ++ gap i))
    have hm := cut_mid pre (cut one t.place (t.place + t.len)) (gap i ++ sepS one gap r (i + 1))
    rw [hcl] at hm
    rw [show sepS one gap (t :: r) i = cut one t.place (t.place + t.len) ++ (gap i ++ sepS one gap r (i + 1)) from rfl, show sepT gap pre.length (t :: r) i = ⟨t.kind, pre.length, t.len, t.num⟩ :: sepT gap (pre.length + t.len + (gap i).length) r (i + 1) from rfl]
    simp only [List.map_cons]
    congr 1
    · simp only [ptok, pS, hm]
    · have e1 : (pre ++ (cut one t.place (t.place + t.len) ++ gap i)).length = pre.length + t.len + (gap i).length := by simp [hcl]; omega
      have e2 : pre ++ (cut one t.place (t.place + t.len) ++ gap i) ++ sepS one gap r (i + 1) = pre ++ (cut one t.place (t.place + t.len) ++ (gap i ++ sepS one gap r (i + 1))) := by simp
      rw [e1, e2] at ih
      exact ih
/-! ### trees that are the same, places aside -/
def ndS (n : Nd) : Nd := ⟨n.kind, 0, n.kids, n.name, n.num⟩
mutual
theorem size_S : ∀ (t : Tr), (tS t).size = t.size
  | .mk k p n m ks => by simp only [tS, Tr.size, sizes_S ks]
theorem sizes_S : ∀ (ts : List Tr), sizes (tsS ts) = sizes ts
  | [] => rfl
  | t :: r => by simp only [tsS, sizes, size_S t, sizes_S r]
end
theorem ends_S : ∀ (ts : List Tr) (o : Nat), ends (tsS ts) o = ends ts o
  | [], o => rfl
  | t :: r, o => by simp only [tsS, ends, size_S t, ends_S r]
mutual
theorem flat_S : ∀ (t : Tr) (o : Nat), flat (tS t) o = (flat t o).map ndS
  | .mk k p n m ks, o => by
    simp only [tS, flat, flats_S ks, ends_S, List.map_append, List.map_cons, List.map_nil]
    rfl
theorem flats_S : ∀ (ts : List Tr) (o : Nat), flats (tsS ts) o = (flats ts o).map ndS
  | [], o => rfl
  | t :: r, o => by simp only [tsS, flats, flat_S t, flats_S r, size_S, List.map_append]
end
mutual
theorem ht_S : ∀ (t : Tr), (tS t).ht = t.ht ∧ hl (tS t) = hl t
  | .mk k p n m ks => by
    obtain ⟨h1, h2⟩ := hts_S ks
    simp only [tS, Tr.ht, hl, h1, h2, and_self]
theorem hts_S : ∀ (ts : List Tr), hts (tsS ts) = hts ts ∧ hls (tsS ts) = hls ts
  | [] => ⟨rfl, rfl⟩
  | t :: r => by
    obtain ⟨h1, h2⟩ := ht_S t
    obtain ⟨h3, h4⟩ := hts_S r
    simp only [tsS, hts, hls, h1, h2, h3, h4, and_self]
end
theorem same_S {a b : List Nd} (h : a.map ndS = b.map ndS) : a.length = b.length ∧ ∀ p, p < a.length → NdSame true (ndN a p) (ndN b p) := by
  have hl : a.length = b.length := by simpa using congrArg List.length h
  refine ⟨hl, fun p hp => ?_⟩
  have e := congrArg (·[p]?) h
  simp only [List.getElem?_map, List.getElem?_eq_getElem hp, List.getElem?_eq_getElem (hl ▸ hp), Option.map_some, Option.some.injEq] at e
  have e1 : ndN a p = a[p] := by simp [ndN, hp]
  have e2 : ndN b p = b[p]'(hl ▸ hp) := by simp [ndN, hl ▸ hp]
  rw [e1, e2]
  simp only [ndS, Nd.mk.injEq, true_and] at e
  exact ⟨e.1, e.2.1, e.2.2.1, e.2.2.2, fun h => by cases h⟩
theorem hi_code (l m : List Nd) (nest : Int) (hs : List Nat) : (hiGo l nest hs 0).2 = (hiGo m nest hs 0).2 := by
  by_cases h : ∃ x ∈ hs, nest < (x : Int)
  · rw [hi_some l nest hs 0 h, hi_some m nest hs 0 h]
  · have : ∀ x ∈ hs, (x : Int) ≤ nest := fun x hx => by
      by_cases hh : nest < (x : Int)
      · exact absurd ⟨x, hx, hh⟩ h
      · omega
    rw [hi_none l nest hs 0 this, hi_none m nest hs 0 this]
/-- two texts whose tokens are the same are read the same -/
theorem parse_same (xs ys : List UInt8) (h1 : (scanAll xs).2.2 = 0) (h2 : (scanAll ys).2.2 = 0) (hl : (scanAll xs).1.length = (scanAll ys).1.length) (he : (pts xs (withEnd (scanAll xs).1 xs.length) 0).map pS = (pts ys (withEnd (scanAll ys).1 ys.length) 0).map pS) (nest : Int) :
    (parseR xs nest).2.2 = (parseR ys nest).2.2 ∧ (parseR xs nest).1.length = (parseR ys nest).1.length ∧ ∀ p, p < (parseR xs nest).1.length → NdSame true (ndN (parseR xs nest).1 p) (ndN (parseR ys nest).1 p) := by
  unfold parseR
  rw [if_neg (fun h => h h1), if_neg (fun h => h h2), hl]
  have hx := pF_S (parseF (scanAll ys).1.length + 1) .program (pts xs (withEnd (scanAll xs).1 xs.length) 0)
  have hy := pF_S (parseF (scanAll ys).1.length + 1) .program (pts ys (withEnd (scanAll ys).1 ys.length) 0)
  rw [he, hy] at hx
  clear hy he
  generalize pF (parseF (scanAll ys).1.length + 1) .program (pts xs (withEnd (scanAll xs).1 xs.length) 0) = A at *
  generalize pF (parseF (scanAll ys).1.length + 1) .program (pts ys (withEnd (scanAll ys).1 ys.length) 0) = B at *
  match A, B, hx with
  | .out, .out, _ => exact ⟨rfl, rfl, fun p hp => absurd hp (by simp)⟩
  | .err s, .err s', _ => exact ⟨rfl, rfl, fun p hp => absurd hp (by simp)⟩
  | .ok a s, .ok b s', h =>
    simp only [resS, Res.ok.injEq] at h
    obtain ⟨e, _⟩ := h
    have ef : (flats a 0).map ndS = (flats b 0).map ndS := by rw [← flats_S, ← flats_S, e]
    have eh : heightsL (flats a 0) = heightsL (flats b 0) := by rw [heights_flats, heights_flats, ← (hts_S a).2, ← (hts_S b).2, e]
    obtain ⟨q1, q2⟩ := same_S ef
    have ec := hi_code (flats a 0) (flats b 0) nest (heightsL (flats b 0))
    simp only
    rw [eh]
    by_cases hc : (hiGo (flats b 0) nest (heightsL (flats b 0)) 0).2 = 0
    · rw [if_neg (by rw [ec]; exact fun h => h hc), if_neg (fun h => h hc)]
      exact ⟨rfl, q1, q2⟩
    · rw [if_pos (by rw [ec]; exact hc), if_pos hc]
      exact ⟨ec, rfl, fun p hp => absurd hp (by simp)⟩
/-- ParseBlanks, plain -/
theorem blanks_plain (xs : List UInt8) (gap : Nat → List UInt8) (hg : ∀ i, Sep (gap i)) (h1 : (scanAll xs).2.2 = 0) (nest : Int) (hl : (32 :: sepS xs gap (scanAll xs).1 0).length ≤ 65536) :
    (parseR xs nest).2.2 = (parseR (32 :: sepS xs gap (scanAll xs).1 0) nest).2.2 ∧ (parseR xs nest).1.length = (parseR (32 :: sepS xs gap (scanAll xs).1 0) nest).1.length ∧ ∀ p, p < (parseR xs nest).1.length → NdSame true (ndN (parseR xs nest).1 p) (ndN (parseR (32 :: sepS xs gap (scanAll xs).1 0) nest).1 p) := by
  obtain ⟨hc, _⟩ := scan_covers xs h1
  have hs := covers_scan _ _ (covers_sep xs gap hg _ 0 0 (Nat.zero_le _) hc [] [32] sep1) hl
  have ht := sep_toks xs gap (scanAll xs).1 0 0 hc [32]
  simp only [List.nil_append, List.length_nil, List.length_singleton, Nat.zero_add, List.singleton_append] at hs ht
  have hlen : (scanAll (32 :: sepS xs gap (scanAll xs).1 0)).1.length = (scanAll xs).1.length := by rw [hs, sepT_len]
  refine parse_same xs _ h1 (by rw [hs]) hlen.symm ?_ nest
  rw [hs]
  simp only [pts, withEnd, List.drop_zero, List.map_append, List.map_cons, List.map_nil, ht]
  congr 1
  simp [ptok, pS, cut]
end Go.Proofs.YtecodpdfckjalaaGreatDoor
namespace Go.Proofs.YtecodpdfckjalaaGreatDoor
open Go.RowKit
set_option linter.unusedVariables false
set_option linter.unusedSimpArgs false

/-! ### squintlaw03.blanks -/
def gapB (s : List UInt8) : List UInt8 := 32 :: 35 :: ((s.take 50).filter (fun c => c != 10) ++ [10])
theorem gap_sep (s : List UInt8) : Sep (gapB s) := sep_rem _ fun c hc => by
  have := (List.mem_filter.1 hc).2
  simpa using this
theorem gap_len (s : List UInt8) : (gapB s).length ≤ 53 := by
  have := List.length_filter_le (fun c : UInt8 => c != 10) (s.take 50)
  have h2 : (s.take 50).length ≤ 50 := by rw [List.length_take]; omega
  simp only [gapB, List.length_cons, List.length_append, List.length_nil]
  omega
theorem filt_take (s : ByteArray) (p : Nat) (h : p < s.size) : (s.data.toList.take (p + 1)).filter (fun c => c != 10) = (s.data.toList.take p).filter (fun c => c != 10) ++ (if (s[p] != 10) = true then [s[p]] else []) := by
  have hz : p < s.data.toList.length := by rw [bl]; exact h
  have he : s.data.toList[p] = s[p] := by simp; rfl
  rw [List.take_succ_eq_append_getElem hz, List.filter_append, he]
  congr 1
  rw [List.filter_cons]
  rfl
set_option maxRecDepth 100000 in
set_option maxHeartbeats 2000000 in
theorem blanks_any (w : World) (s : ByteArray) (hs : s.size ≤ maxLen) :
    Calls Tryz.prog 13 #[.string s] w fun e w' => e = .returned (strV (gapB s.data.toList)) ∧ Below w.heap.size w w' := by
  have hcv := fun (w : World) (C : Array Value) (n c : Nat) => Lib.run_convert_bytes_const (P := Tryz.prog) w 33 5 C n c Tryz.underlying33 Tryz.underlying5
  unfold maxLen at hs
  go_enter Tryz.func13, Tryz.ntmps13
  go_wp2
  clear hcv
  obtain ⟨W1, hW1⟩ : ∃ W1, w.alloc (.cells #[.int .u8 32, .int .u8 35] 5 (2, 3)) = W1 := ⟨_, rfl⟩
  have b1 : Below w.heap.size w W1 := by rw [← hW1]; exact below1 _ _
  have m1 : BM W1 w.heap.size (.slice (some ⟨w.heap.size, 0, none⟩) 2 2) [32, 35] := .inr ⟨w.heap.size, (2, 3), rfl, Nat.le_refl _, by rw [← hW1]; exact heap_alloc_new _ _⟩
  have HI0 : Bx _ := ⟨And.intro m1 b1⟩
  rw [hW1]
  clear hW1 m1 b1
  go_loopw [4, 3] (fun x v wr => ∃ (p : Nat) (vv : Value), p ≤ s.size ∧ p ≤ 50 ∧ x = .int .i64 (p : Int) ∧ vv = v ∧ Bx (BM wr w.heap.size vv (32 :: 35 :: (s.data.toList.take p).filter (fun c => c != 10)) ∧ Below w.heap.size w wr)) (fun x _ _ => 50 - (intOf x).toNat)
  case atStart => exact ⟨0, _, Nat.zero_le _, Nat.zero_le _, rfl, rfl, ⟨HI0.out⟩⟩
  case round =>
    obtain ⟨p, vv, hp, hp2, rfl, rfl, HI⟩ := hrel
    clear HI0
    by_cases hlt : p < s.size ∧ p < 50
    · obtain ⟨h1, h2⟩ := hlt
      have q1 : (p : Int) < (s.size : Int) := by omega
      have q2 : (p : Int) < 50 := by omega
      have hft := filt_take s p h1
      have hbd : (32 :: 35 :: (s.data.toList.take p).filter (fun c => c != 10)).length + 1 ≤ 1000000 := by
        have h3 := List.length_filter_le (fun c : UInt8 => c != 10) (s.data.toList.take p)
        have h4 : (s.data.toList.take p).length ≤ p := by rw [List.length_take]; omega
        simp only [List.length_cons]
        omega
      obtain ⟨v', W3, run, ho, hg⟩ := BM.byte_ wr w.heap.size vv _ HI.out.1 s[p] HI.out.2.size hbd
      have HN : Bx (BM W3 w.heap.size v' ((32 :: 35 :: (s.data.toList.take p).filter (fun c => c != 10)) ++ [s[p]]) ∧ Below w.heap.size w W3) := ⟨.inl ho, Below.grown HI.out.2 hg HI.out.2.size (fun k hk => (HI.out.1.lo hk).1)⟩
      by_cases hc : s[p] = 10
      · have hc2 : ((s[p].toNat : Int) != 10) = false := by rw [hc]; rfl
        have HX : Bx (BM wr w.heap.size vv (32 :: 35 :: (s.data.toList.take (p + 1)).filter (fun c => c != 10)) ∧ Below w.heap.size w wr) := ⟨by rw [hft, hc]; simpa using HI.out.1, HI.out.2⟩
        clear HI HN run ho hg hft
        go_wp2
        go_roundw
        case rel => exact ⟨p + 1, _, h1, h2, by go_num, rfl, HX⟩
        case measure => simp [intOf]; omega
      · have hc2 : ((s[p].toNat : Int) != 10) = true := by
          rw [bne_iff_ne]
          intro e
          exact hc (UInt8.toNat_inj.1 (by have : s[p].toNat = 10 := by omega
                                          rw [this]; rfl))
        have HX : Bx (BM W3 w.heap.size v' (32 :: 35 :: (s.data.toList.take (p + 1)).filter (fun c => c != 10)) ∧ Below w.heap.size w W3) := ⟨by
          rw [hft]
          have : (s[p] != 10) = true := by simpa using hc
          rw [if_pos this]
          exact HN.out.1, HN.out.2⟩
        clear HI HN ho hg hft
        go_wp2_with (first | (at_builtin; refine wpList_app rfl (.tmp 21) (.tmp 25) 33 rfl rfl rfl run ?_; clear run))
        go_roundw
        case rel => exact ⟨p + 1, _, h1, h2, by go_num, rfl, HX⟩
        case measure => simp [intOf]; omega
    · have hft : s.data.toList.take p = s.data.toList.take 50 := by
        by_cases h50 : p = 50
        · rw [h50]
        · have hz : s.data.toList.length = s.size := bl s
          rw [List.take_of_length_le (by omega), List.take_of_length_le (by omega)]
      have hbd : (32 :: 35 :: (s.data.toList.take p).filter (fun c => c != 10)).length + 1 ≤ 1000000 := by
        have h3 := List.length_filter_le (fun c : UInt8 => c != 10) (s.data.toList.take p)
        have h4 : (s.data.toList.take p).length ≤ p := by rw [List.length_take]; omega
        simp only [List.length_cons]
        omega
      obtain ⟨v', W3, run, ho, hg⟩ := BM.byte_ wr w.heap.size vv _ HI.out.1 10 HI.out.2.size hbd
      have hconv := ho.str
      have hg2 : (32 :: 35 :: (s.data.toList.take p).filter (fun c => c != 10)) ++ [10] = gapB s.data.toList := by rw [hft]; rfl
      rw [hg2] at hconv
      have HB : Bx (Below w.heap.size w W3) := ⟨Below.grown HI.out.2 hg HI.out.2.size (fun k hk => (HI.out.1.lo hk).1)⟩
      have run2 : ∀ ty, (Builtin.append_ #[33, 33] ty #[vv, .slice (some ⟨wr.heap.size, 0, none⟩) 1 1]).run Tryz.prog (wr.alloc (.cells #[.int .u8 10] 5)) = .ok v' W3 := run
      have hcase : ((p : Int) < (s.size : Int) ∧ (p : Int) < 50) = False := eq_false (fun h => hlt ⟨by omega, by omega⟩)
      clear HI ho hg hft hg2 run
      obtain ⟨gs, hgs⟩ : ∃ gs, gapB s.data.toList = gs := ⟨_, rfl⟩
      rw [hgs] at hconv
      have HGS : Bx _ := ⟨hgs⟩
      clear hgs
      unfold strV at hconv
      by_cases h1 : (p : Int) < (s.size : Int)
      · have h2 : ¬ (p : Int) < 50 := fun h => hlt ⟨by omega, by omega⟩
        clear hcase hlt
        go_wp2_with (first | (at_builtin; refine wpList_app rfl (.tmp 27) (.tmp 28) 33 rfl rfl rfl run2 ?_; clear run2))
        go_ret
        refine ⟨?_, HB.out⟩
        rw [HGS.out]
        rfl
      · clear hcase hlt
        go_wp2_with (first | (at_builtin; refine wpList_app rfl (.tmp 27) (.tmp 28) 33 rfl rfl rfl run2 ?_; clear run2))
        go_ret
        refine ⟨?_, HB.out⟩
        rw [HGS.out]
        rfl
end Go.Proofs.YtecodpdfckjalaaGreatDoor
namespace Go.Proofs.YtecodpdfckjalaaGreatDoor
open Go.RowKit
set_option linter.unusedVariables false
set_option linter.unusedSimpArgs false

/-! ### ParseBlanks -/
theorem sepS_snoc (one : List UInt8) (gap : Nat → List UInt8) (t : Tok) : ∀ (l : List Tok) (i : Nat), sepS one gap (l ++ [t]) i = (sepS one gap l i ++ cut one t.place (t.place + t.len)) ++ gap (i + l.length)
  | [], i => by simp [sepS]
  | x :: r, i => by
    rw [List.cons_append, sepS, sepS, sepS_snoc one gap t r (i + 1), show i + 1 + r.length = i + (x :: r).length by simp; omega]
    simp
theorem owns_far {W W' : World} {B : Nat} {e e2 : TypeId} {s : Nat} {v : Value} {n : Nat} {cs : List Value} {row : Option Nat} (h : W.ownsRow B e s v n cs) (hr : ∀ g, row = some g → ∃ C fz, W.heap[g]? = some (.cells C e2 fz)) (hne : e ≠ e2) (hg : W.grownBy W' row) : W'.ownsRow B e s v n cs := by
  refine ⟨h.1, ?_⟩
  rcases h.2 with hn | ⟨g, cap, cur, rfl, hB, hgg, rest⟩
  · exact .inl hn
  · refine .inr ⟨g, cap, cur, rfl, hB, ?_, rest⟩
    rw [hg.block g (Array.getElem?_eq_some_iff.1 hgg).1 (fun e0 => ?_)]
    · exact hgg
    · obtain ⟨C, fz, hC⟩ := hr g e0.symm
      rw [hgg] at hC
      injection hC with q
      injection q with _ q _
      exact hne q
theorem owns_kindq {W : World} {B : Nat} {e : TypeId} {s : Nat} {v : Value} {n : Nat} {cs : List Value} (h : W.ownsRow B e s v n cs) : ∀ g, v.ownBlock = some g → ∃ C fz, W.heap[g]? = some (.cells C e fz) := by
  intro g hg
  rcases h.2 with ⟨rfl, _⟩ | ⟨g', cap, cur, rfl, hB, hgg, rest⟩
  · cases hg
  · simp only [Value.ownBlock, Option.some.injEq] at hg
    subst hg
    exact ⟨_, _, hgg⟩
theorem BM.kind {W : World} {B : Nat} {v : Value} {bs : List UInt8} (h : BM W B v bs) : ∀ g, v.ownBlock = some g → ∃ C fz, W.heap[g]? = some (.cells C 5 fz) := by
  rcases h with h | ⟨g', fz, rfl, h1, h2⟩
  · exact owns_kindq h
  · intro g hg
    simp only [Value.ownBlock, Option.some.injEq] at hg
    subst hg
    exact ⟨_, _, h2⟩
theorem BM.far {W W' : World} {B : Nat} {v : Value} {bs : List UInt8} {e2 : TypeId} {row : Option Nat} (h : BM W B v bs) (hr : ∀ g, row = some g → ∃ C fz, W.heap[g]? = some (.cells C e2 fz)) (hne : 5 ≠ e2) (hg : W.grownBy W' row) : BM W' B v bs := by
  rcases h with h | ⟨g', fz, rfl, h1, h2⟩
  · exact .inl (owns_far h hr hne hg)
  · refine .inr ⟨g', fz, rfl, h1, ?_⟩
    rw [hg.block g' (heapLt h2) (fun e0 => ?_)]
    · exact h2
    · obtain ⟨C, fz', hC⟩ := hr g' e0.symm
      rw [h2] at hC
      injection hC with q
      injection q with _ q _
      exact hne q
/-- texts that came in -/
structure IsStrs (w : World) (a : Option Addr) (cap : Nat) (ss : List ByteArray) : Prop where
  at_ : 0 < ss.length → ∃ b o, a = some ⟨b, o, none⟩ ∧ b < w.heap.size ∧ ∀ i (h : i < ss.length), w.cell? ⟨b, o + i, none⟩ = some (.string ss[i])
  cap_ : ss.length ≤ cap
  max_ : ss.length ≤ maxLen
  one : ∀ s ∈ ss, s.size ≤ maxLen
theorem IsStrs.below {w w' : World} {a : Option Addr} {cap : Nat} {ss : List ByteArray} (h : IsStrs w a cap ss) (hb : Below w.heap.size w w') : IsStrs w' a cap ss := by
  refine ⟨fun h0 => ?_, h.cap_, h.max_, h.one⟩
  obtain ⟨b, o, e, hlt, hc⟩ := h.at_ h0
  exact ⟨b, o, e, by have := hb.size; omega, fun i hi => by rw [hb.cell (p := ⟨b, o + i, none⟩) hlt]; exact hc i hi⟩
/-- in the midst of the loop -/
structure BlS (K : Nat) (W wr : World) (OUT : Nat → List UInt8) (p : Nat) (vo va : Value) : Prop where
  out : BM wr K vo (OUT p)
  at_ : ∃ ks : List Int, ks.length = p ∧ NO wr K va ks
  few : (OUT p).length ≤ 65589
  bel : Below K W wr
/-- one word behind what is there, and where it stands -/
theorem bl_word {K : Nat} {W wr : World} {OUT : Nat → List UInt8} {p : Nat} {vo va : Value} (h : BlS K W wr OUT p vo va) (hK : K ≤ wr.heap.size) (hp : p ≤ 65536) (wd : List UInt8) (h0 : 0 < wd.length) (hl : wd.length ≤ 65536) :
    ∃ va' W6 vo' W7, (∀ ty, (Builtin.append_ #[39, 39] ty #[va, .slice (some ⟨wr.heap.size, 0, none⟩) 1 1]).run Tryz.prog (wr.alloc (.cells #[.int .i64 ((OUT p).length : Int)] 3)) = .ok va' W6) ∧
      (∀ ty, (Builtin.append_ #[33, 9] ty #[vo, strV wd]).run Tryz.prog W6 = .ok vo' W7) ∧ BO W7 K vo' (OUT p ++ wd) ∧ (∃ ks : List Int, ks.length = p + 1 ∧ NO W7 K va' ks) ∧ Below K W W7 ∧ K ≤ W7.heap.size := by
  obtain ⟨ks, hks, hN⟩ := h.at_
  have hf := h.few
  obtain ⟨va', W6, r6, n6, g6⟩ := app_int wr K va ks hN ((OUT p).length : Int) hK (by omega)
  have m6 : BM W6 K vo (OUT p) := h.out.far (owns_kindq hN) (by decide) g6
  have z6 := g6.size
  obtain ⟨vo', W7, r7, o7, g7⟩ := BM.str_ W6 K vo (OUT p) m6 wd h0 (by omega) (by omega)
  have z7 := g7.size
  refine ⟨va', W6, vo', W7, r6, r7, o7, ⟨ks ++ [((OUT p).length : Int)], by simp [hks], owns_far n6 m6.kind (by decide) g7⟩, ?_, by omega⟩
  exact Below.grown (Below.grown h.bel g6 (by omega) (fun k hk => (owns_lo hN hk).1)) g7 (by omega) (fun k hk => (m6.lo hk).1)
/-- what stands between behind it -/
theorem bl_gap {K : Nat} {W W7 W8 : World} {OUT : Nat → List UInt8} {p : Nat} {vo va : Value} {bs : List UInt8} (ho : BO W7 K vo bs) (hn : ∃ ks : List Int, ks.length = p + 1 ∧ NO W7 K va ks) (hb : Below K W W7) (hK : K ≤ W7.heap.size) (hb8 : Below W7.heap.size W7 W8) (g : List UInt8) (hO : OUT (p + 1) = bs ++ g) (hl : bs.length ≤ 65536) (hg : g.length ≤ 53) :
    ∃ vo' W9, (∀ ty, (Builtin.append_ #[33, 9] ty #[vo, strV g]).run Tryz.prog W8 = .ok vo' W9) ∧ BlS K W W9 OUT (p + 1) vo' va := by
  have z8 := hb8.size
  have o8 : BO W8 K vo bs := owns_below ho hb8
  obtain ⟨ks, hks, hN⟩ := hn
  obtain ⟨vo', W9, r9, o9, g9⟩ := app_bytes W8 K vo bs o8 g (by omega) (by omega)
  refine ⟨vo', W9, r9, ?_, ⟨ks, hks, owns_far (owns_below hN hb8) (owns_kindq o8) (by decide) g9⟩, by rw [hO, List.length_append]; omega, ?_⟩
  · rw [hO]; exact .inl o9
  · exact Below.grown (hb.trans (hb8.mono hK)) g9 (by omega) (fun k hk => (owns_lo o8 hk).1)
theorem wpList_appS {P : Program} {w w' : World} {ops : Array Oper} {rest : List Oper} {o : Oper} {a : Act} {Q : Exit → Act → World → Prop} (hgd : o.guard = none) (s x : Operand) (t t2 : TypeId)
    (ho : o.op = .call { callee := .builtin .append, args := #[s, x], argTypes := #[t, t2] }) {v u r : Value} (hs : a.eval s = v) (hx : a.eval x = u) (hr : ∀ ty, (Builtin.append_ #[t, t2] ty #[v, u]).run P w = .ok r w')
    (h : wpList P ops Q rest (a.put o.dst r) w') : wpList P ops Q (o :: rest) a w := by
  refine wpList_plain hgd fun K hK => ?_
  unfold Oper.wp
  simp [execOp, ho, resolve, invoke, builtin, hs, hx, hr, Result.andThen]
  exact hK _ _ h
set_option maxRecDepth 100000 in
set_option maxHeartbeats 2000000 in
theorem blanks_bad (w : World) (a : Option Addr) (n cap : Nat) (bv : Value) (l : List Nd) (fa fc : Int) (hc : (fc != 0) = true)
    (HSh : Bx (Calls Tryz.prog 7 #[] w fun e w' => e = .returned (.bool true) ∧ Below w.heap.size w w'))
    (HP1 : Bx (∀ W, Below w.heap.size w W → Calls Tryz.prog 10 #[.slice a n cap, .int .i64 65536] W (ParE W l fa fc)))
    (HT : Bx (∀ W, Below w.heap.size w W → Calls Tryz.prog 12 #[.slice a n cap] W fun e w' => e = .returned (.tuple #[.slice none 0 0, .bool false]) ∧ Below W.heap.size W w')) :
    Calls Tryz.prog 4 #[.slice a n cap, bv] w fun e w' => e = .returned (.bool true) ∧ Below w.heap.size w w' := by
  go_enter Tryz.func4, Tryz.ntmps4
  go_wp2_with (first
    | (go_at_call 7; refine Calls.mono HSh.out ?_; rintro e W1 ⟨rfl, hb1⟩; clear HSh)
    | (go_at_call 10; refine Calls.mono (HP1.out _ hb1) ?_; clear HP1; rintro e W2 ⟨na, nc, rfl, hb2, hn2⟩; obtain ⟨W3, hW3⟩ : ∃ W3, W2.alloc (.cells #[.int .i64 fa, .int .i64 fc] 30) = W3 := ⟨_, rfl⟩; have HW3 : Bx _ := ⟨hW3⟩; have HB3 : Bx _ := ⟨bel_one (hb1.trans (hb2.mono hb1.size)) hW3⟩; clear hW3 hn2 hb1 hb2)
    | (go_at_call 12; rw [HW3.out]; refine Calls.mono (HT.out _ HB3.out) ?_; clear HT; rintro e W4 ⟨rfl, hb4⟩; obtain ⟨k0, k1, k2⟩ := fault_at HW3.out hb4; have HB4 : Bx _ := ⟨HB3.out.trans (hb4.mono HB3.out.size)⟩; clear hb4 HW3 HB3))
  go_ret
  exact ⟨rfl, HB4.out⟩
end Go.Proofs.YtecodpdfckjalaaGreatDoor
