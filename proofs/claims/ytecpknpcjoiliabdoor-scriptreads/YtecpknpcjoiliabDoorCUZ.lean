import Derived.Test.YtecpknpcjoiliabDoorCUA
import Derived.Test.YtecpknpcjoiliabDoorCUR
namespace Go.Proofs.YtecpknpcjoiliabDoor
open Go.RowKit
set_option linter.unusedVariables false
set_option linter.unusedSimpArgs false

set_option maxRecDepth 100000 in
set_option maxHeartbeats 4000000 in
theorem addLine_any (w : World) (B : Nat) (v : Value) (b0 word : List UInt8) (a : Option Addr) (cap : Nat) (ks : List Int) (hB : B ≤ w.heap.size) (ho0 : BO w B v b0) (hi : IntsS w B a cap ks) (hw : ∀ k ∈ ks, I64 k)
    (hl0 : b0.length + word.length + 21 * ks.length ≤ 140737488355326) (ht : PowAt B w) :
    Calls Tryd.prog 27 #[v, strV word, .slice a ks.length cap] w fun e w' => ∃ v', e = .returned v' ∧ Bx (BO w' B v' (b0 ++ lineT word ks) ∧ KV B v v' w w') := by
  obtain ⟨v1, w1, hr1, h11, h12⟩ := str_lies w B v b0 ho0 word (by omega) hB 55
  have HR1 : Bx _ := ⟨hr1⟩
  have HO1 : Bx (BO w1 B v1 (b0 ++ word) ∧ KV B v v1 w w1) := ⟨h11, h12⟩
  obtain ⟨bs, hbs⟩ : ∃ bs, bs = b0 ++ word := ⟨_, rfl⟩
  have hl : bs.length + 21 * ks.length ≤ 140737488355326 := by rw [hbs, List.length_append]; omega
  have HBS : Bx (b0 ++ lineT word ks = bs ++ numsT ks ++ [10]) := ⟨by rw [hbs]; simp [lineT]⟩
  rw [← hbs] at HO1
  rw [HBS.out]
  clear hr1 h11 h12 hbs HBS ho0 hl0
  have hmax := (hi w (KU.refl _ _)).max
  unfold maxLen at hmax
  have HI : Bx _ := ⟨hi⟩
  have HT : Bx _ := ⟨ht⟩
  have HW : Bx _ := ⟨hw⟩
  obtain ⟨j0, ji, jz0, jz1, jz2⟩ := info_parts infoU8
  obtain ⟨v0, hv0⟩ : ∃ v0, v = v0 := ⟨v, rfl⟩
  clear hi ht hw
  go_enter Tryd.func27, Tryd.ntmps27
  go_wp2_with (at_builtin; refine wpList_str rfl (.tmp 9) (.tmp 10) 55 9 rfl rfl rfl HR1.out ?_)
  go_loopw [14, 0] (fun x v wr => ∃ (k : Nat) (vv : Value), k ≤ ks.length ∧ x = .int .i64 k ∧ vv = v ∧ Bx (BO wr B vv (bs ++ numsT (ks.take k)) ∧ KV B v0 vv w wr)) (fun x _ _ => ks.length - (intOf x).toNat)
  case atStart => exact ⟨0, _, Nat.zero_le _, rfl, rfl, ⟨by rw [List.take_zero]; show BO w1 B v1 (bs ++ []); rw [List.append_nil]; exact HO1.out.1, by rw [← hv0]; exact HO1.out.2⟩⟩
  case round =>
    obtain ⟨k, vv, hk, rfl, rfl, HS⟩ := hrel
    by_cases hlt : k < ks.length
    · have hsz := HS.out.2.ku.size
      obtain ⟨b, o, rfl, hbB, hc⟩ := (HI.out wr HS.out.2.ku).at_ (by omega)
      have c := hc k hlt
      have hkw := HW.out ks[k] (List.getElem_mem hlt)
      have hle : (numsT (ks.take k)).length ≤ 21 * k := by
        have := nums_le (ks := ks.take k) fun x hx => HW.out x (List.mem_of_mem_take hx)
        rw [List.length_take] at this
        omega
      obtain ⟨N, hN⟩ : ∃ N, N = (bs ++ numsT (ks.take k)).length := ⟨_, rfl⟩
      have hNl : N ≤ bs.length + 21 * k := by rw [hN, List.length_append]; omega
      have hNT := nums_take hlt
      have HOW : Bx ((wr.alloc (.cells #[.int .u8 32] 5)).ownsRow B 5 1 vv N (Lib.byteCells (bs ++ numsT (ks.take k)))) := ⟨by rw [hN]; exact HS.out.1.alloc _⟩
      have HPU : Bx (∀ g2 cp2 w8, (wr.alloc (.cells #[.int .u8 32] 5)).grownBy w8 vv.ownBlock → (vv.ownBlock = some g2 ∨ g2 = wr.heap.size + 1) → w8.ownsRow B 5 1 (.slice (some ⟨g2, 0, none⟩) (N + 1) cp2) (N + 1) (Lib.byteCells (bs ++ numsT (ks.take k)) ++ [.int .u8 32]) → BO w8 B (.slice (some ⟨g2, 0, none⟩) (N + 1) cp2) (bs ++ numsT (ks.take k) ++ [32]) ∧ KV B v0 (.slice (some ⟨g2, 0, none⟩) (N + 1) cp2) w w8) := ⟨fun g2 cp2 w8 hg hat ho => by
        subst hN
        refine ⟨(HS.out.1.push (c := 32) (KU.refl B wr) (by omega) hg ho).1, HS.out.2.trans ((KV.new (by omega) (below1 wr _)).trans (KV.grown (by simp; omega) (HS.out.1.alloc _) hg fun g hgg => ?_))⟩
        simp only [Value.ownBlock, Option.some.injEq] at hgg
        rcases hat with hat | hat
        · left; rw [hat, hgg]
        · right; simp; omega⟩
      have hwB : B ≤ wr.heap.size := by omega
      generalize hbb : bs ++ numsT (ks.take k) = bb at *
      have HBB : Bx (bs ++ numsT (ks.take (k + 1)) = bb ++ [32] ++ Lib.itoa ks[k]) := ⟨by rw [hNT, ← hbb]; simp⟩
      have HBL : Bx (N = bb.length) := ⟨hN⟩
      clear hNT hN hbb hc HS hle
      generalize ks[k] = x at *
      obtain ⟨x1, x2⟩ := hkw
      go_wp2_with (first
        | (at_builtin; refine wpList_append_lies _ rfl (.tmp 18) (.tmp 19) 55 rfl B 5 j0 (.int .u8 0) 1 1 Tryd.underlying55 ji jz0 jz1 jz2 rfl (by decide) vv N (Lib.byteCells bb) rfl HOW.out ⟨wr.heap.size, 0, none⟩ 1 1 [.int .u8 32] rfl rfl (u8_news _ _ rfl _) (u8_one _) (by decide) (by unfold maxLen; omega) (by omega) (by simp; omega) (wr.heap.size + 1) (by simp) ?_; intro gg cg w8 hown hgrow hat hlt8; have LN := HPU.out gg cg w8 hgrow hat hown; have LNB : Bx _ := ⟨LN⟩; clear hgrow hat hown LN)
        | (go_at_call 39; refine (appI _ B _ (bb ++ [32]) x ⟨x1, x2⟩ (by have := LNB.out.2.ku.size; omega) LNB.out.1 (by rw [List.length_append]; have := HBL.out; simp only [List.length_cons, List.length_nil]; omega) (HT.out.on LNB.out.2.ku.bel)).mono ?_; rintro e w9 ⟨v9, rfl, H9⟩; have LN9 : Bx (BO w9 B v9 (bs ++ numsT (ks.take (k + 1))) ∧ KV B v0 v9 w w9) := ⟨by rw [HBB.out]; exact H9.out.1, LNB.out.2.trans H9.out.2⟩; clear H9))
      go_roundw
      case rel => exact ⟨k + 1, _, by omega, by go_num, rfl, LN9⟩
      case measure => simp [intOf]; omega
    · have hke : k = ks.length := by omega
      subst hke
      have HF := HS.out
      rw [List.take_of_length_le (Nat.le_refl _)] at HF
      have hsz := HF.2.ku.size
      have hle := nums_le (ks := ks) HW.out
      obtain ⟨N, hN⟩ : ∃ N, N = (bs ++ numsT ks).length := ⟨_, rfl⟩
      have hNl : N ≤ bs.length + 21 * ks.length := by rw [hN, List.length_append]; omega
      have HOW : Bx ((wr.alloc (.cells #[.int .u8 10] 5)).ownsRow B 5 1 vv N (Lib.byteCells (bs ++ numsT ks))) := ⟨by rw [hN]; exact HF.1.alloc _⟩
      have HPU : Bx (∀ g2 cp2 w8, (wr.alloc (.cells #[.int .u8 10] 5)).grownBy w8 vv.ownBlock → (vv.ownBlock = some g2 ∨ g2 = wr.heap.size + 1) → w8.ownsRow B 5 1 (.slice (some ⟨g2, 0, none⟩) (N + 1) cp2) (N + 1) (Lib.byteCells (bs ++ numsT ks) ++ [.int .u8 10]) → BO w8 B (.slice (some ⟨g2, 0, none⟩) (N + 1) cp2) (bs ++ numsT ks ++ [10]) ∧ KV B v (.slice (some ⟨g2, 0, none⟩) (N + 1) cp2) w w8) := ⟨fun g2 cp2 w8 hg hat ho => by
        subst hN
        rw [hv0]
        refine ⟨(HF.1.push (c := 10) (KU.refl B wr) (by omega) hg ho).1, HF.2.trans ((KV.new (by omega) (below1 wr _)).trans (KV.grown (by simp; omega) (HF.1.alloc _) hg fun g hgg => ?_))⟩
        simp only [Value.ownBlock, Option.some.injEq] at hgg
        rcases hat with hat | hat
        · left; rw [hat, hgg]
        · right; simp; omega⟩
      have hwB : B ≤ wr.heap.size := by omega
      obtain ⟨bb, hbb⟩ : ∃ bb, bb = bs ++ numsT ks := ⟨_, rfl⟩
      have HBB : Bx (bb = bs ++ numsT ks) := ⟨hbb⟩
      rw [← hbb] at HOW HPU
      clear HF HS hN HO1 HR1 hbb
      go_wp2_with (at_builtin; refine wpList_append_lies _ rfl (.tmp 25) (.tmp 26) 55 rfl B 5 j0 (.int .u8 0) 1 1 Tryd.underlying55 ji jz0 jz1 jz2 rfl (by decide) vv N (Lib.byteCells bb) rfl HOW.out ⟨wr.heap.size, 0, none⟩ 1 1 [.int .u8 10] rfl rfl (u8_news _ _ rfl _) (u8_one _) (by decide) (by unfold maxLen; omega) (by omega) (by simp; omega) (wr.heap.size + 1) (by simp) ?_; intro gg cg w8 hown hgrow hat hlt8; have LN := HPU.out gg cg w8 hgrow hat hown; have LNB : Bx _ := ⟨LN⟩; clear hgrow hat hown LN)
      go_ret
      exact ⟨_, rfl, by rw [← HBB.out]; exact LNB⟩
end Go.Proofs.YtecpknpcjoiliabDoor
