import Derived.Test.YtijdcplffmdijaaDoorCDS
import Derived.Test.YtijdcplffmdijaaDoorCDR
namespace Go.Proofs.YtijdcplffmdijaaDoor
open Go.RowKit
set_option linter.unusedVariables false
set_option linter.unusedSimpArgs false

/-- the digits ahead of the last one -/
def decHead (v : Nat) : List UInt8 := if v < 10 then [] else Lib.decDigits (v / 10)
theorem dec_split (v : Nat) : Lib.decDigits v = decHead v ++ [UInt8.ofNat (48 + v % 10)] := by
  unfold decHead
  rw [Lib.decDigits]
  split
  · rename_i h
    rw [Nat.mod_eq_of_lt h]
    rfl
  · rfl
theorem dec_step {v : Nat} (h : ¬ v < 10) (s : List UInt8) : decHead v ++ s = decHead (v / 10) ++ (UInt8.ofNat (48 + v / 10 % 10) :: s) := by
  have e : decHead v = Lib.decDigits (v / 10) := by unfold decHead; rw [if_neg h]
  rw [e, dec_split (v / 10)]
  simp
/-- one byte as a text -/
theorem one_str (X : World) (H : Nat) (hH : X.heap.size = H) (d : Nat) (hd : d < 10) : (convert 68 9 (.slice (some ⟨H, 0, none⟩) 1 1)).run Tryd.prog (X.alloc (.cells #[.int .u8 (48 + (d : Int))] 5)) = .ok (strV [UInt8.ofNat (48 + d)]) (X.alloc (.cells #[.int .u8 (48 + (d : Int))] 5)) := by
  subst hH
  have e : (UInt8.ofNat (48 + d)).toNat = 48 + d := UInt8.toNat_ofNat_of_lt' (by omega : 48 + d < 256)
  have h : BO (X.alloc (.cells #[.int .u8 (48 + (d : Int))] 5)) 0 (.slice (some ⟨X.heap.size, 0, none⟩) 1 1) [UInt8.ofNat (48 + d)] := by
    refine ⟨by simp [Lib.byteCells], .inr ⟨X.heap.size, 1, #[.int .u8 (48 + (d : Int))], rfl, Nat.zero_le _, heap_alloc_new X _, Nat.le_refl _, by unfold maxLen; omega, rfl, ?_⟩⟩
    simp [Lib.byteCells, e]
    omega
  exact h.str
theorem cat_str (a b : List UInt8) : Value.string ((⟨a.toArray⟩ : ByteArray) ++ ⟨b.toArray⟩) = strV (a ++ b) := by
  show Value.string _ = Value.string _
  congr 1
set_option maxRecDepth 100000 in
set_option maxHeartbeats 1000000 in
theorem plain_any (u : Nat) (hu : u < 18446744073709551616) (w : World) : Calls Tryd.prog 70 #[.int .u64 u] w fun e w' => e = .returned (strV (Lib.decDigits u)) ∧ Below w.heap.size w w' := by
  have HS := one_str w w.heap.size rfl (u % 10) (by omega)
  have e1 : (((u % 10 : Nat) : Nat) : Int) = (u : Int) % 10 := by omega
  rw [e1] at HS
  have hb := below1 w (.cells #[.int .u8 (48 + (u : Int) % 10)] 5)
  have HB : Bx _ := ⟨hb⟩
  have HI : Bx (Lib.decDigits u = decHead u ++ [UInt8.ofNat (48 + u % 10)]) := ⟨dec_split u⟩
  generalize [UInt8.ofNat (48 + u % 10)] = s0 at *
  clear hb e1
  go_enter Tryd.func70, Tryd.ntmps70
  go_wp2
  clear HS
  go_loopw [0, 3] (fun x y wr => ∃ v s, v ≤ u ∧ x = .int .u64 ((v : Nat) : Int) ∧ y = strV s ∧ Bx (Lib.decDigits u = decHead v ++ s) ∧ Bx (Below w.heap.size w wr)) (fun x _ _ => (intOf x).toNat)
  case atStart => exact ⟨u, s0, Nat.le_refl _, rfl, rfl, HI, HB⟩
  case round =>
    obtain ⟨v, s, hv, rfl, rfl, HI2, HB2⟩ := hrel
    clear HI HB
    by_cases h : v < 10
    · have g : ¬ (10 : Int) ≤ (v : Int) := by omega
      have hr : Bx (Lib.decDigits u = s) := ⟨by rw [HI2.out]; unfold decHead; rw [if_pos h]; rfl⟩
      go_wp2
      go_ret
      exact ⟨by rw [hr.out]; rfl, HB2.out⟩
    · have g : (10 : Int) ≤ (v : Int) := by omega
      have HI3 : Bx (Lib.decDigits u = decHead (v / 10) ++ ([UInt8.ofNat (48 + v / 10 % 10)] ++ s)) := ⟨by rw [HI2.out, dec_step h]; rfl⟩
      have HS := one_str wr wr.heap.size rfl (v / 10 % 10) (by omega)
      have e1 : (((v / 10 % 10 : Nat) : Nat) : Int) = (v : Int) / 10 % 10 := by omega
      rw [e1] at HS
      have hb := below1 wr (.cells #[.int .u8 (48 + (v : Int) / 10 % 10)] 5)
      have HB3 : Bx (Below w.heap.size w (wr.alloc (.cells #[.int .u8 (48 + (v : Int) / 10 % 10)] 5))) := ⟨HB2.out.trans (hb.mono HB2.out.size)⟩
      generalize [UInt8.ofNat (48 + v / 10 % 10)] = s1 at *
      clear hb e1
      have hcat : ¬ 9223372036854775807 < s1.length + s.length := by
        have h1 := congrArg List.length HI3.out
        rw [List.length_append, List.length_append] at h1
        have h2 := dec_len 19 u (by omega)
        omega
      go_wp2
      go_roundw
      case rel => exact ⟨v / 10, s1 ++ s, by omega, by simp, cat_str s1 s, HI3, HB3⟩
      case measure => simp [intOf]; omega
set_option maxRecDepth 100000 in
set_option maxHeartbeats 1000000 in
theorem digits_any (n : Int) (hn : I64 n) (w : World) : Calls Tryd.prog 57 #[.int .i64 n] w fun e w' => e = .returned (strV (Lib.itoa n)) ∧ Below w.heap.size w w' := by
  obtain ⟨h1, h2⟩ := hn
  unfold Lib.itoa
  by_cases h : n < 0
  · rw [if_pos h]
    have HP := plain_any n.natAbs (by omega) w
    have hl := dec_len 19 n.natAbs (by omega)
    obtain ⟨m, hm⟩ : ∃ m : Nat, n = -(m : Int) - 1 := ⟨(-(n + 1)).toNat, by omega⟩
    have e0 : n.natAbs = m + 1 := by omega
    rw [e0] at HP hl ⊢
    have e1 : n + 1 = -(m : Int) := by omega
    have hmb : m ≤ 9223372036854775807 := by omega
    have e2 : IntKind.i64.wrap (n + 1) = -(m : Int) := by
      have e : IntKind.i64.bits = 64 := rfl
      rw [e1]
      unfold IntKind.wrap
      simp [e, IntKind.signed]
      omega
    have e3 : ((m + 1 : Nat) : Int) = (m : Int) + 1 := by omega
    rw [e3] at HP
    have hcat : ¬ 9223372036854775807 < 1 + (Lib.decDigits (m + 1)).length := by omega
    generalize Lib.decDigits (m + 1) = s at *
    clear hm e0 e1 e3 hl
    go_enter Tryd.func57, Tryd.ntmps57
    go_wp2_with (first
      | (go_at_call 70; refine HP.mono ?_; rintro e w1 ⟨rfl, hb⟩))
    go_ret
    exact ⟨congrArg Ending.returned (cat_str [45] s), hb⟩
  · rw [if_neg h]
    have HP := plain_any n.toNat (by omega) w
    have e : ((n.toNat : Nat) : Int) = n := by omega
    rw [e] at HP
    have h3 : ¬ n < 0 := h
    go_enter Tryd.func57, Tryd.ntmps57
    go_wp2_with (first
      | (go_at_call 70; refine HP.mono ?_; rintro e w1 ⟨rfl, hb⟩))
    go_ret
    exact ⟨rfl, hb⟩
theorem flag_any (b : Bool) (w : World) : Calls Tryd.prog 42 #[.bool b] w fun e w' => e = .returned (.int .i64 (bitI b)) ∧ w = w' := by
  cases b
  all_goals
    go_enter Tryd.func42, Tryd.ntmps42
    go_wp2
    go_ret
    exact ⟨rfl, rfl⟩
end Go.Proofs.YtijdcplffmdijaaDoor
namespace Go.Proofs.YtijdcplffmdijaaDoor
open Go.RowKit
set_option linter.unusedVariables false
set_option linter.unusedSimpArgs false

set_option maxRecDepth 100000 in
set_option maxHeartbeats 4000000 in
/-- the reference's line -/
theorem line_any (w : World) (B : Nat) (v : Value) (bs word : List UInt8) (a : Option Addr) (cap : Nat) (ks : List Int) (hB : B ≤ w.heap.size) (ho : BO w B v bs) (hi : IntsS w B a cap ks) (hw : ∀ k ∈ ks, I64 k)
    (hl : bs.length + word.length + 21 * ks.length ≤ 140737488355326) :
    Calls Tryd.prog 43 #[v, strV word, .slice a ks.length cap] w fun e w' => ∃ v', e = .returned v' ∧ Bx (BO w' B v' (bs ++ word ++ numsT ks ++ [10]) ∧ KV B v v' w w') := by
  have hmax := (hi w (KU.refl _ _)).max
  unfold maxLen at hmax
  have HI : Bx _ := ⟨hi⟩
  have HW : Bx _ := ⟨hw⟩
  obtain ⟨j0, ji, jz0, jz1, jz2⟩ := info_parts infoU8
  obtain ⟨v8, w8, hr, g1, g2⟩ := str_lies w B v bs ho word (by omega) hB 68
  have HR : Bx _ := ⟨hr⟩
  have H1 : Bx (BO w8 B v8 (bs ++ word) ∧ KV B v v8 w w8) := ⟨g1, g2⟩
  clear hi ho hw hr g1 g2
  obtain ⟨cs, hcs⟩ : ∃ cs, cs = bs ++ word := ⟨_, rfl⟩
  have hcl : cs.length = bs.length + word.length := by rw [hcs, List.length_append]
  rw [← hcs] at H1 ⊢
  clear hcs
  go_enter Tryd.func43, Tryd.ntmps43
  go_wp2_with (first
    | (at_builtin; refine wpList_str rfl (.tmp 8) (.tmp 9) 68 9 rfl rfl rfl HR.out ?_))
  clear HR
  go_loopw [7, 0] (fun x z wr => ∃ (k : Nat) (vv : Value), k ≤ ks.length ∧ x = .int .i64 k ∧ vv = z ∧ Bx (BO wr B vv (cs ++ numsT (ks.take k)) ∧ KV B v vv w wr)) (fun x _ _ => ks.length - (intOf x).toNat)
  case atStart => exact ⟨0, _, Nat.zero_le _, rfl, rfl, ⟨by rw [List.take_zero]; show BO w8 B v8 (cs ++ []); rw [List.append_nil]; exact H1.out.1, H1.out.2⟩⟩
  case round =>
    obtain ⟨k, vv, hk, rfl, rfl, HS⟩ := hrel
    clear H1
    have hle : (numsT (ks.take k)).length ≤ 21 * k := by
      have := nums_le (ks := ks.take k) fun x hx => HW.out x (List.mem_of_mem_take hx)
      rw [List.length_take] at this
      omega
    have hsz := HS.out.2.ku.size
    have hwB : B ≤ wr.heap.size := by omega
    obtain ⟨N, hN⟩ : ∃ N, N = (cs ++ numsT (ks.take k)).length := ⟨_, rfl⟩
    have hNl : N ≤ cs.length + 21 * k := by rw [hN, List.length_append]; omega
    have HOW : Bx (∀ c : UInt8, (wr.alloc (.cells #[.int .u8 (c.toNat : Int)] 5)).ownsRow B 5 1 vv N (Lib.byteCells (cs ++ numsT (ks.take k)))) := ⟨fun c => by rw [hN]; exact HS.out.1.alloc _⟩
    have HPU : Bx (∀ (c : UInt8) g2 cp2 w8, (wr.alloc (.cells #[.int .u8 (c.toNat : Int)] 5)).grownBy w8 vv.ownBlock → (vv.ownBlock = some g2 ∨ g2 = wr.heap.size + 1) → w8.ownsRow B 5 1 (.slice (some ⟨g2, 0, none⟩) (N + 1) cp2) (N + 1) (Lib.byteCells (cs ++ numsT (ks.take k)) ++ [.int .u8 (c.toNat : Int)]) → BO w8 B (.slice (some ⟨g2, 0, none⟩) (N + 1) cp2) (cs ++ numsT (ks.take k) ++ [c]) ∧ KV B v (.slice (some ⟨g2, 0, none⟩) (N + 1) cp2) w w8) := ⟨fun c g2 cp2 w8 hg hat ho => by
      subst hN
      refine ⟨(HS.out.1.push (c := c) (KU.refl B wr) (by omega) hg ho).1, HS.out.2.trans ((KV.new (by omega) (below1 wr _)).trans (KV.grown (by simp; omega) (HS.out.1.alloc _) hg fun g hgg => ?_))⟩
      simp only [Value.ownBlock, Option.some.injEq] at hgg
      rcases hat with hat | hat
      · left; rw [hat, hgg]
      · right; simp; omega⟩
    by_cases hlt : k < ks.length
    · obtain ⟨b, o, rfl, hbB, hc⟩ := (HI.out wr HS.out.2.ku).at_ (by omega)
      have hkw := HW.out ks[k] (List.getElem_mem hlt)
      have hNT := nums_take hlt
      have HIC : Bx (∀ (vx : Value) (X : World), KV B v vx w X → X.cell? ⟨b, o + k, none⟩ = some (.int .i64 ks[k]) ∧ b < X.heap.size) := ⟨fun vx X hX => by
        obtain ⟨b', o', e, hb', hc'⟩ := (HI.out X hX.ku).at_ (by omega)
        injection e with e
        injection e with e1 e2
        subst e1 e2
        exact ⟨hc' k hlt, hb'⟩⟩
      have il := itoa_len hkw
      generalize hbb : cs ++ numsT (ks.take k) = bb at *
      have HBB : Bx (cs ++ numsT (ks.take (k + 1)) = bb ++ [32] ++ Lib.itoa ks[k]) := ⟨by rw [hNT, ← hbb]; simp⟩
      have HBL : Bx (N = bb.length) := ⟨hN⟩
      have h32 := HOW.out 32
      have H32 : Bx _ := ⟨HPU.out 32⟩
      have HO2 : Bx _ := ⟨h32⟩
      clear hNT hN hbb hc HS hle HOW HPU h32
      generalize ks[k] = x at *
      have HD : Bx (∀ X, Calls Tryd.prog 57 #[.int .i64 x] X fun e w' => e = .returned (strV (Lib.itoa x)) ∧ Bx (Below X.heap.size X w')) := ⟨fun X => (digits_any x hkw X).mono fun e w' h => ⟨h.1, ⟨h.2⟩⟩⟩
      generalize Lib.itoa x = sx at *
      have q1 : (k : Int) < (ks.length : Int) := by omega
      go_wp2_with (first
        | (at_builtin; refine wpList_append_lies _ rfl (.tmp 17) (.tmp 18) 68 rfl B 5 j0 (.int .u8 0) 1 1 Tryd.underlying68 ji jz0 jz1 jz2 rfl (by decide) vv N (Lib.byteCells bb) rfl HO2.out ⟨wr.heap.size, 0, none⟩ 1 1 [.int .u8 32] rfl rfl (u8_news _ _ rfl _) (u8_one _) (by decide) (by unfold maxLen; omega) (by omega) (by simp; omega) (wr.heap.size + 1) (by simp) ?_; intro gg cg w9 hown hgrow hat hlt8; have LN := H32.out gg cg w9 hgrow hat hown; have LNB : Bx _ := ⟨LN⟩; have cx := HIC.out _ _ LN.2; have cx1 : w9.cell? ⟨b, o + k, none⟩ = some (.int .i64 x) := cx.1; have cx2 : b < w9.heap.size := cx.2; clear hown hgrow hat LN cx H32 HO2)
        | (go_at_call 57; refine (HD.out _).mono ?_; rintro e w10 ⟨rfl, H10⟩
           have K10 : Bx (BO w10 B (.slice (some ⟨gg, 0, none⟩) (N + 1) cg) (bb ++ [32]) ∧ KV B v (.slice (some ⟨gg, 0, none⟩) (N + 1) cg) w w10) := ⟨owns_same LNB.out.1 (fun g _ hg => H10.out.block g hg), LNB.out.2.trans (KV.new (by have := LNB.out.2.ku.size; omega) H10.out)⟩
           obtain ⟨v11, w11, hr11, g11, k11⟩ := str_lies w10 B _ (bb ++ [32]) K10.out.1 sx (by rw [List.length_append]; have := HBL.out; simp only [List.length_cons, List.length_nil]; omega) (by have := K10.out.2.ku.size; omega) 68
           have HR11 : Bx _ := ⟨hr11⟩
           have LN11 : Bx (BO w11 B v11 (cs ++ numsT (ks.take (k + 1))) ∧ KV B v v11 w w11) := ⟨by rw [HBB.out]; exact g11, K10.out.2.trans k11⟩
           clear hr11 g11 k11 cx1)
        | (at_builtin; refine wpList_str rfl (.tmp 20) (.tmp 25) 68 9 rfl rfl rfl HR11.out ?_))
      go_roundw
      case rel => exact ⟨k + 1, _, by omega, by go_num, rfl, LN11⟩
      case measure => simp [intOf]; omega
    · have hke : k = ks.length := by omega
      have q1 : ¬ (k : Int) < (ks.length : Int) := by omega
      have h10 := HOW.out 10
      have H10 : Bx (∀ g2 cp2 w8, (wr.alloc (.cells #[.int .u8 10] 5)).grownBy w8 vv.ownBlock → (vv.ownBlock = some g2 ∨ g2 = wr.heap.size + 1) → w8.ownsRow B 5 1 (.slice (some ⟨g2, 0, none⟩) (N + 1) cp2) (N + 1) (Lib.byteCells (cs ++ numsT (ks.take k)) ++ [.int .u8 10]) → BO w8 B (.slice (some ⟨g2, 0, none⟩) (N + 1) cp2) (cs ++ numsT ks ++ [10]) ∧ KV B v (.slice (some ⟨g2, 0, none⟩) (N + 1) cp2) w w8) := ⟨fun g2 cp2 w8 x1 x2 x3 => by
        have := HPU.out 10 g2 cp2 w8 x1 x2 x3
        rw [List.take_of_length_le (by omega)] at this
        exact this⟩
      have HO2 : Bx _ := ⟨h10⟩
      have hNb : N ≤ 140737488355326 := by omega
      generalize hbb : cs ++ numsT (ks.take k) = bb at *
      clear HOW HPU hN HS hle hNl hbb h10
      go_wp2_with (first
        | (at_builtin; refine wpList_append_lies _ rfl (.tmp 27) (.tmp 28) 68 rfl B 5 j0 (.int .u8 0) 1 1 Tryd.underlying68 ji jz0 jz1 jz2 rfl (by decide) vv N (Lib.byteCells bb) rfl HO2.out ⟨wr.heap.size, 0, none⟩ 1 1 [.int .u8 10] rfl rfl (u8_news _ _ rfl _) (u8_one _) (by decide) (by unfold maxLen; omega) (by omega) (by simp; omega) (wr.heap.size + 1) (by simp) ?_; intro gg cg w9 hown hgrow hat hlt8; have LN := H10.out gg cg w9 hgrow hat hown; have LNB : Bx _ := ⟨LN⟩; clear hown hgrow hat LN))
      go_ret
      exact ⟨_, rfl, ⟨by rw [← List.append_assoc]; exact LNB.out.1, LNB.out.2⟩⟩
end Go.Proofs.YtijdcplffmdijaaDoor
