import Derived.Test.YtijdcplffmdijaaDoorCDA
namespace Go.Proofs.YtijdcplffmdijaaDoor
open Go.RowKit
set_option linter.unusedVariables false
set_option linter.unusedSimpArgs false

set_option maxRecDepth 100000 in
set_option maxHeartbeats 2000000 in
theorem numbers_any (w : World) (B : Nat) (v : Value) (bs : List UInt8) (a : Option Addr) (cap : Nat) (ks : List Int) (hB : B ≤ w.heap.size) (ho : BO w B v bs) (hi : IntsS w B a cap ks) (hw : ∀ k ∈ ks, I64 k)
    (hl : bs.length + 21 * ks.length ≤ 140737488355327) (ht : PowAt B w) :
    Calls Tryd.prog 39 #[v, .slice a ks.length cap] w fun e w' => ∃ v', e = .returned v' ∧ Bx (BO w' B v' (bs ++ numsT ks) ∧ KV B v v' w w') := by
  have hmax := (hi w (KU.refl _ _)).max
  unfold maxLen at hmax
  have HI : Bx _ := ⟨hi⟩
  have HO : Bx _ := ⟨ho⟩
  have HT : Bx _ := ⟨ht⟩
  have HW : Bx _ := ⟨hw⟩
  obtain ⟨j0, ji, jz0, jz1, jz2⟩ := info_parts infoU8
  obtain ⟨v0, hv0⟩ : ∃ v0, v = v0 := ⟨v, rfl⟩
  clear hi ho ht hw
  go_enter Tryd.func39, Tryd.ntmps39
  go_wp2
  go_loopw [9, 0] (fun x v wr => ∃ (k : Nat) (vv : Value), k ≤ ks.length ∧ x = .int .i64 k ∧ vv = v ∧ Bx (BO wr B vv (bs ++ numsT (ks.take k)) ∧ KV B v0 vv w wr)) (fun x _ _ => ks.length - (intOf x).toNat)
  case atStart => exact ⟨0, _, Nat.zero_le _, rfl, rfl, ⟨by rw [List.take_zero]; show BO w B v (bs ++ []); rw [List.append_nil]; exact HO.out, by rw [← hv0]; exact KV.refl _ _ _⟩⟩
  case round =>
    obtain ⟨k, vv, hk, rfl, rfl, HS⟩ := hrel
    by_cases hlt : k < ks.length
    · have hsz := HS.out.2.ku.size
      obtain ⟨b, o, rfl, hbB, hc⟩ := (HI.out wr HS.out.2.ku).at_ (by omega)
      have c := hc k hlt
      have hkw := HW.out ks[k] (List.getElem_mem hlt)
      have hle : (numsT (ks.take k)).length ≤ 21 * k := by
        have := nums_le (ks := ks.take k) fun x hx => HW.out x (List.mem_of_mem_take hx)
        rw [List.length_take] at this
        omega
      obtain ⟨N, hN⟩ : ∃ N, N = (bs ++ numsT (ks.take k)).length := ⟨_, rfl⟩
      have hNl : N ≤ bs.length + 21 * k := by rw [hN, List.length_append]; omega
      have hNT := nums_take hlt
      have HOW : Bx ((wr.alloc (.cells #[.int .u8 32] 5)).ownsRow B 5 1 vv N (Lib.byteCells (bs ++ numsT (ks.take k)))) := ⟨by rw [hN]; exact HS.out.1.alloc _⟩
      have HPU : Bx (∀ g2 cp2 w8, (wr.alloc (.cells #[.int .u8 32] 5)).grownBy w8 vv.ownBlock → (vv.ownBlock = some g2 ∨ g2 = wr.heap.size + 1) → w8.ownsRow B 5 1 (.slice (some ⟨g2, 0, none⟩) (N + 1) cp2) (N + 1) (Lib.byteCells (bs ++ numsT (ks.take k)) ++ [.int .u8 32]) → BO w8 B (.slice (some ⟨g2, 0, none⟩) (N + 1) cp2) (bs ++ numsT (ks.take k) ++ [32]) ∧ KV B v0 (.slice (some ⟨g2, 0, none⟩) (N + 1) cp2) w w8) := ⟨fun g2 cp2 w8 hg hat ho => by
        subst hN
        refine ⟨(HS.out.1.push (c := 32) (KU.refl B wr) (by omega) hg ho).1, HS.out.2.trans ((KV.new (by omega) (below1 wr _)).trans (KV.grown (by simp; omega) (HS.out.1.alloc _) hg fun g hgg => ?_))⟩
        simp only [Value.ownBlock, Option.some.injEq] at hgg
        rcases hat with hat | hat
        · left; rw [hat, hgg]
        · right; simp; omega⟩
      have hwB : B ≤ wr.heap.size := by omega
      generalize hbb : bs ++ numsT (ks.take k) = bb at *
      have HBB : Bx (bs ++ numsT (ks.take (k + 1)) = bb ++ [32] ++ Lib.itoa ks[k]) := ⟨by rw [hNT, ← hbb]; simp⟩
      have HBL : Bx (N = bb.length) := ⟨hN⟩
      clear hNT hN hbb hc HS hle
      generalize ks[k] = x at *
      obtain ⟨x1, x2⟩ := hkw
      go_wp2_with (first
        | (at_builtin; refine wpList_append_lies _ rfl (.tmp 13) (.tmp 14) 68 rfl B 5 j0 (.int .u8 0) 1 1 Tryd.underlying68 ji jz0 jz1 jz2 rfl (by decide) vv N (Lib.byteCells bb) rfl HOW.out ⟨wr.heap.size, 0, none⟩ 1 1 [.int .u8 32] rfl rfl (u8_news _ _ rfl _) (u8_one _) (by decide) (by unfold maxLen; omega) (by omega) (by simp; omega) (wr.heap.size + 1) (by simp) ?_; intro gg cg w8 hown hgrow hat hlt8; have LN := HPU.out gg cg w8 hgrow hat hown; have LNB : Bx _ := ⟨LN⟩; clear hgrow hat hown LN)
        | (go_at_call 56; refine (appI _ B _ (bb ++ [32]) x ⟨x1, x2⟩ (by have := LNB.out.2.ku.size; omega) LNB.out.1 (by rw [List.length_append]; have := HBL.out; simp only [List.length_cons, List.length_nil]; omega) (HT.out.on LNB.out.2.ku.bel)).mono ?_; rintro e w9 ⟨v9, rfl, H9⟩; have LN9 : Bx (BO w9 B v9 (bs ++ numsT (ks.take (k + 1))) ∧ KV B v0 v9 w w9) := ⟨by rw [HBB.out]; exact H9.out.1, LNB.out.2.trans H9.out.2⟩; clear H9))
      go_roundw
      case rel => exact ⟨k + 1, _, by omega, by go_num, rfl, LN9⟩
      case measure => simp [intOf]; omega
    · have hke : k = ks.length := by omega
      subst hke
      have HF := HS.out
      rw [List.take_of_length_le (Nat.le_refl _)] at HF
      have HFB : Bx _ := ⟨HF⟩
      clear HF HS
      go_wp2
      go_ret
      exact ⟨_, rfl, by rw [hv0]; exact HFB⟩
end Go.Proofs.YtijdcplffmdijaaDoor
namespace Go.Proofs.YtijdcplffmdijaaDoor
open Go.RowKit
set_option linter.unusedVariables false
set_option linter.unusedSimpArgs false

theorem bit_any (b : Bool) (w : World) : Calls Tryd.prog 38 #[.bool b] w fun e w' => e = .returned (.int .i64 (bitI b)) ∧ w = w' := by
  cases b <;>
    (go_enter Tryd.func38, Tryd.ntmps38
     go_wp2
     go_ret
     exact ⟨rfl, rfl⟩)
set_option maxRecDepth 100000 in
set_option maxHeartbeats 2000000 in
theorem words_any (w : World) (B : Nat) (v : Value) (bs wd : List UInt8) (a : Option Addr) (cap : Nat) (ks : List Int) (hB : B ≤ w.heap.size) (ho : BO w B v bs) (hi : IntsS w B a cap ks) (hw : ∀ k ∈ ks, I64 k)
    (hl : bs.length + wd.length + 21 * ks.length ≤ 140737488355327) (ht : PowAt B w) :
    Calls Tryd.prog 37 #[v, strV wd, .slice a ks.length cap] w fun e w' => ∃ v', e = .returned v' ∧ Bx (BO w' B v' (bs ++ (wd ++ numsT ks)) ∧ KV B v v' w w') := by
  obtain ⟨v8, w8, hr, h1, h2⟩ := str_lies w B v bs ho wd (by omega) hB 68
  have HR : Bx _ := ⟨hr⟩
  have HN := numbers_any w8 B v8 (bs ++ wd) a cap ks (Nat.le_trans hB h2.ku.size) h1 (hi.on h2.ku) hw (by rw [List.length_append]; omega) (ht.on h2.ku.bel)
  have H2 : Bx _ := ⟨h2⟩
  clear ho hi ht hw h1 h2 hr
  go_enter Tryd.func37, Tryd.ntmps37
  go_wp2_with (first
    | (at_builtin; refine wpList_str rfl (.tmp 7) (.tmp 8) 68 9 rfl rfl rfl HR.out ?_)
    | (go_at_call 39; refine HN.mono ?_; rintro e w9 ⟨v9, rfl, H9⟩))
  go_ret
  exact ⟨_, rfl, ⟨by rw [← List.append_assoc]; exact H9.out.1, H2.out.trans H9.out.2⟩⟩
theorem bne_of {a : Int} {p : Bool} (h : a = 0 ↔ p = false) : (a != 0) = p := by
  cases p
  · simp [h.2 rfl]
  · have : ¬ a = 0 := fun e => by have := h.1 e; cases this
    simpa using this
theorem and_bits {h : Int} (h1 : 0 ≤ h) (h2 : h ≤ 7) : (bits BinOp.and IntKind.i64 h 1 = 0 ↔ (h % 2 == 1) = false) ∧ (bits BinOp.and IntKind.i64 h 2 = 0 ↔ (h / 2 % 2 == 1) = false) ∧ (bits BinOp.and IntKind.i64 h 4 = 0 ↔ (h / 4 % 2 == 1) = false) := by
  have : h = 0 ∨ h = 1 ∨ h = 2 ∨ h = 3 ∨ h = 4 ∨ h = 5 ∨ h = 6 ∨ h = 7 := by omega
  rcases this with rfl | rfl | rfl | rfl | rfl | rfl | rfl | rfl <;> decide
set_option maxRecDepth 100000 in
set_option maxHeartbeats 4000000 in
theorem fits_any (w : World) (i : CIn) (a : Option Addr) (cap : Nat) (hs : Shp w) (hw : i.Wf) :
    Calls Tryd.prog 40 #[insV i a cap] w fun e w' => e = .returned (.bool (fitI i)) ∧ Below w.heap.size w w' := by
  have hb := below1 w (.cells #[.int .i64 i.op, .int .i64 i.a, .int .i64 i.b, .slice a i.list.length cap] 28)
  have HS := shapeOf_any i.op (w.alloc (.cells #[.int .i64 i.op, .int .i64 i.a, .int .i64 i.b, .slice a i.list.length cap] 28)) (hs.below hb) hw.op
  have hsm := shape_small i.op
  unfold fitI nameI hasAI hasBI hasLI
  generalize shapeI i.op = s at *
  unfold shpV at HS
  obtain ⟨op, x, y, l⟩ := i
  obtain ⟨nm, hs1, tk, ly⟩ := s
  simp only [] at *
  have HB : Bx _ := ⟨hb⟩
  obtain ⟨_, _, _, _, s1, s2⟩ := hsm
  clear hs hb hw
  go_enter Tryd.func40, Tryd.ntmps40
  go_wp2_with (first
    | (go_at_call 31; refine HS.mono ?_; rintro e w1 ⟨rfl, hb1⟩
       have hb2 : Below w.heap.size w w1 := HB.out.trans (hb1.mono (by simp))
       have hq : w.heap.size < w1.heap.size := by have := hb1.size; simp at this; omega
       have q0 : ∀ j v, (w.alloc (.cells #[.int .i64 op, .int .i64 x, .int .i64 y, .slice a l.length cap] 28)).cell? ⟨w.heap.size, j, none⟩ = some v → (w1.alloc (.cells #[strV nm, .int .i64 hs1, .int .i64 tk, .int .i64 ly] 60)).cell? ⟨w.heap.size, j, none⟩ = some v := fun j v h => by rw [(below1 w1 _).cell (p := ⟨w.heap.size, j, none⟩) hq, hb1.cell (p := ⟨w.heap.size, j, none⟩) (by simp)]; exact h
       have g1 := q0 1 (.int .i64 x) (by simp [go_sem])
       have g2 := q0 2 (.int .i64 y) (by simp [go_sem])
       have g3 := q0 3 (.slice a l.length cap) (by simp [go_sem])
       have HB2 : Bx (∀ o, Below w.heap.size w (w1.alloc o)) := ⟨fun o => hb2.alloc (by omega) o⟩
       clear q0 hb1 hb2))
  all_goals (go_ret; refine ⟨?_, HB2.out _⟩; clear HS HB g1 g2 g3 HB2)
  all_goals
    obtain ⟨A1, A2, A3⟩ := and_bits s1 s2
    clear s1 s2
    generalize (hs1 % 2 == 1) = pa at *
    generalize (hs1 / 2 % 2 == 1) = pb at *
    generalize (hs1 / 4 % 2 == 1) = pl at *
    refine congrArg (fun b => Ending.returned (Value.bool b)) ?_
    have e1 : (nm != []) = !nm.isEmpty := by cases nm <;> rfl
    have e2 : (l.length == 0) = l.isEmpty := by cases l <;> rfl
    have e3 : (((l.length : Nat) : Int) == 0) = l.isEmpty := by
      cases l with
      | nil => rfl
      | cons c r => simp; omega
    rw [e1, e2]
    try rw [e3]
    have B1 : (bits BinOp.and IntKind.i64 hs1 1 != 0) = pa := bne_of A1
    have B2 : (bits BinOp.and IntKind.i64 hs1 2 != 0) = pb := bne_of A2
    have B3 : (bits BinOp.and IntKind.i64 hs1 4 != 0) = pl := bne_of A3
    have n1 : (nm = []) ↔ nm.isEmpty = true := by simp
    have n2 : (l = []) ↔ l.isEmpty = true := by simp
    have n3 : (x = 0) ↔ (x == 0) = true := by simp
    have n4 : (y = 0) ↔ (y == 0) = true := by simp
    try rw [B1]
    try rw [B2]
    try rw [B3]
    simp only [n1, n2, n3, n4, A1, A2, A3] at *
    clear e1 e2 e3 n1 n2 n3 n4 A1 A2 A3 B1 B2 B3
    generalize nm.isEmpty = pn at *
    generalize l.isEmpty = pe at *
    generalize (x == 0) = px at *
    generalize (y == 0) = py at *
    cases pa <;> cases pb <;> cases pl <;> cases pn <;> cases pe <;> cases px <;> cases py <;> first | rfl | contradiction
end Go.Proofs.YtijdcplffmdijaaDoor
