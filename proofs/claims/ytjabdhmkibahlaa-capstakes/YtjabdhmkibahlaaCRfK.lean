import Derived.Test.YtjabdhmkibahlaaCRfD
import Derived.Test.YtjabdhmkibahlaaCHA
namespace Go.Proofs.Ytjabdhmkibahlaa
open Go.RowKit
set_option linter.unusedVariables false
set_option linter.unusedSimpArgs false

/-! ### the reference's Fits -/
set_option maxRecDepth 100000 in
set_option maxHeartbeats 2000000 in
theorem rFits_any (w : World) (p : Option Addr) (c : Nat) (s : List Ag) (l : Lk) (h : AgsR w p c s) (h64 : Lk64 l) :
    Calls Try.prog 14 #[.slice p s.length c, lkV l] w fun e w' => e = .returned (.bool (stOk s && rfI s l)) ∧ Below w.heap.size w w' := by
  obtain ⟨W, hW⟩ : ∃ W, w.alloc (.cells #[.int .i64 l.waker, .int .i64 l.woken, .int .i64 l.chan] 24) = W := ⟨_, rfl⟩
  have hb : Below w.heap.size w W := by rw [← hW]; exact below1 _ _
  have hbk : W.heap[w.heap.size]? = some (.cells #[.int .i64 l.waker, .int .i64 l.woken, .int .i64 l.chan] 24 (0, 0)) := by rw [← hW]; exact World.alloc_heap_new _ _
  have BW : Bx (Below w.heap.size w W) := ⟨hb⟩
  have HW : Bx (_ = W) := ⟨hW⟩
  have HC : Bx (∀ Y, Below W.heap.size W Y → Y.cell? ⟨w.heap.size, 0, none⟩ = some (.int .i64 l.waker) ∧ Y.cell? ⟨w.heap.size, 1, none⟩ = some (.int .i64 l.woken) ∧ Y.cell? ⟨w.heap.size, 2, none⟩ = some (.int .i64 l.chan)) := ⟨fun Y hY => by
    have e := (hY.block w.heap.size (Array.getElem?_eq_some_iff.1 hbk).1).trans hbk
    exact ⟨cell_of e rfl, cell_of e rfl, cell_of e rfl⟩⟩
  have HK : Bx (∀ Y, Below W.heap.size W Y → Calls Try.prog 13 #[.slice p s.length c] Y fun e w' => e = .returned (.int .i64 (chkI s)) ∧ Below Y.heap.size Y w') := ⟨fun Y hY => rcheck_any Y p c s (h.later (blz hb hY))⟩
  have HF : Bx (∀ Y, Below W.heap.size W Y → Calls Try.prog 44 #[.slice p s.length c, .agg #[.int .i64 l.waker, .int .i64 l.woken, .int .i64 l.chan]] Y fun e w' => e = .returned (.bool (rfI s l)) ∧ Below Y.heap.size Y w') := ⟨fun Y hY => rfits_any Y p c s l (h.later (blz hb hY)) h64⟩
  simp only [lkV]
  clear hW hbk hb h h64
  cases hok : stOk s with
  | true =>
    rw [show chkI s = 0 by simp [chkI, hok]] at HK
    generalize rfI s l = z at *
    generalize l.waker = lr at *
    generalize l.woken = ln at *
    generalize l.chan = lc at *
    clear hok
    go_enter Try.func14, Try.ntmps14
    go_wp2_with (first
      | (go_at_call 13; rw [HW.out]; refine Calls.mono (HK.out _ (Below.refl _ _)) ?_; rintro e w1 ⟨rfl, hb1⟩; have B1 : Bx _ := ⟨hb1⟩; obtain ⟨k0, k1, k2⟩ := HC.out w1 hb1; clear hb1)
      | (go_at_call 44; refine Calls.mono (HF.out _ B1.out) ?_; rintro e w2 ⟨rfl, hb2⟩; have B2 : Bx _ := ⟨hb2⟩; clear hb2))
    go_ret
    exact ⟨by cases z <;> rfl, blz (blz BW.out B1.out) B2.out⟩
  | false =>
    rw [show chkI s = 140 by simp [chkI, hok]] at HK
    clear hok HF
    go_enter Try.func14, Try.ntmps14
    go_wp2_with (first
      | (go_at_call 13; rw [HW.out]; refine Calls.mono (HK.out _ (Below.refl _ _)) ?_; rintro e w1 ⟨rfl, hb1⟩; have B1 : Bx _ := ⟨hb1⟩; clear hb1))
    go_ret
    exact ⟨rfl, blz BW.out B1.out⟩
/-! ### the reference's Links: links in a row of one's own, and the one that is tried -/
structure LR (w wr : World) (H : Nat) (v : Value) (cur : List Lk) : Prop where
  own : wr.ownsRow H 24 3 v cur.length (lksC cur)
  bel : Below H w wr
abbrev lkB (x : Lk) : Obj := .cells #[.int .i64 x.waker, .int .i64 x.woken, .int .i64 x.chan] 24 (0, 0)
structure LI (w wr : World) (H : Nat) (v : Value) (cur : List Lk) (L : Nat) (x : Lk) : Prop where
  row : LR w wr H v cur
  blk : wr.heap[L]? = some (lkB x)
  ne : v.ownBlock ≠ some L
  low : H ≤ L
theorem LR.size {w wr : World} {H : Nat} {v : Value} {cur : List Lk} (h : LR w wr H v cur) (hH : w.heap.size = H) : H ≤ wr.heap.size := by rw [← hH]; exact h.bel.size
theorem LR.later {w wr X : World} {H : Nat} {v : Value} {cur : List Lk} (h : LR w wr H v cur) (hH : w.heap.size = H) (hb : Below wr.heap.size wr X) : LR w X H v cur := ⟨own_new h.own hb, h.bel.trans (hb.mono (h.size hH))⟩
theorem LI.later {w wr X : World} {H : Nat} {v : Value} {cur : List Lk} {L : Nat} {x : Lk} (h : LI w wr H v cur L x) (hH : w.heap.size = H) (hb : Below wr.heap.size wr X) : LI w X H v cur L x := ⟨h.row.later hH hb, (hb.block L (heap_lt h.blk)).trans h.blk, h.ne, h.low⟩
theorem LR.start {w wr : World} {H : Nat} {v : Value} {cur : List Lk} (h : LR w wr H v cur) (hH : w.heap.size = H) (x : Lk) : LI w (wr.alloc (lkB x)) H v cur wr.heap.size x :=
  ⟨h.later hH (below1 _ _), heap_newH _ _ _ rfl, fun e => by have := owns_block h.own e; omega, h.size hH⟩
theorem LI.cells {w wr : World} {H : Nat} {v : Value} {cur : List Lk} {L : Nat} {x : Lk} (h : LI w wr H v cur L x) : wr.cell? ⟨L, 0, none⟩ = some (.int .i64 x.waker) ∧ wr.cell? ⟨L, 1, none⟩ = some (.int .i64 x.woken) ∧ wr.cell? ⟨L, 2, none⟩ = some (.int .i64 x.chan) ∧ wr.frozen? ⟨L, 0, none⟩ = false := ⟨cell_blk h.blk rfl, cell_blk h.blk rfl, cell_blk h.blk rfl, frz_blk h.blk⟩
theorem LI.set {w wr : World} {H : Nat} {v : Value} {cur : List Lk} {L : Nat} {x : Lk} (h : LI w wr H v cur L x) (k : Int) : LI w (wr.setCell ⟨L, 0, none⟩ (.int .i64 k)) H v cur L ⟨k, x.woken, x.chan⟩ := by
  refine ⟨⟨own_same h.row.own fun g o hg ho => ?_, h.row.bel.trans ((Below.refl H wr).setCell (p := ⟨L, 0, none⟩) h.low _)⟩, ?_, h.ne, h.low⟩
  · rw [Below.heap_setCell wr ⟨L, 0, none⟩ _ g (fun e => h.ne (by rw [hg, show g = L from e]))]; exact ho
  · have := Lib.heap_setCell_same (i := 0) h.blk (.int .i64 k)
    simpa using this
theorem lksC_add (l : List Lk) (x : Lk) : lksC (l ++ [x]) = lksC l ++ lkC x := by simp [lksC, List.flatMap_append]
theorem LI.app {w wr : World} {H : Nat} {v : Value} {cur : List Lk} {L : Nat} {x : Lk} (h : LI w wr H v cur L x) (hH : w.heap.size = H) (hl : cur.length + 1 ≤ 5000000000000) :
    ∃ v' W3, (∀ ty, (Builtin.append_ #[36, 36] ty #[v, .slice (some ⟨wr.heap.size, 0, none⟩) 1 1]).run Try.prog (wr.alloc (lkB x)) = .ok v' W3) ∧ LI w W3 H v' (cur ++ [x]) L x := by
  obtain ⟨i0, hi, iz0, iz1, iz2⟩ := info_parts infoL
  obtain ⟨g, c, W3, r1, r2, r3, r4, r5⟩ := app1 Try.underlying36 hi iz0 iz1 iz2 rfl (by decide) wr H v cur.length _ h.row.own #[.int .i64 x.waker, .int .i64 x.woken, .int .i64 x.chan] rfl (by simp [Value.oneCell']) (by unfold maxLen; omega) (by omega) (h.row.size hH)
  have hlt := heap_lt h.blk
  refine ⟨_, W3, r1, ⟨⟨?_, h.row.bel.grown r3 (h.row.size hH) fun k hk => (owns_block h.row.own hk).1⟩, grown_at r3 h.blk h.ne, ?_, h.low⟩⟩
  · rw [lksC_add, List.length_append]
    exact r2
  · rintro e
    simp only [Value.ownBlock, Option.some.injEq] at e
    rcases r5 with r5 | r5
    · exact h.ne (by rw [r5, e])
    · omega
theorem bool_a {x y : Bool} (h : (false || (!x && !y)) = true) : x = false ∧ y = false := by revert h; cases x <;> cases y <;> decide
theorem bool_c {a x y : Bool} (h : (a || (!x && !y)) = false) : a = false := by revert h; cases a <;> cases x <;> cases y <;> decide
theorem bool_d {y : Bool} (h : (false || (!false && !y)) = false) : y = true := by revert h; cases y <;> decide
def rlF (s : List Ag) (a : Ag) : List Lk := a.held.flatMap (rlA s a)
def rlK (s : List Ag) (a : Ag) (n : Int) (ks : List Int) : List Lk := (ks.map fun k => (⟨k, a.id, n⟩ : Lk)).filter (rfI s)
theorem rlK_cons (s : List Ag) (a : Ag) (n k : Int) (ks : List Int) : rlK s a n (k :: ks) = if rfI s ⟨k, a.id, n⟩ then ⟨k, a.id, n⟩ :: rlK s a n ks else rlK s a n ks := by
  unfold rlK; rw [List.map_cons, List.filter_cons]
theorem rlA_no {s : List Ag} {a : Ag} {n : Int} (h : (a.awake || (!hnI a n false && !hnI a n true)) = true) : rlA s a n = [] := by unfold rlA; rw [if_pos h]
theorem rlA_go {s : List Ag} {a : Ag} {n : Int} (h : (a.awake || (!hnI a n false && !hnI a n true)) = false) : rlA s a n = rlK s a n (-1 :: s.map (·.id)) := by unfold rlA; rw [h, if_neg (by simp)]; rfl
theorem cur_len {cur X R : List Lk} {x : Lk} (h : cur ++ x :: X = R) (hR : R.length ≤ 5000000000000) : cur.length + 1 ≤ 5000000000000 := by rw [← h] at hR; simp at hR; omega
theorem cur_step {cur X R : List Lk} {x : Lk} (h : cur ++ x :: X = R) : (cur ++ [x]) ++ X = R := by rw [← h]; simp
set_option maxRecDepth 100000 in
set_option maxHeartbeats 8000000 in
theorem rLinks_any (w : World) (p : Option Addr) (c : Nat) (s : List Ag) (h : AgsR w p c s) (ht : totA s ≤ 2147483647) :
    Calls Try.prog 12 #[.slice p s.length c] w fun e w' => ∃ v, e = .returned v ∧ w'.ownsRow w.heap.size 24 3 v (linksI s).length (lksC (linksI s)) ∧ Below w.heap.size w w' := by
  obtain ⟨H, hH⟩ : ∃ H, w.heap.size = H := ⟨_, rfl⟩
  have hlc := h.len
  have hcm := h.max
  unfold maxLen at hcm
  have hl0 : LR w (w.alloc (.cells #[] 24)) H (.slice (some ⟨H, 0, none⟩) 0 0) [] := ⟨⟨rfl, .inr ⟨H, 0, #[], rfl, Nat.le_refl _, heap_newH _ _ _ hH, Nat.le_refl _, by simp [maxLen], rfl, rfl⟩⟩, by rw [← hH]; exact below1 _ _⟩
  have HS : Bx (AgsR w p c s) := ⟨h⟩
  rw [hH]
  have HK : Bx (∀ Y, Below H w Y → Calls Try.prog 13 #[.slice p s.length c] Y fun e w' => e = .returned (.int .i64 (chkI s)) ∧ Below Y.heap.size Y w') := ⟨fun Y hY => rcheck_any Y p c s (h.later (by rw [hH]; exact hY))⟩
  have HF : Bx (∀ (x : Lk), Lk64 x → ∀ Y, Below H w Y → Calls Try.prog 44 #[.slice p s.length c, .agg #[.int .i64 x.waker, .int .i64 x.woken, .int .i64 x.chan]] Y fun e w' => e = .returned (.bool (rfI s x)) ∧ Below Y.heap.size Y w') := ⟨fun x hx Y hY => rfits_any Y p c s x (h.later (by rw [hH]; exact hY)) hx⟩
  have L0 : Bx _ := ⟨hl0⟩
  clear h hl0
  cases hok : stOk s with
  | false =>
    rw [show chkI s = 140 by simp [chkI, hok]] at HK
    have HE : Bx (linksI s = []) := ⟨by unfold linksI; rw [hok]; rfl⟩
    clear hok HF
    go_enter Try.func12, Try.ntmps12
    go_wp2_with (first
      | (go_at_call 13; refine Calls.mono (HK.out _ L0.out.bel) ?_; rintro e w1 ⟨rfl, hb1⟩; have B1 : Bx _ := ⟨L0.out.later hH hb1⟩; clear hb1))
    go_ret
    exact ⟨_, rfl, by rw [HE.out]; exact B1.out.own, B1.out.bel⟩
  | true =>
  rw [show chkI s = 0 by simp [chkI, hok]] at HK
  obtain ⟨R, hR⟩ : ∃ R, R = linksI s := ⟨_, rfl⟩
  have HR0 : Bx (R = s.flatMap (rlF s)) := ⟨by rw [hR, ← rl_links]; unfold rlI; rw [if_pos hok]; rfl⟩
  have hRl : R.length ≤ 5000000000000 := by rw [hR]; exact links_len hok ht
  rw [← hR]
  have HRL : Bx (R.length ≤ 5000000000000) := ⟨hRl⟩
  clear hok ht hR hRl
  go_enter Try.func12, Try.ntmps12
  go_wp2_with (first
    | (go_at_call 13; refine Calls.mono (HK.out _ L0.out.bel) ?_; rintro e w1 ⟨rfl, hb1⟩; have B1 : Bx _ := ⟨L0.out.later hH hb1⟩; clear hb1))
  clear HK L0
  go_loopg [3, 4] (s.length + 1) (fun g v3 v4 wr => ∃ (i : Nat) (vv : Value), g = s.length + 1 - i ∧ i ≤ s.length ∧ v4 = .int .i64 i ∧ vv = v3 ∧ Bx (∃ cur, LR w wr H vv cur ∧ cur ++ (s.drop i).flatMap (rlF s) = R))
  case atStart => exact ⟨0, _, by simp, by omega, rfl, rfl, ⟨[], B1.out, by rw [HR0.out]; rfl⟩⟩
  case round =>
    obtain ⟨i, v3, hg, hil, rfl, rfl, HI⟩ := hrel
    clear B1 HR0
    by_cases hlt : i < s.length
    · obtain ⟨b, o, ap, ac, hp, hc, rfl, hA, hcl⟩ := HS.out.at_ i hlt
      have HCL : Bx (∀ V, Below H w V → V.cell? ⟨b, o + i * 4, none⟩ = some (.int .i64 s[i].id) ∧ V.cell? ⟨b, o + i * 4 + 1, none⟩ = some (.bool s[i].awake) ∧ V.cell? ⟨b, o + i * 4 + 2, none⟩ = some (.slice ap s[i].arms.length ac) ∧ V.cell? ⟨b, o + i * 4 + 3, none⟩ = some (.slice hp s[i].held.length hc)) := ⟨fun V hV => hcl V (by rw [hH]; exact hV)⟩
      have HCI : Bx (∀ k (hk : k < s.length) V, Below H w V → V.cell? ⟨b, o + k * 4, none⟩ = some (.int .i64 s[k].id)) := ⟨fun k hk V hV => by
        obtain ⟨b', o', _, _, _, _, e, _, hcl'⟩ := HS.out.at_ k hk
        cases e
        exact (hcl' V (by rw [hH]; exact hV)).1⟩
      have HID : Bx (∀ k (hk : k < s.length), I64 s[k].id) := ⟨fun k hk => by
        obtain ⟨_, _, _, _, _, _, _, hA', _⟩ := HS.out.at_ k hk
        exact hA'.id⟩
      obtain ⟨T, hT⟩ : ∃ T, T = (s.drop (i + 1)).flatMap (rlF s) := ⟨_, rfl⟩
      have HD : Bx ((s.drop i).flatMap (rlF s) = s[i].held.flatMap (rlA s s[i]) ++ T) := ⟨by rw [List.drop_eq_getElem_cons hlt, List.flatMap_cons, hT]; rfl⟩
      have HAH : Bx (∀ (sd : Bool) (n : Int), I64 n → ∀ Y, Below H w Y → Calls Try.prog 43 #[agV s[i] ap ac hp hc, .int .i64 n, .bool sd] Y fun e w' => e = .returned (.bool (hnI s[i] n sd)) ∧ Below Y.heap.size Y w') := ⟨fun sd n hn Y hY => rhand_any Y s[i] ap ac hp hc (hA.later (by rw [hH]; exact hY)) n hn sd⟩
      have HHR : Bx (IntsR w hp hc s[i].held) := ⟨hA.held⟩
      have haid : I64 s[i].id := hA.id
      have HAI : Bx (I64 s[i].id) := ⟨haid⟩
      have hhl := hA.held.len
      have hhm := hA.held.max
      unfold maxLen at hhm
      clear hcl hA haid HS
      have hiI : (i : Int) < (s.length : Int) := by omega
      have hi0 : (0 : Int) ≤ (i : Int) := by omega
      have HT : Bx (T = (s.drop (i + 1)).flatMap (rlF s)) := ⟨hT⟩
      clear hT
      generalize s[i] = a at *
      simp only [agV] at HAH
      obtain ⟨cur, hLR, hcur⟩ := HI.out
      rw [HD.out] at hcur
      have HJ : Bx (LR w wr H v3 cur ∧ cur ++ (a.held.flatMap (rlA s a) ++ T) = R) := ⟨hLR, hcur⟩
      obtain ⟨c0, c1, c2, c3⟩ := HCL.out wr hLR.bel
      clear hLR hcur HI HD
      go_wp2
      clear c0 c1 c2 c3
      go_loopg [3, 5] (a.held.length + 1) (fun g v3 v5 wr => ∃ (j : Nat) (vv : Value), g = a.held.length + 1 - j ∧ j ≤ a.held.length ∧ v5 = .int .i64 j ∧ vv = v3 ∧ Bx (∃ cur, LR w wr H vv cur ∧ cur ++ ((a.held.drop j).flatMap (rlA s a) ++ T) = R))
      case atStart => exact ⟨0, _, by simp, by omega, rfl, rfl, ⟨cur, HJ.out.1, HJ.out.2⟩⟩
      case round =>
        obtain ⟨j, v3, hg2, hjl, rfl, rfl, HM⟩ := hrel
        clear HJ
        obtain ⟨cur, hLR, hcur⟩ := HM.out
        clear HM
        obtain ⟨c0, c1, c2, c3⟩ := HCL.out wr hLR.bel
        by_cases hjt : j < a.held.length
        · obtain ⟨bh, oh, rfl, hn64, hch⟩ := HHR.out.at_ j hjt
          have cn := hch wr (by rw [hH]; exact hLR.bel)
          have HD : Bx ((a.held.drop j).flatMap (rlA s a) = rlA s a a.held[j] ++ (a.held.drop (j + 1)).flatMap (rlA s a)) := ⟨by rw [List.drop_eq_getElem_cons hjt, List.flatMap_cons]⟩
          obtain ⟨U, hU⟩ : ∃ U, U = (a.held.drop (j + 1)).flatMap (rlA s a) ++ T := ⟨_, rfl⟩
          have HU : Bx (U = (a.held.drop (j + 1)).flatMap (rlA s a) ++ T) := ⟨hU⟩
          have HL : Bx (LR w wr H v3 cur ∧ cur ++ (rlA s a a.held[j] ++ U) = R) := ⟨hLR, by rw [hU, ← List.append_assoc (rlA s a a.held[j]), ← HD.out]; exact hcur⟩
          have H6 : Bx (I64 a.held[j]) := ⟨hn64⟩
          clear hch hcur hLR HD hU
          have hjI : (j : Int) < (a.held.length : Int) := by omega
          have hj0 : (0 : Int) ≤ (j : Int) := by omega
          generalize a.held[j] = n at *
          obtain ⟨x, hx⟩ : ∃ x, x = hnI a n false := ⟨_, rfl⟩
          obtain ⟨y, hy⟩ : ∃ y, y = hnI a n true := ⟨_, rfl⟩
          have HHf : Bx (∀ Y, Below H w Y → Calls Try.prog 43 #[.agg #[.int .i64 a.id, .bool a.awake, .slice ap a.arms.length ac, .slice (some ⟨bh, oh, none⟩) a.held.length hc], .int .i64 n, .bool false] Y fun e w' => e = .returned (.bool x) ∧ Below Y.heap.size Y w') := ⟨fun Y hY => by rw [hx]; exact HAH.out false n H6.out Y hY⟩
          have HHt : Bx (∀ Y, Below H w Y → Calls Try.prog 43 #[.agg #[.int .i64 a.id, .bool a.awake, .slice ap a.arms.length ac, .slice (some ⟨bh, oh, none⟩) a.held.length hc], .int .i64 n, .bool true] Y fun e w' => e = .returned (.bool y) ∧ Below Y.heap.size Y w') := ⟨fun Y hY => by rw [hy]; exact HAH.out true n H6.out Y hY⟩
          have HNO : Bx ((a.awake || (!x && !y)) = true → rlA s a n = []) := ⟨fun hh => rlA_no (by rw [← hx, ← hy]; exact hh)⟩
          have HGO : Bx ((a.awake || (!x && !y)) = false → rlA s a n = rlK s a n (-1 :: s.map (·.id))) := ⟨fun hh => rlA_go (by rw [← hx, ← hy]; exact hh)⟩
          clear hx hy
          by_cases hcont : (a.awake || (!x && !y)) = true
          · have HE : Bx (LR w wr H v3 cur ∧ cur ++ U = R) := ⟨HL.out.1, by have := HL.out.2; rw [HNO.out hcont] at this; exact this⟩
            clear HL HNO HGO HF
            have BR : Bx (Below H w wr) := ⟨HE.out.1.bel⟩
            generalize haw : a.awake = aw at *
            have done : ∀ wz, Below wr.heap.size wr wz → ∃ (jj : Nat) (vv : Value), a.held.length + 1 - (j + 1) = a.held.length + 1 - jj ∧ jj ≤ a.held.length ∧ Value.int .i64 ((j : Int) + 1) = .int .i64 jj ∧ vv = v3 ∧ Bx (∃ cur, LR w wz H vv cur ∧ cur ++ ((a.held.drop jj).flatMap (rlA s a) ++ T) = R) := fun wz hz => ⟨j + 1, v3, rfl, by omega, by simp, rfl, ⟨cur, HE.out.1.later hH hz, by rw [← HU.out]; exact HE.out.2⟩⟩
            have DN : Bx _ := ⟨done⟩
            clear done
            cases aw with
            | true =>
              clear HHf HHt HAH
              go_wp2
              go_roundg (a.held.length + 1 - (j + 1))
              case measure => omega
              case rel => exact DN.out _ (Below.refl _ _)
            | false =>
              obtain ⟨rfl, rfl⟩ := bool_a hcont
              have hcd := HCL
              clear HAH hcont
              go_wp2_with (first
                | (go_at_call 43; refine Calls.mono (HHf.out _ BR.out) ?_; clear HHf; rintro e z1 ⟨rfl, hb1⟩; have Z1 : Bx (Below wr.heap.size wr z1) := ⟨hb1⟩; have BZ : Bx (Below H w z1) := ⟨(HE.out.1.later hH hb1).bel⟩; clear hb1 c0 c1 c2 c3; obtain ⟨c0, c1, c2, c3⟩ := hcd.out z1 BZ.out)
                | (go_at_call 43; refine Calls.mono (HHt.out _ BZ.out) ?_; rintro e z2 ⟨rfl, hb2⟩; have Z2 : Bx (Below wr.heap.size wr z2) := ⟨blz Z1.out hb2⟩; clear hb2))
              go_roundg (a.held.length + 1 - (j + 1))
              case measure => omega
              case rel => exact DN.out _ Z2.out
          · have hcf : (a.awake || (!x && !y)) = false := Bool.eq_false_iff.2 hcont
            have HE : Bx (LR w wr H v3 cur ∧ cur ++ (rlK s a n (-1 :: s.map (·.id)) ++ U) = R) := ⟨HL.out.1, by have := HL.out.2; rw [HGO.out hcf] at this; exact this⟩
            clear HL HNO HGO hcont
            have BR : Bx (Below H w wr) := ⟨HE.out.1.bel⟩
            have haw : a.awake = false := bool_c hcf
            have HFm : Bx (∀ Y, Below H w Y → Calls Try.prog 44 #[.slice (some ⟨b, o, none⟩) s.length c, .agg #[.int .i64 (-1), .int .i64 a.id, .int .i64 n]] Y fun e w' => e = .returned (.bool (rfI s ⟨-1, a.id, n⟩)) ∧ Below Y.heap.size Y w') := ⟨fun Y hY => HF.out ⟨-1, a.id, n⟩ ⟨(show I64 (-1) from ⟨by decide, by decide⟩), HAI.out, H6.out⟩ Y hY⟩
            rw [haw] at hcf c1 HHf HHt
            clear HAH
            cases hr0 : rfI s ⟨-1, a.id, n⟩ with
            | true =>
              cases x with
              | true =>
                have HC2 := HE.out.2
                rw [rlK_cons, hr0, if_pos rfl, List.cons_append] at HC2
                have HC3 : Bx (cur.length + 1 ≤ 5000000000000 ∧ (cur ++ [⟨-1, a.id, n⟩]) ++ (rlK s a n (s.map (·.id)) ++ U) = R) := ⟨cur_len HC2 HRL.out, cur_step HC2⟩
                clear HC2
                rw [hr0] at HFm
                clear hr0
                go_wp2_with (first
                  | (go_at_call 43; refine Calls.mono (HHf.out _ BR.out) ?_; rintro e z1 ⟨rfl, hb1⟩; have Z2 : Bx (LR w z1 H v3 cur) := ⟨HE.out.1.later hH hb1⟩; clear hb1 c0 c1 c2 c3; obtain ⟨c0, c1, c2, c3⟩ := HCL.out z1 Z2.out.bel; rw [haw] at c1; have HST := Z2.out.start hH ⟨-1, a.id, n⟩; obtain ⟨WA, hWA⟩ : ∃ WA, z1.alloc (.cells #[.int .i64 (-1), .int .i64 a.id, .int .i64 n] 24) = WA := ⟨_, rfl⟩; have HS2 : LI w WA H v3 cur z1.heap.size ⟨-1, a.id, n⟩ := (by rw [← hWA]; exact HST); clear HST; obtain ⟨L, hLz⟩ : ∃ L, z1.heap.size = L := ⟨_, rfl⟩; rw [hLz] at HS2; obtain ⟨q0, q1, q2, q3⟩ := HS2.cells; simp only at q0 q1 q2; have HSA : Bx _ := ⟨HS2⟩; clear HS2)
                  | (go_at_call 44; refine Calls.mono (HFm.out _ HSA.out.row.bel) ?_; rintro e z3 ⟨rfl, hb3⟩; have HZ := HSA.out.later hH hb3; obtain ⟨y0, y1, y2, y3⟩ := HZ.cells; obtain ⟨v', W3, ra, hL3⟩ := HZ.app hH HC3.out.1; have LS : Bx (LI w W3 H v' (cur ++ [⟨-1, a.id, n⟩]) L ⟨-1, a.id, n⟩ ∧ (cur ++ [⟨-1, a.id, n⟩]) ++ (rlK s a n (s.map (·.id)) ++ U) = R) := ⟨hL3, HC3.out.2⟩; simp only at y0 y1 y2; clear hb3 HZ hL3)
                  | (at_builtin; refine wpList_appI rfl (.tmp 71) (.tmp 73) 36 rfl rfl rfl ra ?_))
                clear HFm HHf HHt
                go_loopg [3, 8] (s.length + 1) (fun g v3 v8 wr => ∃ (k : Nat) (vv : Value), g = s.length + 1 - k ∧ k ≤ s.length ∧ v8 = .int .i64 k ∧ vv = v3 ∧ Bx (∃ cur xk, LI w wr H vv cur L ⟨xk, a.id, n⟩ ∧ cur ++ (rlK s a n ((s.map (·.id)).drop k) ++ U) = R))
                case atStart => exact ⟨0, _, by simp, by omega, rfl, rfl, ⟨_, _, LS.out.1, LS.out.2⟩⟩
                case round =>
                  obtain ⟨k, v3, hg3, hkl, rfl, rfl, HQ⟩ := hrel
                  clear LS
                  obtain ⟨cur, xk, hLI, hcur⟩ := HQ.out
                  clear HQ
                  by_cases hkt : k < s.length
                  · have ck := HCI.out k hkt wr hLI.row.bel
                    obtain ⟨q0, q1, q2, q3⟩ := hLI.cells
                    simp only at q0 q1 q2
                    have hset := hLI.set s[k].id
                    simp only at hset
                    obtain ⟨W1, hW1⟩ : ∃ W1, wr.setCell ⟨L, 0, none⟩ (.int .i64 s[k].id) = W1 := ⟨_, rfl⟩
                    rw [hW1] at hset
                    have HFk : Bx (∀ Y, Below H w Y → Calls Try.prog 44 #[.slice (some ⟨b, o, none⟩) s.length c, .agg #[.int .i64 s[k].id, .int .i64 a.id, .int .i64 n]] Y fun e w' => e = .returned (.bool (rfI s ⟨s[k].id, a.id, n⟩)) ∧ Below Y.heap.size Y w') := ⟨fun Y hY => HF.out ⟨s[k].id, a.id, n⟩ ⟨HID.out k hkt, HAI.out, H6.out⟩ Y hY⟩
                    have HDk : Bx ((s.map (·.id)).drop k = s[k].id :: (s.map (·.id)).drop (k + 1)) := ⟨by rw [List.drop_eq_getElem_cons (by simpa using hkt)]; simp⟩
                    have hdk := HDk.out
                    rw [hdk, rlK_cons] at hcur
                    obtain ⟨p0, p1, p2, p3⟩ := hset.cells
                    simp only at p0 p1 p2
                    have BS : Bx (Below H w W1) := ⟨hset.row.bel⟩
                    have HSET : Bx _ := ⟨hset⟩
                    have hkI : (k : Int) < (s.length : Int) := by omega
                    have hk0 : (0 : Int) ≤ (k : Int) := by omega
                    have HCU : Bx _ := ⟨hcur⟩
                    clear hdk HDk hset hcur hLI
                    generalize s[k].id = idk at *
                    generalize rfI s ⟨idk, a.id, n⟩ = r at *
                    cases r with
                    | true =>
                      have HC2 := HCU.out
                      simp only [if_true, List.cons_append] at HC2
                      have HC3 : Bx (cur.length + 1 ≤ 5000000000000 ∧ (cur ++ [⟨idk, a.id, n⟩]) ++ (rlK s a n ((s.map (·.id)).drop (k + 1)) ++ U) = R) := ⟨cur_len HC2 HRL.out, cur_step HC2⟩
                      clear HCU HC2
                      go_wp2_with (first
                        | (go_at_call 44; refine Calls.mono (HFk.out _ BS.out) ?_; rintro e z1 ⟨rfl, hb1⟩; have HZ := HSET.out.later hH hb1; obtain ⟨y0, y1, y2, y3⟩ := HZ.cells; obtain ⟨v', W3, ra, hL3⟩ := HZ.app hH HC3.out.1; have HL3 : Bx _ := ⟨hL3⟩; simp only at y0 y1 y2; clear hb1 HZ hL3)
                        | (at_builtin; refine wpList_appI rfl (.tmp 90) (.tmp 92) 36 rfl rfl rfl ra ?_))
                      go_roundg (s.length + 1 - (k + 1))
                      case measure => omega
                      case rel => exact ⟨k + 1, _, rfl, by omega, by simp, rfl, ⟨_, _, HL3.out, HC3.out.2⟩⟩
                    | false =>
                      have HC3 : Bx (cur ++ (rlK s a n ((s.map (·.id)).drop (k + 1)) ++ U) = R) := ⟨by have := HCU.out; simpa using this⟩
                      clear HCU
                      go_wp2_with (first
                        | (go_at_call 44; refine Calls.mono (HFk.out _ BS.out) ?_; rintro e z1 ⟨rfl, hb1⟩; have HL3 : Bx _ := ⟨HSET.out.later hH hb1⟩; clear hb1))
                      go_roundg (s.length + 1 - (k + 1))
                      case measure => omega
                      case rel => exact ⟨k + 1, _, rfl, by omega, by simp, rfl, ⟨_, _, HL3.out, HC3.out⟩⟩
                  · have hke : k = s.length := by omega
                    subst hke
                    have HN : Bx (∃ cur, LR w wr H v3 cur ∧ cur ++ ((a.held.drop (j + 1)).flatMap (rlA s a) ++ T) = R) := ⟨cur, hLI.row, by
                      rw [List.drop_of_length_le (by simp)] at hcur
                      rw [← HU.out]
                      simpa [rlK] using hcur⟩
                    clear hLI hcur
                    go_wp2
                    go_roundg (a.held.length + 1 - (j + 1))
                    case measure => omega
                    case rel => exact ⟨j + 1, _, rfl, by omega, by simp, rfl, HN⟩
              | false =>
                obtain rfl : y = true := bool_d hcf
                have HC2 := HE.out.2
                rw [rlK_cons, hr0, if_pos rfl, List.cons_append] at HC2
                have HC3 : Bx (cur.length + 1 ≤ 5000000000000 ∧ (cur ++ [⟨-1, a.id, n⟩]) ++ (rlK s a n (s.map (·.id)) ++ U) = R) := ⟨cur_len HC2 HRL.out, cur_step HC2⟩
                clear HC2
                rw [hr0] at HFm
                clear hr0
                go_wp2_with (first
                  | (go_at_call 43; refine Calls.mono (HHf.out _ BR.out) ?_; clear HHf; rintro e z0 ⟨rfl, hb0⟩; have Z1 : Bx (LR w z0 H v3 cur) := ⟨HE.out.1.later hH hb0⟩; clear hb0 c0 c1 c2 c3; obtain ⟨c0, c1, c2, c3⟩ := HCL.out z0 Z1.out.bel; rw [haw] at c1)
                  | (go_at_call 43; refine Calls.mono (HHt.out _ Z1.out.bel) ?_; rintro e z1 ⟨rfl, hb1⟩; have Z2 : Bx (LR w z1 H v3 cur) := ⟨Z1.out.later hH hb1⟩; clear hb1 c0 c1 c2 c3; obtain ⟨c0, c1, c2, c3⟩ := HCL.out z1 Z2.out.bel; rw [haw] at c1; have HST := Z2.out.start hH ⟨-1, a.id, n⟩; obtain ⟨WA, hWA⟩ : ∃ WA, z1.alloc (.cells #[.int .i64 (-1), .int .i64 a.id, .int .i64 n] 24) = WA := ⟨_, rfl⟩; have HS2 : LI w WA H v3 cur z1.heap.size ⟨-1, a.id, n⟩ := (by rw [← hWA]; exact HST); clear HST; obtain ⟨L, hLz⟩ : ∃ L, z1.heap.size = L := ⟨_, rfl⟩; rw [hLz] at HS2; obtain ⟨q0, q1, q2, q3⟩ := HS2.cells; simp only at q0 q1 q2; have HSA : Bx _ := ⟨HS2⟩; clear HS2)
                  | (go_at_call 44; refine Calls.mono (HFm.out _ HSA.out.row.bel) ?_; rintro e z3 ⟨rfl, hb3⟩; have HZ := HSA.out.later hH hb3; obtain ⟨y0, y1, y2, y3⟩ := HZ.cells; obtain ⟨v', W3, ra, hL3⟩ := HZ.app hH HC3.out.1; have LS : Bx (LI w W3 H v' (cur ++ [⟨-1, a.id, n⟩]) L ⟨-1, a.id, n⟩ ∧ (cur ++ [⟨-1, a.id, n⟩]) ++ (rlK s a n (s.map (·.id)) ++ U) = R) := ⟨hL3, HC3.out.2⟩; simp only at y0 y1 y2; clear hb3 HZ hL3)
                  | (at_builtin; refine wpList_appI rfl (.tmp 71) (.tmp 73) 36 rfl rfl rfl ra ?_))
                clear HFm HHt
                go_loopg [3, 8] (s.length + 1) (fun g v3 v8 wr => ∃ (k : Nat) (vv : Value), g = s.length + 1 - k ∧ k ≤ s.length ∧ v8 = .int .i64 k ∧ vv = v3 ∧ Bx (∃ cur xk, LI w wr H vv cur L ⟨xk, a.id, n⟩ ∧ cur ++ (rlK s a n ((s.map (·.id)).drop k) ++ U) = R))
                case atStart => exact ⟨0, _, by simp, by omega, rfl, rfl, ⟨_, _, LS.out.1, LS.out.2⟩⟩
                case round =>
                  obtain ⟨k, v3, hg3, hkl, rfl, rfl, HQ⟩ := hrel
                  clear LS
                  obtain ⟨cur, xk, hLI, hcur⟩ := HQ.out
                  clear HQ
                  by_cases hkt : k < s.length
                  · have ck := HCI.out k hkt wr hLI.row.bel
                    obtain ⟨q0, q1, q2, q3⟩ := hLI.cells
                    simp only at q0 q1 q2
                    have hset := hLI.set s[k].id
                    simp only at hset
                    obtain ⟨W1, hW1⟩ : ∃ W1, wr.setCell ⟨L, 0, none⟩ (.int .i64 s[k].id) = W1 := ⟨_, rfl⟩
                    rw [hW1] at hset
                    have HFk : Bx (∀ Y, Below H w Y → Calls Try.prog 44 #[.slice (some ⟨b, o, none⟩) s.length c, .agg #[.int .i64 s[k].id, .int .i64 a.id, .int .i64 n]] Y fun e w' => e = .returned (.bool (rfI s ⟨s[k].id, a.id, n⟩)) ∧ Below Y.heap.size Y w') := ⟨fun Y hY => HF.out ⟨s[k].id, a.id, n⟩ ⟨HID.out k hkt, HAI.out, H6.out⟩ Y hY⟩
                    have HDk : Bx ((s.map (·.id)).drop k = s[k].id :: (s.map (·.id)).drop (k + 1)) := ⟨by rw [List.drop_eq_getElem_cons (by simpa using hkt)]; simp⟩
                    have hdk := HDk.out
                    rw [hdk, rlK_cons] at hcur
                    obtain ⟨p0, p1, p2, p3⟩ := hset.cells
                    simp only at p0 p1 p2
                    have BS : Bx (Below H w W1) := ⟨hset.row.bel⟩
                    have HSET : Bx _ := ⟨hset⟩
                    have hkI : (k : Int) < (s.length : Int) := by omega
                    have hk0 : (0 : Int) ≤ (k : Int) := by omega
                    have HCU : Bx _ := ⟨hcur⟩
                    clear hdk HDk hset hcur hLI
                    generalize s[k].id = idk at *
                    generalize rfI s ⟨idk, a.id, n⟩ = r at *
                    cases r with
                    | true =>
                      have HC2 := HCU.out
                      simp only [if_true, List.cons_append] at HC2
                      have HC3 : Bx (cur.length + 1 ≤ 5000000000000 ∧ (cur ++ [⟨idk, a.id, n⟩]) ++ (rlK s a n ((s.map (·.id)).drop (k + 1)) ++ U) = R) := ⟨cur_len HC2 HRL.out, cur_step HC2⟩
                      clear HCU HC2
                      go_wp2_with (first
                        | (go_at_call 44; refine Calls.mono (HFk.out _ BS.out) ?_; rintro e z1 ⟨rfl, hb1⟩; have HZ := HSET.out.later hH hb1; obtain ⟨y0, y1, y2, y3⟩ := HZ.cells; obtain ⟨v', W3, ra, hL3⟩ := HZ.app hH HC3.out.1; have HL3 : Bx _ := ⟨hL3⟩; simp only at y0 y1 y2; clear hb1 HZ hL3)
                        | (at_builtin; refine wpList_appI rfl (.tmp 90) (.tmp 92) 36 rfl rfl rfl ra ?_))
                      go_roundg (s.length + 1 - (k + 1))
                      case measure => omega
                      case rel => exact ⟨k + 1, _, rfl, by omega, by simp, rfl, ⟨_, _, HL3.out, HC3.out.2⟩⟩
                    | false =>
                      have HC3 : Bx (cur ++ (rlK s a n ((s.map (·.id)).drop (k + 1)) ++ U) = R) := ⟨by have := HCU.out; simpa using this⟩
                      clear HCU
                      go_wp2_with (first
                        | (go_at_call 44; refine Calls.mono (HFk.out _ BS.out) ?_; rintro e z1 ⟨rfl, hb1⟩; have HL3 : Bx _ := ⟨HSET.out.later hH hb1⟩; clear hb1))
                      go_roundg (s.length + 1 - (k + 1))
                      case measure => omega
                      case rel => exact ⟨k + 1, _, rfl, by omega, by simp, rfl, ⟨_, _, HL3.out, HC3.out⟩⟩
                  · have hke : k = s.length := by omega
                    subst hke
                    have HN : Bx (∃ cur, LR w wr H v3 cur ∧ cur ++ ((a.held.drop (j + 1)).flatMap (rlA s a) ++ T) = R) := ⟨cur, hLI.row, by
                      rw [List.drop_of_length_le (by simp)] at hcur
                      rw [← HU.out]
                      simpa [rlK] using hcur⟩
                    clear hLI hcur
                    go_wp2
                    go_roundg (a.held.length + 1 - (j + 1))
                    case measure => omega
                    case rel => exact ⟨j + 1, _, rfl, by omega, by simp, rfl, HN⟩
            | false =>
              cases x with
              | true =>
                have HC3 : Bx (cur ++ (rlK s a n (s.map (·.id)) ++ U) = R) := ⟨by have := HE.out.2; rw [rlK_cons, hr0] at this; simpa using this⟩
                rw [hr0] at HFm
                clear hr0
                go_wp2_with (first
                  | (go_at_call 43; refine Calls.mono (HHf.out _ BR.out) ?_; rintro e z1 ⟨rfl, hb1⟩; have Z2 : Bx (LR w z1 H v3 cur) := ⟨HE.out.1.later hH hb1⟩; clear hb1 c0 c1 c2 c3; obtain ⟨c0, c1, c2, c3⟩ := HCL.out z1 Z2.out.bel; rw [haw] at c1; have HST := Z2.out.start hH ⟨-1, a.id, n⟩; obtain ⟨WA, hWA⟩ : ∃ WA, z1.alloc (.cells #[.int .i64 (-1), .int .i64 a.id, .int .i64 n] 24) = WA := ⟨_, rfl⟩; have HS2 : LI w WA H v3 cur z1.heap.size ⟨-1, a.id, n⟩ := (by rw [← hWA]; exact HST); clear HST; obtain ⟨L, hLz⟩ : ∃ L, z1.heap.size = L := ⟨_, rfl⟩; rw [hLz] at HS2; obtain ⟨q0, q1, q2, q3⟩ := HS2.cells; simp only at q0 q1 q2; have HSA : Bx _ := ⟨HS2⟩; clear HS2)
                  | (go_at_call 44; refine Calls.mono (HFm.out _ HSA.out.row.bel) ?_; rintro e z3 ⟨rfl, hb3⟩; have LS : Bx (LI w z3 H v3 cur L ⟨-1, a.id, n⟩ ∧ cur ++ (rlK s a n (s.map (·.id)) ++ U) = R) := ⟨HSA.out.later hH hb3, HC3.out⟩; clear hb3))
                clear HFm HHf HHt
                go_loopg [3, 8] (s.length + 1) (fun g v3 v8 wr => ∃ (k : Nat) (vv : Value), g = s.length + 1 - k ∧ k ≤ s.length ∧ v8 = .int .i64 k ∧ vv = v3 ∧ Bx (∃ cur xk, LI w wr H vv cur L ⟨xk, a.id, n⟩ ∧ cur ++ (rlK s a n ((s.map (·.id)).drop k) ++ U) = R))
                case atStart => exact ⟨0, _, by simp, by omega, rfl, rfl, ⟨_, _, LS.out.1, LS.out.2⟩⟩
                case round =>
                  obtain ⟨k, v3, hg3, hkl, rfl, rfl, HQ⟩ := hrel
                  clear LS
                  obtain ⟨cur, xk, hLI, hcur⟩ := HQ.out
                  clear HQ
                  by_cases hkt : k < s.length
                  · have ck := HCI.out k hkt wr hLI.row.bel
                    obtain ⟨q0, q1, q2, q3⟩ := hLI.cells
                    simp only at q0 q1 q2
                    have hset := hLI.set s[k].id
                    simp only at hset
                    obtain ⟨W1, hW1⟩ : ∃ W1, wr.setCell ⟨L, 0, none⟩ (.int .i64 s[k].id) = W1 := ⟨_, rfl⟩
                    rw [hW1] at hset
                    have HFk : Bx (∀ Y, Below H w Y → Calls Try.prog 44 #[.slice (some ⟨b, o, none⟩) s.length c, .agg #[.int .i64 s[k].id, .int .i64 a.id, .int .i64 n]] Y fun e w' => e = .returned (.bool (rfI s ⟨s[k].id, a.id, n⟩)) ∧ Below Y.heap.size Y w') := ⟨fun Y hY => HF.out ⟨s[k].id, a.id, n⟩ ⟨HID.out k hkt, HAI.out, H6.out⟩ Y hY⟩
                    have HDk : Bx ((s.map (·.id)).drop k = s[k].id :: (s.map (·.id)).drop (k + 1)) := ⟨by rw [List.drop_eq_getElem_cons (by simpa using hkt)]; simp⟩
                    have hdk := HDk.out
                    rw [hdk, rlK_cons] at hcur
                    obtain ⟨p0, p1, p2, p3⟩ := hset.cells
                    simp only at p0 p1 p2
                    have BS : Bx (Below H w W1) := ⟨hset.row.bel⟩
                    have HSET : Bx _ := ⟨hset⟩
                    have hkI : (k : Int) < (s.length : Int) := by omega
                    have hk0 : (0 : Int) ≤ (k : Int) := by omega
                    have HCU : Bx _ := ⟨hcur⟩
                    clear hdk HDk hset hcur hLI
                    generalize s[k].id = idk at *
                    generalize rfI s ⟨idk, a.id, n⟩ = r at *
                    cases r with
                    | true =>
                      have HC2 := HCU.out
                      simp only [if_true, List.cons_append] at HC2
                      have HC3 : Bx (cur.length + 1 ≤ 5000000000000 ∧ (cur ++ [⟨idk, a.id, n⟩]) ++ (rlK s a n ((s.map (·.id)).drop (k + 1)) ++ U) = R) := ⟨cur_len HC2 HRL.out, cur_step HC2⟩
                      clear HCU HC2
                      go_wp2_with (first
                        | (go_at_call 44; refine Calls.mono (HFk.out _ BS.out) ?_; rintro e z1 ⟨rfl, hb1⟩; have HZ := HSET.out.later hH hb1; obtain ⟨y0, y1, y2, y3⟩ := HZ.cells; obtain ⟨v', W3, ra, hL3⟩ := HZ.app hH HC3.out.1; have HL3 : Bx _ := ⟨hL3⟩; simp only at y0 y1 y2; clear hb1 HZ hL3)
                        | (at_builtin; refine wpList_appI rfl (.tmp 90) (.tmp 92) 36 rfl rfl rfl ra ?_))
                      go_roundg (s.length + 1 - (k + 1))
                      case measure => omega
                      case rel => exact ⟨k + 1, _, rfl, by omega, by simp, rfl, ⟨_, _, HL3.out, HC3.out.2⟩⟩
                    | false =>
                      have HC3 : Bx (cur ++ (rlK s a n ((s.map (·.id)).drop (k + 1)) ++ U) = R) := ⟨by have := HCU.out; simpa using this⟩
                      clear HCU
                      go_wp2_with (first
                        | (go_at_call 44; refine Calls.mono (HFk.out _ BS.out) ?_; rintro e z1 ⟨rfl, hb1⟩; have HL3 : Bx _ := ⟨HSET.out.later hH hb1⟩; clear hb1))
                      go_roundg (s.length + 1 - (k + 1))
                      case measure => omega
                      case rel => exact ⟨k + 1, _, rfl, by omega, by simp, rfl, ⟨_, _, HL3.out, HC3.out⟩⟩
                  · have hke : k = s.length := by omega
                    subst hke
                    have HN : Bx (∃ cur, LR w wr H v3 cur ∧ cur ++ ((a.held.drop (j + 1)).flatMap (rlA s a) ++ T) = R) := ⟨cur, hLI.row, by
                      rw [List.drop_of_length_le (by simp)] at hcur
                      rw [← HU.out]
                      simpa [rlK] using hcur⟩
                    clear hLI hcur
                    go_wp2
                    go_roundg (a.held.length + 1 - (j + 1))
                    case measure => omega
                    case rel => exact ⟨j + 1, _, rfl, by omega, by simp, rfl, HN⟩
              | false =>
                obtain rfl : y = true := bool_d hcf
                have HC3 : Bx (cur ++ (rlK s a n (s.map (·.id)) ++ U) = R) := ⟨by have := HE.out.2; rw [rlK_cons, hr0] at this; simpa using this⟩
                rw [hr0] at HFm
                clear hr0
                go_wp2_with (first
                  | (go_at_call 43; refine Calls.mono (HHf.out _ BR.out) ?_; clear HHf; rintro e z0 ⟨rfl, hb0⟩; have Z1 : Bx (LR w z0 H v3 cur) := ⟨HE.out.1.later hH hb0⟩; clear hb0 c0 c1 c2 c3; obtain ⟨c0, c1, c2, c3⟩ := HCL.out z0 Z1.out.bel; rw [haw] at c1)
                  | (go_at_call 43; refine Calls.mono (HHt.out _ Z1.out.bel) ?_; rintro e z1 ⟨rfl, hb1⟩; have Z2 : Bx (LR w z1 H v3 cur) := ⟨Z1.out.later hH hb1⟩; clear hb1 c0 c1 c2 c3; obtain ⟨c0, c1, c2, c3⟩ := HCL.out z1 Z2.out.bel; rw [haw] at c1; have HST := Z2.out.start hH ⟨-1, a.id, n⟩; obtain ⟨WA, hWA⟩ : ∃ WA, z1.alloc (.cells #[.int .i64 (-1), .int .i64 a.id, .int .i64 n] 24) = WA := ⟨_, rfl⟩; have HS2 : LI w WA H v3 cur z1.heap.size ⟨-1, a.id, n⟩ := (by rw [← hWA]; exact HST); clear HST; obtain ⟨L, hLz⟩ : ∃ L, z1.heap.size = L := ⟨_, rfl⟩; rw [hLz] at HS2; obtain ⟨q0, q1, q2, q3⟩ := HS2.cells; simp only at q0 q1 q2; have HSA : Bx _ := ⟨HS2⟩; clear HS2)
                  | (go_at_call 44; refine Calls.mono (HFm.out _ HSA.out.row.bel) ?_; rintro e z3 ⟨rfl, hb3⟩; have LS : Bx (LI w z3 H v3 cur L ⟨-1, a.id, n⟩ ∧ cur ++ (rlK s a n (s.map (·.id)) ++ U) = R) := ⟨HSA.out.later hH hb3, HC3.out⟩; clear hb3))
                clear HFm HHt
                go_loopg [3, 8] (s.length + 1) (fun g v3 v8 wr => ∃ (k : Nat) (vv : Value), g = s.length + 1 - k ∧ k ≤ s.length ∧ v8 = .int .i64 k ∧ vv = v3 ∧ Bx (∃ cur xk, LI w wr H vv cur L ⟨xk, a.id, n⟩ ∧ cur ++ (rlK s a n ((s.map (·.id)).drop k) ++ U) = R))
                case atStart => exact ⟨0, _, by simp, by omega, rfl, rfl, ⟨_, _, LS.out.1, LS.out.2⟩⟩
                case round =>
                  obtain ⟨k, v3, hg3, hkl, rfl, rfl, HQ⟩ := hrel
                  clear LS
                  obtain ⟨cur, xk, hLI, hcur⟩ := HQ.out
                  clear HQ
                  by_cases hkt : k < s.length
                  · have ck := HCI.out k hkt wr hLI.row.bel
                    obtain ⟨q0, q1, q2, q3⟩ := hLI.cells
                    simp only at q0 q1 q2
                    have hset := hLI.set s[k].id
                    simp only at hset
                    obtain ⟨W1, hW1⟩ : ∃ W1, wr.setCell ⟨L, 0, none⟩ (.int .i64 s[k].id) = W1 := ⟨_, rfl⟩
                    rw [hW1] at hset
                    have HFk : Bx (∀ Y, Below H w Y → Calls Try.prog 44 #[.slice (some ⟨b, o, none⟩) s.length c, .agg #[.int .i64 s[k].id, .int .i64 a.id, .int .i64 n]] Y fun e w' => e = .returned (.bool (rfI s ⟨s[k].id, a.id, n⟩)) ∧ Below Y.heap.size Y w') := ⟨fun Y hY => HF.out ⟨s[k].id, a.id, n⟩ ⟨HID.out k hkt, HAI.out, H6.out⟩ Y hY⟩
                    have HDk : Bx ((s.map (·.id)).drop k = s[k].id :: (s.map (·.id)).drop (k + 1)) := ⟨by rw [List.drop_eq_getElem_cons (by simpa using hkt)]; simp⟩
                    have hdk := HDk.out
                    rw [hdk, rlK_cons] at hcur
                    obtain ⟨p0, p1, p2, p3⟩ := hset.cells
                    simp only at p0 p1 p2
                    have BS : Bx (Below H w W1) := ⟨hset.row.bel⟩
                    have HSET : Bx _ := ⟨hset⟩
                    have hkI : (k : Int) < (s.length : Int) := by omega
                    have hk0 : (0 : Int) ≤ (k : Int) := by omega
                    have HCU : Bx _ := ⟨hcur⟩
                    clear hdk HDk hset hcur hLI
                    generalize s[k].id = idk at *
                    generalize rfI s ⟨idk, a.id, n⟩ = r at *
                    cases r with
                    | true =>
                      have HC2 := HCU.out
                      simp only [if_true, List.cons_append] at HC2
                      have HC3 : Bx (cur.length + 1 ≤ 5000000000000 ∧ (cur ++ [⟨idk, a.id, n⟩]) ++ (rlK s a n ((s.map (·.id)).drop (k + 1)) ++ U) = R) := ⟨cur_len HC2 HRL.out, cur_step HC2⟩
                      clear HCU HC2
                      go_wp2_with (first
                        | (go_at_call 44; refine Calls.mono (HFk.out _ BS.out) ?_; rintro e z1 ⟨rfl, hb1⟩; have HZ := HSET.out.later hH hb1; obtain ⟨y0, y1, y2, y3⟩ := HZ.cells; obtain ⟨v', W3, ra, hL3⟩ := HZ.app hH HC3.out.1; have HL3 : Bx _ := ⟨hL3⟩; simp only at y0 y1 y2; clear hb1 HZ hL3)
                        | (at_builtin; refine wpList_appI rfl (.tmp 90) (.tmp 92) 36 rfl rfl rfl ra ?_))
                      go_roundg (s.length + 1 - (k + 1))
                      case measure => omega
                      case rel => exact ⟨k + 1, _, rfl, by omega, by simp, rfl, ⟨_, _, HL3.out, HC3.out.2⟩⟩
                    | false =>
                      have HC3 : Bx (cur ++ (rlK s a n ((s.map (·.id)).drop (k + 1)) ++ U) = R) := ⟨by have := HCU.out; simpa using this⟩
                      clear HCU
                      go_wp2_with (first
                        | (go_at_call 44; refine Calls.mono (HFk.out _ BS.out) ?_; rintro e z1 ⟨rfl, hb1⟩; have HL3 : Bx _ := ⟨HSET.out.later hH hb1⟩; clear hb1))
                      go_roundg (s.length + 1 - (k + 1))
                      case measure => omega
                      case rel => exact ⟨k + 1, _, rfl, by omega, by simp, rfl, ⟨_, _, HL3.out, HC3.out⟩⟩
                  · have hke : k = s.length := by omega
                    subst hke
                    have HN : Bx (∃ cur, LR w wr H v3 cur ∧ cur ++ ((a.held.drop (j + 1)).flatMap (rlA s a) ++ T) = R) := ⟨cur, hLI.row, by
                      rw [List.drop_of_length_le (by simp)] at hcur
                      rw [← HU.out]
                      simpa [rlK] using hcur⟩
                    clear hLI hcur
                    go_wp2
                    go_roundg (a.held.length + 1 - (j + 1))
                    case measure => omega
                    case rel => exact ⟨j + 1, _, rfl, by omega, by simp, rfl, HN⟩
        · have hje : j = a.held.length := by omega
          subst hje
          have HN : Bx (∃ cur, LR w wr H v3 cur ∧ cur ++ (s.drop (i + 1)).flatMap (rlF s) = R) := ⟨cur, hLR, by
            rw [← HT.out]
            rw [List.drop_of_length_le (Nat.le_refl _)] at hcur
            simpa using hcur⟩
          clear hLR hcur HAH HF
          go_wp2
          go_roundg (s.length + 1 - (i + 1))
          case measure => omega
          case rel => exact ⟨i + 1, _, rfl, by omega, by simp, rfl, HN⟩
    · have hie : i = s.length := by omega
      subst hie
      obtain ⟨cur, hLR, hcur⟩ := HI.out
      rw [List.drop_of_length_le (Nat.le_refl _)] at hcur
      have HZ : Bx (LR w wr H v3 R) := ⟨by rw [← hcur]; simpa using hLR⟩
      clear HI hLR hcur HF
      go_wp2
      go_ret
      exact ⟨_, rfl, HZ.out.own, HZ.out.bel⟩
end Go.Proofs.Ytjabdhmkibahlaa
