import Derived.Test.YtijdcplffmdijaaDoorCDFg
import Derived.Test.YtijdcplffmdijaaDoorCDFi
import Derived.Test.YtijdcplffmdijaaDoorCDEd
import Derived.Test.YtijdcplffmdijaaDoorCDX
namespace Go.Proofs.YtijdcplffmdijaaDoor
open Go.RowKit
set_option linter.unusedVariables false
set_option linter.unusedSimpArgs false

/-! costs by the text -/
theorem itoa_pos (n : Int) : 1 ≤ (Lib.itoa n).length := by
  unfold Lib.itoa
  split
  · simp
  · exact List.length_pos_iff.2 (dec_ne _)
theorem nums_ge : ∀ l : List Int, 2 * l.length ≤ (numsT l).length
  | [] => by simp [numsT]
  | n :: l => by
    have := nums_ge l
    have := itoa_pos n
    have e : numsT (n :: l) = 32 :: (Lib.itoa n ++ numsT l) := by simp [numsT]
    rw [e]
    simp only [List.length_cons, List.length_append]
    omega
theorem flat_ge {α : Type} (f : α → Nat) (g : α → List UInt8) (c : Nat) : ∀ (l : List α), (∀ x ∈ l, f x ≤ c * (g x).length) → sumF f l ≤ c * (l.flatMap g).length
  | [], _ => by simp [sumF]
  | x :: r, h => by
    have h1 := flat_ge f g c r fun y hy => h y (List.mem_cons_of_mem _ hy)
    have h2 := h x List.mem_cons_self
    rw [List.flatMap_cons, List.length_append, sumF, Nat.mul_add]
    omega
theorem unC_text {u : CUn} (hf : fitU u = true) : unC u ≤ 30 * (unitT u).length := by
  have h1 : sumF tyC u.types ≤ 30 * (u.types.flatMap typeT).length := flat_ge _ _ _ _ fun t _ => by
    have := nums_ge (t.kind :: bitI t.res :: t.kids)
    unfold tyC typeT
    simp only [List.length_append, List.length_cons, List.length_nil] at this ⊢
    omega
  have h2 : sumF pgC u.progs ≤ 30 * (u.progs.flatMap progT).length := flat_ge _ _ _ _ fun p hp => by
    have hfp : fitP p = true := List.all_eq_true.1 hf p hp
    have h3 : sumF inC p.code ≤ 30 * (p.code.flatMap insT).length := flat_ge _ _ _ _ fun i hi => by
      have hfi : fitI i = true := List.all_eq_true.1 hfp i hi
      have hn := List.length_pos_iff.2 (fit_parts hfi).1
      have := nums_ge (numsI i)
      have e : i.list.length ≤ (numsI i).length := by rw [nums_len]; omega
      unfold inC insT
      simp only [List.length_append, List.length_cons, List.length_nil]
      omega
    have := nums_ge [p.params, p.slots, p.caps, bitI p.res]
    unfold pgC progT headT
    simp only [List.length_append, List.length_cons, List.length_nil] at this ⊢
    omega
  unfold unC unitT
  rw [List.length_append]
  omega
theorem text_unC {u : CUn} (hw : u.Wf) : (unitT u).length ≤ unC u := by
  have h1 := flat_le tyC typeT u.types fun t ht => type_len (hw.types t ht)
  have h2 := flat_le pgC progT u.progs fun p hp => prog_len (hw.progs p hp)
  unfold unitT unC
  rw [List.length_append]
  omega
theorem sumF_le {α : Type} (f g : α → Nat) (c : Nat) (h : ∀ x, f x ≤ c * g x) : ∀ l : List α, sumF f l ≤ c * sumF g l
  | [] => by simp [sumF]
  | x :: l => by
    have := sumF_le f g c h l
    have := h x
    rw [sumF, sumF, Nat.mul_add]
    omega
theorem unC_unS (u : CUn) : unC u ≤ 2 * unS u := by
  have h1 := sumF_le tyC tS 2 (fun t => by unfold tyC tS; omega) u.types
  have h2 := sumF_le pgC pS 2 (fun p => by
    have := sumF_le inC iS 1 (fun i => by unfold inC iS; omega) p.code
    unfold pgC pS
    omega) u.progs
  unfold unC unS
  omega
/-- a unit in a variable of its own -/
theorem unIn_alloc {w : World} {pa ta : Option Addr} {pc tc : Nat} {u : CUn} (h : UnIn w w.heap.size pa pc ta tc u) {w' : World} (hb : Below w.heap.size w w') : UnIn w' w'.heap.size pa pc ta tc u := h.below hb hb.size
set_option maxRecDepth 100000 in
set_option maxHeartbeats 4000000 in
theorem back_walk (w : World) (u : CUn) (pa ta : Option Addr) (pc tc : Nat) (hu : UnIn w w.heap.size pa pc ta tc u) (hwf : u.Wf) (hL : LW w) (text : List UInt8) (htl : text.length ≤ 549755813888) :
    Calls Tryd.prog 7 #[unV u pa pc ta tc, strV text] w fun e w' => e = .returned (.bool true) ∧ Below w.heap.size w w' := by
  obtain ⟨H, hH⟩ : ∃ H, w.heap.size = H := ⟨_, rfl⟩
  obtain ⟨np, hnp⟩ : ∃ n, u.progs.length = n := ⟨_, rfl⟩
  obtain ⟨nt, hnt⟩ : ∃ n, u.types.length = n := ⟨_, rfl⟩
  have hcost := unC_unS u
  -- what is called, in whatever world
  have HB : Bx (∀ X, Below w.heap.size w X → Calls Tryd.prog 20 #[.agg #[.slice pa np pc, .slice ta nt tc]] X (BeyA X u)) := ⟨fun X hX => by rw [← hnp, ← hnt]; exact beyond_any X u pa ta pc tc (unIn_alloc hu hX)⟩
  have HS : Bx (∀ X, Below w.heap.size w X → Calls Tryd.prog 9 #[] X fun e w' => e = .returned (.bool true) ∧ Bx (Below w.heap.size w w' ∧ Below X.heap.size X w')) := ⟨fun X hX => (shown_any X (hL.below hX)).mono fun e w' h => ⟨h.1, ⟨hX.trans (h.2.mono hX.size), h.2⟩⟩⟩
  have HP : Bx (unS u ≤ 2147483647 → ∀ X, Below w.heap.size w X → Calls Tryd.prog 22 #[.agg #[.slice pa np pc, .slice ta nt tc]] X fun e w' => e = .returned (.tuple #[strV (if fitU u then unitT u else []), .int .i64 (if fitU u then 0 else 80)]) ∧ Bx (Below w.heap.size w w' ∧ Below X.heap.size X w')) := ⟨fun hs X hX => by
    rw [← hnp, ← hnt]
    exact (Print_any X u pa pc ta tc (unIn_alloc hu hX) hwf (hL.below hX).shp (hL.below hX).pow (by omega)).mono fun e w' h => ⟨h.1, ⟨hX.trans (h.2.mono hX.size), h.2⟩⟩⟩
  have HR : Bx (∀ X t, Below w.heap.size w X → t.length ≤ 549755813888 → Calls Tryd.prog 26 #[strV t] X (ParA X (readU t))) := ⟨fun X t hX ht => Parse_any X (hL.below hX) t ht⟩
  have HSU : Bx (∀ X pa1 pc1 ta1 tc1, Below w.heap.size w X → UnIn X X.heap.size pa1 pc1 ta1 tc1 u → Calls Tryd.prog 28 #[.agg #[.slice pa1 np pc1, .slice ta1 nt tc1], .agg #[.slice pa np pc, .slice ta nt tc]] X fun e w' => e = .returned (.bool true) ∧ Bx (Below w.heap.size w w')) := ⟨fun X pa1 pc1 ta1 tc1 hX h1 => by
    rw [← hnp, ← hnt]
    exact (sameUnit_yes X u pa1 ta1 pa ta pc1 tc1 pc tc h1 (unIn_alloc hu hX)).mono fun e w' h => ⟨h.1, ⟨hX.trans (h.2.mono hX.size)⟩⟩⟩
  have HP2 : Bx (∀ X v pa1 pc1 ta1 tc1, Below w.heap.size w X → UnIn X X.heap.size pa1 pc1 ta1 tc1 v → v.Wf → fitU v = true → unitT v = text → Calls Tryd.prog 22 #[.agg #[.slice pa1 v.progs.length pc1, .slice ta1 v.types.length tc1]] X fun e w' => e = .returned (.tuple #[strV text, .int .i64 0]) ∧ Bx (Below w.heap.size w w')) := ⟨fun X v pa1 pc1 ta1 tc1 hX h1 h2 h3 h4 => by
    have hc := unC_text h3
    rw [h4] at hc
    have := Print_any X v pa1 pc1 ta1 tc1 h1 h2 (hL.below hX).shp (hL.below hX).pow (by omega)
    rw [h3] at this
    simp only [if_true] at this
    rw [h4] at this
    exact this.mono fun e w' h => ⟨h.1, ⟨hX.trans (h.2.mono hX.size)⟩⟩⟩
  obtain ⟨W1, hW1⟩ : ∃ X, w.alloc (.cells #[.slice pa np pc, .slice ta nt tc] 36) = X := ⟨_, rfl⟩
  have b1 : Below H w W1 := by rw [← hW1, ← hH]; exact below1 w _
  have q1 : W1.heap[H]? = some (.cells #[.slice pa np pc, .slice ta nt tc] 36 (0, 0)) := by rw [← hW1, ← hH]; exact heap_alloc_new w _
  rw [hH] at HB HS HP HR HSU HP2
  have B1 : Bx _ := ⟨b1⟩
  have Q1 : Bx _ := ⟨q1⟩
  have HTX : Bx (text.length ≤ 549755813888) := ⟨htl⟩
  have HPR : Bx _ := ⟨print_read text⟩
  have HRP : Bx (fitU u = true → readU (unitT u) = (u, 0, 0)) := ⟨fun h => read_print hwf h⟩
  have HTU : Bx (unS u ≤ 2147483647 → (unitT u).length ≤ 549755813888) := ⟨fun h => by have := text_unC hwf; omega⟩
  have c0 : W1.cell? ⟨H, 0, none⟩ = some (.slice pa np pc) := cell_blk q1 rfl
  have c1 : W1.cell? ⟨H, 1, none⟩ = some (.slice ta nt tc) := cell_blk q1 rfl
  have l1 : H < W1.heap.size := (Array.getElem?_eq_some_iff.1 q1).1
  show Calls Tryd.prog 7 #[.agg #[.slice pa u.progs.length pc, .slice ta u.types.length tc], .string ⟨text.toArray⟩] w _
  rw [hnp, hnt, hH]
  clear hu hwf hL htl hcost b1 q1
  have HNP : Bx _ := ⟨hnp⟩
  have HNT : Bx _ := ⟨hnt⟩
  clear hnp hnt
  cases hfit : fitU u with
  | false =>
    rw [hfit] at HP
    simp only [if_false, Bool.false_eq_true] at HP
    clear hfit HRP HTU
    go_enter Tryd.func7, Tryd.ntmps7
    go_wp2_with (first
      | (go_at_call 20; refine (HB.out _ B1.out).mono ?_; rintro e w2 ⟨b, rfl, HX⟩
         have B2 : Bx (Below H w w2) := ⟨B1.out.trans (HX.out.2.mono (Nat.le_of_lt l1))⟩
         have e2 := below_heap HX.out.2 Q1.out
         have Q2 : Bx _ := ⟨e2⟩
         have l2 : H < w2.heap.size := (Array.getElem?_eq_some_iff.1 e2).1
         have d0 : w2.cell? ⟨H, 0, none⟩ = some (.slice pa np pc) := cell_blk e2 rfl
         have d1 : w2.cell? ⟨H, 1, none⟩ = some (.slice ta nt tc) := cell_blk e2 rfl
         clear e2 HB
         cases b)
      | (go_at_call 9; refine (HS.out _ B2.out).mono ?_; rintro e w3 ⟨rfl, HY⟩
         have e3 := below_heap HY.out.2 Q2.out
         have Q3 : Bx _ := ⟨e3⟩
         have l3 : H < w3.heap.size := (Array.getElem?_eq_some_iff.1 e3).1
         have f0 : w3.cell? ⟨H, 0, none⟩ = some (.slice pa np pc) := cell_blk e3 rfl
         have f1 : w3.cell? ⟨H, 1, none⟩ = some (.slice ta nt tc) := cell_blk e3 rfl
         clear e3 HS)
      | (go_at_call 22; refine (HP.out (HX.out.1 (by first | rfl | trivial)) _ HY.out.1).mono ?_; rintro e w4 ⟨rfl, HZ⟩; clear HP))
    · go_ret
      exact ⟨rfl, HZ.out.1⟩
    · go_ret
      exact ⟨rfl, B2.out⟩
  | true =>
    rw [hfit] at HP
    simp only [if_true] at HP
    have hrd := HRP.out hfit
    generalize unitT u = su at *
    have HR1 : Bx (∀ X, Below H w X → su.length ≤ 549755813888 → Calls Tryd.prog 26 #[strV su] X fun e w' => ∃ pa1 pc1 ta1 tc1, e = .returned (.tuple #[.agg #[.slice pa1 np pc1, .slice ta1 nt tc1], .int .i64 0, .int .i64 0]) ∧ Bx (UnIn w' w'.heap.size pa1 pc1 ta1 tc1 u ∧ Below H w w' ∧ Below X.heap.size X w')) := ⟨fun X hX hl => by
      have := HR.out X su hX hl
      rw [hrd] at this
      refine Calls.mono this ?_
      rintro e w' ⟨pa1, pc1, ta1, tc1, rfl, hv⟩
      have hz : H ≤ X.heap.size := by have := hX.size; omega
      refine ⟨pa1, pc1, ta1, tc1, ?_, ⟨hv.out.1, hX.trans (hv.out.2.mono hz), hv.out.2⟩⟩
      rw [← HNP.out, ← HNT.out]
      rfl⟩
    clear hfit HRP hrd
    rcases HPR.out with ⟨r1, r2, r3, r4, r5⟩ | ⟨r1, r2, r3⟩
    · obtain ⟨v, hv⟩ : ∃ v, v = (readU text).1 := ⟨_, rfl⟩
      have hrt : readU text = (v, 0, 0) := by rw [hv, ← r1, ← r2]
      rw [← hv] at r3 r4 r5
      obtain ⟨vp, hvp⟩ : ∃ n, v.progs.length = n := ⟨_, rfl⟩
      obtain ⟨vt, hvt⟩ : ∃ n, v.types.length = n := ⟨_, rfl⟩
      have HR2 : Bx (∀ X, Below H w X → Calls Tryd.prog 26 #[.string ⟨text.toArray⟩] X fun e w' => ∃ pa1 pc1 ta1 tc1, e = .returned (.tuple #[.agg #[.slice pa1 vp pc1, .slice ta1 vt tc1], .int .i64 0, .int .i64 0]) ∧ Bx (UnIn w' w'.heap.size pa1 pc1 ta1 tc1 v ∧ Below H w w')) := ⟨fun X hX => by
        have := HR.out X text hX HTX.out
        rw [hrt] at this
        refine Calls.mono this ?_
        rintro e w' ⟨pa1, pc1, ta1, tc1, rfl, hq⟩
        have hz : H ≤ X.heap.size := by have := hX.size; omega
        refine ⟨pa1, pc1, ta1, tc1, ?_, ⟨hq.out.1, hX.trans (hq.out.2.mono hz)⟩⟩
        rw [← hvp, ← hvt]
        rfl⟩
      have HP3 : Bx (∀ X pa1 pc1 ta1 tc1, Below H w X → UnIn X X.heap.size pa1 pc1 ta1 tc1 v → Calls Tryd.prog 22 #[.agg #[.slice pa1 vp pc1, .slice ta1 vt tc1]] X fun e w' => e = .returned (.tuple #[.string ⟨text.toArray⟩, .int .i64 0]) ∧ Bx (Below H w w')) := ⟨fun X pa1 pc1 ta1 tc1 hX h1 => by
        have := HP2.out X v pa1 pc1 ta1 tc1 hX h1 r5 r4 r3
        rw [hvp, hvt] at this
        exact this⟩
      clear r1 r2 r3 r4 r5 hv hrt hvp hvt HR HP2 HPR HTX
      go_enter Tryd.func7, Tryd.ntmps7
      go_wp2_with (first
        | (go_at_call 20; refine (HB.out _ B1.out).mono ?_; rintro e w2 ⟨b, rfl, HX⟩
           have B2 : Bx (Below H w w2) := ⟨B1.out.trans (HX.out.2.mono (Nat.le_of_lt l1))⟩
           have e2 := below_heap HX.out.2 Q1.out
           have Q2 : Bx _ := ⟨e2⟩
           have l2 : H < w2.heap.size := (Array.getElem?_eq_some_iff.1 e2).1
           have d0 : w2.cell? ⟨H, 0, none⟩ = some (.slice pa np pc) := cell_blk e2 rfl
           have d1 : w2.cell? ⟨H, 1, none⟩ = some (.slice ta nt tc) := cell_blk e2 rfl
           clear e2 HB
           cases b)
        | (go_at_call 9; refine (HS.out _ B2.out).mono ?_; rintro e w3 ⟨rfl, HY⟩
           have e3 := below_heap HY.out.2 Q2.out
           have Q3 : Bx _ := ⟨e3⟩
           have l3 : H < w3.heap.size := (Array.getElem?_eq_some_iff.1 e3).1
           have f0 : w3.cell? ⟨H, 0, none⟩ = some (.slice pa np pc) := cell_blk e3 rfl
           have f1 : w3.cell? ⟨H, 1, none⟩ = some (.slice ta nt tc) := cell_blk e3 rfl
           clear e3 HS)
        | (go_at_call 22; refine (HP.out (HX.out.1 (by first | rfl | trivial)) _ HY.out.1).mono ?_; rintro e w4 ⟨rfl, HZ⟩
           have e4 := below_heap HZ.out.2 Q3.out
           have Q4 : Bx _ := ⟨e4⟩
           have hsl : su.length ≤ 549755813888 := HTU.out (HX.out.1 (by first | rfl | trivial))
           clear e4 HP)
        | (go_at_call 26; refine (HR1.out _ HZ.out.1 hsl).mono ?_; rintro e w5 ⟨pa1, pc1, ta1, tc1, rfl, HV⟩
           obtain ⟨W5, hW5⟩ : ∃ X, w5.alloc (.cells #[.slice pa1 np pc1, .slice ta1 nt tc1] 36) = X := ⟨_, rfl⟩
           have b5 : Below w5.heap.size w5 W5 := (by rw [← hW5]; exact below1 w5 _)
           have q5 : W5.heap[w5.heap.size]? = some (.cells #[.slice pa1 np pc1, .slice ta1 nt tc1] 36 (0, 0)) := (by rw [← hW5]; exact heap_alloc_new w5 _)
           have e5 := below_heap b5 (below_heap HV.out.2.2 Q4.out)
           have Q5 : Bx _ := ⟨e5⟩
           have B5 : Bx (Below H w W5) := ⟨HV.out.2.1.trans (b5.mono (by have := (Array.getElem?_eq_some_iff.1 (below_heap HV.out.2.2 Q4.out)).1; omega))⟩
           have hun : Bx (UnIn W5 W5.heap.size pa1 pc1 ta1 tc1 u) := ⟨unIn_alloc HV.out.1 b5⟩
           have g0 : W5.cell? ⟨w5.heap.size, 0, none⟩ = some (.slice pa1 np pc1) := cell_blk q5 rfl
           have g1 : W5.cell? ⟨w5.heap.size, 1, none⟩ = some (.slice ta1 nt tc1) := cell_blk q5 rfl
           have h0 : W5.cell? ⟨H, 0, none⟩ = some (.slice pa np pc) := cell_blk e5 rfl
           have h1 : W5.cell? ⟨H, 1, none⟩ = some (.slice ta nt tc) := cell_blk e5 rfl
           have l5 : H < W5.heap.size := (Array.getElem?_eq_some_iff.1 e5).1
           have l6 : w5.heap.size < W5.heap.size := (Array.getElem?_eq_some_iff.1 q5).1
           clear e5 q5 b5 HR1)
        | (go_at_call 28; refine (HSU.out _ _ _ _ _ B5.out hun.out).mono ?_; rintro e w6 ⟨rfl, H6⟩; clear HSU)
        | (go_at_call 26; refine (HR2.out _ H6.out).mono ?_; rintro e w7 ⟨pa2, pc2, ta2, tc2, rfl, HV2⟩
           obtain ⟨W7, hW7⟩ : ∃ X, w7.alloc (.cells #[.slice pa2 vp pc2, .slice ta2 vt tc2] 36) = X := ⟨_, rfl⟩
           have b7 : Below w7.heap.size w7 W7 := (by rw [← hW7]; exact below1 w7 _)
           have q7 : W7.heap[w7.heap.size]? = some (.cells #[.slice pa2 vp pc2, .slice ta2 vt tc2] 36 (0, 0)) := (by rw [← hW7]; exact heap_alloc_new w7 _)
           have B7 : Bx (Below H w W7) := ⟨HV2.out.2.trans (b7.mono (by have := HV2.out.2.size; omega))⟩
           have hun2 : Bx (UnIn W7 W7.heap.size pa2 pc2 ta2 tc2 v) := ⟨unIn_alloc HV2.out.1 b7⟩
           have k0 : W7.cell? ⟨w7.heap.size, 0, none⟩ = some (.slice pa2 vp pc2) := cell_blk q7 rfl
           have k1 : W7.cell? ⟨w7.heap.size, 1, none⟩ = some (.slice ta2 vt tc2) := cell_blk q7 rfl
           have l7 : w7.heap.size < W7.heap.size := (Array.getElem?_eq_some_iff.1 q7).1
           clear q7 b7 HR2)
        | (go_at_call 22; refine (HP3.out _ _ _ _ _ B7.out hun2.out).mono ?_; rintro e w8 ⟨rfl, H8⟩))
      · go_ret
        exact ⟨rfl, H8.out⟩
      · go_ret
        exact ⟨rfl, B2.out⟩
    · obtain ⟨k, hk⟩ : ∃ k, k = (readU text).2.1 := ⟨_, rfl⟩
      have hrt : readU text = (⟨[], []⟩, k, 80) := by rw [hk, ← r1, ← r3]
      have hk0 : (0 : Int) < (k : Int) := by rw [hk]; omega
      have HR2 : Bx (∀ X, Below H w X → Calls Tryd.prog 26 #[.string ⟨text.toArray⟩] X fun e w' => ∃ pa1 pc1 ta1 tc1, e = .returned (.tuple #[.agg #[.slice pa1 0 pc1, .slice ta1 0 tc1], .int .i64 (k : Int), .int .i64 80]) ∧ Bx (Below H w w')) := ⟨fun X hX => by
        have := HR.out X text hX HTX.out
        rw [hrt] at this
        refine Calls.mono this ?_
        rintro e w' ⟨pa1, pc1, ta1, tc1, rfl, hq⟩
        have hz : H ≤ X.heap.size := by have := hX.size; omega
        exact ⟨pa1, pc1, ta1, tc1, rfl, ⟨hX.trans (hq.out.2.mono hz)⟩⟩⟩
      clear r1 r2 r3 hk hrt HR HP2 HPR HTX
      go_enter Tryd.func7, Tryd.ntmps7
      go_wp2_with (first
        | (go_at_call 20; refine (HB.out _ B1.out).mono ?_; rintro e w2 ⟨b, rfl, HX⟩
           have B2 : Bx (Below H w w2) := ⟨B1.out.trans (HX.out.2.mono (Nat.le_of_lt l1))⟩
           have e2 := below_heap HX.out.2 Q1.out
           have Q2 : Bx _ := ⟨e2⟩
           have l2 : H < w2.heap.size := (Array.getElem?_eq_some_iff.1 e2).1
           have d0 : w2.cell? ⟨H, 0, none⟩ = some (.slice pa np pc) := cell_blk e2 rfl
           have d1 : w2.cell? ⟨H, 1, none⟩ = some (.slice ta nt tc) := cell_blk e2 rfl
           clear e2 HB
           cases b)
        | (go_at_call 9; refine (HS.out _ B2.out).mono ?_; rintro e w3 ⟨rfl, HY⟩
           have e3 := below_heap HY.out.2 Q2.out
           have Q3 : Bx _ := ⟨e3⟩
           have l3 : H < w3.heap.size := (Array.getElem?_eq_some_iff.1 e3).1
           have f0 : w3.cell? ⟨H, 0, none⟩ = some (.slice pa np pc) := cell_blk e3 rfl
           have f1 : w3.cell? ⟨H, 1, none⟩ = some (.slice ta nt tc) := cell_blk e3 rfl
           clear e3 HS)
        | (go_at_call 22; refine (HP.out (HX.out.1 (by first | rfl | trivial)) _ HY.out.1).mono ?_; rintro e w4 ⟨rfl, HZ⟩
           have e4 := below_heap HZ.out.2 Q3.out
           have Q4 : Bx _ := ⟨e4⟩
           have hsl : su.length ≤ 549755813888 := HTU.out (HX.out.1 (by first | rfl | trivial))
           clear e4 HP)
        | (go_at_call 26; refine (HR1.out _ HZ.out.1 hsl).mono ?_; rintro e w5 ⟨pa1, pc1, ta1, tc1, rfl, HV⟩
           obtain ⟨W5, hW5⟩ : ∃ X, w5.alloc (.cells #[.slice pa1 np pc1, .slice ta1 nt tc1] 36) = X := ⟨_, rfl⟩
           have b5 : Below w5.heap.size w5 W5 := (by rw [← hW5]; exact below1 w5 _)
           have q5 : W5.heap[w5.heap.size]? = some (.cells #[.slice pa1 np pc1, .slice ta1 nt tc1] 36 (0, 0)) := (by rw [← hW5]; exact heap_alloc_new w5 _)
           have e5 := below_heap b5 (below_heap HV.out.2.2 Q4.out)
           have Q5 : Bx _ := ⟨e5⟩
           have B5 : Bx (Below H w W5) := ⟨HV.out.2.1.trans (b5.mono (by have := (Array.getElem?_eq_some_iff.1 (below_heap HV.out.2.2 Q4.out)).1; omega))⟩
           have hun : Bx (UnIn W5 W5.heap.size pa1 pc1 ta1 tc1 u) := ⟨unIn_alloc HV.out.1 b5⟩
           have g0 : W5.cell? ⟨w5.heap.size, 0, none⟩ = some (.slice pa1 np pc1) := cell_blk q5 rfl
           have g1 : W5.cell? ⟨w5.heap.size, 1, none⟩ = some (.slice ta1 nt tc1) := cell_blk q5 rfl
           have h0 : W5.cell? ⟨H, 0, none⟩ = some (.slice pa np pc) := cell_blk e5 rfl
           have h1 : W5.cell? ⟨H, 1, none⟩ = some (.slice ta nt tc) := cell_blk e5 rfl
           have l5 : H < W5.heap.size := (Array.getElem?_eq_some_iff.1 e5).1
           have l6 : w5.heap.size < W5.heap.size := (Array.getElem?_eq_some_iff.1 q5).1
           clear e5 q5 b5 HR1)
        | (go_at_call 28; refine (HSU.out _ _ _ _ _ B5.out hun.out).mono ?_; rintro e w6 ⟨rfl, H6⟩; clear HSU)
        | (go_at_call 26; refine (HR2.out _ H6.out).mono ?_; rintro e w7 ⟨pa2, pc2, ta2, tc2, rfl, HV2⟩
           obtain ⟨W7, hW7⟩ : ∃ X, w7.alloc (.cells #[.slice pa2 0 pc2, .slice ta2 0 tc2] 36) = X := ⟨_, rfl⟩
           have b7 : Below w7.heap.size w7 W7 := (by rw [← hW7]; exact below1 w7 _)
           have q7 : W7.heap[w7.heap.size]? = some (.cells #[.slice pa2 0 pc2, .slice ta2 0 tc2] 36 (0, 0)) := (by rw [← hW7]; exact heap_alloc_new w7 _)
           have B7 : Bx (Below H w W7) := ⟨HV2.out.trans (b7.mono (by have := HV2.out.size; omega))⟩
           have k0 : W7.cell? ⟨w7.heap.size, 0, none⟩ = some (.slice pa2 0 pc2) := cell_blk q7 rfl
           have k1 : W7.cell? ⟨w7.heap.size, 1, none⟩ = some (.slice ta2 0 tc2) := cell_blk q7 rfl
           have l7 : w7.heap.size < W7.heap.size := (Array.getElem?_eq_some_iff.1 q7).1
           clear q7 b7 HR2))
      · go_ret
        exact ⟨rfl, B7.out⟩
      · go_ret
        exact ⟨rfl, B2.out⟩
end Go.Proofs.YtijdcplffmdijaaDoor
