import Derived.Test.YtjabdhmkibahlaaCRfTa
import Derived.Test.YtjabdhmkibahlaaCHA
import Derived.Deep.MidRow
namespace Go.Proofs.Ytjabdhmkibahlaa
open Go.RowKit
set_option linter.unusedVariables false
set_option linter.unusedSimpArgs false

def rtPost (w : World) (s : List Ag) (l : Lk) (e : Ending) (w' : World) : Prop := Below w.heap.size w w' ∧
  ((stOk s = false ∧ e = .returned (.tuple #[.slice none 0 0, .int .i64 140])) ∨
   (stOk s = true ∧ rfI s l = false ∧ e = .returned (.tuple #[.slice none 0 0, .int .i64 141])) ∨
   (stOk s = true ∧ rfI s l = true ∧ ∃ v cs, e = .returned (.tuple #[v, .int .i64 0]) ∧ w'.ownsRow w.heap.size 53 4 v s.length cs ∧ AgC w' w.heap.size (s.map (tkA l)) cs))
/-- the rows of one more agent -/
theorem app_held {H0 : Nat} {w0 : World} {id : Int} {aw : Bool} {arms : List Hd} {held : List Int} {pa ph : Option Addr} {ca ch : Nat} (hz : w0.heap.size = H0) (hA : AgR w0 ⟨id, aw, arms, held⟩ pa ca ph ch) (hl : held.length ≤ 2147483647) :
    ∀ w v0, Below H0 w0 w → w.ownsRow H0 3 1 v0 0 [] → ∃ v' W3, (∀ ty, (Builtin.append_ #[45, 45] ty #[v0, .slice ph held.length ch]).run Try.prog w = .ok v' W3) ∧ W3.ownsRow H0 3 1 v' held.length (rowC held) ∧ w.grownBy W3 v0.ownBlock := fun w v0 hb ho => by
  obtain ⟨i0, hi0, iz0, iz1, iz2⟩ := info_parts infoI
  have hA2 := hA.later (w' := w) (by rw [hz]; exact hb)
  obtain ⟨v3, W3, r3, n3, g3⟩ := appL Try.underlying45 hi0 iz0 iz1 iz2 rfl (by decide) w H0 v0 0 [] ho ph held.length ch (rowC held) (by rw [rowC_ln, Nat.mul_one]) hA2.held.news (rowC_on _) (by unfold maxLen; omega) (by omega) (by rw [← hz]; exact hb.size)
  rw [List.nil_append, Nat.zero_add] at n3
  exact ⟨v3, W3, r3, n3, g3⟩
theorem app_arms {H0 : Nat} {w0 : World} {id : Int} {aw : Bool} {arms : List Hd} {held : List Int} {pa ph : Option Addr} {ca ch : Nat} (hz : w0.heap.size = H0) (hA : AgR w0 ⟨id, aw, arms, held⟩ pa ca ph ch) (hl : arms.length ≤ 2147483647) :
    ∀ w v0, Below H0 w0 w → w.ownsRow H0 58 2 v0 0 [] → ∃ v' W3, (∀ ty, (Builtin.append_ #[51, 51] ty #[v0, .slice pa arms.length ca]).run Try.prog w = .ok v' W3) ∧ W3.ownsRow H0 58 2 v' arms.length (hdsC arms) ∧ w.grownBy W3 v0.ownBlock := fun w v0 hb ho => by
  obtain ⟨i0, hi0, iz0, iz1, iz2⟩ := info_parts infoH
  have hA2 := hA.later (w' := w) (by rw [hz]; exact hb)
  obtain ⟨v3, W3, r3, n3, g3⟩ := appL Try.underlying51 hi0 iz0 iz1 iz2 rfl (by decide) w H0 v0 0 [] ho pa arms.length ca (hdsC arms) (hdsC_len _) hA2.arms.news (hdsC_one _) (by unfold maxLen; omega) (by omega) (by rw [← hz]; exact hb.size)
  rw [List.nil_append, Nat.zero_add] at n3
  exact ⟨v3, W3, r3, n3, g3⟩
/-- Take's row under way -/
structure TkO (w W : World) (H : Nat) (v : Value) (gs : List Ag) (l : Lk) : Prop where
  row : ∃ cs, W.ownsRow H 53 4 v gs.length cs ∧ AgC W H gs cs
  bel : Below H w W
  blk : W.heap[H]? = some (lkB l)
set_option maxHeartbeats 1000000 in
theorem TkO.add {w wr WZ : World} {H : Nat} {v7 : Value} {gs : List Ag} {l : Lk} (h : TkO w wr H v7 gs l) (hH : w.heap.size = H) (hb : Below wr.heap.size wr WZ) {a' : Ag} (h6 : Ag64 a') {ap hp : Option Addr} {ac hc : Nat} (oa : WZ.ownsRow wr.heap.size 58 2 (.slice ap a'.arms.length ac) a'.arms.length (hdsC a'.arms)) (oh : WZ.ownsRow wr.heap.size 3 1 (.slice hp a'.held.length hc) a'.held.length (rowC a'.held)) (hl : gs.length ≤ 2147483647) :
    ∃ g c W3, (∀ ty, (Builtin.append_ #[22, 22] ty #[v7, .slice (some ⟨WZ.heap.size, 0, none⟩) 1 1]).run Try.prog (WZ.alloc (.cells #[.int .i64 a'.id, .bool a'.awake, .slice ap a'.arms.length ac, .slice hp a'.held.length hc] 53)) = .ok (.slice (some ⟨g, 0, none⟩) (gs.length + 1) c) W3) ∧ TkO w W3 H (.slice (some ⟨g, 0, none⟩) (gs.length + 1) c) (gs ++ [a']) l := by
  obtain ⟨cs, ho, hc'⟩ := h.row
  have hHr : H ≤ wr.heap.size := by have := h.bel.size; rw [hH] at this; exact this
  have hz := hb.size
  have hoZ := own_new ho hb
  obtain ⟨k0, hk0, kz0, kz1, kz2⟩ := info_parts infoG
  obtain ⟨g, c, W3, r1, n1, g1, _, _⟩ := app1 Try.underlying22 hk0 kz0 kz1 kz2 rfl (by decide) WZ H v7 gs.length _ hoZ #[.int .i64 a'.id, .bool a'.awake, .slice ap a'.arms.length ac, .slice hp a'.held.length hc] rfl (by simp [Value.oneCell']) (by unfold maxLen; omega) (by omega) (by omega)
  have kg : KA WZ W3 := KA.grown hoZ g1
  have kr : KA wr W3 := (KA.below hb).trans kg
  refine ⟨g, c, W3, r1, ⟨⟨_, by rw [List.length_append]; exact n1, AgC.add ?_ (hc'.keep kr)⟩, h.bel.trans ((hb.mono hHr).trans ((Below.refl _ _).grown g1 (by omega) fun k hk => (owns_block hoZ hk).1)), kr.cells h.blk (by decide)⟩⟩
  exact ⟨ap, ac, hp, hc, rfl, h6.id, h6.arms, h6.held, kg.own (own_low oa hHr) (by decide), kg.own (own_low oh hHr) (by decide)⟩
set_option maxRecDepth 100000 in
set_option maxHeartbeats 8000000 in
theorem rTake_any (w : World) (p : Option Addr) (c : Nat) (s : List Ag) (l : Lk) (h : AgsR w p c s) (ht : totA s ≤ 2147483647) (h64 : Lk64 l) :
    Calls Try.prog 19 #[.slice p s.length c, lkV l] w (rtPost w s l) := by
  obtain ⟨lr, ln, lc⟩ := l
  simp only [lkV]
  unfold rtPost
  obtain ⟨H, hH⟩ : ∃ H, w.heap.size = H := ⟨_, rfl⟩
  rw [hH]
  have hlc := h.len
  have hcm := h.max
  unfold maxLen at hcm
  obtain ⟨W, hW⟩ : ∃ W, w.alloc (lkB ⟨lr, ln, lc⟩) = W := ⟨_, rfl⟩
  have hb : Below H w W := by rw [← hW, ← hH]; exact below1 _ _
  have hblk : W.heap[H]? = some (lkB ⟨lr, ln, lc⟩) := by rw [← hW]; exact heap_newH _ _ _ hH
  have HBK : Bx (∀ Y, Below W.heap.size W Y → Y.heap[H]? = some (lkB ⟨lr, ln, lc⟩)) := ⟨fun Y hY => (hY.block _ (heap_lt hblk)).trans hblk⟩
  have BW : Bx (Below H w W) := ⟨hb⟩
  have HW : Bx (_ = W) := ⟨hW⟩
  have HS : Bx (AgsR w p c s) := ⟨h⟩
  have HLT : Bx (∀ i (h : i < s.length), s[i].arms.length ≤ 2147483647 ∧ s[i].held.length ≤ 2147483647) := ⟨fun i hi => by
    have := few_of ht s[i] (List.getElem_mem hi)
    exact ⟨this.2, this.1⟩⟩
  have hsl : s.length ≤ 2147483647 := by
    have key : ∀ l : List Ag, l.length ≤ totA l := fun l => by
      induction l with
      | nil => simp
      | cons a r ih => simp only [totA, List.length_cons]; omega
    have := key s
    omega
  have HK : Bx (∀ Y, Below W.heap.size W Y → Calls Try.prog 13 #[.slice p s.length c] Y fun e w' => e = .returned (.int .i64 (chkI s)) ∧ Below Y.heap.size Y w') := ⟨fun Y hY => rcheck_any Y p c s (h.later (by rw [hH]; exact hb.trans (hY.mono (by rw [← hH]; exact hb.size))))⟩
  have HF : Bx (∀ Y, Below W.heap.size W Y → Calls Try.prog 44 #[.slice p s.length c, .agg #[.int .i64 lr, .int .i64 ln, .int .i64 lc]] Y fun e w' => e = .returned (.bool (rfI s ⟨lr, ln, lc⟩)) ∧ Below Y.heap.size Y w') := ⟨fun Y hY => rfits_any Y p c s ⟨lr, ln, lc⟩ (h.later (by rw [hH]; exact hb.trans (hY.mono (by rw [← hH]; exact hb.size)))) h64⟩
  have hWs : H ≤ W.heap.size := by rw [← hH]; exact hb.size
  have BE : Bx (∀ Y, Below W.heap.size W Y → Below H w Y) := ⟨fun Y hY => hb.trans (hY.mono hWs)⟩
  clear h ht h64 hW hb hblk
  cases hok : stOk s with
  | false =>
    rw [show chkI s = 140 by simp [chkI, hok]] at HK
    clear hok HF
    go_enter Try.func19, Try.ntmps19
    go_wp2_with (first
      | (go_at_call 13; rw [HW.out]; refine Calls.mono (HK.out _ (Below.refl _ _)) ?_; rintro e w1 ⟨rfl, hb1⟩; have B1 : Bx _ := ⟨hb1⟩; clear hb1))
    go_ret2
    exact ⟨BE.out _ B1.out, .inl ⟨trivial, rfl⟩⟩
  | true =>
  rw [show chkI s = 0 by simp [chkI, hok]] at HK
  clear hok
  cases hrf : rfI s ⟨lr, ln, lc⟩ with
  | false =>
    rw [hrf] at HF
    clear hrf
    go_enter Try.func19, Try.ntmps19
    go_wp2_with (first
      | (go_at_call 13; rw [HW.out]; refine Calls.mono (HK.out _ (Below.refl _ _)) ?_; rintro e w1 ⟨rfl, hb1⟩; have B1 : Bx (Below W.heap.size W w1) := ⟨hb1⟩; have m0 := cell_blk (i := 0) (HBK.out w1 hb1) rfl; have m1 := cell_blk (i := 1) (HBK.out w1 hb1) rfl; have m2 := cell_blk (i := 2) (HBK.out w1 hb1) rfl; clear hb1)
      | (go_at_call 44; refine Calls.mono (HF.out _ B1.out) ?_; rintro e w2 ⟨rfl, hb2⟩; have B2 : Bx (Below W.heap.size W w2) := ⟨blz B1.out hb2⟩; clear hb2))
    go_ret2
    exact ⟨BE.out _ B2.out, .inr (.inl ⟨trivial, trivial, rfl⟩)⟩
  | true =>
  rw [hrf] at HF
  clear hrf
  go_enter Try.func19, Try.ntmps19
  go_wp2_with (first
    | (go_at_call 13; rw [HW.out]; refine Calls.mono (HK.out _ (Below.refl _ _)) ?_; rintro e w1 ⟨rfl, hb1⟩; have B1 : Bx (Below W.heap.size W w1) := ⟨hb1⟩; have m0 := cell_blk (i := 0) (HBK.out w1 hb1) rfl; have m1 := cell_blk (i := 1) (HBK.out w1 hb1) rfl; have m2 := cell_blk (i := 2) (HBK.out w1 hb1) rfl; clear hb1)
    | (go_at_call 44; refine Calls.mono (HF.out _ B1.out) ?_; rintro e w2 ⟨rfl, hb2⟩; have B2 : Bx (Below W.heap.size W w2) := ⟨blz B1.out hb2⟩; clear hb2))
  have O0 : Bx (TkO w (w2.alloc (.cells #[] 53)) H (.slice (some ⟨w2.heap.size, 0, none⟩) 0 0) [] ⟨lr, ln, lc⟩) := (by
    have hz2 := (BE.out w2 B2.out).size
    rw [hH] at hz2
    exact ⟨⟨⟨[], ⟨rfl, .inr ⟨w2.heap.size, 0, #[], rfl, hz2, heap_newH _ _ _ rfl, Nat.le_refl _, by simp [maxLen], rfl, rfl⟩⟩, rfl⟩, (BE.out w2 B2.out).trans ((below1 _ _).mono hz2), ((below1 w2 _).block _ (heap_lt (HBK.out w2 B2.out))).trans (HBK.out w2 B2.out)⟩⟩)
  clear HK HF B1 m0 m1 m2
  go_loopg [7, 8] (s.length + 1) (fun g v7 v8 wr => ∃ (i : Nat) (vv : Value), g = s.length + 1 - i ∧ i ≤ s.length ∧ v8 = .int .i64 i ∧ vv = v7 ∧ Bx (TkO w wr H vv ((s.take i).map (tkA ⟨lr, ln, lc⟩)) ⟨lr, ln, lc⟩))
  case atStart => exact ⟨0, _, by simp, by omega, rfl, rfl, ⟨by simpa using O0.out⟩⟩
  case round =>
    obtain ⟨i, v7, hg, hil, rfl, rfl, HI⟩ := hrel
    clear O0 B2
    by_cases hlt : i < s.length
    · obtain ⟨b, o, pa, ca, ph, ch, rfl, hA, hcl⟩ := HS.out.at_ i hlt
      have HA0 : Bx (AgR w s[i] pa ca ph ch) := ⟨hA⟩
      have HCL0 : Bx (∀ V, Below H w V → V.cell? ⟨b, o + i * 4, none⟩ = some (.int .i64 s[i].id) ∧ V.cell? ⟨b, o + i * 4 + 1, none⟩ = some (.bool s[i].awake) ∧ V.cell? ⟨b, o + i * 4 + 2, none⟩ = some (.slice pa s[i].arms.length ca) ∧ V.cell? ⟨b, o + i * 4 + 3, none⟩ = some (.slice ph s[i].held.length ch)) := ⟨fun V hV => hcl V (by rw [hH]; exact hV)⟩
      have HTK : Bx ((s.take (i + 1)).map (tkA ⟨lr, ln, lc⟩) = (s.take i).map (tkA ⟨lr, ln, lc⟩) ++ [tkA ⟨lr, ln, lc⟩ s[i]]) := ⟨by rw [List.take_succ_eq_append_getElem hlt, List.map_append]; rfl⟩
      have hln := HLT.out i hlt
      have hgl : ((s.take i).map (tkA ⟨lr, ln, lc⟩)).length = i := by simp; omega
      clear hcl hA HS
      have hiI : (i : Int) < (s.length : Int) := by omega
      have hi0 : (0 : Int) ≤ (i : Int) := by omega
      obtain ⟨gs, hgs⟩ : ∃ gs, (s.take i).map (tkA ⟨lr, ln, lc⟩) = gs := ⟨_, rfl⟩
      rw [hgs] at HI HTK hgl
      clear hgs
      generalize s[i] = a at *
      obtain ⟨id, aw, arms, held⟩ := a
      simp only at HCL0 hln
      have hzr : wr.heap.size = wr.heap.size := rfl
      have HAI : Bx _ := ⟨app_held (w0 := wr) hzr (HA0.out.later (by rw [hH]; exact HI.out.bel)) hln.2⟩
      have HAH : Bx _ := ⟨app_arms (w0 := wr) hzr (HA0.out.later (by rw [hH]; exact HI.out.bel)) hln.1⟩
      have hHr : H ≤ wr.heap.size := by have := HI.out.bel.size; rw [hH] at this; exact this
      have HCL : Bx (∀ V, Below wr.heap.size wr V → V.cell? ⟨b, o + i * 4, none⟩ = some (.int .i64 id) ∧ V.cell? ⟨b, o + i * 4 + 1, none⟩ = some (.bool aw) ∧ V.cell? ⟨b, o + i * 4 + 2, none⟩ = some (.slice pa arms.length ca) ∧ V.cell? ⟨b, o + i * 4 + 3, none⟩ = some (.slice ph held.length ch)) := ⟨fun V hV => HCL0.out V (HI.out.bel.trans (hV.mono hHr))⟩
      obtain ⟨n, hn⟩ : ∃ n, n = arms.length := ⟨_, rfl⟩
      obtain ⟨m, hm⟩ : ∃ m, m = held.length := ⟨_, rfl⟩
      rw [← hn, ← hm] at HCL
      rw [← hm] at HAI
      rw [← hn] at HAH
      clear HCL0
      go_wp2
      obtain ⟨CV, hCV⟩ : ∃ CV, CV = cvT b o c i s.length id aw ph m ch pa n ca := ⟨_, rfl⟩
      refine region_flowV (TkS wr wr.heap.size (cvT b o c i s.length id aw ph m ch pa n ca) id aw arms held) (by kernel_rfl) (by decide +kernel) ⟨(Below.refl _ _).drew, rfl, (fun _ _ h => by cases h), (fun _ h => by cases h), (fun _ h => by cases h), (fun _ h => by cases h), (fun _ h => by cases h), (fun _ h => by cases h), (fun _ h => by cases h), fun _ h => by cases h⟩ ?stp ?fin
      case stp =>
        intro u wz j op bb hS hnu ho hdep hA
        rcases j with _ | _ | _ | _ | _ | _ | _ | _ | _ | _ | _ | _ | _ | _ | _ | _ | _ | _ | _ | _ | _ | _ | _ | _ | _ | _ | _ | j
        · simp only [List.getElem?_cons_succ, List.getElem?_cons_zero, Option.some.injEq] at ho
          subst ho
          have e0 := hA.was (t := 0) (by decide +kernel)
          simp only [Act.eval] at e0
          refine ⟨rfl, .inl ⟨.slice (some ⟨b, o, none⟩) s.length c, wz, ?_, hS.pure (by decide) rfl⟩⟩
          simp only [execOp, e0]
          go_simp
          try rfl
        · simp only [List.getElem?_cons_succ, List.getElem?_cons_zero, Option.some.injEq] at ho
          subst ho
          have e0 := hA.was (t := 8) (by decide +kernel)
          simp only [Act.eval] at e0
          refine ⟨rfl, .inl ⟨.int .i64 i, wz, ?_, hS.pure (by decide) rfl⟩⟩
          simp only [execOp, e0]
          go_simp
          try rfl
        · simp only [List.getElem?_cons_succ, List.getElem?_cons_zero, Option.some.injEq] at ho
          subst ho
          have e0 := hA.at_ (j := 0) (t := 26) rfl rfl (hS.get (hdep ⟨0, Ground.data⟩ (by simp) rfl) (c := .slice (some ⟨b, o, none⟩) s.length c) rfl) (Nat.le_of_ble_eq_true rfl)
          have e1 := hA.at_ (j := 1) (t := 27) rfl rfl (hS.get (hdep ⟨1, Ground.data⟩ (by simp) rfl) (c := .int .i64 i) rfl) (Nat.le_of_ble_eq_true rfl)
          refine ⟨rfl, .inl ⟨.pointer (some ⟨b, o + i * 4, none⟩), wz, ?_, hS.pure (by decide) rfl⟩⟩
          simp only [execOp, e0, e1]
          go_simp
          try rfl
        · simp only [List.getElem?_cons_succ, List.getElem?_cons_zero, Option.some.injEq] at ho
          subst ho
          have e2 := hA.at_ (j := 2) (t := 28) rfl rfl (hS.get (hdep ⟨2, Ground.data⟩ (by simp) rfl) (c := .pointer (some ⟨b, o + i * 4, none⟩)) rfl) (Nat.le_of_ble_eq_true rfl)
          refine ⟨rfl, .inl ⟨.pointer (some ⟨b, o + i * 4, none⟩), wz, ?_, hS.pure (by decide) rfl⟩⟩
          simp only [execOp, e2]
          go_simp
          try rfl
        · simp only [List.getElem?_cons_succ, List.getElem?_cons_zero, Option.some.injEq] at ho
          subst ho
          have e3 := hA.at_ (j := 3) (t := 29) rfl rfl (hS.get (hdep ⟨3, Ground.data⟩ (by simp) rfl) (c := .pointer (some ⟨b, o + i * 4, none⟩)) rfl) (Nat.le_of_ble_eq_true rfl)
          obtain ⟨k0, k1, k2, k3⟩ := HCL.out wz hS.bel
          refine ⟨rfl, .inl ⟨.int .i64 id, wz, ?_, hS.pure (by decide) rfl⟩⟩
          simp only [execOp, e3]
          go_simp
          try rfl
        · simp only [List.getElem?_cons_succ, List.getElem?_cons_zero, Option.some.injEq] at ho
          subst ho
          have e0 := hA.was (t := 0) (by decide +kernel)
          simp only [Act.eval] at e0
          refine ⟨rfl, .inl ⟨.slice (some ⟨b, o, none⟩) s.length c, wz, ?_, hS.pure (by decide) rfl⟩⟩
          simp only [execOp, e0]
          go_simp
          try rfl
        · simp only [List.getElem?_cons_succ, List.getElem?_cons_zero, Option.some.injEq] at ho
          subst ho
          have e0 := hA.was (t := 8) (by decide +kernel)
          simp only [Act.eval] at e0
          refine ⟨rfl, .inl ⟨.int .i64 i, wz, ?_, hS.pure (by decide) rfl⟩⟩
          simp only [execOp, e0]
          go_simp
          try rfl
        · simp only [List.getElem?_cons_succ, List.getElem?_cons_zero, Option.some.injEq] at ho
          subst ho
          have e5 := hA.at_ (j := 5) (t := 31) rfl rfl (hS.get (hdep ⟨5, Ground.data⟩ (by simp) rfl) (c := .slice (some ⟨b, o, none⟩) s.length c) rfl) (Nat.le_of_ble_eq_true rfl)
          have e6 := hA.at_ (j := 6) (t := 32) rfl rfl (hS.get (hdep ⟨6, Ground.data⟩ (by simp) rfl) (c := .int .i64 i) rfl) (Nat.le_of_ble_eq_true rfl)
          refine ⟨rfl, .inl ⟨.pointer (some ⟨b, o + i * 4, none⟩), wz, ?_, hS.pure (by decide) rfl⟩⟩
          simp only [execOp, e5, e6]
          go_simp
          try rfl
        · simp only [List.getElem?_cons_succ, List.getElem?_cons_zero, Option.some.injEq] at ho
          subst ho
          have e7 := hA.at_ (j := 7) (t := 33) rfl rfl (hS.get (hdep ⟨7, Ground.data⟩ (by simp) rfl) (c := .pointer (some ⟨b, o + i * 4, none⟩)) rfl) (Nat.le_of_ble_eq_true rfl)
          refine ⟨rfl, .inl ⟨.pointer (some ⟨b, o + i * 4 + 1, none⟩), wz, ?_, hS.pure (by decide) rfl⟩⟩
          simp only [execOp, e7]
          go_simp
          try rfl
        · simp only [List.getElem?_cons_succ, List.getElem?_cons_zero, Option.some.injEq] at ho
          subst ho
          have e8 := hA.at_ (j := 8) (t := 34) rfl rfl (hS.get (hdep ⟨8, Ground.data⟩ (by simp) rfl) (c := .pointer (some ⟨b, o + i * 4 + 1, none⟩)) rfl) (Nat.le_of_ble_eq_true rfl)
          obtain ⟨k0, k1, k2, k3⟩ := HCL.out wz hS.bel
          refine ⟨rfl, .inl ⟨.bool aw, wz, ?_, hS.pure (by decide) rfl⟩⟩
          simp only [execOp, e8]
          go_simp
          try rfl
        · simp only [List.getElem?_cons_succ, List.getElem?_cons_zero, Option.some.injEq] at ho
          subst ho
          refine ⟨rfl, .inl ⟨.slice (some ⟨wz.heap.size, 0, none⟩) 0 0, wz.alloc (.cells #[] 3), ?_, hS.s10 hnu rfl⟩⟩
          simp only [execOp]
          go_simp
          try rfl
        · simp only [List.getElem?_cons_succ, List.getElem?_cons_zero, Option.some.injEq] at ho
          subst ho
          have e0 := hA.was (t := 0) (by decide +kernel)
          simp only [Act.eval] at e0
          refine ⟨rfl, .inl ⟨.slice (some ⟨b, o, none⟩) s.length c, wz, ?_, hS.pure (by decide) rfl⟩⟩
          simp only [execOp, e0]
          go_simp
          try rfl
        · simp only [List.getElem?_cons_succ, List.getElem?_cons_zero, Option.some.injEq] at ho
          subst ho
          have e0 := hA.was (t := 8) (by decide +kernel)
          simp only [Act.eval] at e0
          refine ⟨rfl, .inl ⟨.int .i64 i, wz, ?_, hS.pure (by decide) rfl⟩⟩
          simp only [execOp, e0]
          go_simp
          try rfl
        · simp only [List.getElem?_cons_succ, List.getElem?_cons_zero, Option.some.injEq] at ho
          subst ho
          have e11 := hA.at_ (j := 11) (t := 37) rfl rfl (hS.get (hdep ⟨11, Ground.data⟩ (by simp) rfl) (c := .slice (some ⟨b, o, none⟩) s.length c) rfl) (Nat.le_of_ble_eq_true rfl)
          have e12 := hA.at_ (j := 12) (t := 38) rfl rfl (hS.get (hdep ⟨12, Ground.data⟩ (by simp) rfl) (c := .int .i64 i) rfl) (Nat.le_of_ble_eq_true rfl)
          refine ⟨rfl, .inl ⟨.pointer (some ⟨b, o + i * 4, none⟩), wz, ?_, hS.pure (by decide) rfl⟩⟩
          simp only [execOp, e11, e12]
          go_simp
          try rfl
        · simp only [List.getElem?_cons_succ, List.getElem?_cons_zero, Option.some.injEq] at ho
          subst ho
          have e13 := hA.at_ (j := 13) (t := 39) rfl rfl (hS.get (hdep ⟨13, Ground.data⟩ (by simp) rfl) (c := .pointer (some ⟨b, o + i * 4, none⟩)) rfl) (Nat.le_of_ble_eq_true rfl)
          refine ⟨rfl, .inl ⟨.pointer (some ⟨b, o + i * 4 + 3, none⟩), wz, ?_, hS.pure (by decide) rfl⟩⟩
          simp only [execOp, e13]
          go_simp
          try rfl
        · simp only [List.getElem?_cons_succ, List.getElem?_cons_zero, Option.some.injEq] at ho
          subst ho
          have e14 := hA.at_ (j := 14) (t := 40) rfl rfl (hS.get (hdep ⟨14, Ground.data⟩ (by simp) rfl) (c := .pointer (some ⟨b, o + i * 4 + 3, none⟩)) rfl) (Nat.le_of_ble_eq_true rfl)
          obtain ⟨k0, k1, k2, k3⟩ := HCL.out wz hS.bel
          refine ⟨rfl, .inl ⟨.slice ph m ch, wz, ?_, hS.pure (by decide) rfl⟩⟩
          simp only [execOp, e14]
          go_simp
          try rfl
        · simp only [List.getElem?_cons_succ, List.getElem?_cons_zero, Option.some.injEq] at ho
          subst ho
          obtain ⟨v0, hv0⟩ := hdep ⟨10, Ground.data⟩ (by simp) rfl
          have e36 := hA.at_ (j := 10) (t := 36) rfl rfl hv0 (Nat.le_of_ble_eq_true rfl)
          have e41 := hA.at_ (j := 15) (t := 41) rfl rfl (hS.get (hdep ⟨15, Ground.data⟩ (by simp) rfl) (c := .slice ph m ch) rfl) (Nat.le_of_ble_eq_true rfl)
          obtain ⟨v1, W1, r1, o1, g1⟩ := HAI.out wz v0 hS.bel (hS.p10 v0 hv0 hnu)
          refine ⟨rfl, .inl ⟨v1, W1, ?_, hS.s16 hnu rfl hv0 (by rw [← hm]; exact o1) g1⟩⟩
          simp [execOp, resolve, invoke, builtin, e36, e41, r1, Result.andThen]
        · simp only [List.getElem?_cons_succ, List.getElem?_cons_zero, Option.some.injEq] at ho
          subst ho
          refine ⟨rfl, .inl ⟨.slice (some ⟨wz.heap.size, 0, none⟩) 0 0, wz.alloc (.cells #[] 58), ?_, hS.s17 hnu rfl⟩⟩
          simp only [execOp]
          go_simp
          try rfl
        · simp only [List.getElem?_cons_succ, List.getElem?_cons_zero, Option.some.injEq] at ho
          subst ho
          have e0 := hA.was (t := 0) (by decide +kernel)
          simp only [Act.eval] at e0
          refine ⟨rfl, .inl ⟨.slice (some ⟨b, o, none⟩) s.length c, wz, ?_, hS.pure (by decide) rfl⟩⟩
          simp only [execOp, e0]
          go_simp
          try rfl
        · simp only [List.getElem?_cons_succ, List.getElem?_cons_zero, Option.some.injEq] at ho
          subst ho
          have e0 := hA.was (t := 8) (by decide +kernel)
          simp only [Act.eval] at e0
          refine ⟨rfl, .inl ⟨.int .i64 i, wz, ?_, hS.pure (by decide) rfl⟩⟩
          simp only [execOp, e0]
          go_simp
          try rfl
        · simp only [List.getElem?_cons_succ, List.getElem?_cons_zero, Option.some.injEq] at ho
          subst ho
          have e18 := hA.at_ (j := 18) (t := 44) rfl rfl (hS.get (hdep ⟨18, Ground.data⟩ (by simp) rfl) (c := .slice (some ⟨b, o, none⟩) s.length c) rfl) (Nat.le_of_ble_eq_true rfl)
          have e19 := hA.at_ (j := 19) (t := 45) rfl rfl (hS.get (hdep ⟨19, Ground.data⟩ (by simp) rfl) (c := .int .i64 i) rfl) (Nat.le_of_ble_eq_true rfl)
          refine ⟨rfl, .inl ⟨.pointer (some ⟨b, o + i * 4, none⟩), wz, ?_, hS.pure (by decide) rfl⟩⟩
          simp only [execOp, e18, e19]
          go_simp
          try rfl
        · simp only [List.getElem?_cons_succ, List.getElem?_cons_zero, Option.some.injEq] at ho
          subst ho
          have e20 := hA.at_ (j := 20) (t := 46) rfl rfl (hS.get (hdep ⟨20, Ground.data⟩ (by simp) rfl) (c := .pointer (some ⟨b, o + i * 4, none⟩)) rfl) (Nat.le_of_ble_eq_true rfl)
          refine ⟨rfl, .inl ⟨.pointer (some ⟨b, o + i * 4 + 2, none⟩), wz, ?_, hS.pure (by decide) rfl⟩⟩
          simp only [execOp, e20]
          go_simp
          try rfl
        · simp only [List.getElem?_cons_succ, List.getElem?_cons_zero, Option.some.injEq] at ho
          subst ho
          have e21 := hA.at_ (j := 21) (t := 47) rfl rfl (hS.get (hdep ⟨21, Ground.data⟩ (by simp) rfl) (c := .pointer (some ⟨b, o + i * 4 + 2, none⟩)) rfl) (Nat.le_of_ble_eq_true rfl)
          obtain ⟨k0, k1, k2, k3⟩ := HCL.out wz hS.bel
          refine ⟨rfl, .inl ⟨.slice pa n ca, wz, ?_, hS.pure (by decide) rfl⟩⟩
          simp only [execOp, e21]
          go_simp
          try rfl
        · simp only [List.getElem?_cons_succ, List.getElem?_cons_zero, Option.some.injEq] at ho
          subst ho
          obtain ⟨v0, hv0⟩ := hdep ⟨17, Ground.data⟩ (by simp) rfl
          have e43 := hA.at_ (j := 17) (t := 43) rfl rfl hv0 (Nat.le_of_ble_eq_true rfl)
          have e48 := hA.at_ (j := 22) (t := 48) rfl rfl (hS.get (hdep ⟨22, Ground.data⟩ (by simp) rfl) (c := .slice pa n ca) rfl) (Nat.le_of_ble_eq_true rfl)
          obtain ⟨v1, W1, r1, o1, g1⟩ := HAH.out wz v0 hS.bel (hS.p17 v0 hv0 hnu)
          refine ⟨rfl, .inl ⟨v1, W1, ?_, hS.s23 hnu rfl hv0 (by rw [← hn]; exact o1) g1⟩⟩
          simp [execOp, resolve, invoke, builtin, e43, e48, r1, Result.andThen]
        · simp only [List.getElem?_cons_succ, List.getElem?_cons_zero, Option.some.injEq] at ho
          subst ho
          obtain ⟨x, hx⟩ := hdep ⟨16, Ground.data⟩ (by simp) rfl
          obtain ⟨y, hy⟩ := hdep ⟨23, Ground.data⟩ (by simp) rfl
          have e30 := hA.at_ (j := 4) (t := 30) rfl rfl (hS.get (hdep ⟨4, Ground.data⟩ (by simp) rfl) (c := .int .i64 id) rfl) (Nat.le_of_ble_eq_true rfl)
          have e35 := hA.at_ (j := 9) (t := 35) rfl rfl (hS.get (hdep ⟨9, Ground.data⟩ (by simp) rfl) (c := .bool aw) rfl) (Nat.le_of_ble_eq_true rfl)
          have e42 := hA.at_ (j := 16) (t := 42) rfl rfl hx (Nat.le_of_ble_eq_true rfl)
          have e49 := hA.at_ (j := 23) (t := 49) rfl rfl hy (Nat.le_of_ble_eq_true rfl)
          obtain ⟨xa, xc, ex⟩ := owns_slice (hS.p16 x hx)
          obtain ⟨ya, yc, ey⟩ := owns_slice (hS.p23 y hy)
          subst ex
          subst ey
          refine ⟨rfl, .inl ⟨_, wz, ?_, hS.s24 rfl hx hy⟩⟩
          simp only [execOp]
          simp [e30, e35, e42, e49]
          go_simp
          try rfl
        · simp only [List.getElem?_cons_succ, List.getElem?_cons_zero, Option.some.injEq] at ho
          subst ho
          refine ⟨rfl, .inl ⟨.pointer (some ⟨wz.heap.size, 0, none⟩), wz.alloc (.cells #[.int .i64 0, .bool false, .slice none 0 0, .slice none 0 0] 53), ?_, hS.s25 rfl hnu rfl⟩⟩
          simp only [execOp]
          go_simp
          try rfl
        · simp only [List.getElem?_cons_succ, List.getElem?_cons_zero, Option.some.injEq] at ho
          subst ho
          obtain ⟨v25, h25⟩ := hdep ⟨25, Ground.data⟩ (by simp) rfl
          obtain ⟨v24, h24⟩ := hdep ⟨24, Ground.data⟩ (by simp) rfl
          obtain ⟨q, cs, e1, e2, e3, e4, _⟩ := hS.p25 v25 h25
          subst e1
          obtain ⟨x, y, hx, hy, e5⟩ := hS.p24 v24 h24
          subst e5
          obtain ⟨xa, xc, ex⟩ := owns_slice (hS.p16 x hx)
          obtain ⟨ya, yc, ey⟩ := owns_slice (hS.p23 y hy)
          subst ex
          subst ey
          have e9 := hA.at_ (j := 25) (t := 9) rfl rfl h25 (Nat.le_of_ble_eq_true rfl)
          have e50 := hA.at_ (j := 24) (t := 50) rfl rfl h24 (Nat.le_of_ble_eq_true rfl)
          have ht : wz.there q 0 4 := fun j hj => ⟨by rw [cell_blk (i := 0 + j) e3 (Array.getElem?_eq_getElem (by omega))]; rfl, frz_blk e3⟩
          refine ⟨rfl, .inr (.inl ⟨_, ?_, hS.s26 rfl h25 h24 hx hy rfl undef⟩)⟩
          have hr := run_storeAt_mid (P := Try.prog) wz q 0 53 #[.int .i64 id, .bool aw, .slice ya arms.length yc, .slice xa held.length xc] ht (by kernel_rfl) (by simp [Value.oneCell'])
          simp only [execOp, e9, e50, Sem.run_bind, hr, Result.andThen_ok, Sem.run_pure]
          try rfl
        · simp at ho
      case fin =>
        intro u vs wz hvl hvs hS
        match vs, hvl with
        | [x0, x1, x2, x3, x4, x5, x6, x7, x8, x9, x10, x11, x12, x13, x14, x15, x16, x17, x18, x19, x20, x21, x22, x23, x24, x25, x26], _ =>
          have f0 : x0 = .slice (some ⟨b, o, none⟩) s.length c := hS.pur 0 x0 (hvs 0 (Nat.le_of_ble_eq_true rfl)) _ rfl
          have f1 : x1 = .int .i64 i := hS.pur 1 x1 (hvs 1 (Nat.le_of_ble_eq_true rfl)) _ rfl
          have f2 : x2 = .pointer (some ⟨b, o + i * 4, none⟩) := hS.pur 2 x2 (hvs 2 (Nat.le_of_ble_eq_true rfl)) _ rfl
          have f3 : x3 = .pointer (some ⟨b, o + i * 4, none⟩) := hS.pur 3 x3 (hvs 3 (Nat.le_of_ble_eq_true rfl)) _ rfl
          have f4 : x4 = .int .i64 id := hS.pur 4 x4 (hvs 4 (Nat.le_of_ble_eq_true rfl)) _ rfl
          have f5 : x5 = .slice (some ⟨b, o, none⟩) s.length c := hS.pur 5 x5 (hvs 5 (Nat.le_of_ble_eq_true rfl)) _ rfl
          have f6 : x6 = .int .i64 i := hS.pur 6 x6 (hvs 6 (Nat.le_of_ble_eq_true rfl)) _ rfl
          have f7 : x7 = .pointer (some ⟨b, o + i * 4, none⟩) := hS.pur 7 x7 (hvs 7 (Nat.le_of_ble_eq_true rfl)) _ rfl
          have f8 : x8 = .pointer (some ⟨b, o + i * 4 + 1, none⟩) := hS.pur 8 x8 (hvs 8 (Nat.le_of_ble_eq_true rfl)) _ rfl
          have f9 : x9 = .bool aw := hS.pur 9 x9 (hvs 9 (Nat.le_of_ble_eq_true rfl)) _ rfl
          have f11 : x11 = .slice (some ⟨b, o, none⟩) s.length c := hS.pur 11 x11 (hvs 11 (Nat.le_of_ble_eq_true rfl)) _ rfl
          have f12 : x12 = .int .i64 i := hS.pur 12 x12 (hvs 12 (Nat.le_of_ble_eq_true rfl)) _ rfl
          have f13 : x13 = .pointer (some ⟨b, o + i * 4, none⟩) := hS.pur 13 x13 (hvs 13 (Nat.le_of_ble_eq_true rfl)) _ rfl
          have f14 : x14 = .pointer (some ⟨b, o + i * 4 + 3, none⟩) := hS.pur 14 x14 (hvs 14 (Nat.le_of_ble_eq_true rfl)) _ rfl
          have f15 : x15 = .slice ph m ch := hS.pur 15 x15 (hvs 15 (Nat.le_of_ble_eq_true rfl)) _ rfl
          have f18 : x18 = .slice (some ⟨b, o, none⟩) s.length c := hS.pur 18 x18 (hvs 18 (Nat.le_of_ble_eq_true rfl)) _ rfl
          have f19 : x19 = .int .i64 i := hS.pur 19 x19 (hvs 19 (Nat.le_of_ble_eq_true rfl)) _ rfl
          have f20 : x20 = .pointer (some ⟨b, o + i * 4, none⟩) := hS.pur 20 x20 (hvs 20 (Nat.le_of_ble_eq_true rfl)) _ rfl
          have f21 : x21 = .pointer (some ⟨b, o + i * 4 + 2, none⟩) := hS.pur 21 x21 (hvs 21 (Nat.le_of_ble_eq_true rfl)) _ rfl
          have f22 : x22 = .slice pa n ca := hS.pur 22 x22 (hvs 22 (Nat.le_of_ble_eq_true rfl)) _ rfl
          subst f0
          subst f1
          subst f2
          subst f3
          subst f4
          subst f5
          subst f6
          subst f7
          subst f8
          subst f9
          subst f11
          subst f12
          subst f13
          subst f14
          subst f15
          subst f18
          subst f19
          subst f20
          subst f21
          subst f22
          obtain ⟨q, cs, e25, hq, hqb, _, hqc⟩ := hS.p25 x25 (hvs 25 (Nat.le_of_ble_eq_true rfl))
          obtain ⟨x, y, hx, hy, hcs⟩ := hqc x26 (hvs 26 (Nat.le_of_ble_eq_true rfl))
          subst e25
          subst hcs
          have ox := hS.p16 x hx
          have oy := hS.p23 y hy
          obtain ⟨xa, xc, ex⟩ := owns_slice ox
          obtain ⟨ya, yc, ey⟩ := owns_slice oy
          subst ex
          subst ey
          have hBZ := hS.bel
          refine ⟨_, flowF 26 25 (by decide +kernel) (by rfl) (by exact Nat.le_of_ble_eq_true rfl) (by exact Nat.le_of_ble_eq_true rfl) (by simp only [List.drop_succ_cons, List.drop_zero, List.drop_nil, List.take_succ_cons, List.take_zero, List.cons_append, List.nil_append, flowEnd, Act.put, List.setIfInBounds_toArray, List.set_cons_zero, List.set_cons_succ]; rfl), ?_⟩
          have hbk := HI.out.blk
          have hHlt : H < wr.heap.size := heap_lt hbk
          have hlH : wz.heap[H]? = some (lkB ⟨lr, ln, lc⟩) := (hBZ.block H hHlt).trans hbk
          have m0 := cell_blk (i := 0) hlH rfl
          have m1 := cell_blk (i := 1) hlH rfl
          have m2 := cell_blk (i := 2) hlH rfl
          have k0 := cell_blk (i := 0) hqb rfl
          have k1 := cell_blk (i := 1) hqb rfl
          have k2 := cell_blk (i := 2) hqb rfl
          have k3 := cell_blk (i := 3) hqb rfl
          have g1 := frz_blk (i := 1) hqb
          have g2 := frz_blk (i := 2) hqb
          have A6 := HA0.out.a64
          have hqlt := heap_lt hqb
          have HQ1 : Bx (H < wr.heap.size ∧ wr.heap.size ≤ q) := ⟨hHlt, hq⟩
          rw [← hn] at oy k2
          rw [← hm] at ox k3
          by_cases c1 : id = ln ∨ id = lr
          · have HT : Bx (tkA ⟨lr, ln, lc⟩ ⟨id, aw, arms, held⟩ = ⟨id, true, [], held⟩) := ⟨by
              unfold tkA
              rw [if_pos (by rcases c1 with c1 | c1; exact Or.inr c1; exact Or.inl c1)]⟩
            obtain ⟨W1, hW1⟩ : ∃ W1, wz.setCell ⟨q, 1, none⟩ (.bool true) = W1 := ⟨_, rfl⟩
            have q1 : W1.heap[q]? = some (.cells #[.int .i64 id, .bool true, .slice ya n yc, .slice xa m xc] 53 (0, 0)) := by
              rw [← hW1]
              have := Lib.heap_setCell_same (i := 1) hqb (.bool true)
              simpa [hn, hm] using this
            obtain ⟨W2, hW2⟩ : ∃ W2, W1.setCell ⟨q, 2, none⟩ (.slice none 0 0) = W2 := ⟨_, rfl⟩
            have q2 : W2.heap[q]? = some (.cells #[.int .i64 id, .bool true, .slice none 0 0, .slice xa m xc] 53 (0, 0)) := by
              rw [← hW2]
              have := Lib.heap_setCell_same (i := 2) q1 (.slice none 0 0)
              simpa using this
            have hoth : ∀ y, y ≠ q → W2.heap[y]? = wz.heap[y]? := fun y hy => by
              rw [← hW2, Below.heap_setCell _ ⟨q, 2, none⟩ _ y hy, ← hW1, Below.heap_setCell _ ⟨q, 1, none⟩ _ y hy]
            have hb2 : Below wr.heap.size wr W2 := by
              rw [← hW2, ← hW1]
              exact (hBZ.setCell (p := ⟨q, 1, none⟩) hq _).setCell (p := ⟨q, 2, none⟩) hq _
            have oh2 : W2.ownsRow wr.heap.size 3 1 (.slice xa m xc) m (rowC held) := own_same ox fun y o hy ho => by
              rw [hoth y (fun e => ?_)]
              · exact ho
              · obtain ⟨c2, f2, q3⟩ := owns_kind ox y hy
                rw [e, hqb] at q3
                injection q3 with q3
                injection q3 with _ q3
                exact absurd q3 (by decide)
            have j1c := cell_blk (i := 2) q1 rfl
            have j1f := frz_blk (i := 2) q1
            have j0 := cell_blk (i := 0) q2 rfl
            have j1 := cell_blk (i := 1) q2 rfl
            have j2 := cell_blk (i := 2) q2 rfl
            have j3 := cell_blk (i := 3) q2 rfl
            obtain ⟨gg, cc, W3, r3, hT3⟩ := TkO.add HI.out hH hb2 (a' := ⟨id, true, [], held⟩) ⟨A6.id, (fun _ h => by cases h), A6.held⟩ (ap := none) (ac := 0) (hp := xa) (hc := xc) ⟨rfl, .inl ⟨rfl, rfl⟩⟩ (by rw [← hm]; exact oh2) (by rw [hgl]; omega)
            have r4 : ∀ ty, (Builtin.append_ #[22, 22] ty #[v7, .slice (some ⟨W2.heap.size, 0, none⟩) 1 1]).run Try.prog (W2.alloc (.cells #[.int .i64 id, .bool true, .slice none 0 0, .slice xa m xc] 53)) = .ok (.slice (some ⟨gg, 0, none⟩) (i + 1) cc) W3 := by
              rw [← hgl, hm]; exact r3
            have HN : Bx (TkO w W3 H (.slice (some ⟨gg, 0, none⟩) (i + 1) cc) ((s.take (i + 1)).map (tkA ⟨lr, ln, lc⟩)) ⟨lr, ln, lc⟩) := ⟨by rw [HTK.out, HT.out, ← hgl]; exact hT3⟩
            have hzq : q < W1.heap.size := heap_lt q1
            clear hS hvs hqc hx hy ox oy hBZ hqb hlH hbk q1 q2 hoth hb2 oh2 hT3 r3 HAI HAH HCL HA0 A6 HTK HT HI hgl hn hm
            by_cases c2 : id = ln
            · subst c2
              go_wp2_with (at_builtin; refine wpList_appI rfl (.tmp 65) (.tmp 67) 22 rfl rfl rfl r4 ?_)
              go_roundg (s.length + 1 - (i + 1))
              case measure => omega
              case rel => exact ⟨i + 1, _, rfl, by omega, by simp, rfl, HN⟩
            · have c3 : id = lr := by
                rcases c1 with c1 | c1
                · exact absurd c1 c2
                · exact c1
              subst c3
              have c4 : (id == ln) = false := beq_eq_false_iff_ne.2 c2
              go_wp2_with (at_builtin; refine wpList_appI rfl (.tmp 65) (.tmp 67) 22 rfl rfl rfl r4 ?_)
              go_roundg (s.length + 1 - (i + 1))
              case measure => omega
              case rel => exact ⟨i + 1, _, rfl, by omega, by simp, rfl, HN⟩
          · have HT : Bx (tkA ⟨lr, ln, lc⟩ ⟨id, aw, arms, held⟩ = ⟨id, aw, arms, held⟩) := ⟨by
              unfold tkA
              rw [if_neg (by rintro (h | h); exact c1 (Or.inr h); exact c1 (Or.inl h))]⟩
            obtain ⟨gg, cc, W3, r3, hT3⟩ := TkO.add HI.out hH hBZ (a' := ⟨id, aw, arms, held⟩) A6 (ap := ya) (ac := yc) (hp := xa) (hc := xc) (by rw [← hn]; exact oy) (by rw [← hm]; exact ox) (by rw [hgl]; omega)
            have r4 : ∀ ty, (Builtin.append_ #[22, 22] ty #[v7, .slice (some ⟨wz.heap.size, 0, none⟩) 1 1]).run Try.prog (wz.alloc (.cells #[.int .i64 id, .bool aw, .slice ya n yc, .slice xa m xc] 53)) = .ok (.slice (some ⟨gg, 0, none⟩) (i + 1) cc) W3 := by
              rw [← hgl, hm, hn]; exact r3
            have HN : Bx (TkO w W3 H (.slice (some ⟨gg, 0, none⟩) (i + 1) cc) ((s.take (i + 1)).map (tkA ⟨lr, ln, lc⟩)) ⟨lr, ln, lc⟩) := ⟨by rw [HTK.out, HT.out, ← hgl]; exact hT3⟩
            have c4 : (id == ln) = false := beq_eq_false_iff_ne.2 fun e => c1 (.inl e)
            have c5 : (id == lr) = false := beq_eq_false_iff_ne.2 fun e => c1 (.inr e)
            clear hS hvs hqc hx hy ox oy hBZ hqb hlH hbk hT3 r3 HAI HAH HCL HA0 A6 HTK HT HI hgl c1 hn hm
            go_wp2_with (at_builtin; refine wpList_appI rfl (.tmp 65) (.tmp 67) 22 rfl rfl rfl r4 ?_)
            go_roundg (s.length + 1 - (i + 1))
            case measure => omega
            case rel => exact ⟨i + 1, _, rfl, by omega, by simp, rfl, HN⟩
    · have hie : i = s.length := by omega
      subst hie
      have HZ : Bx (TkO w wr H v7 (s.map (tkA ⟨lr, ln, lc⟩)) ⟨lr, ln, lc⟩) := ⟨by have := HI.out; rw [List.take_length] at this; exact this⟩
      clear HI
      go_wp2
      go_ret2
      obtain ⟨cs, h1, h2⟩ := HZ.out.row
      exact ⟨HZ.out.bel, .inr (.inr ⟨trivial, trivial, _, cs, rfl, by rw [List.length_map] at h1; exact h1, h2⟩)⟩
end Go.Proofs.Ytjabdhmkibahlaa
