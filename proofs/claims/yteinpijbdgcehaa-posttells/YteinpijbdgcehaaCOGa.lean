import Derived.Test.YteinpijbdgcehaaCOLe
namespace Go.Proofs.Yteinpijbdgcehaa
open Go.RowKit Go.Shelf
set_option linter.unusedVariables false
set_option linter.unusedSimpArgs false

theorem pre_right {α : Type} {a b b' c : List α} (h : a ++ b <+: c) (h' : b' <+: b) : a ++ b' <+: c := ((List.prefix_append_right_inj a).2 h').trans h
theorem pre_flat {α β : Type} (f : α → List β) (l : List α) (i : Nat) (h : i < l.length) : (l.take i).flatMap f ++ f l[i] <+: l.flatMap f := by
  refine ⟨(l.drop (i + 1)).flatMap f, ?_⟩
  have e : l = l.take i ++ l[i] :: l.drop (i + 1) := by rw [← List.drop_eq_getElem_cons h, List.take_append_drop]
  have e2 := congrArg (List.flatMap f) e
  rw [List.flatMap_append, List.flatMap_cons] at e2
  rw [List.append_assoc]
  exact e2.symm
theorem flat_take {α β : Type} (f : α → List β) (l : List α) (i : Nat) (h : i < l.length) : (l.take (i + 1)).flatMap f = (l.take i).flatMap f ++ f l[i] := by
  rw [List.take_succ_eq_append_getElem h, List.flatMap_append]
  simp
theorem pre_ofm {α β : Type} (f : Nat → α → List β) (l : List α) (i : Nat) (h : i < l.length) : ofm f 0 (l.take i) ++ f i l[i] <+: ofm f 0 l := by
  obtain ⟨r, e⟩ := ofm_split f l i h
  exact ⟨r, e.symm⟩
/-- waiters that may be read in every later world -/
structure WsR (w : World) (p : Option Addr) (c : Nat) (l : List OWt) : Prop where
  len : l.length ≤ c
  max : c ≤ maxLen
  at_ : ∀ i (h : i < l.length), ∃ b o q d, p = some ⟨b, o, none⟩ ∧ l[i].arms.length ≤ d ∧ d ≤ maxLen ∧ (∀ X, Below w.heap.size w X → X.cell? ⟨b, o + i * 2, none⟩ = some (.int .i64 l[i].id) ∧ X.cell? ⟨b, o + i * 2 + 1, none⟩ = some (.slice q l[i].arms.length d)) ∧ ∀ j (hj : j < l[i].arms.length), ∃ b' o', q = some ⟨b', o', none⟩ ∧ ∀ X, Below w.heap.size w X → ArmAt X b' (o' + j * 5) l[i].arms[j]
theorem WsIn.r {w : World} {Pr : Nat → Prop} (hPr : ∀ b, Pr b → ∃ o : Obj, w.heap[b]? = some o ∧ o.isCells = true) {p : Option Addr} {c : Nat} {l : List OWt} (hl : WsIn w Pr p c l) : WsR w p c l :=
  ⟨hl.len, hl.max, fun i h => by
    obtain ⟨b, o, q, d, e, hb, h1, h2, h3, _⟩ := hl.at_ i h
    refine ⟨b, o, q, d, e, h3.len, h3.max, fun X hX => ?_, fun j hj => ?_⟩
    · have hk := Kpt.of_below hPr hX
      exact ⟨(hk.cell hb).trans h1, (hk.cell hb).trans h2⟩
    · obtain ⟨b', o', e', hb', h4⟩ := h3.at_ j hj
      exact ⟨b', o', e', fun X hX => h4.keep (Kpt.of_below hPr hX) hb'⟩⟩
set_option maxRecDepth 100000 in
set_option maxHeartbeats 4000000 in
theorem rright_any (w : World) (Pr : Nat → Prop) (hPr : ∀ b, Pr b → ∃ o : Obj, w.heap[b]? = some o ∧ o.isCells = true) (p : Option Addr) (c : Nat) (l : List OWt) (hl : WsIn w Pr p c l) :
    Calls Try.prog 27 #[.slice p l.length c] w fun e w' => e = .returned (.bool (oright l)) ∧ Below w.heap.size w w' := by
  have hlc := hl.len
  have hcm := hl.max
  unfold maxLen at hcm
  go_enter Try.func27, Try.ntmps27
  go_wp2
  go_loopg [3] l.length (fun k v wr => ∃ (i : Nat) (x : Int), k = l.length - i ∧ i ≤ l.length ∧ v = .int .i64 i ∧ Bx ((i = 0 ∧ x = -1) ∨ ∃ m, ∃ hm : m < l.length, i = m + 1 ∧ x = l[m].id ∧ 0 ≤ x) ∧ Bx (orightFrom x (l.drop i) = oright l ∧ Below w.heap.size w wr))
  case atStart => exact ⟨0, -1, by simp, by omega, rfl, ⟨.inl ⟨rfl, rfl⟩⟩, ⟨by simp [oright], Below.refl _ _⟩⟩
  case round =>
    obtain ⟨i, x, hk, hil, rfl, HX, HR⟩ := hrel
    by_cases hlt : i < l.length
    · obtain ⟨b, o, q, d, rfl, hb, c0, c1, _, _⟩ := (hl.keep (Kpt.of_below hPr HR.out.2)).at_ i hlt
      have hd : l.drop i = l[i] :: l.drop (i + 1) := List.drop_eq_getElem_cons hlt
      have HE : Bx ((decide (x < l[i].id) && orightFrom l[i].id (l.drop (i + 1))) = oright l) := ⟨by have := HR.out.1; rw [hd, orightFrom] at this; exact this⟩
      have HD : Bx (∀ n, Below w.heap.size w (wr.drewN n)) := ⟨fun n => ⟨HR.out.2.os, HR.out.2.tape, HR.out.2.output, HR.out.2.size, HR.out.2.block⟩⟩
      have hxm : -1 ≤ x := by
        rcases HX.out with ⟨_, h⟩ | ⟨m, _, _, _, h⟩
        · omega
        · omega
      by_cases hn : l[i].id < 0
      · have HF : Bx (oright l = false) := ⟨by rw [← HE.out, decide_eq_false (by omega), Bool.false_and]⟩
        clear HR HX hd HE hl
        go_wp2
        go_quiet (fail)
        go_wp2
        go_ret
        exact ⟨by rw [HF.out]; rfl, HD.out _⟩
      · have gneg : decide (l[i].id < 0) = false := by simpa using hn
        rcases HX.out with ⟨hi0, rfl⟩ | ⟨m, hm, hi, rfl, hx0⟩
        · have HF : Bx (orightFrom l[i].id (l.drop (i + 1)) = oright l) := ⟨by rw [← HE.out, decide_eq_true (by omega), Bool.true_and]⟩
          have HN : Bx (0 ≤ l[i].id) := ⟨by omega⟩
          have gi : decide ((0 : Int) < ↑i) = false := by simp; omega
          have gn : decide (0 < i) = false := by simp; omega
          clear HR HX hd HE hl hi0
          go_wp2
          go_quiet (fail)
          go_wp2
          go_roundg (l.length - (i + 1))
          case measure => omega
          case rel => exact ⟨i + 1, l[i].id, rfl, by omega, by simp, ⟨.inr ⟨i, hlt, rfl, rfl, HN.out⟩⟩, ⟨HF.out, HD.out _⟩⟩
        · have HCM : wr.cell? ⟨b, o + m * 2, none⟩ = some (.int .i64 l[m].id) := by
            obtain ⟨b', o', q', d', e, _, h0, _⟩ := (hl.keep (Kpt.of_below hPr HR.out.2)).at_ m hm
            cases e
            exact h0
          have gi : decide ((0 : Int) < ↑i) = true := by simp; omega
          have gn : decide (0 < i) = true := by simp; omega
          have hwr : IntKind.i64.wrap ((↑i : Int) - 1) = (↑m : Int) := by rw [show (↑i : Int) - 1 = ↑m by omega]; exact wrapI (by omega)
          have hm2 : (0 : Int) ≤ ↑m := by omega
          have hm3 : (↑m : Int) < ↑l.length := by omega
          by_cases hle : l[i].id ≤ l[m].id
          · have gle : decide (l[i].id ≤ l[m].id) = true := by simpa using hle
            have HF : Bx (oright l = false) := ⟨by rw [← HE.out, decide_eq_false (by omega), Bool.false_and]⟩
            clear HR HX hd HE hl hi hx0 hle
            go_wp2
            go_quiet (fail)
            go_wp2
            go_ret
            exact ⟨by rw [HF.out]; rfl, HD.out _⟩
          · have gle : decide (l[i].id ≤ l[m].id) = false := by simpa using hle
            have HF : Bx (orightFrom l[i].id (l.drop (i + 1)) = oright l) := ⟨by rw [← HE.out, decide_eq_true (by omega), Bool.true_and]⟩
            have HN : Bx (0 ≤ l[i].id) := ⟨by omega⟩
            clear HR HX hd HE hl hi hx0 hle
            go_wp2
            go_quiet (fail)
            go_wp2
            go_roundg (l.length - (i + 1))
            case measure => omega
            case rel => exact ⟨i + 1, l[i].id, rfl, by omega, by simp, ⟨.inr ⟨i, hlt, rfl, rfl, HN.out⟩⟩, ⟨HF.out, HD.out _⟩⟩
    · have hie : i = l.length := by omega
      subst hie
      have HF : Bx (oright l = true ∧ Below w.heap.size w wr) := ⟨by rw [← HR.out.1]; simp [orightFrom], HR.out.2⟩
      clear HR HX
      go_wp2
      go_ret
      exact ⟨by rw [HF.out.1]; rfl, HF.out.2⟩

def gIn (Q : OWt) (j : Nat) (b : OArm) : List OPr := if b.send = false ∧ b.chan = 1 then [⟨-1, 0, Q.id, j, 1⟩] else []
set_option maxRecDepth 100000 in
set_option maxHeartbeats 8000000 in
theorem rIns_any (w : World) (Pr : Nat → Prop) (hPr : ∀ b, Pr b → ∃ o : Obj, w.heap[b]? = some o ∧ o.isCells = true) (p : Option Addr) (c : Nat) (l : List OWt) (hl : WsIn w Pr p c l) (hsm : (oins l).length ≤ 20000000) :
    Calls Try.prog 13 #[.slice p l.length c] w (PrPost w (oins l)) := by
  obtain ⟨i0, hi, iz0, iz1, iz2⟩ := info_parts infoP
  have hlc := hl.len
  have hcm := hl.max
  unfold maxLen at hcm
  have HRT : Bx (∀ X, Below w.heap.size w X → Calls Try.prog 27 #[.slice p l.length c] X fun e w' => e = .returned (.bool (oright l)) ∧ Below X.heap.size X w') := ⟨fun X hX => by
    have hk := Kpt.of_below hPr hX
    exact rright_any X Pr (fun b hb => by obtain ⟨o, h1, h2⟩ := hPr b hb; exact ⟨o, (hk b hb).trans h1, h2⟩) p c l (hl.keep hk)⟩
  have HQ : Bx (WsR w p c l) := ⟨hl.r hPr⟩
  clear hl hPr
  have HO0 : Bx ((w.alloc (.cells #[] 47)).ownsRow w.heap.size 47 5 (.slice (some ⟨w.heap.size, 0, none⟩) 0 0) 0 [] ∧ Below w.heap.size w (w.alloc (.cells #[] 47))) := ⟨⟨rfl, .inr ⟨_, 0, #[], rfl, Nat.le_refl _, World.alloc_heap_new _ _, by simp, by simp [maxLen], rfl, rfl⟩⟩, below1 _ _⟩
  by_cases hr : oright l = true
  · have hdef : oins l = l.flatMap fun Q => ofm (gIn Q) 0 Q.arms := by unfold oins; rw [if_pos hr]; rfl
    rw [hdef] at hsm ⊢
    go_enter Try.func13, Try.ntmps13
    go_wp2
    go_loopg [3, 4] (l.length + 1) (fun k v3 v4 wr => ∃ i : Nat, k = l.length + 1 - i ∧ i ≤ l.length ∧ v4 = .int .i64 i ∧ Bx (wr.ownsRow w.heap.size 47 5 v3 ((l.take i).flatMap fun Q => ofm (gIn Q) 0 Q.arms).length (prsC ((l.take i).flatMap fun Q => ofm (gIn Q) 0 Q.arms)) ∧ Below w.heap.size w wr))
    case atStart => exact ⟨0, by simp, by omega, rfl, HO0⟩
    case round =>
      obtain ⟨q, hk, hil, rfl, HR⟩ := hrel
      clear HO0
      by_cases hlt : q < l.length
      · have hbr := HR.out.2
        go_wp2_with (first | (go_at_call 27; refine Calls.mono (HRT.out _ hbr) ?_; rintro e w2 ⟨rfl, hb2⟩; rw [hr]; have HB2 : Bx (wr.ownsRow w.heap.size 47 5 u3 ((l.take q).flatMap fun Q => ofm (gIn Q) 0 Q.arms).length (prsC ((l.take q).flatMap fun Q => ofm (gIn Q) 0 Q.arms)) ∧ Below wr.heap.size wr w2) := ⟨HR.out.1, hb2⟩; clear hb2))
        obtain ⟨b, o, ap, d, rfl, hd1, hd2, hC, hA⟩ := HQ.out.at_ q hlt
        unfold maxLen at hd2
        have HC : Bx _ := ⟨hC⟩
        have HA : Bx _ := ⟨hA⟩
        have HPRE : Bx (((l.take q).flatMap fun Q => ofm (gIn Q) 0 Q.arms) ++ ofm (gIn l[q]) 0 l[q].arms <+: l.flatMap fun Q => ofm (gIn Q) 0 Q.arms) := ⟨pre_flat _ l q hlt⟩
        have HTK : Bx (((l.take (q + 1)).flatMap fun Q => ofm (gIn Q) 0 Q.arms) = ((l.take q).flatMap fun Q => ofm (gIn Q) 0 Q.arms) ++ ofm (gIn l[q]) 0 l[q].arms) := ⟨flat_take _ l q hlt⟩
        have HOW : Bx (w2.ownsRow w.heap.size 47 5 u3 ((l.take q).flatMap fun Q => ofm (gIn Q) 0 Q.arms).length (prsC ((l.take q).flatMap fun Q => ofm (gIn Q) 0 Q.arms)) ∧ Below w.heap.size w w2) := ⟨own_new HB2.out.1 HB2.out.2, hbr.trans (HB2.out.2.mono hbr.size)⟩
        clear hC hA HR HB2 hbr HRT HQ
        generalize ((l.take q).flatMap fun Q => ofm (gIn Q) 0 Q.arms) = ys at *
        generalize (l.flatMap fun Q => ofm (gIn Q) 0 Q.arms) = zs at *
        generalize hQ : l[q] = Q at *
        go_wp2
        go_loopg [3, 5] (Q.arms.length + 1) (fun k v3 v5 wr => ∃ j : Nat, k = Q.arms.length + 1 - j ∧ j ≤ Q.arms.length ∧ v5 = .int .i64 j ∧ Bx (wr.ownsRow w.heap.size 47 5 v3 (ys ++ ofm (gIn Q) 0 (Q.arms.take j)).length (prsC (ys ++ ofm (gIn Q) 0 (Q.arms.take j))) ∧ Below w.heap.size w wr))
        case atStart => exact ⟨0, by simp, by omega, rfl, by simpa [ofm] using HOW⟩
        case round =>
          obtain ⟨j, hk2, hjl, rfl, HR⟩ := hrel
          clear HOW
          have hc1 := (HC.out _ HR.out.2).1
          have hc2 := (HC.out _ HR.out.2).2
          by_cases hjt : j < Q.arms.length
          · obtain ⟨b', o', rfl, hat⟩ := HA.out j hjt
            have hat := hat _ HR.out.2
            have a0 := hat.c0
            have a1 := hat.c1
            clear hat HA HC
            have HT2 : Bx (ofm (gIn Q) 0 (Q.arms.take (j + 1)) = ofm (gIn Q) 0 (Q.arms.take j) ++ gIn Q j Q.arms[j]) := ⟨ofm_take _ _ _ hjt⟩
            have HLN : Bx (ys ++ (ofm (gIn Q) 0 (Q.arms.take j) ++ gIn Q j Q.arms[j]) <+: zs) := ⟨pre_right HPRE.out (pre_ofm _ _ _ hjt)⟩
            have hsz : w.heap.size ≤ wr.heap.size := HR.out.2.size
            generalize Q.arms[j] = a at *
            generalize hY : ofm (gIn Q) 0 (Q.arms.take j) = y2 at *
            obtain ⟨ch, sd, ax, ay, zp, zn, zc⟩ := a
            simp only at a0 a1
            have HSK : ∀ (v : Value), wr = wr := fun _ => rfl
            by_cases hyes : sd = false ∧ ch = 1
            · obtain ⟨rfl, rfl⟩ := hyes
              have HG : Bx (gIn Q j ⟨1, false, ax, ay, zp, zn, zc⟩ = [(⟨-1, 0, Q.id, j, 1⟩ : OPr)]) := ⟨if_pos ⟨rfl, rfl⟩⟩
              rw [HG.out] at HT2 HLN
              have hzl : (ys ++ y2).length ≤ 20000000 - 1 := by
                have := HLN.out.length_le
                simp only [List.length_append, List.length_cons, List.length_nil] at this ⊢
                omega
              have HO : Bx _ := ⟨HR.out.1⟩
              have HB : Bx _ := ⟨HR.out.2⟩
              clear HR HLN
              generalize hY2 : ys ++ y2 = yy at *
              go_wp2_with (first | (at_builtin; refine wpList_app _ rfl (.tmp 49) (.tmp 57) 33 rfl w.heap.size 47 i0 (.agg #[.int .i64 0, .int .i64 0, .int .i64 0, .int .i64 0, .int .i64 0]) 5 40 Try.underlying33 hi iz0 iz1 iz2 rfl (by decide) u3 yy.length (prsC yy) rfl (own_new HO.out (below1 _ _)) ⟨wr.heap.size, 0, none⟩ 1 1 (prC (⟨-1, 0, Q.id, j, 1⟩ : OPr)) rfl rfl (block_cells _ _ _ 47 (World.alloc_heap_new _ _)) (by simp [Value.oneCell', prC]) (by decide) (by unfold maxLen; omega) (by omega) (by simp; omega) (wr.heap.size + 1) (by simp) ?_; intro gg gcap w4 hown' hgrow hgi hgl'))
              go_roundg (Q.arms.length + 1 - (j + 1))
              case measure => omega
              case rel => exact ⟨j + 1, rfl, by omega, by simp, ⟨by rw [HT2.out, ← List.append_assoc, hY2]; simp only [prsC_snoc]; simpa using hown', (HB.out.trans ((below1 _ _).mono hsz)).grown hgrow (by simp; omega) (fun r e => own_base HO.out r e)⟩⟩
            · have HG : Bx (gIn Q j ⟨ch, sd, ax, ay, zp, zn, zc⟩ = []) := ⟨if_neg hyes⟩
              rw [HG.out, List.append_nil] at HT2
              have HF : Bx (wr.ownsRow w.heap.size 47 5 u3 (ys ++ ofm (gIn Q) 0 (Q.arms.take (j + 1))).length (prsC (ys ++ ofm (gIn Q) 0 (Q.arms.take (j + 1)))) ∧ Below w.heap.size w wr) := ⟨by rw [HT2.out]; exact HR.out⟩
              clear HR HLN HG HT2
              cases sd <;> (first
                | (go_wp2
                   go_roundg (Q.arms.length + 1 - (j + 1))
                   case measure => omega
                   case rel => exact ⟨j + 1, rfl, by omega, by simp, HF⟩)
                | (have hch : (ch == 1) = false := (by simpa using hyes)
                   go_wp2
                   go_roundg (Q.arms.length + 1 - (j + 1))
                   case measure => omega
                   case rel => exact ⟨j + 1, rfl, by omega, by simp, HF⟩))
          · have hje : j = Q.arms.length := by omega
            subst hje
            rw [List.take_length] at HR
            have HF : Bx (wr.ownsRow w.heap.size 47 5 u3 ((l.take (q + 1)).flatMap fun Q => ofm (gIn Q) 0 Q.arms).length (prsC ((l.take (q + 1)).flatMap fun Q => ofm (gIn Q) 0 Q.arms)) ∧ Below w.heap.size w wr) := ⟨by rw [HTK.out]; exact HR.out⟩
            clear HR HA
            go_wp2
            go_roundg (l.length + 1 - (q + 1))
            case measure => omega
            case rel => exact ⟨q + 1, rfl, by omega, by simp, HF⟩
      · have hie : q = l.length := by omega
        subst hie
        rw [List.take_length] at HR
        go_wp2
        go_ret
        exact ⟨_, rfl, HR.out.1, HR.out.2⟩
  · have hdef : oins l = [] := by unfold oins; rw [if_neg hr]
    rw [hdef] at hsm ⊢
    have hrf : oright l = false := by simpa using hr
    have hb0 := HO0.out.2
    go_enter Try.func13, Try.ntmps13
    go_wp2
    go_loopg [3, 4] 1 (fun k v3 v4 wr => k = 1 ∧ v3 = .slice (some ⟨w.heap.size, 0, none⟩) 0 0 ∧ v4 = .int .i64 0 ∧ wr = w.alloc (.cells #[] 47))
    case atStart => exact ⟨rfl, rfl, rfl, rfl⟩
    case round =>
      obtain ⟨_, rfl, rfl, rfl⟩ := hrel
      by_cases h0 : l.length = 0
      · go_wp2
        go_ret
        exact ⟨_, rfl, HO0.out.1, HO0.out.2⟩
      · go_wp2_with (first | (go_at_call 27; refine Calls.mono (HRT.out _ hb0) ?_; rintro e w2 ⟨rfl, hb2⟩; rw [hrf]))
        go_ret
        exact ⟨_, rfl, own_new HO0.out.1 hb2, hb0.trans (hb2.mono hb0.size)⟩

def gOut (Q : OWt) (j : Nat) (b : OArm) : List OPr := if b.send = true ∧ b.chan = 2 then [⟨Q.id, j, -1, 0, 2⟩] else []
set_option maxRecDepth 100000 in
set_option maxHeartbeats 8000000 in
theorem rOuts_any (w : World) (Pr : Nat → Prop) (hPr : ∀ b, Pr b → ∃ o : Obj, w.heap[b]? = some o ∧ o.isCells = true) (p : Option Addr) (c : Nat) (l : List OWt) (hl : WsIn w Pr p c l) (hsm : (oouts l).length ≤ 20000000) :
    Calls Try.prog 15 #[.slice p l.length c] w (PrPost w (oouts l)) := by
  obtain ⟨i0, hi, iz0, iz1, iz2⟩ := info_parts infoP
  have hlc := hl.len
  have hcm := hl.max
  unfold maxLen at hcm
  have HRT : Bx (∀ X, Below w.heap.size w X → Calls Try.prog 27 #[.slice p l.length c] X fun e w' => e = .returned (.bool (oright l)) ∧ Below X.heap.size X w') := ⟨fun X hX => by
    have hk := Kpt.of_below hPr hX
    exact rright_any X Pr (fun b hb => by obtain ⟨o, h1, h2⟩ := hPr b hb; exact ⟨o, (hk b hb).trans h1, h2⟩) p c l (hl.keep hk)⟩
  have HQ : Bx (WsR w p c l) := ⟨hl.r hPr⟩
  clear hl hPr
  have HO0 : Bx ((w.alloc (.cells #[] 47)).ownsRow w.heap.size 47 5 (.slice (some ⟨w.heap.size, 0, none⟩) 0 0) 0 [] ∧ Below w.heap.size w (w.alloc (.cells #[] 47))) := ⟨⟨rfl, .inr ⟨_, 0, #[], rfl, Nat.le_refl _, World.alloc_heap_new _ _, by simp, by simp [maxLen], rfl, rfl⟩⟩, below1 _ _⟩
  by_cases hr : oright l = true
  · have hdef : oouts l = l.flatMap fun Q => ofm (gOut Q) 0 Q.arms := by unfold oouts; rw [if_pos hr]; rfl
    rw [hdef] at hsm ⊢
    go_enter Try.func15, Try.ntmps15
    go_wp2
    go_loopg [3, 4] (l.length + 1) (fun k v3 v4 wr => ∃ i : Nat, k = l.length + 1 - i ∧ i ≤ l.length ∧ v4 = .int .i64 i ∧ Bx (wr.ownsRow w.heap.size 47 5 v3 ((l.take i).flatMap fun Q => ofm (gOut Q) 0 Q.arms).length (prsC ((l.take i).flatMap fun Q => ofm (gOut Q) 0 Q.arms)) ∧ Below w.heap.size w wr))
    case atStart => exact ⟨0, by simp, by omega, rfl, HO0⟩
    case round =>
      obtain ⟨q, hk, hil, rfl, HR⟩ := hrel
      clear HO0
      by_cases hlt : q < l.length
      · have hbr := HR.out.2
        go_wp2_with (first | (go_at_call 27; refine Calls.mono (HRT.out _ hbr) ?_; rintro e w2 ⟨rfl, hb2⟩; rw [hr]; have HB2 : Bx (wr.ownsRow w.heap.size 47 5 u3 ((l.take q).flatMap fun Q => ofm (gOut Q) 0 Q.arms).length (prsC ((l.take q).flatMap fun Q => ofm (gOut Q) 0 Q.arms)) ∧ Below wr.heap.size wr w2) := ⟨HR.out.1, hb2⟩; clear hb2))
        obtain ⟨b, o, ap, d, rfl, hd1, hd2, hC, hA⟩ := HQ.out.at_ q hlt
        unfold maxLen at hd2
        have HC : Bx _ := ⟨hC⟩
        have HA : Bx _ := ⟨hA⟩
        have HPRE : Bx (((l.take q).flatMap fun Q => ofm (gOut Q) 0 Q.arms) ++ ofm (gOut l[q]) 0 l[q].arms <+: l.flatMap fun Q => ofm (gOut Q) 0 Q.arms) := ⟨pre_flat _ l q hlt⟩
        have HTK : Bx (((l.take (q + 1)).flatMap fun Q => ofm (gOut Q) 0 Q.arms) = ((l.take q).flatMap fun Q => ofm (gOut Q) 0 Q.arms) ++ ofm (gOut l[q]) 0 l[q].arms) := ⟨flat_take _ l q hlt⟩
        have HOW : Bx (w2.ownsRow w.heap.size 47 5 u3 ((l.take q).flatMap fun Q => ofm (gOut Q) 0 Q.arms).length (prsC ((l.take q).flatMap fun Q => ofm (gOut Q) 0 Q.arms)) ∧ Below w.heap.size w w2) := ⟨own_new HB2.out.1 HB2.out.2, hbr.trans (HB2.out.2.mono hbr.size)⟩
        clear hC hA HR HB2 hbr HRT HQ
        generalize ((l.take q).flatMap fun Q => ofm (gOut Q) 0 Q.arms) = ys at *
        generalize (l.flatMap fun Q => ofm (gOut Q) 0 Q.arms) = zs at *
        generalize hQ : l[q] = Q at *
        go_wp2
        go_loopg [3, 5] (Q.arms.length + 1) (fun k v3 v5 wr => ∃ j : Nat, k = Q.arms.length + 1 - j ∧ j ≤ Q.arms.length ∧ v5 = .int .i64 j ∧ Bx (wr.ownsRow w.heap.size 47 5 v3 (ys ++ ofm (gOut Q) 0 (Q.arms.take j)).length (prsC (ys ++ ofm (gOut Q) 0 (Q.arms.take j))) ∧ Below w.heap.size w wr))
        case atStart => exact ⟨0, by simp, by omega, rfl, by simpa [ofm] using HOW⟩
        case round =>
          obtain ⟨j, hk2, hjl, rfl, HR⟩ := hrel
          clear HOW
          have hc1 := (HC.out _ HR.out.2).1
          have hc2 := (HC.out _ HR.out.2).2
          by_cases hjt : j < Q.arms.length
          · obtain ⟨b', o', rfl, hat⟩ := HA.out j hjt
            have hat := hat _ HR.out.2
            have a0 := hat.c0
            have a1 := hat.c1
            clear hat HA HC
            have HT2 : Bx (ofm (gOut Q) 0 (Q.arms.take (j + 1)) = ofm (gOut Q) 0 (Q.arms.take j) ++ gOut Q j Q.arms[j]) := ⟨ofm_take _ _ _ hjt⟩
            have HLN : Bx (ys ++ (ofm (gOut Q) 0 (Q.arms.take j) ++ gOut Q j Q.arms[j]) <+: zs) := ⟨pre_right HPRE.out (pre_ofm _ _ _ hjt)⟩
            have hsz : w.heap.size ≤ wr.heap.size := HR.out.2.size
            generalize Q.arms[j] = a at *
            generalize hY : ofm (gOut Q) 0 (Q.arms.take j) = y2 at *
            obtain ⟨ch, sd, ax, ay, zp, zn, zc⟩ := a
            simp only at a0 a1
            have HSK : ∀ (v : Value), wr = wr := fun _ => rfl
            by_cases hyes : sd = true ∧ ch = 2
            · obtain ⟨rfl, rfl⟩ := hyes
              have HG : Bx (gOut Q j ⟨2, true, ax, ay, zp, zn, zc⟩ = [(⟨Q.id, j, -1, 0, 2⟩ : OPr)]) := ⟨if_pos ⟨rfl, rfl⟩⟩
              rw [HG.out] at HT2 HLN
              have hzl : (ys ++ y2).length ≤ 20000000 - 1 := by
                have := HLN.out.length_le
                simp only [List.length_append, List.length_cons, List.length_nil] at this ⊢
                omega
              have HO : Bx _ := ⟨HR.out.1⟩
              have HB : Bx _ := ⟨HR.out.2⟩
              clear HR HLN
              generalize hY2 : ys ++ y2 = yy at *
              go_wp2_with (first | (at_builtin; refine wpList_app _ rfl (.tmp 48) (.tmp 56) 33 rfl w.heap.size 47 i0 (.agg #[.int .i64 0, .int .i64 0, .int .i64 0, .int .i64 0, .int .i64 0]) 5 40 Try.underlying33 hi iz0 iz1 iz2 rfl (by decide) u3 yy.length (prsC yy) rfl (own_new HO.out (below1 _ _)) ⟨wr.heap.size, 0, none⟩ 1 1 (prC (⟨Q.id, j, -1, 0, 2⟩ : OPr)) rfl rfl (block_cells _ _ _ 47 (World.alloc_heap_new _ _)) (by simp [Value.oneCell', prC]) (by decide) (by unfold maxLen; omega) (by omega) (by simp; omega) (wr.heap.size + 1) (by simp) ?_; intro gg gcap w4 hown' hgrow hgi hgl'))
              go_roundg (Q.arms.length + 1 - (j + 1))
              case measure => omega
              case rel => exact ⟨j + 1, rfl, by omega, by simp, ⟨by rw [HT2.out, ← List.append_assoc, hY2]; simp only [prsC_snoc]; simpa using hown', (HB.out.trans ((below1 _ _).mono hsz)).grown hgrow (by simp; omega) (fun r e => own_base HO.out r e)⟩⟩
            · have HG : Bx (gOut Q j ⟨ch, sd, ax, ay, zp, zn, zc⟩ = []) := ⟨if_neg hyes⟩
              rw [HG.out, List.append_nil] at HT2
              have HF : Bx (wr.ownsRow w.heap.size 47 5 u3 (ys ++ ofm (gOut Q) 0 (Q.arms.take (j + 1))).length (prsC (ys ++ ofm (gOut Q) 0 (Q.arms.take (j + 1)))) ∧ Below w.heap.size w wr) := ⟨by rw [HT2.out]; exact HR.out⟩
              clear HR HLN HG HT2
              cases sd <;> (first
                | (go_wp2
                   go_roundg (Q.arms.length + 1 - (j + 1))
                   case measure => omega
                   case rel => exact ⟨j + 1, rfl, by omega, by simp, HF⟩)
                | (have hch : (ch == 2) = false := (by simpa using hyes)
                   go_wp2
                   go_roundg (Q.arms.length + 1 - (j + 1))
                   case measure => omega
                   case rel => exact ⟨j + 1, rfl, by omega, by simp, HF⟩))
          · have hje : j = Q.arms.length := by omega
            subst hje
            rw [List.take_length] at HR
            have HF : Bx (wr.ownsRow w.heap.size 47 5 u3 ((l.take (q + 1)).flatMap fun Q => ofm (gOut Q) 0 Q.arms).length (prsC ((l.take (q + 1)).flatMap fun Q => ofm (gOut Q) 0 Q.arms)) ∧ Below w.heap.size w wr) := ⟨by rw [HTK.out]; exact HR.out⟩
            clear HR HA
            go_wp2
            go_roundg (l.length + 1 - (q + 1))
            case measure => omega
            case rel => exact ⟨q + 1, rfl, by omega, by simp, HF⟩
      · have hie : q = l.length := by omega
        subst hie
        rw [List.take_length] at HR
        go_wp2
        go_ret
        exact ⟨_, rfl, HR.out.1, HR.out.2⟩
  · have hdef : oouts l = [] := by unfold oouts; rw [if_neg hr]
    rw [hdef] at hsm ⊢
    have hrf : oright l = false := by simpa using hr
    have hb0 := HO0.out.2
    go_enter Try.func15, Try.ntmps15
    go_wp2
    go_loopg [3, 4] 1 (fun k v3 v4 wr => k = 1 ∧ v3 = .slice (some ⟨w.heap.size, 0, none⟩) 0 0 ∧ v4 = .int .i64 0 ∧ wr = w.alloc (.cells #[] 47))
    case atStart => exact ⟨rfl, rfl, rfl, rfl⟩
    case round =>
      obtain ⟨_, rfl, rfl, rfl⟩ := hrel
      by_cases h0 : l.length = 0
      · go_wp2
        go_ret
        exact ⟨_, rfl, HO0.out.1, HO0.out.2⟩
      · go_wp2_with (first | (go_at_call 27; refine Calls.mono (HRT.out _ hb0) ?_; rintro e w2 ⟨rfl, hb2⟩; rw [hrf]))
        go_ret
        exact ⟨_, rfl, own_new HO0.out.1 hb2, hb0.trans (hb2.mono hb0.size)⟩
end Go.Proofs.Yteinpijbdgcehaa
