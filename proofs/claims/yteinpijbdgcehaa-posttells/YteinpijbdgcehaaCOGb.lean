import Derived.Test.YteinpijbdgcehaaCOGa
namespace Go.Proofs.Yteinpijbdgcehaa
open Go.RowKit Go.Shelf
set_option linter.unusedVariables false
set_option linter.unusedSimpArgs false

/-- the pairs of one arm with those of one other -/
def gP (P : OWt) (i : Nat) (a : OArm) (Q : OWt) (j : Nat) (b : OArm) : List OPr := if (a.send = true ∧ 0 < a.chan) ∧ Q.id ≠ P.id ∧ b.send = false ∧ b.chan = a.chan then [⟨P.id, i, Q.id, j, a.chan⟩] else []
def gQ (P : OWt) (i : Nat) (a : OArm) (Q : OWt) : List OPr := ofm (gP P i a Q) 0 Q.arms
def gI (l : List OWt) (P : OWt) (i : Nat) (a : OArm) : List OPr := l.flatMap (gQ P i a)
def gA (l : List OWt) (P : OWt) : List OPr := ofm (gI l P) 0 P.arms
theorem flat_nil {α β : Type} : ∀ l : List α, (l.flatMap fun _ => ([] : List β)) = []
  | [] => rfl
  | a :: r => by rw [List.flatMap_cons, flat_nil r]; rfl
theorem gQ_eq (P : OWt) (i : Nat) (a : OArm) (Q : OWt) : gQ P i a Q = if a.send = true ∧ 0 < a.chan then omeet P i a Q else [] := by
  unfold gQ omeet
  split
  · rename_i h
    split
    · rename_i hq
      rw [ofm_congr (g := fun _ _ => []) (fun j b => by unfold gP; rw [if_neg (fun x => x.2.1 hq)]), ofm_nil]
    · rename_i hq
      refine ofm_congr (fun j b => ?_) _ _
      unfold gP
      by_cases hb : b.send = false ∧ b.chan = a.chan
      · rw [if_pos ⟨h, hq, hb⟩, if_pos hb]
      · rw [if_neg (fun x => hb x.2.2), if_neg hb]
  · rename_i h
    rw [ofm_congr (g := fun _ _ => []) (fun j b => by unfold gP; rw [if_neg (fun x => h x.1)]), ofm_nil]
theorem gA_eq (l : List OWt) : oall l = l.flatMap (gA l) := by
  unfold oall
  refine flat_congr (fun P _ => ?_)
  unfold gA
  refine ofm_congr (fun i a => ?_) _ _
  unfold oarm gI
  split
  · rename_i h
    refine flat_congr (fun Q _ => ?_)
    rw [gQ_eq, if_pos h]
  · rename_i h
    rw [flat_congr (g := fun _ => []) (fun Q _ => by rw [gQ_eq, if_neg h]), flat_nil]
def ArmB2 (W : World) (X : Nat) (a : OArm) : Prop := W.heap[X]? = some (.cells #[.int .i64 a.chan, .bool a.send, .int .i64 a.x, .int .i64 a.y, .slice a.zp a.zn a.zc] 43)
theorem arm_new2 (W : World) (a : OArm) : ArmB2 (W.alloc (.cells #[.int .i64 a.chan, .bool a.send, .int .i64 a.x, .int .i64 a.y, .slice a.zp a.zn a.zc] 43)) W.heap.size a := World.alloc_heap_new _ _
theorem right_ne (l : List OWt) (hr : oright l = true) (i j : Nat) (hi : i < l.length) (hj : j < l.length) : l[j].id ≠ l[i].id ↔ i ≠ j := by
  constructor
  · rintro h rfl; exact h rfl
  · intro h e
    rcases Nat.lt_or_gt_of_ne h with h | h
    · have := right_lt hr i j hj h; omega
    · have := right_lt hr j i hi h; omega
/-- where the row of pairs stands -/
def RwP (w wr : World) (v : Value) (ys : List OPr) : Prop := wr.ownsRow w.heap.size 47 5 v ys.length (prsC ys) ∧ Below w.heap.size w wr
/-- the round of the innermost loop, in plain words -/
structure AtP (w : World) (p q b o : Nat) (P Q : OWt) (i j b1 o1 b2 o2 d1 d2 : Nat) (a e : OArm) : Prop where
  cp : ∀ X, Below w.heap.size w X → X.cell? ⟨b, o + p * 2, none⟩ = some (.int .i64 P.id) ∧ X.cell? ⟨b, o + p * 2 + 1, none⟩ = some (.slice (some ⟨b1, o1, none⟩) P.arms.length d1)
  cq : ∀ X, Below w.heap.size w X → X.cell? ⟨b, o + q * 2, none⟩ = some (.int .i64 Q.id) ∧ X.cell? ⟨b, o + q * 2 + 1, none⟩ = some (.slice (some ⟨b2, o2, none⟩) Q.arms.length d2)
  ca : ∀ X, Below w.heap.size w X → ArmAt X b1 (o1 + i * 5) a
  ce : ∀ X, Below w.heap.size w X → ArmAt X b2 (o2 + j * 5) e

set_option maxRecDepth 100000 in
set_option maxHeartbeats 16000000 in
theorem rPairs_any (w : World) (Pr : Nat → Prop) (hPr : ∀ b, Pr b → ∃ o : Obj, w.heap[b]? = some o ∧ o.isCells = true) (p : Option Addr) (c : Nat) (l : List OWt) (hl : WsIn w Pr p c l) (hsm : (opairs l).length ≤ 20000000) :
    Calls Try.prog 11 #[.slice p l.length c] w (PrPost w (opairs l)) := by
  obtain ⟨i0, hi, iz0, iz1, iz2⟩ := info_parts infoP
  have hlc := hl.len
  have hcm := hl.max
  unfold maxLen at hcm
  have HRT : Bx (∀ X, Below w.heap.size w X → Calls Try.prog 27 #[.slice p l.length c] X fun e w' => e = .returned (.bool (oright l)) ∧ Below X.heap.size X w') := ⟨fun X hX => by
    have hk := Kpt.of_below hPr hX
    exact rright_any X Pr (fun b hb => by obtain ⟨o, h1, h2⟩ := hPr b hb; exact ⟨o, (hk b hb).trans h1, h2⟩) p c l (hl.keep hk)⟩
  have HQ : Bx (WsR w p c l) := ⟨hl.r hPr⟩
  clear hl hPr
  have HO0 : Bx (RwP w (w.alloc (.cells #[] 47)) (.slice (some ⟨w.heap.size, 0, none⟩) 0 0) []) := ⟨⟨rfl, .inr ⟨_, 0, #[], rfl, Nat.le_refl _, World.alloc_heap_new _ _, by simp, by simp [maxLen], rfl, rfl⟩⟩, below1 _ _⟩
  have hb0 := HO0.out.2
  by_cases hr : oright l = true
  · have hdef : opairs l = l.flatMap (gA l) := by unfold opairs; rw [if_pos hr, gA_eq]
    rw [hdef] at hsm ⊢
    go_enter Try.func11, Try.ntmps11
    go_wp2_with (first | (go_at_call 27; refine Calls.mono (HRT.out _ hb0) ?_; rintro e w2 ⟨rfl, hb2⟩; rw [hr]; have HO1 : Bx (RwP w w2 (.slice (some ⟨w.heap.size, 0, none⟩) 0 0) []) := ⟨own_new HO0.out.1 hb2, hb0.trans (hb2.mono hb0.size)⟩; clear hb2))
    clear HO0 hb0 HRT
    go_loopg [3, 4] (l.length + 1) (fun k v3 v4 wr => ∃ x : Nat, k = l.length + 1 - x ∧ x ≤ l.length ∧ v4 = .int .i64 x ∧ Bx (RwP w wr v3 ((l.take x).flatMap (gA l))))
    case atStart => exact ⟨0, by simp, by omega, rfl, by simpa using HO1⟩
    case round =>
      obtain ⟨x, hk, hil, rfl, HR⟩ := hrel
      clear HO1
      by_cases hlt : x < l.length
      · obtain ⟨b, o, ap, d, rfl, hd1, hd2, hC, hA⟩ := HQ.out.at_ x hlt
        unfold maxLen at hd2
        have HC : Bx _ := ⟨hC⟩
        have HA : Bx _ := ⟨hA⟩
        have HPRE : Bx ((l.take x).flatMap (gA l) ++ gA l l[x] <+: l.flatMap (gA l)) := ⟨pre_flat _ l x hlt⟩
        have HTK : Bx ((l.take (x + 1)).flatMap (gA l) = (l.take x).flatMap (gA l) ++ gA l l[x]) := ⟨flat_take _ l x hlt⟩
        have HNE : Bx (∀ y (hy : y < l.length), l[y].id ≠ l[x].id ↔ x ≠ y) := ⟨fun y hy => right_ne l hr x y hlt hy⟩
        clear hC hA
        generalize (l.take x).flatMap (gA l) = ys at *
        generalize l.flatMap (gA l) = zs at *
        generalize hP : l[x] = P at *
        go_wp2
        go_loopg [3, 5] (P.arms.length + 1) (fun k v3 v5 wr => ∃ i : Nat, k = P.arms.length + 1 - i ∧ i ≤ P.arms.length ∧ v5 = .int .i64 i ∧ Bx (RwP w wr v3 (ys ++ ofm (gI l P) 0 (P.arms.take i))))
        case atStart => exact ⟨0, by simp, by omega, rfl, by simpa [ofm] using HR⟩
        case round =>
          obtain ⟨i, hk2, hil2, rfl, HR2⟩ := hrel
          clear HR
          have hc2 := (HC.out _ HR2.out.2).2
          by_cases hit : i < P.arms.length
          · obtain ⟨b1, o1, rfl, hat⟩ := HA.out i hit
            have HAT : Bx _ := ⟨hat⟩
            clear hat HA
            have HP2 : Bx (ys ++ (ofm (gI l P) 0 (P.arms.take i) ++ gI l P i P.arms[i]) <+: zs) := ⟨pre_right HPRE.out (pre_ofm _ _ _ hit)⟩
            have HT2 : Bx (ofm (gI l P) 0 (P.arms.take (i + 1)) = ofm (gI l P) 0 (P.arms.take i) ++ gI l P i P.arms[i]) := ⟨ofm_take _ _ _ hit⟩
            rw [← List.append_assoc] at HP2
            clear HPRE
            generalize hY2 : ofm (gI l P) 0 (P.arms.take i) = y2 at *
            generalize P.arms[i] = a at *
            generalize hYY : ys ++ y2 = yy at *
            go_wp2
            go_loopg [3, 6] (l.length + 1) (fun k v3 v6 wr => ∃ q : Nat, k = l.length + 1 - q ∧ q ≤ l.length ∧ v6 = .int .i64 q ∧ Bx (RwP w wr v3 (yy ++ (l.take q).flatMap (gQ P i a))))
            case atStart => exact ⟨0, by simp, by omega, rfl, by simpa using HR2⟩
            case round =>
              obtain ⟨q, hk3, hil3, rfl, HR3⟩ := hrel
              clear HR2 hc2
              by_cases hqt : q < l.length
              · obtain ⟨b', o', aq, dq, e', hq1, hq2, hCq, hAq⟩ := HQ.out.at_ q hqt
                cases e'
                unfold maxLen at hq2
                have HCQ : Bx _ := ⟨hCq⟩
                have HAQ : Bx _ := ⟨hAq⟩
                have HP3 : Bx (yy ++ ((l.take q).flatMap (gQ P i a) ++ gQ P i a l[q]) <+: zs) := ⟨pre_right HP2.out (pre_flat _ l q hqt)⟩
                have HT3 : Bx ((l.take (q + 1)).flatMap (gQ P i a) = (l.take q).flatMap (gQ P i a) ++ gQ P i a l[q]) := ⟨flat_take _ l q hqt⟩
                have HNQ : Bx (l[q].id ≠ P.id ↔ x ≠ q) := ⟨HNE.out q hqt⟩
                rw [← List.append_assoc] at HP3
                clear hCq hAq
                generalize hY3 : (l.take q).flatMap (gQ P i a) = y3 at *
                generalize hQe : l[q] = Q at *
                generalize hYZ : yy ++ y3 = yz at *
                go_wp2
                go_loopg [3, 7] (Q.arms.length + 1) (fun k v3 v7 wr => ∃ j : Nat, k = Q.arms.length + 1 - j ∧ j ≤ Q.arms.length ∧ v7 = .int .i64 j ∧ Bx (RwP w wr v3 (yz ++ ofm (gP P i a Q) 0 (Q.arms.take j))))
                case atStart => exact ⟨0, by simp, by omega, rfl, by simpa [ofm] using HR3⟩
                case round =>
                  obtain ⟨j, hk4, hil4, rfl, HR4⟩ := hrel
                  clear HR3
                  by_cases hjt : j < Q.arms.length
                  · obtain ⟨b2, o2, rfl, hae⟩ := HAQ.out j hjt
                    have HK : Bx (AtP w x q b o P Q i j b1 o1 b2 o2 d dq a Q.arms[j]) := ⟨HC.out, HCQ.out, HAT.out, hae⟩
                    have HP4 : Bx (yz ++ (ofm (gP P i a Q) 0 (Q.arms.take j) ++ gP P i a Q j Q.arms[j]) <+: zs) := ⟨pre_right HP3.out (pre_ofm _ _ _ hjt)⟩
                    have HT4 : Bx (ofm (gP P i a Q) 0 (Q.arms.take (j + 1)) = ofm (gP P i a Q) 0 (Q.arms.take j) ++ gP P i a Q j Q.arms[j]) := ⟨ofm_take _ _ _ hjt⟩
                    clear hae HAT HAQ HC HCQ HP3 HT3 HP2 HT2 HTK
                    generalize ofm (gP P i a Q) 0 (Q.arms.take j) = y4 at *
                    generalize Q.arms[j] = e at *
                    have hbr := HR4.out.2
                    have hsz : w.heap.size ≤ wr.heap.size := hbr.size
                    obtain ⟨ach, asd, ax, ay, azp, azn, azc⟩ := a
                    obtain ⟨ech, esd, ex, ey, ezp, ezn, ezc⟩ := e
                    have hpc := HK.out.cp _ hbr
                    have p0 := hpc.1
                    have p1 := hpc.2
                    have q1w := (HK.out.cq _ hbr).2
                    have hac := HK.out.ca _ hbr
                    have a0 : wr.cell? ⟨b1, o1 + i * 5, none⟩ = some (.int .i64 ach) := hac.c0
                    have a1 : wr.cell? ⟨b1, o1 + i * 5 + 1, none⟩ = some (.bool asd) := hac.c1
                    have a2 : wr.cell? ⟨b1, o1 + i * 5 + 2, none⟩ = some (.int .i64 ax) := hac.c2
                    have a3 : wr.cell? ⟨b1, o1 + i * 5 + 3, none⟩ = some (.int .i64 ay) := hac.c3
                    have a4 : wr.cell? ⟨b1, o1 + i * 5 + 4, none⟩ = some (.slice azp azn azc) := hac.c4
                    obtain ⟨W1, hW1⟩ : ∃ W1, wr.alloc (.cells #[.int .i64 ach, .bool asd, .int .i64 ax, .int .i64 ay, .slice azp azn azc] 43) = W1 := ⟨_, rfl⟩
                    have hb1 : Below w.heap.size w W1 := by rw [← hW1]; exact hbr.trans ((below1 _ _).mono hsz)
                    have hz1 : W1.heap.size = wr.heap.size + 1 := by rw [← hW1]; simp
                    have hqc := HK.out.cq _ hb1
                    have q0 := hqc.1
                    have q1 := hqc.2
                    have hec := HK.out.ce _ hb1
                    have e0 : W1.cell? ⟨b2, o2 + j * 5, none⟩ = some (.int .i64 ech) := hec.c0
                    have e1 : W1.cell? ⟨b2, o2 + j * 5 + 1, none⟩ = some (.bool esd) := hec.c1
                    have e2 : W1.cell? ⟨b2, o2 + j * 5 + 2, none⟩ = some (.int .i64 ex) := hec.c2
                    have e3 : W1.cell? ⟨b2, o2 + j * 5 + 3, none⟩ = some (.int .i64 ey) := hec.c3
                    have e4 : W1.cell? ⟨b2, o2 + j * 5 + 4, none⟩ = some (.slice ezp ezn ezc) := hec.c4
                    obtain ⟨W2, hW2⟩ : ∃ W2, W1.alloc (.cells #[.int .i64 ech, .bool esd, .int .i64 ex, .int .i64 ey, .slice ezp ezn ezc] 43) = W2 := ⟨_, rfl⟩
                    have hb12 : Below W1.heap.size W1 W2 := by rw [← hW2]; exact below1 _ _
                    have hb2 : Below w.heap.size w W2 := hb1.trans (hb12.mono hb1.size)
                    have hz2 : W2.heap.size = wr.heap.size + 2 := by rw [← hW2]; simp [hz1]
                    have hA1 : W2.heap[wr.heap.size]? = some (.cells #[.int .i64 ach, .bool asd, .int .i64 ax, .int .i64 ay, .slice azp azn azc] 43) := by
                      refine (hb12.block _ (by omega)).trans ?_
                      rw [← hW1]; exact World.alloc_heap_new _ _
                    have hA2 : W2.heap[wr.heap.size + 1]? = some (.cells #[.int .i64 ech, .bool esd, .int .i64 ex, .int .i64 ey, .slice ezp ezn ezc] 43) := by rw [← hW2, ← hz1]; exact World.alloc_heap_new _ _
                    have m0 : W2.cell? ⟨wr.heap.size, 0, none⟩ = some (.int .i64 ach) := cell_of hA1 rfl
                    have m1 : W2.cell? ⟨wr.heap.size, 1, none⟩ = some (.bool asd) := cell_of hA1 rfl
                    have n0 : W2.cell? ⟨wr.heap.size + 1, 0, none⟩ = some (.int .i64 ech) := cell_of hA2 rfl
                    have n1 : W2.cell? ⟨wr.heap.size + 1, 1, none⟩ = some (.bool esd) := cell_of hA2 rfl
                    have hR2 : RwP w W2 u3 (yz ++ y4) := by
                      refine ⟨own_new HR4.out.1 ?_, hb2⟩
                      have h1 : Below wr.heap.size wr W1 := by rw [← hW1]; exact below1 _ _
                      exact h1.trans (hb12.mono h1.size)
                    have HR5 : Bx (RwP w W2 u3 (yz ++ y4)) := ⟨hR2⟩
                    have HP5 : Bx (W2.cell? ⟨b, o + x * 2, none⟩ = some (.int .i64 P.id) ∧ W2.cell? ⟨b, o + q * 2, none⟩ = some (.int .i64 Q.id)) := ⟨(HK.out.cp _ hb2).1, (HK.out.cq _ hb2).1⟩
                    have HB2 : Bx (Below w.heap.size w W2) := ⟨hb2⟩
                    clear hR2 hA1 hA2 hac hec hpc hqc HK HR4 hb12 hb1 hb2 hz1 hz2
                    subst hW2
                    subst hW1
                    have hx1 : (0 : Int) ≤ ↑x := by omega
                    have hNO : gP P i ⟨ach, asd, ax, ay, azp, azn, azc⟩ Q j ⟨ech, esd, ex, ey, ezp, ezn, ezc⟩ = [] → Bx (RwP w ((wr.alloc (.cells #[.int .i64 ach, .bool asd, .int .i64 ax, .int .i64 ay, .slice azp azn azc] 43)).alloc (.cells #[.int .i64 ech, .bool esd, .int .i64 ex, .int .i64 ey, .slice ezp ezn ezc] 43)) u3 (yz ++ ofm (gP P i ⟨ach, asd, ax, ay, azp, azn, azc⟩ Q) 0 (Q.arms.take (j + 1)))) := fun h => ⟨by rw [HT4.out, h, List.append_nil]; exact HR5.out⟩
                    by_cases g1 : x = q
                    · have HF := hNO (if_neg (fun h => HNQ.out.1 h.2.1 g1))
                      subst g1
                      obtain rfl : P = Q := hP.symm.trans hQe
                      have hE := p1.symm.trans q1w
                      simp only [Option.some.injEq, Value.slice.injEq, Addr.mk.injEq, true_and, and_true] at hE
                      obtain ⟨⟨rfl, rfl⟩, rfl⟩ := hE
                      clear hNO HR5 HP4 HT4 q1w
                      go_wp2
                      go_roundg (P.arms.length + 1 - (j + 1))
                      case measure => omega
                      case rel => exact ⟨j + 1, rfl, by omega, by simp, HF⟩
                    · have g1' : ((↑x : Int) != ↑q) = true := by simp; omega
                      cases asd with
                      | false =>
                        have HF := hNO (if_neg (fun h => absurd h.1.1 (by simp)))
                        clear hNO HR5 HP4 HT4
                        go_wp2
                        go_roundg (Q.arms.length + 1 - (j + 1))
                        case measure => omega
                        case rel => exact ⟨j + 1, rfl, by omega, by simp, HF⟩
                      | true =>
                        cases esd with
                        | true =>
                          have HF := hNO (if_neg (fun h => absurd h.2.2.1 (by simp)))
                          clear hNO HR5 HP4 HT4
                          go_wp2
                          go_roundg (Q.arms.length + 1 - (j + 1))
                          case measure => omega
                          case rel => exact ⟨j + 1, rfl, by omega, by simp, HF⟩
                        | false =>
                          by_cases g4 : ach = ech
                          · by_cases g5 : 0 < ach
                            · subst g4
                              have HG : Bx (gP P i ⟨ach, true, ax, ay, azp, azn, azc⟩ Q j ⟨ach, false, ex, ey, ezp, ezn, ezc⟩ = [⟨P.id, i, Q.id, j, ach⟩]) := ⟨if_pos ⟨⟨rfl, g5⟩, HNQ.out.2 g1, rfl, rfl⟩⟩
                              have g5' : decide (0 < ach) = true := by simpa using g5
                              have hzl : (yz ++ y4).length ≤ 20000000 - 1 := by
                                have := HP4.out.length_le
                                rw [HG.out] at this
                                simp only [List.length_append, List.length_cons, List.length_nil] at this ⊢
                                omega
                              have HT5 : Bx (yz ++ ofm (gP P i ⟨ach, true, ax, ay, azp, azn, azc⟩ Q) 0 (Q.arms.take (j + 1)) = (yz ++ y4) ++ [⟨P.id, i, Q.id, j, ach⟩]) := ⟨by rw [HT4.out, HG.out, List.append_assoc]⟩
                              have cp := HP5.out.1
                              have cq := HP5.out.2
                              have hx2 : (↑x : Int) < ↑l.length := by omega
                              have hq1 : (0 : Int) ≤ ↑q := by omega
                              have hq2 : (↑q : Int) < ↑l.length := by omega
                              clear hNO HP4 HT4 g5 g1 HG HP5
                              generalize hyy : yz ++ y4 = yw at *
                              have HRE : Bx (RwP w (((wr.alloc (.cells #[.int .i64 ach, .bool true, .int .i64 ax, .int .i64 ay, .slice azp azn azc] 43)).alloc (.cells #[.int .i64 ach, .bool false, .int .i64 ex, .int .i64 ey, .slice ezp ezn ezc] 43)).alloc (.cells #[.int .i64 P.id, .int .i64 ↑i, .int .i64 Q.id, .int .i64 ↑j, .int .i64 ach] 47)).drew u3 yw) := ⟨own_new HR5.out.1 (below1 _ _).drew, HB2.out.trans (((below1 _ _).drew).mono (by simp; omega))⟩
                              have HNB : Bx ((((wr.alloc (.cells #[.int .i64 ach, .bool true, .int .i64 ax, .int .i64 ay, .slice azp azn azc] 43)).alloc (.cells #[.int .i64 ach, .bool false, .int .i64 ex, .int .i64 ey, .slice ezp ezn ezc] 43)).alloc (.cells (prC ⟨P.id, i, Q.id, j, ach⟩).toArray 47)).drew.heap[wr.heap.size + 1 + 1]? = some (.cells (prC ⟨P.id, i, Q.id, j, ach⟩).toArray 47 (0, 0))) := ⟨by
                                have h := World.alloc_heap_new ((wr.alloc (.cells #[.int .i64 ach, .bool true, .int .i64 ax, .int .i64 ay, .slice azp azn azc] 43)).alloc (.cells #[.int .i64 ach, .bool false, .int .i64 ex, .int .i64 ey, .slice ezp ezn ezc] 43)) (.cells (prC ⟨P.id, i, Q.id, j, ach⟩).toArray 47)
                                rw [World.size_alloc, World.size_alloc] at h
                                exact h⟩
                              go_wp2
                              go_region_law (first
                                | (refine step_app rfl (.tmp 87) (.tmp 103) 33 rfl w.heap.size 47 i0 (.agg #[.int .i64 0, .int .i64 0, .int .i64 0, .int .i64 0, .int .i64 0]) 5 40 Try.underlying33 hi iz0 iz1 iz2 rfl (by decide) u3 yw.length (prsC yw) rfl HRE.out.1 (some ⟨wr.heap.size + 1 + 1, 0, none⟩) 1 1 (prC ⟨P.id, i, Q.id, j, ach⟩) rfl rfl (fun _ => ⟨_, rfl, block_cells _ _ _ 47 HNB.out⟩) (by simp [Value.oneCell', prC]) (by unfold maxLen; omega) (by omega) HRE.out.2.size ?_; rintro v7 w7 ho7 hg7 hb7; have HRF : Bx (RwP w w7 v7 (yw ++ [⟨P.id, i, Q.id, j, ach⟩])) := ⟨(by simpa [prsC_snoc] using ho7), HRE.out.2.grown hg7 HRE.out.2.size (fun r e => own_base HRE.out.1 r e)⟩; clear ho7 hg7 hb7))
                              go_wp2
                              all_goals
                                go_roundg (Q.arms.length + 1 - (j + 1))
                                case measure => omega
                                case rel => exact ⟨j + 1, rfl, by omega, by simp, ⟨by rw [HT5.out]; exact HRF.out⟩⟩
                            · have HF := hNO (if_neg (fun h => g5 h.1.2))
                              have g4' : (ach == ech) = true := by simpa using g4
                              have g5' : decide (0 < ach) = false := by simpa using g5
                              clear hNO HR5 HP4 HT4 g4 g5
                              go_wp2
                              go_roundg (Q.arms.length + 1 - (j + 1))
                              case measure => omega
                              case rel => exact ⟨j + 1, rfl, by omega, by simp, HF⟩
                          · have HF := hNO (if_neg (fun h => g4 h.2.2.2.symm))
                            have g4' : (ach == ech) = false := by simpa using g4
                            clear hNO HR5 HP4 HT4 g4
                            go_wp2
                            go_roundg (Q.arms.length + 1 - (j + 1))
                            case measure => omega
                            case rel => exact ⟨j + 1, rfl, by omega, by simp, HF⟩
                  · have hje : j = Q.arms.length := by omega
                    subst hje
                    rw [List.take_length] at HR4
                    have HF : Bx (RwP w wr u3 (yy ++ (l.take (q + 1)).flatMap (gQ P i a))) := ⟨by rw [HT3.out, ← List.append_assoc, hYZ]; exact HR4.out⟩
                    have hcq := (HCQ.out _ HR4.out.2).2
                    clear HR4 HAQ HP3
                    go_wp2
                    go_roundg (l.length + 1 - (q + 1))
                    case measure => omega
                    case rel => exact ⟨q + 1, rfl, by omega, by simp, HF⟩
              · have hqe : q = l.length := by omega
                subst hqe
                rw [List.take_length] at HR3
                have HF : Bx (RwP w wr u3 (ys ++ ofm (gI l P) 0 (P.arms.take (i + 1)))) := ⟨by rw [HT2.out, ← List.append_assoc, hYY]; exact HR3.out⟩
                clear HR3 HT2 HP2
                go_wp2
                go_roundg (P.arms.length + 1 - (i + 1))
                case measure => omega
                case rel => exact ⟨i + 1, rfl, by omega, by simp, HF⟩
          · have hie : i = P.arms.length := by omega
            subst hie
            rw [List.take_length] at HR2
            have HF : Bx (RwP w wr u3 ((l.take (x + 1)).flatMap (gA l))) := ⟨by rw [HTK.out]; exact HR2.out⟩
            clear HR2 HA
            go_wp2
            go_roundg (l.length + 1 - (x + 1))
            case measure => omega
            case rel => exact ⟨x + 1, rfl, by omega, by simp, HF⟩
      · have hie : x = l.length := by omega
        subst hie
        rw [List.take_length] at HR
        go_wp2
        go_ret
        exact ⟨_, rfl, HR.out.1, HR.out.2⟩
  · have hdef : opairs l = [] := by unfold opairs; rw [if_neg hr]
    rw [hdef] at hsm ⊢
    have hrf : oright l = false := by simpa using hr
    go_enter Try.func11, Try.ntmps11
    go_wp2_with (first | (go_at_call 27; refine Calls.mono (HRT.out _ hb0) ?_; rintro e w2 ⟨rfl, hb2⟩; rw [hrf]))
    go_ret
    exact ⟨_, rfl, own_new HO0.out.1 hb2, hb0.trans (hb2.mono hb0.size)⟩
end Go.Proofs.Yteinpijbdgcehaa
