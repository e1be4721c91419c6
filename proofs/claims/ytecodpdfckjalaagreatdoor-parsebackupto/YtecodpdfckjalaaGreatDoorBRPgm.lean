import Derived.Test.YtecodpdfckjalaaGreatDoorBRPost
import Derived.Test.YtecodpdfckjalaaGreatDoorBCovQ
import Derived.Defers
import Derived.Recover
set_option linter.unusedVariables false
set_option linter.unusedSimpArgs false
set_option maxHeartbeats 4000000
set_option maxRecDepth 100000
namespace Go.Proofs.YtecodpdfckjalaaGreatDoor
open Go.RowKit
variable {w0 : World} {rb : Nat} {ae aa : Value} {TL : List Tok} {xs : List UInt8} {U : Nat -> Prop}
theorem JP (hT : RT w0 rb ae aa TL xs) {W : World} {s : List ai} {ns : List Nd} (h : RSs w0 rb ae aa TL xs U W s ns) :
  Calls Tryz.prog 68 #[.pointer (some ⟨rb, 0, none⟩)] W fun e W' => e = .returned (.bool (decide (s.length <= 1))) /\ Below W.heap.size W W' := by
 obtain ⟨i, rfl, hi, hS, hni, hU⟩ := h
 have e : decide ((pts xs TL i).length <= 1) = decide (i + 1 = TL.length) := by
  unfold pts
  simp
  omega
 rw [e]
 exact BP hT hS hi
def Ee (w0 : World) (rb : Nat) (ae aa : Value) (U : Nat -> Prop) (W : World) (ns : List Nd) (res : Res) (e : Ending) (W' : World) : Prop :=
 match res with
 | .ok ts s' => (∃ r : Int, e = .returned (.int .i64 r)) /\ (∃ i, RS w0 rb ae aa U W' i (ns ++ ag ts ns.length)) /\ af rb W W'
 | .err s' => e = ak (hd s').place /\ Below rb w0 W'
 | .out => False
def r1 (f : Nat) (X : Res) : Res := aC X fun a s1 => aC (pF f .tops s1) fun b s2 => .ok [.mk 46 0 a.length [] (a ++ b)] s2
def r2 (A : List Tr) (X : Res) : Res := aC X fun b s2 => .ok [.mk 46 0 A.length [] (A ++ b)] s2
structure qj (w0 : World) (rb : Nat) (ae aa : Value) (TL : List Tok) (xs : List UInt8) (U : Nat -> Prop) (W : World) (s : List ai) (ns : List Nd) (R res : Res) (kv : Value) (wr : World) (acc : List Tr) (cur : List ai) : Prop where
 eq : R = res
 st : RSs w0 rb ae aa TL xs (Uv U kv) wr cur (ns ++ ag acc ns.length)
 row : aQ wr rb kv (ends acc ns.length)
 keep : af rb W wr
 new : ∀ y, kv.ownBlock = some y -> W.heap.size <= y
 sz : cur.length + sizes acc <= s.length
theorem qj.more {W : World} {s : List ai} {ns : List Nd} {R res : Res} {a : Option Addr} {c n : Nat} {wr W2 W3 : World} {acc ts : List Tr} {cur s' : List ai} (h : qj w0 rb ae aa TL xs U W s ns R res (.slice a n c) wr acc cur) (hn : n = acc.length) (k2 : af rb wr W2) (k3 : af rb W2 W3) (q3 : RSs w0 rb ae aa TL xs (Uv U (.slice a n c)) W3 s' ((ns ++ ag acc ns.length) ++ ag ts (ns ++ ag acc ns.length).length)) (n3 : ts.length = 1) (l3 : s'.length + sizes ts <= cur.length) (v : Nat) (hv : v = ((ns ++ ag acc ns.length).length + sizes ts - 1)) :
  W3.ownsRow (rb + 1) 3 1 (.slice a n c) n (bM (ends acc ns.length)) /\ rb < W3.heap.size /\ ∀ g2 cp w4, (W3.alloc (.cells #[.int .i64 (v : Int)] 3)).grownBy w4 (Value.slice a n c).ownBlock -> ((Value.slice a n c).ownBlock = some g2 ∨ g2 = W3.heap.size + 1) -> g2 < w4.heap.size -> w4.ownsRow (rb + 1) 3 1 (.slice (some ⟨g2, 0, none⟩) (n + 1) cp) (n + 1) (bM (ends acc ns.length) ++ [.int .i64 (v : Int)]) -> ∀ res', R = res' -> qj w0 rb ae aa TL xs U W s ns R res' (.slice (some ⟨g2, 0, none⟩) (n + 1) cp) w4 (acc ++ ts) s' := by
 subst hn
 have hrow := h.st.ints h.row (k2.trans k3)
 refine ⟨by unfold aQ at hrow; rw [cz] at hrow; exact hrow, q3.lt, fun g2 cp w4 hg hat hl4 hown res' hr => ?_⟩
 obtain ⟨p1, p2⟩ := q3.grown hrow hg g2 (acc.length + 1) cp hat hl4
 obtain ⟨p3, p4⟩ := p2 W (h.keep.trans (k2.trans k3)) h.new
 have hends : ends (acc ++ ts) ns.length = ends acc ns.length ++ [(v : Int)] := by rw [bD, aK n3, hv, dV]
 have hsz := h.sz
 refine ⟨hr, ?_, ?_, p3, fun y hy => ?_, ?_⟩
 ·rw [bP] at p1
  exact p1
 ·unfold aQ
  rw [hends, List.length_append, cz, bM, List.map_append]
  exact hown
 ·simp [Value.ownBlock] at hy
  subst hy
  exact p4
 ·rw [aI]
  omega
theorem ui (acc ts : List Tr) (X : Res) : iy acc (aC X fun b s2 => .ok (ts ++ b) s2) = iy (acc ++ ts) X := by
 cases X <;> simp [iy, aC]
theorem xe (hT : RT w0 rb ae aa TL xs) (hK : aR TL) {f : Nat} (HT : ∀ f', f' < f -> RC w0 rb ae aa TL xs (pF f' .tyn) 67 #[]) (HS : ∀ f', f' < f -> RC w0 rb ae aa TL xs (pF f' .stmt) 69 #[]) {W : World} {s : List ai} {ns : List Nd} (hS : RSs w0 rb ae aa TL xs U W s ns) (hne : pF (f + 1) .program s ≠ .out) :
  Calls Tryz.prog 38 #[.pointer (some ⟨rb, 0, none⟩)] W (Ee w0 rb ae aa U W ns (pF (f + 1) .program s)) := by
 have hrW := hS.lt
 obtain ⟨i0, hi, hz0, hz1, hz2⟩ := info_parts gu
 have hslen : s.length <= 65537 := by
  obtain ⟨i, rfl, hi, _⟩ := hS
  have := hT.small
  unfold pts
  simp
  omega
 have hR0 : pF (f + 1) .program s = r1 f (iy [] (pF f .types s)) := by rw [ni]; rfl
 obtain ⟨R, hR⟩ : ∃ R, pF (f + 1) .program s = R := ⟨_, rfl⟩
 rw [hR] at hne hR0 ⊢
 have HNE : Bx (R ≠ .out) := ⟨hne⟩
 have LB : Bx (qj w0 rb ae aa TL xs U W s ns R (r1 f (iy [] (pF f .types s))) (.slice none 0 0) W [] s) := ⟨hR0, by
   have : ns ++ ag [] ns.length = ns := by simp [ag]
   rw [this]
   exact hS.jD (fun y hy => by rcases hy with hy | hy; exact hy; simp [Value.ownBlock] at hy), World.ownsRow_nil _ _ _ _, af.ext hrW (Below.refl _ _), fun y hy => by simp [Value.ownBlock] at hy, by simp [sizes]⟩
 have HU : Bx (∀ y, U y -> y < W.heap.size) := ⟨by obtain ⟨_, _, _, _, _, hU⟩ := hS; exact hU⟩
 clear hR hne hR0 hS
 go_enter Tryz.func38, Tryz.ntmps38
 go_wp2
 go_loopw [3] (fun kv wr => ∃ f' : Nat, ∃ acc cur, ∃ a n c, kv = .slice a n c /\ f' <= f /\ Bx (n = acc.length) /\ Bx (qj w0 rb ae aa TL xs U W s ns R (r1 f (iy acc (pF f' .types cur))) kv wr acc cur)) (fun kv _ => s.length - sliceLen kv)
 case atStart => exact ⟨f, [], s, none, 0, 0, rfl, Nat.le_refl _, ⟨rfl⟩, LB⟩
 case round =>
  obtain ⟨f', acc, cur, a, n, c, rfl, hff, HN, HL⟩ := hrel
  clear LB
  have hsz := HL.out.sz
  have hac := dR acc
  have hcl : 1 <= cur.length := by
   obtain ⟨i, e, hi, _⟩ := HL.out.st
   rw [e]
   unfold pts
   simp
   omega
  have hnl : n <= 65537 := by have := HN.out; omega
  have BT : Bx (∀ W1, RSs w0 rb ae aa TL xs (Uv U (.slice a n c)) W1 cur (ns ++ ag acc ns.length) -> _) := ⟨fun W1 h => dO (U := Uv U (.slice a n c)) hT h⟩
  have hte := au hK HL.out.st 27 (by decide) [116, 121, 112, 101] (by decide)
  match f', HL with
  | 0, HL =>
   have h2 := HL.out.eq
   exact absurd h2 HNE.out
  | g + 1, HL =>
   by_cases h2 : kd cur = 27
   ·have e1 : pF (g + 1) .types cur = aC (pF g .tyn cur) fun a s1 => aC (pF g .types s1) fun b s2 => .ok (a ++ b) s2 := by
     show body (pF g) .types cur = _
     simp only [body]
     rw [if_pos h2]
    have hteq : ((⟨(ax (kd cur : Nat)).toArray⟩ : ByteArray).toList == [116, 121, 112, 101]) = true := by rw [hte]; exact decide_eq_true h2
    have B3 : Bx (∀ W1, RSs w0 rb ae aa TL xs (Uv U (.slice a n c)) W1 cur (ns ++ ag acc ns.length) -> pF g .tyn cur ≠ .out -> Calls Tryz.prog 67 #[.pointer (some ⟨rb, 0, none⟩)] W1 (aj w0 rb ae aa TL xs (Uv U (.slice a n c)) W1 cur (ns ++ ag acc ns.length) (pF g .tyn cur))) := ⟨fun W1 h hn => HT g (by omega) _ W1 cur _ h hn⟩
    clear hte h2
    generalize (⟨(ax (kd cur : Nat)).toArray⟩ : ByteArray) = tx at *
    match r3 : pF g .tyn cur with
    | .out =>
     have h3 := HL.out.eq
     rw [e1, r3] at h3
     exact absurd h3 HNE.out
    | .err s' =>
     rw [r3] at B3
     have eR : Bx (R = .err s') := ⟨by
      have h3 := HL.out.eq
      rw [e1, r3] at h3
      exact h3⟩
     clear HS HT
     go_wp2_with (first
      | (go_at_call 66; refine Calls.mono (BT.out _ HL.out.st) ?_; rintro e W2 ⟨rfl, b2⟩; have Q2 : Bx _ := ⟨HL.out.st.ext b2⟩; have K2 : Bx _ := ⟨af.ext HL.out.st.lt b2⟩; clear BT b2)
      | (go_at_call 67; refine Calls.mono (B3.out _ Q2.out (by simp)) ?_; rintro e W3 ⟨rfl, b⟩; unfold ak))
     exact ⟨rfl, by rw [eR.out]; exact ⟨rfl, b⟩⟩
    | .ok ts s' =>
     rw [r3] at B3
     have eR : Bx (R = r1 f (iy (acc ++ ts) (pF g .types s'))) := ⟨by
      have h3 := HL.out.eq
      rw [e1, r3] at h3
      rw [← ui]
      exact h3⟩
     clear HS HT
     go_wp2_with (first
      | (go_at_call 66; refine Calls.mono (BT.out _ HL.out.st) ?_; rintro e W2 ⟨rfl, b2⟩; have Q2 : Bx _ := ⟨HL.out.st.ext b2⟩; have K2 : Bx _ := ⟨af.ext HL.out.st.lt b2⟩; clear BT b2)
      | (go_at_call 67; refine Calls.mono (B3.out _ Q2.out (by simp)) ?_; rintro e W3 ⟨n3, l3, he, q3, k3⟩; obtain ⟨v3, hv⟩ : ∃ r : Nat, r = ((ns ++ ag acc ns.length).length + sizes ts - 1) := ⟨_, rfl⟩; rw [← hv] at he; subst he; obtain ⟨hrow, hrl, hnx⟩ := HL.out.more HN.out K2.out k3 q3 n3 l3 v3 hv; have NX : Bx _ := ⟨hnx⟩; have RW : Bx _ := ⟨hrow⟩; have N3 : Bx _ := ⟨n3⟩; clear hv hnx hrow B3 n3 q3 k3)
      | (at_builtin; refine wpList_append_lies _ rfl (.tmp 8) (.tmp 11) 39 rfl (rb + 1) 3 i0 (.int .i64 0) 1 8 Tryz.underlying39 hi hz0 hz1 hz2 rfl (by decide) (.slice a n c) n (bM (ends acc ns.length)) rfl (bO RW.out (ah W3 (.cells #[.int .i64 (v3 : Int)] 3))) ⟨W3.heap.size, 0, none⟩ 1 1 [.int .i64 (v3 : Int)] rfl rfl (dD _ _ rfl _) (eF _) (by decide) (by unfold maxLen; omega) (by omega) (by simp; omega) (W3.heap.size + 1) (by simp) ?_; intro g2 cp w4 hown hgrow hat hlt4; have LNB : Bx _ := ⟨NX.out g2 cp w4 hgrow hat hlt4 hown⟩; clear hgrow hat hown))
     go_roundw
     case rel => exact ⟨g, acc ++ ts, s', some ⟨g2, 0, none⟩, n + 1, cp, rfl, by omega, ⟨by have := HN.out; have := N3.out; simp; omega⟩, ⟨LNB.out _ eR.out⟩⟩
     case measure => have := HN.out; simp [sliceLen]; omega
   ·have hteq : ((⟨(ax (kd cur : Nat)).toArray⟩ : ByteArray).toList == [116, 121, 112, 101]) = false := by rw [hte]; exact decide_eq_false h2
    have e1 : pF (g + 1) .types cur = .ok [] cur := by
     show body (pF g) .types cur = _
     simp only [body]
     rw [if_neg h2]
    have eR : Bx (R = r2 acc (iy [] (pF f .tops cur))) := ⟨by
     have h3 := HL.out.eq
     rw [e1] at h3
     rw [h3, ni]
     simp only [iy, r1, r2, aC, List.append_nil]⟩
    clear hte h2
    generalize (⟨(ax (kd cur : Nat)).toArray⟩ : ByteArray) = tx at *
    go_wp2_with (first
     | (go_at_call 66; refine Calls.mono (BT.out _ HL.out.st) ?_; rintro e W2 ⟨rfl, b2⟩; have Q2 : Bx _ := ⟨HL.out.st.ext b2⟩; have K2 : Bx _ := ⟨af.ext HL.out.st.lt b2⟩; clear BT b2))
    have LB2 : Bx (qj w0 rb ae aa TL xs U W s ns R (r2 acc (iy [] (pF f .tops cur))) (.slice a n c) W2 (acc ++ []) cur) := ⟨by
     rw [List.append_nil]
     exact ⟨eR.out, Q2.out, HL.out.st.ints HL.out.row K2.out, HL.out.keep.trans K2.out, HL.out.new, HL.out.sz⟩⟩
    clear HL Q2 K2 eR HT hteq e1
    go_loopw [3] (fun kv wr => ∃ f' : Nat, ∃ acc2 cur, ∃ a n c, kv = .slice a n c /\ f' <= f /\ Bx (n = (acc ++ acc2).length) /\ Bx (qj w0 rb ae aa TL xs U W s ns R (r2 acc (iy acc2 (pF f' .tops cur))) kv wr (acc ++ acc2) cur)) (fun kv _ => s.length - sliceLen kv)
    case atStart => exact ⟨f, [], cur, a, n, c, rfl, Nat.le_refl _, ⟨by have := HN.out; simp; omega⟩, LB2⟩
    case round =>
     have HA : Bx (n = acc.length) := ⟨HN.out⟩
     obtain ⟨f', acc2, cur, a, m, c, rfl, hff, HN, HL⟩ := hrel
     clear LB2
     have hsz := HL.out.sz
     have hac := dR (acc ++ acc2)
     have hcl : 1 <= cur.length := by
      obtain ⟨i, e, hi, _⟩ := HL.out.st
      rw [e]
      unfold pts
      simp
      omega
     have hnl : m <= 65537 := by have := HN.out; omega
     have BT : Bx (∀ W1, RSs w0 rb ae aa TL xs (Uv U (.slice a m c)) W1 cur (ns ++ ag (acc ++ acc2) ns.length) -> _) := ⟨fun W1 h => JP (U := Uv U (.slice a m c)) hT h⟩
     match f', HL with
     | 0, HL =>
      have h2 := HL.out.eq
      exact absurd h2 HNE.out
     | g + 1, HL =>
      by_cases h2 : cur.length <= 1
      ·have hd0 : decide (cur.length <= 1) = true := decide_eq_true h2
       have e1 : pF (g + 1) .tops cur = .ok [] cur := by
        show body (pF g) .tops cur = _
        simp only [body]
        rw [if_pos h2]
       have eR : Bx (R = .ok [.mk 46 0 acc.length [] (acc ++ acc2)] cur) := ⟨by
        have h3 := HL.out.eq
        rw [e1] at h3
        rw [h3]
        simp only [iy, r2, aC, List.append_nil]⟩
       have HD : Bx (∀ W2, RSs w0 rb ae aa TL xs (Uv U (.slice a m c)) W2 cur (ns ++ ag (acc ++ acc2) ns.length) -> af rb wr W2 -> ∀ kv, Calls Tryz.prog 70 #[.pointer (some ⟨rb, 0, none⟩), .agg #[.int .i64 46, .int .i64 0, kv, .string ⟨#[]⟩, .int .i64 (n : Int)], .slice a m c] W2 fun e W' => ∃ r : Int, e = .returned (.int .i64 r) /\ Ee w0 rb ae aa U W ns R (.returned (.int .i64 r)) W') := ⟨fun W2 q k kv => by
        have hI := HL.out.st.ints HL.out.row k
        have hkeep := HL.out.keep.trans k
        have hnew := HL.out.new
        obtain ⟨i, rfl, hi, hS, hni, hU⟩ := q.jD (V := U) (fun y hy => .inl hy)
        have hm : m = (ends (acc ++ acc2) ns.length).length := by rw [cz]; exact HN.out
        have hn2 : (n : Int) = (acc.length : Int) := by rw [HA.out]
        have hI' : aQ W2 rb (.slice a (ends (acc ++ acc2) ns.length).length c) (ends (acc ++ acc2) ns.length) := by rw [← hm]; exact hI
        rw [hm, hn2, eR.out]
        refine (uW hS 46 0 (acc.length : Int) ⟨#[]⟩ kv a c (ends (acc ++ acc2) ns.length) hI' (fun y hy hyU => by have h4 := hnew y (by rw [hy]; rfl); have := HU.out y hyU; omega) (by have := hT.small; omega)).mono ?_
        rintro e W' ⟨rfl, q', k'⟩
        refine ⟨_, rfl, ⟨_, rfl⟩, ⟨i, ?_⟩, hkeep.trans k'⟩
        have hf1 : ag [Tr.mk 46 0 (acc.length : Int) [] (acc ++ acc2)] ns.length = ag (acc ++ acc2) ns.length ++ [⟨46, 0, ends (acc ++ acc2) ns.length, ⟨#[]⟩, (acc.length : Int)⟩] := by simp [ag, flat]
        rw [hf1, ← List.append_assoc]
        exact q'⟩
       clear HS
       go_wp2_with (first
        | (go_at_call 68; refine Calls.mono (BT.out _ HL.out.st) ?_; rintro e W2 ⟨he, b2⟩; rw [hd0] at he; subst he; have Q2 : Bx _ := ⟨HL.out.st.ext b2⟩; have K2 : Bx _ := ⟨af.ext HL.out.st.lt b2⟩; clear BT b2)
        | (go_at_call 70; refine Calls.mono (HD.out _ Q2.out K2.out _) ?_; rintro e W9 ⟨r9, rfl, hp⟩))
       go_ret
       exact hp
      ·have hd0 : decide (cur.length <= 1) = false := decide_eq_false h2
       have e1 : pF (g + 1) .tops cur = aC (pF g .stmt cur) fun a s1 => aC (pF g .tops s1) fun b s2 => .ok (a ++ b) s2 := by
        show body (pF g) .tops cur = _
        simp only [body]
        rw [if_neg h2]
       have B3 : Bx (∀ W1, RSs w0 rb ae aa TL xs (Uv U (.slice a m c)) W1 cur (ns ++ ag (acc ++ acc2) ns.length) -> pF g .stmt cur ≠ .out -> Calls Tryz.prog 69 #[.pointer (some ⟨rb, 0, none⟩)] W1 (aj w0 rb ae aa TL xs (Uv U (.slice a m c)) W1 cur (ns ++ ag (acc ++ acc2) ns.length) (pF g .stmt cur))) := ⟨fun W1 h hn => HS g (by omega) _ W1 cur _ h hn⟩
       match r3 : pF g .stmt cur with
       | .out =>
        have h3 := HL.out.eq
        rw [e1, r3] at h3
        exact absurd h3 HNE.out
       | .err s' =>
        rw [r3] at B3
        have eR : Bx (R = .err s') := ⟨by
         have h3 := HL.out.eq
         rw [e1, r3] at h3
         exact h3⟩
        clear HS
        go_wp2_with (first
         | (go_at_call 68; refine Calls.mono (BT.out _ HL.out.st) ?_; rintro e W2 ⟨he, b2⟩; rw [hd0] at he; subst he; have Q2 : Bx _ := ⟨HL.out.st.ext b2⟩; have K2 : Bx _ := ⟨af.ext HL.out.st.lt b2⟩; clear BT b2)
         | (go_at_call 69; refine Calls.mono (B3.out _ Q2.out (by simp)) ?_; rintro e W3 ⟨rfl, b⟩; unfold ak))
        exact ⟨rfl, by rw [eR.out]; exact ⟨rfl, b⟩⟩
       | .ok ts s' =>
        rw [r3] at B3
        have eR : Bx (R = r2 acc (iy (acc2 ++ ts) (pF g .tops s'))) := ⟨by
         have h3 := HL.out.eq
         rw [e1, r3] at h3
         rw [← ui]
         exact h3⟩
        clear HS
        go_wp2_with (first
         | (go_at_call 68; refine Calls.mono (BT.out _ HL.out.st) ?_; rintro e W2 ⟨he, b2⟩; rw [hd0] at he; subst he; have Q2 : Bx _ := ⟨HL.out.st.ext b2⟩; have K2 : Bx _ := ⟨af.ext HL.out.st.lt b2⟩; clear BT b2)
         | (go_at_call 69; refine Calls.mono (B3.out _ Q2.out (by simp)) ?_; rintro e W3 ⟨n3, l3, he, q3, k3⟩; obtain ⟨v3, hv⟩ : ∃ r : Nat, r = ((ns ++ ag (acc ++ acc2) ns.length).length + sizes ts - 1) := ⟨_, rfl⟩; rw [← hv] at he; subst he; obtain ⟨hrow, hrl, hnx⟩ := HL.out.more HN.out K2.out k3 q3 n3 l3 v3 hv; have NX : Bx _ := ⟨hnx⟩; have RW : Bx _ := ⟨hrow⟩; have N3 : Bx _ := ⟨n3⟩; clear hv hnx hrow B3 n3 q3 k3)
         | (at_builtin; refine wpList_append_lies _ rfl (.tmp 18) (.tmp 21) 39 rfl (rb + 1) 3 i0 (.int .i64 0) 1 8 Tryz.underlying39 hi hz0 hz1 hz2 rfl (by decide) (.slice a m c) m (bM (ends (acc ++ acc2) ns.length)) rfl (bO RW.out (ah W3 (.cells #[.int .i64 (v3 : Int)] 3))) ⟨W3.heap.size, 0, none⟩ 1 1 [.int .i64 (v3 : Int)] rfl rfl (dD _ _ rfl _) (eF _) (by decide) (by unfold maxLen; omega) (by omega) (by simp; omega) (W3.heap.size + 1) (by simp) ?_; intro g2 cp w4 hown hgrow hat hlt4; have LNB : Bx _ := ⟨NX.out g2 cp w4 hgrow hat hlt4 hown⟩; clear hgrow hat hown))
        go_roundw
        case rel => exact ⟨g, acc2 ++ ts, s', some ⟨g2, 0, none⟩, m + 1, cp, rfl, by omega, ⟨by have := HN.out; have := N3.out; simp at *; omega⟩, ⟨by rw [← List.append_assoc]; exact LNB.out _ eR.out⟩⟩
        case measure => have := HN.out; simp [sliceLen]; omega
end Go.Proofs.YtecodpdfckjalaaGreatDoor
namespace Go.Proofs.YtecodpdfckjalaaGreatDoor
def rank : Rl -> Nat
 | .typ => 1 | .chanT => 0 | .parted _ => 5 | .listed _ => 0 | .result => 0
 | .operands _ => 4 | .ops _ _ _ => 0 | .unary => 3 | .postfix => 2 | .post _ => 1 | .primary => 1 | .prog => 0 | .param => 0
 | .block => 0 | .stmts => 6 | .stmt => 5 | .branch => 0 | .arms => 1 | .arm => 0 | .tyn => 0 | .types => 1 | .tops => 6 | .program => 7
def need : Rl -> Nat
 | .typ => 1 | .chanT => 1 | .parted _ => 1 | .listed _ => 1 | .result => 0
 | .operands _ => 1 | .ops _ _ _ => 0 | .unary => 1 | .postfix => 1 | .post _ => 0 | .primary => 1 | .prog => 1 | .param => 1
 | .block => 1 | .stmts => 1 | .stmt => 1 | .branch => 1 | .arms => 1 | .arm => 1 | .tyn => 1 | .types => 0 | .tops => 0 | .program => 0
def Wr : Rl -> Prop
 | .operands n => 1 <= n
 | .ops n _ _ => 1 <= n
 | _ => True
theorem Jk (o : One) : Wr (.of o) /\ need (.of o) = 1 /\ rank (.of o) <= 4 := by cases o <;> simp [Rl.of, Wr, need, rank]
def TlF (s : List ai) : Prop := kd s ≠ 0 -> (tl s).length + 1 = s.length
theorem dA (s : List ai) : TlF s := fun h => by
 cases s with
 | nil => exact absurd rfl h
 | cons a r => rfl
def Sh (n d : Nat) : Res -> Prop
 | .ok _ s => s.length + d <= n
 | _ => True
theorem Ls {M d N D : Nat} {x : Res} (h : Sh M d x) (he : M + D <= N + d) : Sh N D x := by
 cases x with
 | ok a s => simp only [Sh] at h ⊢; omega
 | err s => trivial
 | out => trivial
theorem vH {M d N D : Nat} {x : Res} {k : List Tr -> List ai -> Res} (h : Sh M d x) (hk : ∀ a s, s.length + d <= M -> TlF s -> Sh N D (k a s)) : Sh N D (aC x k) := by
 cases x with
 | ok a s => exact hk a s h (dA s)
 | err s => trivial
 | out => trivial
theorem Gc {N D c : Nat} {s : List ai} {k : List ai -> Res} (hc : c ≠ 0) (hk : kd s = c -> (tl s).length + 1 = s.length -> TlF (tl s) -> Sh N D (k (tl s))) : Sh N D (want c s k) := by
 unfold want
 split
 ·rename_i h
  exact hk h (dA s (by omega)) (dA _)
 ·trivial
theorem Gd {N D : Nat} {s : List ai} {k : List UInt8 -> List ai -> Res} (hk : (tl s).length + 1 = s.length -> TlF (tl s) -> Sh N D (k (hd s).name (tl s))) : Sh N D (dJ s k) := by
 unfold dJ
 split
 ·rename_i h
  exact hk (dA s (by omega)) (dA _)
 ·trivial
theorem JQ {N D : Nat} {s : List ai} {k : Nat -> List ai -> Res} (hk : (tl s).length + 1 = s.length -> TlF (tl s) -> Sh N D (k (hd s).num (tl s))) : Sh N D (gN s k) := by
 unfold gN
 split
 ·rename_i h
  exact hk (dA s (by omega)) (dA _)
 ·trivial
theorem Ef {N D : Nat} {p : Prop} [Decidable p] {a b : Res} (h1 : p -> Sh N D a) (h2 : ¬ p -> Sh N D b) : Sh N D (if p then a else b) := by
 split
 ·rename_i h; exact h1 h
 ·rename_i h; exact h2 h
theorem Lt {N D : Nat} {kind num : Int} {s r : List ai} {name : List UInt8} {kids : List Tr} (h : r.length + D <= N) : Sh N D (mk1 kind s num name kids r) := h
theorem AP {N D : Nat} {a : List Tr} {r : List ai} (h : r.length + D <= N) : Sh N D (.ok a r) := h
theorem oC {k : Nat} (h : 1 <= aP (fe k)) : k ≠ 0 := by
 intro e
 subst e
 have : aP (fe 0) = 0 := by decide
 omega
theorem Gf {g : Rl -> List ai -> Res} (H : ∀ r s, Wr r -> Sh s.length (need r) (g r s)) (r : Rl) (s : List ai) (hr : Wr r) : Sh s.length (need r) (body g r s) := by
 have e0 := dA s
 have L : ∀ {r s} {N D : Nat}, Wr r -> s.length + D <= N + need r -> Sh N D (g r s) := fun hw he => Ls (H _ _ hw) he
 cases r
 case ops least left most =>
  unfold body
  have hr : 1 <= least := hr
  refine Ef (fun h => AP (by simp [need])) (fun h => ?_)
  have h1 : 1 <= aP (fe (kd s)) := by omega
  have h2 := e0 (oC h1)
  refine vH (H (.operands _) _ (by show 1 <= _; omega)) (fun a s1 q q2 => ?_)
  exact L (show Wr (.ops _ _ _) from hr) (by simp only [need] at q ⊢; omega)
 case parted o =>
  unfold body
  obtain ⟨w1, w2, w3⟩ := Jk o
  refine vH (H _ _ w1) (fun a s1 q q2 => ?_)
  rw [w2] at q
  refine Ef (fun h => ?_) (fun h => AP (by simp only [need]; omega))
  have h2 := q2 (by omega)
  refine vH (H (.parted o) _ trivial) (fun b s2 p p2 => AP ?_)
  simp only [need] at p ⊢
  omega
 all_goals
  unfold body
  repeat' (first
   | refine Gc (by decide) (fun h1 h2 h3 => ?_)
   | refine Gd (fun h2 h3 => ?_)
   | refine JQ (fun h2 h3 => ?_)
   | refine vH (H _ _ (by first | trivial | (show (1 : Int) <= 1; decide) | exact hr)) (fun a s1 q q2 => ?_)
   | refine Ef (fun h => ?_) (fun h => ?_))
  all_goals
   first
   | (refine Lt ?_; simp only [need, TlF] at *; omega)
   | (refine AP ?_; simp only [need, TlF] at *; omega)
   | (refine L (by first | trivial | (show (1 : Int) <= 1; decide) | exact hr) ?_; simp only [need, TlF] at *; omega)
theorem Jl : ∀ (f : Nat) (r : Rl) (s : List ai), Wr r -> Sh s.length (need r) (pF f r s)
 | 0, _, _, _ => trivial
 | f + 1, r, s, h => Gf (Jl f) r s h
def No (x : Res) : Prop := x ≠ .out
theorem vI {M d : Nat} {x : Res} {k : List Tr -> List ai -> Res} (h0 : No x) (h : Sh M d x) (hk : ∀ a s, s.length + d <= M -> TlF s -> No (k a s)) : No (aC x k) := by
 cases x with
 | ok a s => exact hk a s h (dA s)
 | err s => intro e; cases e
 | out => exact absurd rfl h0
theorem Gg {c : Nat} {s : List ai} {k : List ai -> Res} (hc : c ≠ 0) (hk : kd s = c -> (tl s).length + 1 = s.length -> TlF (tl s) -> No (k (tl s))) : No (want c s k) := by
 unfold want
 split
 ·rename_i h
  exact hk h (dA s (by omega)) (dA _)
 ·intro e; cases e
theorem Gh {s : List ai} {k : List UInt8 -> List ai -> Res} (hk : (tl s).length + 1 = s.length -> TlF (tl s) -> No (k (hd s).name (tl s))) : No (dJ s k) := by
 unfold dJ
 split
 ·rename_i h
  exact hk (dA s (by omega)) (dA _)
 ·intro e; cases e
theorem JR {s : List ai} {k : Nat -> List ai -> Res} (hk : (tl s).length + 1 = s.length -> TlF (tl s) -> No (k (hd s).num (tl s))) : No (gN s k) := by
 unfold gN
 split
 ·rename_i h
  exact hk (dA s (by omega)) (dA _)
 ·intro e; cases e
theorem Eg {p : Prop} [Decidable p] {a b : Res} (h1 : p -> No a) (h2 : ¬ p -> No b) : No (if p then a else b) := by
 split
 ·rename_i h; exact h1 h
 ·rename_i h; exact h2 h
theorem Lu {kind num : Int} {s r : List ai} {name : List UInt8} {kids : List Tr} : No (mk1 kind s num name kids r) := fun e => by cases e
theorem AQ {a : List Tr} {r : List ai} : No (.ok a r) := fun e => by cases e
theorem Gi {f : Nat} (H : ∀ r s, Wr r -> 20 * s.length + rank r < f -> No (pF f r s)) (r : Rl) (s : List ai) (hr : Wr r) (hf : 20 * s.length + rank r < f + 1) : No (body (pF f) r s) := by
 have e0 := dA s
 have S := Jl f
 cases r
 case ops least left most =>
  unfold body
  have hr : 1 <= least := hr
  refine Eg (fun h => AQ) (fun h => ?_)
  have h1 : 1 <= aP (fe (kd s)) := by omega
  have h2 := e0 (oC h1)
  simp only [rank] at hf
  have w : Wr (.operands (aP (fe (kd s)) + 1)) := by show (1 : Int) <= _; omega
  refine vI (H _ _ w (by simp only [rank]; omega)) (S _ _ w) (fun a s1 q q2 => ?_)
  simp only [need] at q
  exact H _ _ (show Wr (.ops _ _ _) from hr) (by simp only [rank]; omega)
 case parted o =>
  unfold body
  obtain ⟨w1, w2, w3⟩ := Jk o
  simp only [rank] at hf
  refine vI (H _ _ w1 (by omega)) (S _ _ w1) (fun a s1 q q2 => ?_)
  rw [w2] at q
  refine Eg (fun h => ?_) (fun h => AQ)
  have h2 := q2 (by omega)
  exact vI (H (.parted o) _ trivial (by simp only [rank]; omega)) (S (.parted o) _ trivial) (fun b s2 p p2 => AQ)
 all_goals
  unfold body
  repeat' (first
   | exact Lu
   | exact AQ
   | refine Gg (by decide) (fun h1 h2 h3 => ?_)
   | refine Gh (fun h2 h3 => ?_)
   | refine JR (fun h2 h3 => ?_)
   | refine vI (H _ _ (by first | trivial | (show (1 : Int) <= 1; decide) | exact hr) (by simp only [rank, need, TlF] at *; omega)) (S _ _ (by first | trivial | (show (1 : Int) <= 1; decide) | exact hr)) (fun a s1 q q2 => ?_)
   | exact H _ _ (by first | trivial | (show (1 : Int) <= 1; decide) | exact hr) (by simp only [rank, need, TlF] at *; omega)
   | refine Eg (fun h => ?_) (fun h => ?_))
theorem Jm : ∀ (f : Nat) (r : Rl) (s : List ai), Wr r -> 20 * s.length + rank r < f -> No (pF f r s)
 | 0, _, _, _, h => by omega
 | f + 1, r, s, h, hf => Gi (Jm f) r s h hf
end Go.Proofs.YtecodpdfckjalaaGreatDoor
namespace Go.Proofs.YtecodpdfckjalaaGreatDoor
open Go.RowKit
theorem six (a b x y : Value) : (#[a, b] ++ ((Array.replicate 6 undef).setIfInBounds 1 x).setIfInBounds 0 y) = #[a, b, y, x, undef, undef, undef, undef] := rfl
theorem yX (p q : Addr) (w : World) :
  CallsD Tryz.prog 37 #[.pointer (some p), .pointer (some q)] .returning w fun e u' w' => e = .returned (.tuple #[]) /\ u' = .returning /\ w' = w := by
 refine callsD_of_wpS Tryz.func37 rfl fun c₀ cs hu => ?_
 apply wpS_seq
 apply wpS_region
 simp [wpOpsS, go_sem, recoverD, hu, Tryz.ntmps37, Exit.thenS]
 rw [six]
 apply wpS_seq
 apply wpS_region
 simp [wpOpsS, go_sem, Exit.thenS]
 refine wpS_cond (t := false) (by simp [Act.eval]) ?_
 simp only [Bool.false_eq_true, if_false]
 refine wpS_of_wp (wp_skip ?_)
 cases c₀
 simp_all [bodyPostS, results, Tryz.results37]
theorem Eh (xT : TypeId) (v : Value) (W : World) : (Instr.typeAssert (.iface 30 v) xT 30 false).run Tryz.prog W = .ok v W := by
 simp [Instr.typeAssert, run_underlying Tryz.underlying30]
theorem pE (a b : Nat) (pl : Int) (older : List PanicEntry) (w : World) (v0 v1 v2 : Value) (h0 : w.cell? ⟨a, 0, none⟩ = some v0) (h1 : w.cell? ⟨b, 0, none⟩ = some v1) (h2 : w.cell? ⟨b, 1, none⟩ = some v2) (f0 : w.frozen? ⟨a, 0, none⟩ = false) (f1 : w.frozen? ⟨b, 0, none⟩ = false) (f2 : w.frozen? ⟨b, 1, none⟩ = false) (hab : a ≠ b) :
  CallsD Tryz.prog 37 #[.pointer (some ⟨a, 0, none⟩), .pointer (some ⟨b, 0, none⟩)] (.panicking ({ v := .iface 30 (.agg #[.int .i64 pl, .int .i64 30]), recovered := false } :: older)) w fun e u' w' =>
   e = .returned (.tuple #[]) /\ u' = .panicking ({ v := .iface 30 (.agg #[.int .i64 pl, .int .i64 30]), recovered := true } :: older) /\ w' = (((w.setCell ⟨a, 0, none⟩ (.slice none 0 0)).setCell ⟨b, 0, none⟩ (.int .i64 pl)).setCell ⟨b, 1, none⟩ (.int .i64 30)).drew := by
 refine callsD_of_wpS Tryz.func37 rfl fun c₀ cs hu => ?_
 apply wpS_seq
 apply wpS_region
 simp [wpOpsS, go_sem, recoverD, hu, Tryz.ntmps37, Exit.thenS]
 rw [six]
 apply wpS_seq
 apply wpS_region
 simp [wpOpsS, go_sem, Exit.thenS]
 have hta := fun xT W => Eh xT (.agg #[.int .i64 pl, .int .i64 30]) W
 refine wpS_cond (t := true) (by simp [Act.eval]) ?_
 simp only [if_true]
 refine wpS_of_wp ?_
 go_region
 all_goals simp [bodyPostS, results, Tryz.results37]
end Go.Proofs.YtecodpdfckjalaaGreatDoor
