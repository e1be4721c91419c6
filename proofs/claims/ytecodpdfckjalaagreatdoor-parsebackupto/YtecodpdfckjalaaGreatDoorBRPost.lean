import Derived.Test.YtecodpdfckjalaaGreatDoorBRKid
import Derived.Test.YtecodpdfckjalaaGreatDoorBRBx0
import Derived.Test.YtecodpdfckjalaaGreatDoorBRPri
import Derived.Test.YtecodpdfckjalaaGreatDoorBRSim
import Derived.Test.YtecodpdfckjalaaGreatDoorBRSta
import Derived.Test.YtecodpdfckjalaaGreatDoorBRAct
import Derived.Test.YtecodpdfckjalaaGreatDoorBRAr3
import Derived.Test.YtecodpdfckjalaaGreatDoorBRStr
import Derived.Test.YtecodpdfckjalaaGreatDoorBRPar
import Derived.Test.YtecodpdfckjalaaGreatDoorBRBox
import Derived.Test.YtecodpdfckjalaaGreatDoorBROp
set_option linter.unusedVariables false
set_option linter.unusedSimpArgs false
set_option maxHeartbeats 4000000
set_option maxRecDepth 100000
namespace Go.Proofs.YtecodpdfckjalaaGreatDoor
open Go.RowKit
variable {w0 : World} {rb : Nat} {ae aa : Value} {TL : List Tok} {xs : List UInt8} {U : Nat -> Prop}
structure wY (w0 : World) (rb : Nat) (ae aa : Value) (TL : List Tok) (xs : List UInt8) (U : Nat -> Prop) (W : World) (s : List ai) (ns : List Nd) (f : Nat) (R : Res) (wr : World) (f' : Nat) (kid : List Tr) (cur : List ai) (v : Nat) : Prop where
 eq : R = pF f' (.post kid) cur
 le : f' <= f
 one : kid.length = 1
 val : v = ns.length + sizes kid - 1
 st : RSs w0 rb ae aa TL xs U wr cur (ns ++ ag kid ns.length)
 keep : af rb W wr
 sz : cur.length + sizes kid <= s.length
theorem wZ (hT : RT w0 rb ae aa TL xs) (hK : aR TL) {f : Nat} (HU : RC w0 rb ae aa TL xs (pF f .primary) 142 #[]) (HE : ∀ f', f' < f -> RC w0 rb ae aa TL xs (pF f' (.operands 1)) 109 #[])
  (HC : ∀ g, g < f -> ∀ U W cur ns kid, kid.length = 1 -> RSs w0 rb ae aa TL xs U W cur (ns ++ ag kid ns.length) -> ∀ v : Nat, v = ns.length + sizes kid - 1 -> (aC (pF g (.listed .expr) cur) fun b s1 => .ok [.mk 23 (hd cur).place 0 [] (kid ++ b)] s1) ≠ .out -> Calls Tryz.prog 143 #[.pointer (some ⟨rb, 0, none⟩), .int .i64 (v : Int)] W (ja w0 rb ae aa TL xs U W cur ns kid (aC (pF g (.listed .expr) cur) fun b s1 => .ok [.mk 23 (hd cur).place 0 [] (kid ++ b)] s1))) :
  RC w0 rb ae aa TL xs (pF (f + 1) .postfix) 137 #[] := by
 intro U W s ns hS hne
 show Calls Tryz.prog 137 #[.pointer (some ⟨rb, 0, none⟩)] W _
 generalize hR : pF (f + 1) .postfix s = R at hne ⊢
 have hR' : aC (pF f .primary s) (fun a s1 => pF f (.post a) s1) = R := hR
 clear hR
 have B1 : Bx (∀ W1, RSs w0 rb ae aa TL xs U W1 s ns -> pF f .primary s ≠ .out -> Calls Tryz.prog 142 #[.pointer (some ⟨rb, 0, none⟩)] W1 (aj w0 rb ae aa TL xs U W1 s ns (pF f .primary s))) := ⟨fun W1 h hn => HU U W1 s ns h hn⟩
 match r1 : pF f .primary s with
 | .out => rw [r1] at hR'; exact absurd hR'.symm hne
 | .err s' =>
  rw [r1] at B1 hR'
  have eR : Bx (R = .err s') := ⟨hR'.symm⟩
  clear HU HE HC hR'
  go_enter Tryz.func137, Tryz.ntmps137
  go_wp2_with (first
   | (go_at_call 142; refine Calls.mono (B1.out _ hS (by simp)) ?_; rintro e W1 ⟨rfl, b1⟩; unfold ak))
  exact ⟨rfl, by rw [eR.out]; exact ⟨rfl, b1⟩⟩
 | .ok ts s1 =>
  rw [r1] at B1 hR'
  have HNE : Bx (R ≠ .out) := ⟨hne⟩
  have H0 : Bx (∀ W1 (v : Nat), v = ns.length + sizes ts - 1 -> ts.length = 1 -> s1.length + sizes ts <= s.length -> RSs w0 rb ae aa TL xs U W1 s1 (ns ++ ag ts ns.length) -> af rb W W1 -> wY w0 rb ae aa TL xs U W s ns f R W1 f ts s1 v) := ⟨fun W1 v hv n l q k => ⟨hR'.symm, Nat.le_refl _, n, hv, q, k, l⟩⟩
  clear HU hR' hne
  go_enter Tryz.func137, Tryz.ntmps137
  go_wp2_with (first
   | (go_at_call 142; refine Calls.mono (B1.out _ hS (by simp)) ?_; rintro e W1 ⟨n1, l1, he, q1, k1⟩; obtain ⟨v1, hv⟩ : ∃ r : Nat, r = (ns.length + sizes ts - 1) := ⟨_, rfl⟩; rw [← hv] at he; subst he; have L0 := H0.out W1 v1 hv n1 l1 q1 k1; have LB : Bx _ := ⟨L0⟩; clear hv B1 L0 H0 q1 k1))
  go_loopw [3] (fun lv wr => ∃ f' : Nat, ∃ kid : List Tr, ∃ cur : List ai, ∃ v : Nat, lv = .int .i64 v /\ Bx (wY w0 rb ae aa TL xs U W s ns f R wr f' kid cur v)) (fun lv _ => s.length + ns.length - (match lv with | .int _ x => x.toNat | _ => 0))
  case atStart => exact ⟨f, ts, s1, v1, rfl, LB⟩
  case round =>
   obtain ⟨f', kid, cur, v, rfl, HL⟩ := hrel
   match f', HL with
   | 0, HL => exact absurd HL.out.eq HNE.out
   | g + 1, HL =>
    have st : Bx _ := ⟨HL.out.st⟩
    have hgf : g < f := by have := HL.out.le; omega
    have B5 : Bx (∀ W1, RSs w0 rb ae aa TL xs U W1 cur (ns ++ ag kid ns.length) -> _) := ⟨fun W1 h => dO hT h⟩
    have e1 : R = body (pF g) (.post kid) cur := HL.out.eq
    simp only [body] at e1
    by_cases c0 : kd cur = 40
    ·rw [if_pos c0] at e1
     have d40 : ((⟨(ax (kd cur : Nat)).toArray⟩ : ByteArray).toList == [40]) = true := by rw [au hK st.out 40 (by decide) _ (by decide)]; exact decide_eq_true c0
     have eX : R = aC (aC (pF g (.listed .expr) cur) fun b s1 => .ok [.mk 23 (hd cur).place 0 [] (kid ++ b)] s1) (fun ts s2 => pF g (.post ts) s2) := by
      rw [e1]
      cases pF g (.listed .expr) cur <;> rfl
     have B6 : Bx (∀ W1, RSs w0 rb ae aa TL xs U W1 cur (ns ++ ag kid ns.length) -> (aC (pF g (.listed .expr) cur) fun b s1 => .ok [.mk 23 (hd cur).place 0 [] (kid ++ b)] s1) ≠ .out -> Calls Tryz.prog 143 #[.pointer (some ⟨rb, 0, none⟩), .int .i64 (v : Int)] W1 (ja w0 rb ae aa TL xs U W1 cur ns kid (aC (pF g (.listed .expr) cur) fun b s1 => .ok [.mk 23 (hd cur).place 0 [] (kid ++ b)] s1))) := ⟨fun W1 h hn => HC g hgf U W1 cur ns kid HL.out.one h v HL.out.val hn⟩
     have HN : Bx (∀ ts s2 W1 W2, R = pF g (.post ts) s2 -> af rb wr W1 -> ts.length = 1 -> s2.length + sizes ts <= cur.length + sizes kid -> RSs w0 rb ae aa TL xs U W2 s2 (ns ++ ag ts ns.length) -> af rb W1 W2 -> ∀ r : Nat, r = ns.length + sizes ts - 1 -> wY w0 rb ae aa TL xs U W s ns f R W2 g ts s2 r) := ⟨fun ts s2 W1 W2 e k n l q k2 r hr => ⟨e, by have := HL.out.le; omega, n, hr, q, HL.out.keep.trans (k.trans k2), by have := HL.out.sz; omega⟩⟩
     have HG : Bx (∀ ts s2, (aC (pF g (.listed .expr) cur) fun b s1 => .ok [.mk 23 (hd cur).place 0 [] (kid ++ b)] s1) = .ok ts s2 -> sizes kid < sizes ts) := ⟨fun ts s2 e => by
      cases r : pF g (.listed .expr) cur with | out => rw [r] at e; cases e | err _ => rw [r] at e; cases e | ok b s1 => rw [r] at e; simp only [aC, Res.ok.injEq] at e; rw [← e.1]; simp [sizes, Tr.size, aI]; omega⟩
     have HV : Bx (v = ns.length + sizes kid - 1 /\ 1 <= sizes kid) := ⟨HL.out.val, by have := dR kid; have := HL.out.one; omega⟩
     generalize (aC (pF g (.listed .expr) cur) fun b s1 => .ok [.mk 23 (hd cur).place 0 [] (kid ++ b)] s1) = SX at *
     generalize (⟨(ax (kd cur : Nat)).toArray⟩ : ByteArray) = tx at *
     clear HL HE HC e1
     match SX, B6, eX, HG with
     | .out, B6, eX, HG => exact absurd eX HNE.out
     | .err s', B6, eX, HG =>
      have eR : Bx (R = .err s') := ⟨eX⟩
      go_wp2_with (first
       | (go_at_call 66; refine Calls.mono (B5.out _ st.out) ?_; rintro e W5 ⟨rfl, b5⟩; have q5 := st.out.ext b5; have k5 := af.ext st.out.lt b5; clear B5)
       | (go_at_call 143; refine Calls.mono (B6.out _ q5 (by simp)) ?_; rintro e W6 ⟨rfl, b6⟩; unfold ak))
      exact ⟨rfl, by rw [eR.out]; exact ⟨rfl, b6⟩⟩
     | .ok ts2 s2, B6, eX, HG =>
      have EX : Bx (R = pF g (.post ts2) s2) := ⟨eX⟩
      clear eX
      go_wp2_with (first
       | (go_at_call 66; refine Calls.mono (B5.out _ st.out) ?_; rintro e W5 ⟨rfl, b5⟩; have q5 := st.out.ext b5; have k5 := af.ext st.out.lt b5; clear B5)
       | (go_at_call 143; refine Calls.mono (B6.out _ q5 (by simp)) ?_; rintro e W6 ⟨n6, l6, he, q6, k6⟩; obtain ⟨v6, hv⟩ : ∃ r : Nat, r = (ns.length + sizes ts2 - 1) := ⟨_, rfl⟩; rw [← hv] at he; subst he; have LN := HN.out ts2 s2 _ _ EX.out k5 n6 l6 q6 k6 v6 hv; have LNB : Bx _ := ⟨LN⟩; clear hv LN))
      go_roundw
      case rel => exact ⟨g, ts2, s2, v6, rfl, LNB⟩
      case measure => have h1 := HG.out ts2 s2 rfl; have h2 := HV.out; have h3 := LNB.out.val; have h4 := LNB.out.sz; simp; omega
    rw [if_neg c0] at e1
    by_cases c1 : kd cur = 42
    ·rw [if_pos c1] at e1
     have d40 : ((⟨(ax (kd cur : Nat)).toArray⟩ : ByteArray).toList == [40]) = false := by rw [au hK st.out 40 (by decide) _ (by decide)]; exact decide_eq_false c0
     have d42 : ((⟨(ax (kd cur : Nat)).toArray⟩ : ByteArray).toList == [91]) = true := by rw [au hK st.out 42 (by decide) _ (by decide)]; exact decide_eq_true c1
     have eX : R = aC (want 42 cur fun s1 => aC (pF g (.operands 1) s1) fun b s2 => want 43 s2 fun s3 => .ok [.mk 24 (hd cur).place 0 [] (kid ++ b)] s3) (fun ts s2 => pF g (.post ts) s2) := by
      rw [e1]
      rw [aG c1, aG c1]; cases pF g (.operands 1) (tl cur) with | out => rfl | err _ => rfl | ok b s2 => simp only [aC]; unfold want; split <;> rfl
     have B6 : Bx (∀ W1, RSs w0 rb ae aa TL xs U W1 cur (ns ++ ag kid ns.length) -> (want 42 cur fun s1 => aC (pF g (.operands 1) s1) fun b s2 => want 43 s2 fun s3 => .ok [.mk 24 (hd cur).place 0 [] (kid ++ b)] s3) ≠ .out -> Calls Tryz.prog 144 #[.pointer (some ⟨rb, 0, none⟩), .int .i64 (v : Int)] W1 (ja w0 rb ae aa TL xs U W1 cur ns kid (want 42 cur fun s1 => aC (pF g (.operands 1) s1) fun b s2 => want 43 s2 fun s3 => .ok [.mk 24 (hd cur).place 0 [] (kid ++ b)] s3))) := ⟨fun W1 h hn => Cc hT hK (HE g hgf) HL.out.one h v HL.out.val hn⟩
     have HN : Bx (∀ ts s2 W1 W2, R = pF g (.post ts) s2 -> af rb wr W1 -> ts.length = 1 -> s2.length + sizes ts <= cur.length + sizes kid -> RSs w0 rb ae aa TL xs U W2 s2 (ns ++ ag ts ns.length) -> af rb W1 W2 -> ∀ r : Nat, r = ns.length + sizes ts - 1 -> wY w0 rb ae aa TL xs U W s ns f R W2 g ts s2 r) := ⟨fun ts s2 W1 W2 e k n l q k2 r hr => ⟨e, by have := HL.out.le; omega, n, hr, q, HL.out.keep.trans (k.trans k2), by have := HL.out.sz; omega⟩⟩
     have HG : Bx (∀ ts s2, (want 42 cur fun s1 => aC (pF g (.operands 1) s1) fun b s2 => want 43 s2 fun s3 => .ok [.mk 24 (hd cur).place 0 [] (kid ++ b)] s3) = .ok ts s2 -> sizes kid < sizes ts) := ⟨fun ts s2 e => by
      rw [aG c1] at e; cases r : pF g (.operands 1) (tl cur) with | out => rw [r] at e; cases e | err _ => rw [r] at e; cases e | ok b s1 => rw [r] at e; simp only [aC] at e; unfold want at e; (split at e <;> first | (simp only [Res.ok.injEq] at e; rw [← e.1]; simp [sizes, Tr.size, aI]; omega) | (cases e; done))⟩
     have HV : Bx (v = ns.length + sizes kid - 1 /\ 1 <= sizes kid) := ⟨HL.out.val, by have := dR kid; have := HL.out.one; omega⟩
     generalize (want 42 cur fun s1 => aC (pF g (.operands 1) s1) fun b s2 => want 43 s2 fun s3 => .ok [.mk 24 (hd cur).place 0 [] (kid ++ b)] s3) = SX at *
     generalize (⟨(ax (kd cur : Nat)).toArray⟩ : ByteArray) = tx at *
     clear HL HE HC e1
     match SX, B6, eX, HG with
     | .out, B6, eX, HG => exact absurd eX HNE.out
     | .err s', B6, eX, HG =>
      have eR : Bx (R = .err s') := ⟨eX⟩
      go_wp2_with (first
       | (go_at_call 66; refine Calls.mono (B5.out _ st.out) ?_; rintro e W5 ⟨rfl, b5⟩; have q5 := st.out.ext b5; have k5 := af.ext st.out.lt b5; clear B5)
       | (go_at_call 144; refine Calls.mono (B6.out _ q5 (by simp)) ?_; rintro e W6 ⟨rfl, b6⟩; unfold ak))
      exact ⟨rfl, by rw [eR.out]; exact ⟨rfl, b6⟩⟩
     | .ok ts2 s2, B6, eX, HG =>
      have EX : Bx (R = pF g (.post ts2) s2) := ⟨eX⟩
      clear eX
      go_wp2_with (first
       | (go_at_call 66; refine Calls.mono (B5.out _ st.out) ?_; rintro e W5 ⟨rfl, b5⟩; have q5 := st.out.ext b5; have k5 := af.ext st.out.lt b5; clear B5)
       | (go_at_call 144; refine Calls.mono (B6.out _ q5 (by simp)) ?_; rintro e W6 ⟨n6, l6, he, q6, k6⟩; obtain ⟨v6, hv⟩ : ∃ r : Nat, r = (ns.length + sizes ts2 - 1) := ⟨_, rfl⟩; rw [← hv] at he; subst he; have LN := HN.out ts2 s2 _ _ EX.out k5 n6 l6 q6 k6 v6 hv; have LNB : Bx _ := ⟨LN⟩; clear hv LN))
      go_roundw
      case rel => exact ⟨g, ts2, s2, v6, rfl, LNB⟩
      case measure => have h1 := HG.out ts2 s2 rfl; have h2 := HV.out; have h3 := LNB.out.val; have h4 := LNB.out.sz; simp; omega
    rw [if_neg c1] at e1
    by_cases c2 : kd cur = 49
    ·rw [if_pos c2] at e1
     have d40 : ((⟨(ax (kd cur : Nat)).toArray⟩ : ByteArray).toList == [40]) = false := by rw [au hK st.out 40 (by decide) _ (by decide)]; exact decide_eq_false c0
     have d42 : ((⟨(ax (kd cur : Nat)).toArray⟩ : ByteArray).toList == [91]) = false := by rw [au hK st.out 42 (by decide) _ (by decide)]; exact decide_eq_false c1
     have d49 : ((⟨(ax (kd cur : Nat)).toArray⟩ : ByteArray).toList == [46]) = true := by rw [au hK st.out 49 (by decide) _ (by decide)]; exact decide_eq_true c2
     have eX : R = aC (want 49 cur fun s1 => gN s1 fun n s2 => .ok [.mk 25 (hd cur).place n [] kid] s2) (fun ts s2 => pF g (.post ts) s2) := by
      rw [e1]
      rw [aG c2, aG c2]; unfold gN; split <;> rfl
     have B6 : Bx (∀ W1, RSs w0 rb ae aa TL xs U W1 cur (ns ++ ag kid ns.length) -> (want 49 cur fun s1 => gN s1 fun n s2 => .ok [.mk 25 (hd cur).place n [] kid] s2) ≠ .out -> Calls Tryz.prog 145 #[.pointer (some ⟨rb, 0, none⟩), .int .i64 (v : Int)] W1 (ja w0 rb ae aa TL xs U W1 cur ns kid (want 49 cur fun s1 => gN s1 fun n s2 => .ok [.mk 25 (hd cur).place n [] kid] s2))) := ⟨fun W1 h hn => Cb hT hK HL.out.one h v HL.out.val⟩
     have HN : Bx (∀ ts s2 W1 W2, R = pF g (.post ts) s2 -> af rb wr W1 -> ts.length = 1 -> s2.length + sizes ts <= cur.length + sizes kid -> RSs w0 rb ae aa TL xs U W2 s2 (ns ++ ag ts ns.length) -> af rb W1 W2 -> ∀ r : Nat, r = ns.length + sizes ts - 1 -> wY w0 rb ae aa TL xs U W s ns f R W2 g ts s2 r) := ⟨fun ts s2 W1 W2 e k n l q k2 r hr => ⟨e, by have := HL.out.le; omega, n, hr, q, HL.out.keep.trans (k.trans k2), by have := HL.out.sz; omega⟩⟩
     have HG : Bx (∀ ts s2, (want 49 cur fun s1 => gN s1 fun n s2 => .ok [.mk 25 (hd cur).place n [] kid] s2) = .ok ts s2 -> sizes kid < sizes ts) := ⟨fun ts s2 e => by
      rw [aG c2] at e; unfold gN at e; (split at e <;> first | (simp only [Res.ok.injEq] at e; rw [← e.1]; simp [sizes, Tr.size]; done) | (cases e; done))⟩
     have HV : Bx (v = ns.length + sizes kid - 1 /\ 1 <= sizes kid) := ⟨HL.out.val, by have := dR kid; have := HL.out.one; omega⟩
     generalize (want 49 cur fun s1 => gN s1 fun n s2 => .ok [.mk 25 (hd cur).place n [] kid] s2) = SX at *
     generalize (⟨(ax (kd cur : Nat)).toArray⟩ : ByteArray) = tx at *
     clear HL HE HC e1
     match SX, B6, eX, HG with
     | .out, B6, eX, HG => exact absurd eX HNE.out
     | .err s', B6, eX, HG =>
      have eR : Bx (R = .err s') := ⟨eX⟩
      go_wp2_with (first
       | (go_at_call 66; refine Calls.mono (B5.out _ st.out) ?_; rintro e W5 ⟨rfl, b5⟩; have q5 := st.out.ext b5; have k5 := af.ext st.out.lt b5; clear B5)
       | (go_at_call 145; refine Calls.mono (B6.out _ q5 (by simp)) ?_; rintro e W6 ⟨rfl, b6⟩; unfold ak))
      exact ⟨rfl, by rw [eR.out]; exact ⟨rfl, b6⟩⟩
     | .ok ts2 s2, B6, eX, HG =>
      have EX : Bx (R = pF g (.post ts2) s2) := ⟨eX⟩
      clear eX
      go_wp2_with (first
       | (go_at_call 66; refine Calls.mono (B5.out _ st.out) ?_; rintro e W5 ⟨rfl, b5⟩; have q5 := st.out.ext b5; have k5 := af.ext st.out.lt b5; clear B5)
       | (go_at_call 145; refine Calls.mono (B6.out _ q5 (by simp)) ?_; rintro e W6 ⟨n6, l6, he, q6, k6⟩; obtain ⟨v6, hv⟩ : ∃ r : Nat, r = (ns.length + sizes ts2 - 1) := ⟨_, rfl⟩; rw [← hv] at he; subst he; have LN := HN.out ts2 s2 _ _ EX.out k5 n6 l6 q6 k6 v6 hv; have LNB : Bx _ := ⟨LN⟩; clear hv LN))
      go_roundw
      case rel => exact ⟨g, ts2, s2, v6, rfl, LNB⟩
      case measure => have h1 := HG.out ts2 s2 rfl; have h2 := HV.out; have h3 := LNB.out.val; have h4 := LNB.out.sz; simp; omega
    rw [if_neg c2] at e1
    have d40 : ((⟨(ax (kd cur : Nat)).toArray⟩ : ByteArray).toList == [40]) = false := by rw [au hK st.out 40 (by decide) _ (by decide)]; exact decide_eq_false c0
    have d42 : ((⟨(ax (kd cur : Nat)).toArray⟩ : ByteArray).toList == [91]) = false := by rw [au hK st.out 42 (by decide) _ (by decide)]; exact decide_eq_false c1
    have d49 : ((⟨(ax (kd cur : Nat)).toArray⟩ : ByteArray).toList == [46]) = false := by rw [au hK st.out 49 (by decide) _ (by decide)]; exact decide_eq_false c2
    have HF : Bx (∀ W1, af rb wr W1 -> RSs w0 rb ae aa TL xs U W1 cur (ns ++ ag kid ns.length) -> aj w0 rb ae aa TL xs U W s ns R (.returned (.int .i64 (v : Int))) W1) := ⟨fun W1 k q => by
     rw [e1]
     exact ⟨HL.out.one, HL.out.sz, by rw [HL.out.val], q, HL.out.keep.trans k⟩⟩
    generalize (⟨(ax (kd cur : Nat)).toArray⟩ : ByteArray) = tx at *
    clear HL HE HC e1
    go_wp2_with (first
     | (go_at_call 66; refine Calls.mono (B5.out _ st.out) ?_; rintro e W5 ⟨rfl, b5⟩; have q5 := st.out.ext b5; have k5 := af.ext st.out.lt b5; clear B5))
    go_ret
    exact HF.out _ k5 q5
end Go.Proofs.YtecodpdfckjalaaGreatDoor
namespace Go.Proofs.YtecodpdfckjalaaGreatDoor
open Go.RowKit
variable {w0 : World} {rb : Nat} {ae aa : Value} {TL : List Tok} {xs : List UInt8} {U : Nat -> Prop}
theorem D9 (hT : RT w0 rb ae aa TL xs) (hK : aR TL) {g : Nat} (HL : LC 1 w0 rb ae aa TL xs (pF g (.listed .expr)) 123 #[.func (.func 109) #[.pointer (some ⟨rb, 0, none⟩)] #[]]) (U : Nat -> Prop) (W : World) (s : List ai) (ns : List Nd) (kid : List Tr) (hk1 : kid.length = 1) (hS : RSs w0 rb ae aa TL xs U W s (ns ++ ag kid ns.length)) (v : Nat) (hv : v = ns.length + sizes kid - 1) (hne : (aC (pF g (.listed .expr) s) fun b s1 => .ok [.mk 23 (hd s).place 0 [] (kid ++ b)] s1) ≠ .out) :
  Calls Tryz.prog 143 #[.pointer (some ⟨rb, 0, none⟩), .int .i64 (v : Int)] W (ja w0 rb ae aa TL xs U W s ns kid (aC (pF g (.listed .expr) s) fun b s1 => .ok [.mk 23 (hd s).place 0 [] (kid ++ b)] s1)) := by
 have hrW := hS.lt
 have hf1 := dC
 have B1 : Bx _ := ⟨eP hT hS⟩
 have HQ1 : Bx (∀ W1, RSs w0 rb ae aa TL xs U W1 s (ns ++ ag kid ns.length) -> RSs w0 rb ae aa TL xs (Uv U (.slice (some ⟨W1.heap.size + 1, 0, none⟩) 1 1)) ((W1.alloc (bf 23 (hd s).place ⟨#[]⟩ 0)).alloc (.cells #[.int .i64 (v : Int)] 3)) s (ns ++ ag kid ns.length)) := ⟨fun W1 h => by
  have := (h.ext (ah W1 (bf 23 (hd s).place ⟨#[]⟩ 0))).jd (.cells #[.int .i64 (v : Int)] 3)
  have e : (W1.alloc (bf 23 (hd s).place ⟨#[]⟩ 0)).heap.size = W1.heap.size + 1 := by simp
  rw [e] at this
  exact this⟩
 have B3 : Bx (∀ U' W1, RSs w0 rb ae aa TL xs U' W1 s (ns ++ ag kid ns.length) -> pF g (.listed .expr) s ≠ .out -> Calls Tryz.prog 123 #[.pointer (some ⟨rb, 0, none⟩), .func (.func 109) #[.pointer (some ⟨rb, 0, none⟩)] #[]] W1 (gF 1 w0 rb ae aa TL xs U' W1 s (ns ++ ag kid ns.length) (pF g (.listed .expr) s))) := ⟨fun U' W1 h hn => HL U' W1 s (ns ++ ag kid ns.length) h hn⟩
 match r3 : pF g (.listed .expr) s with
 | .out => rw [r3] at hne; exact absurd rfl hne
 | .err s' =>
  rw [r3] at B3
  show Calls _ _ _ _ (ja w0 rb ae aa TL xs U W s ns kid (.err s'))
  clear hne HL hv hk1
  go_enter Tryz.func143, Tryz.ntmps143
  go_wp2_with (first
   | (go_at_call 84; refine Calls.mono B1.out ?_; rintro e W1 ⟨t1, rfl, b1⟩; have q1 := hS.ext b1; have k1 := af.ext hrW b1; have q2 := HQ1.out _ q1; have Q2 : Bx _ := ⟨q2⟩; clear B1 q2)
   | (go_at_call 123; refine Calls.mono (B3.out _ _ Q2.out (by simp)) ?_; rintro e W3 ⟨rfl, b3⟩; unfold ak))
  exact ⟨rfl, rfl, b3⟩
 | .ok ts s' =>
  rw [r3] at B3
  simp only [aC]
  have hsl : s.length <= 65537 := by
   obtain ⟨i, rfl, hi, _⟩ := hS
   have := hT.small
   unfold pts
   simp
   omega
  have hge := dR ts
  have HD : Bx (∀ W4 gb m c, RSs w0 rb ae aa TL xs U W4 s' (ns ++ ag (kid ++ ts) ns.length) -> af rb W W4 -> m = 1 + ts.length -> aQ W4 rb (.slice (some ⟨gb, 0, none⟩) m c) (ends (kid ++ ts) ns.length) -> (∀ x, (some ⟨gb, 0, none⟩ : Option Addr) = some ⟨x, 0, none⟩ -> ¬ U x) -> s'.length + sizes ts + 1 <= s.length -> ∀ kv, Calls Tryz.prog 70 #[.pointer (some ⟨rb, 0, none⟩), .agg #[.int .i64 23, .int .i64 (hd s).place, kv, .string ⟨#[]⟩, .int .i64 0], .slice (some ⟨gb, 0, none⟩) m c] W4 fun e W' => ∃ r : Int, e = .returned (.int .i64 r) /\ ja w0 rb ae aa TL xs U W s ns kid (.ok [.mk 23 (hd s).place 0 [] (kid ++ ts)] s') (.returned (.int .i64 r)) W') := ⟨fun W4 gb m c q k hm r n l kv => F7 hT kid ts q k l ⟨W, hS⟩ 23 (hd s).place 0 [] kv (some ⟨gb, 0, none⟩) m c (by simp [hk1, hm]) r n⟩
  have HQ2 : Bx (∀ W1 W3 a c, RSs w0 rb ae aa TL xs U W1 s (ns ++ ag kid ns.length) -> af rb W W1 -> s'.length + sizes ts + 1 <= s.length -> RSs w0 rb ae aa TL xs (Uv (Uv U (.slice (some ⟨W1.heap.size + 1, 0, none⟩) 1 1)) (.slice a ts.length c)) W3 s' ((ns ++ ag kid ns.length) ++ ag ts (ns ++ ag kid ns.length).length) -> aQ W3 rb (.slice a ts.length c) (ends ts (ns ++ ag kid ns.length).length) -> af rb ((W1.alloc (bf 23 (hd s).place ⟨#[]⟩ 0)).alloc (.cells #[.int .i64 (v : Int)] 3)) W3 -> ∃ m gb cp W4, m = 1 + ts.length /\ (∀ ty, (Builtin.append_ #[39, 39] ty #[(.slice (some ⟨W1.heap.size + 1, 0, none⟩) 1 1), .slice a ts.length c]).run Tryz.prog W3 = .ok (.slice (some ⟨gb, 0, none⟩) m cp) W4) /\ W4.heap[W1.heap.size]? = some (bf 23 (hd s).place ⟨#[]⟩ 0) /\ RSs w0 rb ae aa TL xs U W4 s' (ns ++ ag (kid ++ ts) ns.length) /\ af rb W W4 /\ aQ W4 rb (.slice (some ⟨gb, 0, none⟩) m cp) (ends (kid ++ ts) ns.length) /\ (∀ x, (some ⟨gb, 0, none⟩ : Option Addr) = some ⟨x, 0, none⟩ -> ¬ U x)) := ⟨fun W1 W3 a c q1 k1 l3 q3 r3 k3 => by
   have hr1 := q1.lt
   have hz1 := k1.size
   have q2 := HQ1.out W1 q1
   have e : (W1.alloc (bf 23 (hd s).place ⟨#[]⟩ 0)).heap.size = W1.heap.size + 1 := by simp
   have wU := row_one (rb := rb) (W := W1.alloc (bf 23 (hd s).place ⟨#[]⟩ 0)) (v := v) (by simp; omega)
   rw [e] at wU
   have row3 := q2.ints wU k3
   obtain ⟨hb, hown, hrx⟩ := bJ (o := (bf 23 (hd s).place ⟨#[]⟩ 0)) q1 (ah _ (.cells #[.int .i64 (v : Int)] 3))
   obtain ⟨hb3, ho3⟩ := bI k3 hb hrx hown
   obtain ⟨gb, cp, W4, run, I4, gr, hat, hlt⟩ := wT W3 [(v : Int)] (ends ts (ns ++ ag kid ns.length).length) row3 rfl r3 (by rw [cz]) (by omega) q3.lt
   have hk3 : af rb W W3 := k1.trans ((af.alloc hr1 _).trans ((af.alloc (by simp; omega) _).trans k3))
   obtain ⟨p1, p2⟩ := (q3.jD (V := Uv U (.slice (some ⟨W1.heap.size + 1, 0, none⟩) 1 1)) (fun y hy => .inl hy)).DX row3 gr gb (1 + ts.length) cp hat hlt
   obtain ⟨p3, p4⟩ := p2 W hk3 (fun y hy => by simp [Value.ownBlock] at hy; omega)
   have en : ends (kid ++ ts) ns.length = [(v : Int)] ++ ends ts (ns ++ ag kid ns.length).length := by rw [bD, aK hk1, hv, dV]
   refine ⟨_, gb, cp, W4, rfl, run, ?_, ?_, p3, ?_, ?_⟩
   ·rw [gr.block _ (aY hb3) (by simp)]
    exact hb3
   ·have := p1.jD (V := U) (fun y hy => .inl hy)
    rw [bP] at this
    exact this
   ·rw [en]
    exact I4
   ·intro x hx hU
    simp only [Option.some.injEq, Addr.mk.injEq] at hx
    obtain ⟨_, _, _, _, _, hUb⟩ := hS
    have := hUb x hU
    omega⟩
  show Calls _ _ _ _ (ja w0 rb ae aa TL xs U W s ns kid (.ok [.mk 23 (hd s).place 0 [] (kid ++ ts)] s'))
  clear hne HL hv hk1 hge
  go_enter Tryz.func143, Tryz.ntmps143
  go_wp2_with (first
   | (go_at_call 84; refine Calls.mono B1.out ?_; rintro e W1 ⟨t1, rfl, b1⟩; have q1 := hS.ext b1; have k1 := af.ext hrW b1; have q2 := HQ1.out _ q1; have Q2 : Bx _ := ⟨q2⟩; clear B1 q2)
   | (go_at_call 123; refine Calls.mono (B3.out _ _ Q2.out (by simp)) ?_; rintro e W3 ⟨l3, a3, c3, rfl, q3, r3, k3, n3⟩; clear B3; obtain ⟨m, gb, cp, W4, hm, run, hb4, g1, g2, g3, g4⟩ := HQ2.out _ _ _ _ q1 k1 l3 q3 r3 k3; obtain ⟨y0, y1, y2, y3, y4, ylt⟩ := dw hb4; have G1 : Bx _ := ⟨g1⟩; have G2 : Bx _ := ⟨g2⟩; have G3 : Bx _ := ⟨g3⟩; have G4 : Bx _ := ⟨g4⟩; have HM : Bx _ := ⟨hm⟩; clear g1 g2 g3 g4 q3 r3 n3 k3 hb4 hm Q2)
   | (at_builtin; refine mi rfl (.tmp 12) (.tmp 16) 39 rfl rfl rfl run ?_; clear run)
   | (go_at_call 70; go_loud (refine Calls.mono (HD.out _ _ _ _ G1.out G2.out HM.out G3.out G4.out l3 _) ?_; rintro e W9 ⟨r9, rfl, hp⟩)))
  go_ret
  exact hp
theorem w9 (hT : RT w0 rb ae aa TL xs) (hK : aR TL) {f : Nat} (HU : RC w0 rb ae aa TL xs (pF f .primary) 142 #[]) (HE : ∀ f', f' < f -> RC w0 rb ae aa TL xs (pF f' (.operands 1)) 109 #[]) (HL : ∀ f', f' < f -> LC 1 w0 rb ae aa TL xs (pF f' (.listed .expr)) 123 #[.func (.func 109) #[.pointer (some ⟨rb, 0, none⟩)] #[]]) :
  RC w0 rb ae aa TL xs (pF (f + 1) .postfix) 137 #[] :=
 wZ hT hK HU HE fun g hg U W cur ns kid h1 h2 v hv hne => D9 hT hK (HL g hg) U W cur ns kid h1 h2 v hv hne
end Go.Proofs.YtecodpdfckjalaaGreatDoor
namespace Go.Proofs.YtecodpdfckjalaaGreatDoor
open Go.RowKit
variable {w0 : World} {rb : Nat} {ae aa : Value} {TL : List Tok} {xs : List UInt8} {U : Nat -> Prop}
theorem yT (hT : RT w0 rb ae aa TL xs) (hK : aR TL) {f : Nat} (HC : RC w0 rb ae aa TL xs (pF f .chanT) 106 #[]) {W : World} {s : List ai} {ns : List Nd} (hS : RSs w0 rb ae aa TL xs U W s ns) (hc : kd s = 21) (hne : (want 21 s fun s1 => aC (pF f .chanT s1) fun a s2 => mk1 19 s 0 [] a s2) ≠ .out) :
  Calls Tryz.prog 142 #[.pointer (some ⟨rb, 0, none⟩)] W (aj w0 rb ae aa TL xs U W s ns (want 21 s fun s1 => aC (pF f .chanT s1) fun a s2 => mk1 19 s 0 [] a s2)) := by
 rw [aG hc] at hne ⊢
 have hrW := hS.lt
 have d26 : ((⟨(ax (kd s : Nat)).toArray⟩ : ByteArray).toList == [116, 114, 117, 101]) = false := by rw [au hK hS 26 (by decide) _ (by decide)]; exact decide_eq_false (by omega)
 have d16 : ((⟨(ax (kd s : Nat)).toArray⟩ : ByteArray).toList == [102, 97, 108, 115, 101]) = false := by rw [au hK hS 16 (by decide) _ (by decide)]; exact decide_eq_false (by omega)
 have d40 : ((⟨(ax (kd s : Nat)).toArray⟩ : ByteArray).toList == [40]) = false := by rw [au hK hS 40 (by decide) _ (by decide)]; exact decide_eq_false (by omega)
 have d42 : ((⟨(ax (kd s : Nat)).toArray⟩ : ByteArray).toList == [91]) = false := by rw [au hK hS 42 (by decide) _ (by decide)]; exact decide_eq_false (by omega)
 have d17 : ((⟨(ax (kd s : Nat)).toArray⟩ : ByteArray).toList == [102, 105, 108, 108]) = false := by rw [au hK hS 17 (by decide) _ (by decide)]; exact decide_eq_false (by omega)
 have d20 : ((⟨(ax (kd s : Nat)).toArray⟩ : ByteArray).toList == [108, 101, 110]) = false := by rw [au hK hS 20 (by decide) _ (by decide)]; exact decide_eq_false (by omega)
 have d21 : ((⟨(ax (kd s : Nat)).toArray⟩ : ByteArray).toList == [109, 97, 107, 101]) = true := by rw [au hK hS 21 (by decide) _ (by decide)]; exact decide_eq_true hc
 have B1 : Bx _ := ⟨eP hT hS⟩
 have hf1 := dC
 have hsl := jV hS
 have B2 : Bx (∀ W1, RSs w0 rb ae aa TL xs U W1 s ns -> _) := ⟨fun W1 h => dO hT h⟩
 have HP : Bx (∀ W2, RSs w0 rb ae aa TL xs U W2 s ns -> af rb W W2 -> ∃ i2 : Nat, RSs w0 rb ae aa TL xs U (W2.setCell ⟨rb, 2, none⟩ (.int .i64 ((i2 : Int) + 1))) (tl s) ns /\ af rb W (W2.setCell ⟨rb, 2, none⟩ (.int .i64 ((i2 : Int) + 1))) /\ i2 <= 65537 /\ rb < W2.heap.size /\ W2.cell? ⟨rb, 2, none⟩ = some (.int .i64 i2) /\ W2.frozen? ⟨rb, 2, none⟩ = false) := ⟨fun W2 q2 k2 => by
  obtain ⟨i2, hi2, hlt, c2, fz, p3⟩ := nz hK hT q2
  obtain ⟨q4, _, k4⟩ := p3 (by omega)
  exact ⟨i2, q4, k2.trans k4, hi2, hlt, c2, fz⟩⟩
 have B3 : Bx (∀ W1, RSs w0 rb ae aa TL xs U W1 (tl s) ns -> pF f .chanT (tl s) ≠ .out -> Calls Tryz.prog 106 #[.pointer (some ⟨rb, 0, none⟩)] W1 (aj w0 rb ae aa TL xs U W1 (tl s) ns (pF f .chanT (tl s)))) := ⟨fun W1 h hn => HC U W1 (tl s) ns h hn⟩
 generalize (⟨(ax (kd s : Nat)).toArray⟩ : ByteArray) = tx at *
 match r3 : pF f .chanT (tl s) with
 | .out => rw [r3] at hne; exact absurd rfl hne
 | .err s' =>
  rw [r3] at B3
  show Calls _ _ _ _ (aj w0 rb ae aa TL xs U W s ns (.err s'))
  go_enter Tryz.func142, Tryz.ntmps142
  go_wp2_with (first
   | (go_at_call 84; refine Calls.mono B1.out ?_; rintro e W1 ⟨t1, rfl, b1⟩; have q1 := hS.ext b1; have k1 := af.ext hrW b1; clear B1)
   | (go_at_call 66; refine Calls.mono (B2.out _ q1) ?_; rintro e W2 ⟨rfl, b2⟩; have q2 := q1.ext b2; have k2 := k1.trans (af.ext q1.lt b2); obtain ⟨i2, q4, k4, hi2, hl2, e2, f2⟩ := HP.out W2 q2 k2; have Q4 : Bx _ := ⟨q4⟩; have K4 : Bx _ := ⟨k4⟩; clear B2 q4 k4 q2 k2)
   | (go_at_call 106; refine Calls.mono (B3.out _ Q4.out (by simp)) ?_; rintro e W3 ⟨rfl, b3⟩; unfold ak))
  exact ⟨rfl, rfl, b3⟩
 | .ok ts3 s3 =>
  rw [r3] at B3 hne
  have HD : Bx (∀ W1, RSs w0 rb ae aa TL xs U W1 s3 (ns ++ ag ts3 ns.length) -> af rb W W1 -> ∀ v3 : Nat, v3 = (ns.length + sizes ts3 - 1 : Nat) -> ts3.length = 1 -> s3.length + sizes ts3 + 1 <= s.length -> ∀ kv, Calls Tryz.prog 70 #[.pointer (some ⟨rb, 0, none⟩), .agg #[.int .i64 19, .int .i64 (hd s).place, kv, .string ⟨([] : List UInt8).toArray⟩, .int .i64 0], .slice (some ⟨W1.heap.size, 0, none⟩) 1 1] (W1.alloc (.cells #[.int .i64 ((v3 : Nat) : Int)] 3)) fun e W' => ∃ r : Int, e = .returned (.int .i64 r) /\ aj w0 rb ae aa TL xs U W s ns (.ok [.mk 19 (hd s).place 0 [] ts3] s3) (.returned (.int .i64 r)) W') := ⟨fun W1 h hk v3 g3 e3 hsz kv => by
   have hI := dz (rb := rb) (W := W1) (o := #[.int .i64 ((v3 : Nat) : Int)]) (ys := ends ts3 ns.length) (n := 1) (by rw [aK e3]; rfl) (by decide) (by decide) h.lt (by rw [aK e3, g3]; rfl)
   exact fG hT ts3 (h.ext (ah _ _)) (hk.trans (af.alloc h.lt _)) hsz ⟨W, hS⟩ 19 (hd s).place 0 [] kv (some ⟨W1.heap.size, 0, none⟩) 1 1 e3.symm hI h.new⟩
  show Calls _ _ _ _ (aj w0 rb ae aa TL xs U W s ns (.ok [.mk 19 (hd s).place 0 [] ts3] s3))
  go_enter Tryz.func142, Tryz.ntmps142
  go_wp2_with (first
   | (go_at_call 84; refine Calls.mono B1.out ?_; rintro e W1 ⟨t1, rfl, b1⟩; have q1 := hS.ext b1; have k1 := af.ext hrW b1; clear B1)
   | (go_at_call 66; refine Calls.mono (B2.out _ q1) ?_; rintro e W2 ⟨rfl, b2⟩; have q2 := q1.ext b2; have k2 := k1.trans (af.ext q1.lt b2); obtain ⟨i2, q4, k4, hi2, hl2, e2, f2⟩ := HP.out W2 q2 k2; have Q4 : Bx _ := ⟨q4⟩; have K4 : Bx _ := ⟨k4⟩; clear B2 q4 k4 q2 k2)
   | (go_at_call 106; refine Calls.mono (B3.out _ Q4.out (by simp)) ?_; rintro e W3 ⟨n3, l3, he, q3, k3⟩; obtain ⟨v3, hv⟩ : ∃ r : Nat, r = (ns.length + sizes ts3 - 1) := ⟨_, rfl⟩; rw [← hv] at he; subst he; have V3 : Bx _ := ⟨hv⟩; clear hv B3)
   | (go_at_call 70; refine Calls.mono (HD.out _ q3 (K4.out.trans k3) v3 V3.out n3 (by omega) _) ?_; rintro e W9 ⟨r9, rfl, hp⟩))
  go_ret
  exact hp
end Go.Proofs.YtecodpdfckjalaaGreatDoor
namespace Go.Proofs.YtecodpdfckjalaaGreatDoor
open Go.RowKit
variable {w0 : World} {rb : Nat} {ae aa : Value} {TL : List Tok} {xs : List UInt8} {U : Nat -> Prop}
theorem ug {W W2 : World} {s' : List ai} {ns : List Nd} {a : List Tr} (q2 : RSs w0 rb ae aa TL xs U W2 s' (ns ++ ag a ns.length)) (k2 : af rb W W2) (n2 : a.length = 1) (v : Nat) (hv : v = ns.length + sizes a - 1) : ∀ g2 cp w4, (W2.alloc (.cells #[.int .i64 (v : Int)] 3)).grownBy w4 (Value.slice none 0 0).ownBlock -> ((Value.slice none 0 0).ownBlock = some g2 ∨ g2 = W2.heap.size + 1) -> g2 < w4.heap.size -> w4.ownsRow (rb + 1) 3 1 (.slice (some ⟨g2, 0, none⟩) (0 + 1) cp) (0 + 1) ([] ++ [.int .i64 (v : Int)]) -> RSs w0 rb ae aa TL xs (Uv U (.slice (some ⟨g2, 0, none⟩) (0 + 1) cp)) w4 s' (ns ++ ag a ns.length) /\ af rb W w4 /\ aQ w4 rb (.slice (some ⟨g2, 0, none⟩) (0 + 1) cp) (ends a ns.length) /\ W.heap.size <= g2 := fun g2 cp w4 hg hat hl4 hown => by
 obtain ⟨p1, p2⟩ := q2.uv0.grown (v := .slice none 0 0) (ys := []) (World.ownsRow_nil _ _ _ _) hg g2 (0 + 1) cp hat hl4
 obtain ⟨p3, p4⟩ := p2 W k2 (fun y hy => by simp [Value.ownBlock] at hy)
 refine ⟨p1, p3, ?_, p4⟩
 unfold aQ
 rw [aK n2, ← hv]
 exact hown
theorem vG (hT : RT w0 rb ae aa TL xs) (hK : aR TL) {f : Nat} (HE : RC w0 rb ae aa TL xs (pF f (.operands 1)) 109 #[]) {W : World} {s : List ai} {ns : List Nd} (hS : RSs w0 rb ae aa TL xs U W s ns) (hne : (want 24 s fun s1 => if kd s1 = 47 then want 47 s1 fun s2 => mk1 38 s 0 [] [] s2 else aC (pF f (.operands 1) s1) fun a s2 => want 47 s2 fun s3 => mk1 38 s 0 [] a s3) ≠ .out) :
  Calls Tryz.prog 92 #[.pointer (some ⟨rb, 0, none⟩)] W (aj w0 rb ae aa TL xs U W s ns (want 24 s fun s1 => if kd s1 = 47 then want 47 s1 fun s2 => mk1 38 s 0 [] [] s2 else aC (pF f (.operands 1) s1) fun a s2 => want 47 s2 fun s3 => mk1 38 s 0 [] a s3)) := by
 have hrW := hS.lt
 obtain ⟨i0, hi, hz0, hz1, hz2⟩ := info_parts gu
 have B1 : Bx (∀ W1, RSs w0 rb ae aa TL xs U W1 s ns -> _) := ⟨fun W1 h => bF hT hK h 24 (by decide) ⟨#[114, 101, 116, 117, 114, 110]⟩ (by decide)⟩
 by_cases h1 : kd s = 24
 ·rw [aG h1] at hne ⊢
  have B2 : Bx (∀ W1, RSs w0 rb ae aa TL xs U W1 (tl s) ns -> _) := ⟨fun W1 h => dO hT h⟩
  have B3 : Bx (∀ W1, RSs w0 rb ae aa TL xs U W1 (tl s) ns -> _) := ⟨fun W1 h => bF hT hK h 47 (by decide) ⟨#[59]⟩ (by decide)⟩
  have HX : Bx (∀ W1, RSs w0 rb ae aa TL xs U W1 (tl s) ns -> ((⟨(ax (kd (tl s) : Nat)).toArray⟩ : ByteArray).toList == [59]) = decide (kd (tl s) = 47)) := ⟨fun W1 h => au hK h 47 (by decide) _ (by decide)⟩
  by_cases h2' : kd (tl s) = 47
  ·rw [if_pos h2', aG h2']
   have h2 : Bx (kd (tl s) = 47) := ⟨h2'⟩
   have HD : Bx (∀ W1, RSs w0 rb ae aa TL xs U W1 (tl (tl s)) ns -> af rb W W1 -> (tl (tl s)).length + 1 <= s.length -> ∀ kv, Calls Tryz.prog 70 #[.pointer (some ⟨rb, 0, none⟩), .agg #[.int .i64 38, .int .i64 (hd s).place, kv, .string ⟨#[]⟩, .int .i64 0], .slice none 0 0] W1 fun e W' => ∃ r : Int, e = .returned (.int .i64 r) /\ aj w0 rb ae aa TL xs U W s ns (.ok [.mk 38 (hd s).place 0 [] []] (tl (tl s))) (.returned (.int .i64 r)) W') := ⟨fun W1 h hk hl kv => fG hT [] h.kT hk (by simp [sizes]; omega) ⟨W, hS⟩ 38 (hd s).place 0 [] kv none 0 0 rfl (World.ownsRow_nil _ _ _ _) (fun _ h => by cases h)⟩
   show Calls _ _ _ _ (aj w0 rb ae aa TL xs U W s ns (.ok [.mk 38 (hd s).place 0 [] []] (tl (tl s))))
   have HT : Bx (∀ W1, RSs w0 rb ae aa TL xs U W1 (tl s) ns -> ((⟨(ax (kd (tl s) : Nat)).toArray⟩ : ByteArray).toList == [59]) = true) := ⟨fun W1 h => by rw [HX.out W1 h]; exact decide_eq_true h2.out⟩
   clear HX h2'
   generalize (⟨(ax (kd (tl s) : Nat)).toArray⟩ : ByteArray) = tx at *
   clear hne HE
   go_enter Tryz.func92, Tryz.ntmps92
   go_wp2_with (first
    | (go_at_call 85; refine Calls.mono (B1.out _ hS) ?_; rintro e W1 (⟨_, rfl, q1, l1, k1⟩ | ⟨h, _⟩); rotate_left 1; exact absurd h1 h; clear B1; have d47 := HT.out _ q1)
    | (go_at_call 66; refine Calls.mono (B2.out _ q1) ?_; rintro e W2 ⟨rfl, b2⟩; have q2 := q1.ext b2; have k2 := k1.trans (af.ext q1.lt b2); clear B2)
    | (go_at_call 85; refine Calls.mono (B3.out _ q2) ?_; rintro e W3 (⟨_, rfl, q3, l3, k3⟩ | ⟨h, _⟩); rotate_left 1; exact absurd h2.out h; clear B3)
    | (go_at_call 70; refine Calls.mono (HD.out _ q3 (k2.trans k3) (by omega) _) ?_; rintro e W9 ⟨r9, rfl, hp⟩))
   go_ret
   exact hp
  ·rw [if_neg h2'] at hne ⊢
   have HT : Bx (∀ W1, RSs w0 rb ae aa TL xs U W1 (tl s) ns -> ((⟨(ax (kd (tl s) : Nat)).toArray⟩ : ByteArray).toList == [59]) = false) := ⟨fun W1 h => by rw [HX.out W1 h]; exact decide_eq_false h2'⟩
   have B4 : Bx (∀ W1, RSs w0 rb ae aa TL xs U W1 (tl s) ns -> pF f (.operands 1) (tl s) ≠ .out -> Calls Tryz.prog 109 #[.pointer (some ⟨rb, 0, none⟩)] W1 (aj w0 rb ae aa TL xs U W1 (tl s) ns (pF f (.operands 1) (tl s)))) := ⟨fun W1 h hn => HE U W1 (tl s) ns h hn⟩
   match r4 : pF f (.operands 1) (tl s) with
   | .out => rw [r4] at hne; exact absurd rfl hne
   | .err s3 =>
    rw [r4] at B4
    show Calls _ _ _ _ (aj w0 rb ae aa TL xs U W s ns (.err s3))
    clear HX h2' B3
    generalize (⟨(ax (kd (tl s) : Nat)).toArray⟩ : ByteArray) = tx at *
    clear hne HE
    go_enter Tryz.func92, Tryz.ntmps92
    go_wp2_with (first
     | (go_at_call 85; refine Calls.mono (B1.out _ hS) ?_; rintro e W1 (⟨_, rfl, q1, l1, k1⟩ | ⟨h, _⟩); rotate_left 1; exact absurd h1 h; clear B1; have d47 := HT.out _ q1)
     | (go_at_call 66; refine Calls.mono (B2.out _ q1) ?_; rintro e W2 ⟨rfl, b2⟩; have q2 := q1.ext b2; have k2 := k1.trans (af.ext q1.lt b2); clear B2)
     | (go_at_call 109; refine Calls.mono (B4.out _ q2 (by simp)) ?_; rintro e W3 ⟨rfl, b⟩; unfold ak))
    exact ⟨rfl, rfl, b⟩
   | .ok a s3 =>
    rw [r4] at B4 hne
    simp only [aC] at hne ⊢
    have B5 : Bx (∀ U' W1, RSs w0 rb ae aa TL xs U' W1 s3 (ns ++ ag a ns.length) -> _) := ⟨fun U' W1 h => bF (U := U') hT hK h 47 (by decide) ⟨#[59]⟩ (by decide)⟩
    by_cases h5 : kd s3 = 47
    ·rw [aG h5]
     have HD : Bx (∀ W5 W6 gb c, RSs w0 rb ae aa TL xs (Uv U (.slice (some ⟨gb, 0, none⟩) (0 + 1) c)) W5 s3 (ns ++ ag a ns.length) -> af rb W W5 -> aQ W5 rb (.slice (some ⟨gb, 0, none⟩) (0 + 1) c) (ends a ns.length) -> W.heap.size <= gb -> RSs w0 rb ae aa TL xs (Uv U (.slice (some ⟨gb, 0, none⟩) (0 + 1) c)) W6 (tl s3) (ns ++ ag a ns.length) -> af rb W5 W6 -> a.length = 1 -> (tl s3).length + sizes a + 1 <= s.length -> ∀ kv, Calls Tryz.prog 70 #[.pointer (some ⟨rb, 0, none⟩), .agg #[.int .i64 38, .int .i64 (hd s).place, kv, .string ⟨#[]⟩, .int .i64 0], .slice (some ⟨gb, 0, none⟩) 1 c] W6 fun e W' => ∃ r : Int, e = .returned (.int .i64 r) /\ aj w0 rb ae aa TL xs U W s ns (.ok [.mk 38 (hd s).place 0 [] a] (tl s3)) (.returned (.int .i64 r)) W') := ⟨fun W5 W6 gb c g1 g2 g3 g4 q6 k6 ha hl kv => fG hT a (q6.jD (fun y hy => .inl hy)) (g2.trans k6) hl ⟨W, hS⟩ 38 (hd s).place 0 [] kv (some ⟨gb, 0, none⟩) 1 c ha.symm (g1.ints g3 k6) (hS.nC (n := 1) (c := c) (fun y hy => by simp [Value.ownBlock] at hy; omega))⟩
     show Calls _ _ _ _ (aj w0 rb ae aa TL xs U W s ns (.ok [.mk 38 (hd s).place 0 [] a] (tl s3)))
     clear HX h2' B3
     generalize (⟨(ax (kd (tl s) : Nat)).toArray⟩ : ByteArray) = tx at *
     clear hne HE
     go_enter Tryz.func92, Tryz.ntmps92
     go_wp2_with (first
      | (go_at_call 85; refine Calls.mono (B1.out _ hS) ?_; rintro e W1 (⟨_, rfl, q1, l1, k1⟩ | ⟨h, _⟩); rotate_left 1; exact absurd h1 h; clear B1; have d47 := HT.out _ q1)
      | (go_at_call 66; refine Calls.mono (B2.out _ q1) ?_; rintro e W2 ⟨rfl, b2⟩; have q2 := q1.ext b2; have k2 := k1.trans (af.ext q1.lt b2); clear B2)
      | (go_at_call 109; refine Calls.mono (B4.out _ q2 (by simp)) ?_; rintro e W3 ⟨n3, l3, he, q3, k3⟩; obtain ⟨v, hv⟩ : ∃ r : Nat, r = (ns.length + sizes a - 1) := ⟨_, rfl⟩; rw [← hv] at he; subst he; have NX : Bx _ := ⟨ug q3 (k2.trans k3) n3 v hv⟩; have hr3 := q3.lt; clear hv B4 q3)
      | (at_builtin; refine wpList_append_lies _ rfl (.tmp 10) (.tmp 13) 39 rfl (rb + 1) 3 i0 (.int .i64 0) 1 8 Tryz.underlying39 hi hz0 hz1 hz2 rfl (by decide) (.slice none 0 0) 0 [] rfl (World.ownsRow_nil _ _ _ _) ⟨W3.heap.size, 0, none⟩ 1 1 [.int .i64 (v : Int)] rfl rfl (dD _ _ rfl _) (eF _) (by decide) (by unfold maxLen; omega) (by omega) (by simp; omega) (W3.heap.size + 1) (by simp) ?_; intro g2 cp w4 hown hgrow hat hlt4; obtain ⟨g1, gk, g3, g4⟩ := NX.out g2 cp w4 hgrow hat hlt4 hown; have G1 : Bx _ := ⟨g1⟩; have G2 : Bx _ := ⟨gk⟩; have G3 : Bx _ := ⟨g3⟩; have G4 : Bx _ := ⟨g4⟩; clear hgrow hat hown g1 gk g3 g4 NX)
      | (go_at_call 85; refine Calls.mono (B5.out _ _ G1.out) ?_; rintro e W6 (⟨_, rfl, q6, l6, k6⟩ | ⟨h, _⟩); rotate_left 1; exact absurd h5 h; clear B5; have Q6 : Bx _ := ⟨q6⟩; have K6 : Bx _ := ⟨k6⟩; clear q6 k6)
      | (go_at_call 70; go_loud (refine Calls.mono (HD.out _ _ _ _ G1.out G2.out G3.out G4.out Q6.out K6.out n3 (by omega) _) ?_; rintro e W9 ⟨r9, rfl, hp⟩)))
     go_ret
     exact hp
    ·rw [aL h5]
     show Calls _ _ _ _ (aj w0 rb ae aa TL xs U W s ns (.err s3))
     clear HX h2' B3
     generalize (⟨(ax (kd (tl s) : Nat)).toArray⟩ : ByteArray) = tx at *
     clear hne HE
     go_enter Tryz.func92, Tryz.ntmps92
     go_wp2_with (first
      | (go_at_call 85; refine Calls.mono (B1.out _ hS) ?_; rintro e W1 (⟨_, rfl, q1, l1, k1⟩ | ⟨h, _⟩); rotate_left 1; exact absurd h1 h; clear B1; have d47 := HT.out _ q1)
      | (go_at_call 66; refine Calls.mono (B2.out _ q1) ?_; rintro e W2 ⟨rfl, b2⟩; have q2 := q1.ext b2; have k2 := k1.trans (af.ext q1.lt b2); clear B2)
      | (go_at_call 109; refine Calls.mono (B4.out _ q2 (by simp)) ?_; rintro e W3 ⟨n3, l3, he, q3, k3⟩; obtain ⟨v, hv⟩ : ∃ r : Nat, r = (ns.length + sizes a - 1) := ⟨_, rfl⟩; rw [← hv] at he; subst he; have NX : Bx _ := ⟨ug q3 (k2.trans k3) n3 v hv⟩; have hr3 := q3.lt; clear hv B4 q3)
      | (at_builtin; refine wpList_append_lies _ rfl (.tmp 10) (.tmp 13) 39 rfl (rb + 1) 3 i0 (.int .i64 0) 1 8 Tryz.underlying39 hi hz0 hz1 hz2 rfl (by decide) (.slice none 0 0) 0 [] rfl (World.ownsRow_nil _ _ _ _) ⟨W3.heap.size, 0, none⟩ 1 1 [.int .i64 (v : Int)] rfl rfl (dD _ _ rfl _) (eF _) (by decide) (by unfold maxLen; omega) (by omega) (by simp; omega) (W3.heap.size + 1) (by simp) ?_; intro g2 cp w4 hown hgrow hat hlt4; obtain ⟨g1, gk, g3, g4⟩ := NX.out g2 cp w4 hgrow hat hlt4 hown; have G1 : Bx _ := ⟨g1⟩; have G2 : Bx _ := ⟨gk⟩; have G3 : Bx _ := ⟨g3⟩; have G4 : Bx _ := ⟨g4⟩; clear hgrow hat hown g1 gk g3 g4 NX)
      | (go_at_call 85; refine Calls.mono (B5.out _ _ G1.out) ?_; rintro e W6 (⟨h, _⟩ | ⟨_, rfl, b⟩); exact absurd h h5; unfold ak))
     exact ⟨rfl, rfl, b⟩
 ·rw [aL h1]
  show Calls _ _ _ _ (aj w0 rb ae aa TL xs U W s ns (.err s))
  clear hne HE
  go_enter Tryz.func92, Tryz.ntmps92
  go_wp2_with (first
   | (go_at_call 85; refine Calls.mono (B1.out _ hS) ?_; rintro e W1 (⟨h, _⟩ | ⟨_, rfl, b⟩); exact absurd h h1; unfold ak))
  exact ⟨rfl, rfl, b⟩
end Go.Proofs.YtecodpdfckjalaaGreatDoor
namespace Go.Proofs.YtecodpdfckjalaaGreatDoor
open Go.RowKit
variable {w0 : World} {rb : Nat} {ae aa : Value} {TL : List Tok} {xs : List UInt8} {U : Nat -> Prop}
theorem yU (hT : RT w0 rb ae aa TL xs) (hK : aR TL) {f : Nat} (HS : ∀ f', f' < f -> RC w0 rb ae aa TL xs (pF f' .arm) 111 #[]) :
  RC w0 rb ae aa TL xs (fun s => want 25 s fun s0 => want 44 s0 fun s1 => aC (pF f .arms s1) fun a s2 => mk1 40 s 0 [] a s2) 94 #[] := by
 intro U W s ns hS hne
 show Calls Tryz.prog 94 #[.pointer (some ⟨rb, 0, none⟩)] W _
 dsimp only at hne ⊢
 have hrW := hS.lt
 have B1 : Bx (∀ W1, RSs w0 rb ae aa TL xs U W1 s ns -> _) := ⟨fun W1 h => bF hT hK h 25 (by decide) ⟨#[115, 101, 108, 101, 99, 116]⟩ (by decide)⟩
 have C1 : Bx (∀ W1, RSs w0 rb ae aa TL xs U W1 (tl s) ns -> _) := ⟨fun W1 h => bF hT hK h 44 (by decide) ⟨#[123]⟩ (by decide)⟩
 by_cases h1 : kd s = 25
 rotate_left 1
 ·rw [aL h1]
  go_enter Tryz.func94, Tryz.ntmps94
  go_wp2_with (first
   | (go_at_call 85; refine Calls.mono (B1.out _ hS) ?_; rintro e W1 (⟨h, _⟩ | ⟨_, rfl, b1⟩); exact absurd h h1; unfold ak))
  exact ⟨rfl, rfl, b1⟩
 rw [aG h1] at hne ⊢
 by_cases c1 : kd (tl s) = 44
 ·rw [aG c1] at hne ⊢
  obtain ⟨i0, hi, hz0, hz1, hz2⟩ := info_parts gu
  have hslen : s.length <= 65537 := by
   obtain ⟨i, rfl, hi, _⟩ := hS
   have := hT.small
   unfold pts
   simp
   omega
  generalize hR : (aC (pF f .arms (tl (tl s))) fun a s2 => mk1 40 s 0 [] a s2) = R at hne ⊢
  have HR : Bx (aC (pF f .arms (tl (tl s))) (fun a s2 => mk1 40 s 0 [] a s2) = R /\ R ≠ .out) := ⟨hR, hne⟩
  clear hR hne
  have H0 : Bx (∀ W1, RSs w0 rb ae aa TL xs U W1 (tl (tl s)) ns -> af rb W W1 -> (tl (tl s)).length + 1 = (tl s).length -> (tl s).length + 1 = s.length -> tY w0 rb ae aa TL xs U W s ns .arms f (tl (tl s)) (.slice none 0 0) W1 f [] (tl (tl s))) := ⟨fun W1 q k l l0 => ⟨by rw [ni], Nat.le_refl _, by
   have : ns ++ ag [] ns.length = ns := by simp [ag]
   rw [this]
   exact q.jD (fun y hy => by rcases hy with hy | hy; exact hy; simp [Value.ownBlock] at hy), World.ownsRow_nil _ _ _ _, k, fun y hy => by simp [Value.ownBlock] at hy, by simp [sizes]; omega⟩⟩
  go_enter Tryz.func94, Tryz.ntmps94
  go_wp2_with (first
   | (go_at_call 85; refine Calls.mono (B1.out _ hS) ?_; rintro e W1 (⟨_, rfl, q1, l1, k1⟩ | ⟨h, _⟩); rotate_left 1; exact absurd h1 h; clear B1)
   | (go_at_call 85; refine Calls.mono (C1.out _ q1) ?_; rintro e W2 (⟨_, rfl, q2, l2, k2⟩ | ⟨h, _⟩); rotate_left 1; exact absurd c1 h; clear C1; have L0 := H0.out _ q2 (k1.trans k2) l2 l1; have LB : Bx _ := ⟨L0⟩; clear L0 H0))
  go_loopw [4] (fun kv wr => ∃ f' : Nat, ∃ acc cur, ∃ a c, kv = .slice a acc.length c /\ Bx (tY w0 rb ae aa TL xs U W s ns .arms f (tl (tl s)) kv wr f' acc cur)) (fun kv _ => s.length - sliceLen kv)
  case atStart => exact ⟨f, [], tl (tl s), none, 0, rfl, LB⟩
  case round =>
   obtain ⟨f', acc, cur, a, c, rfl, HL⟩ := hrel
   have hsz := HL.out.sz
   have hac := dR acc
   match f', HL with
   | 0, HL =>
    have := HL.out.eq
    have h2 := HR.out
    rw [this] at h2
    exact absurd h2.1.symm h2.2
   | g + 1, HL =>
    have B2 : Bx (∀ W1, RSs w0 rb ae aa TL xs (Uv U (.slice a acc.length c)) W1 cur (ns ++ ag acc ns.length) -> _) := ⟨fun W1 h => iP hT hK h 45 (by decide) ⟨#[125]⟩ (by decide)⟩
    by_cases h2 : kd cur = 45
    ·have e1 : pF (g + 1) .arms cur = .ok [] (tl cur) := by
      show body (pF g) .arms cur = _
      simp only [body]
      rw [if_pos h2]
     have eR : Bx (R = .ok [.mk 40 (hd s).place 0 [] acc] (tl cur)) := ⟨by
      have h3 := HR.out.1
      rw [HL.out.eq, e1] at h3
      simp only [iy, aC, List.append_nil] at h3
      exact h3.symm⟩
     have hUW : ∀ y, a = some ⟨y, 0, none⟩ -> ¬ U y := fun y hy hyU => by
      have h4 := HL.out.new y (by rw [hy]; rfl)
      obtain ⟨_, _, _, _, _, hU⟩ := hS
      have := hU y hyU
      omega
     have HD : Bx (∀ W2, RSs w0 rb ae aa TL xs (Uv U (.slice a acc.length c)) W2 (tl cur) (ns ++ ag acc ns.length) -> af rb wr W2 -> (tl cur).length + 1 = cur.length -> ∀ kv, Calls Tryz.prog 70 #[.pointer (some ⟨rb, 0, none⟩), .agg #[.int .i64 40, .int .i64 (hd s).place, kv, .string ⟨#[]⟩, .int .i64 0], .slice a acc.length c] W2 fun e W' => ∃ r : Int, e = .returned (.int .i64 r) /\ aj w0 rb ae aa TL xs U W s ns R (.returned (.int .i64 r)) W') := ⟨fun W2 q k l kv => by
      rw [eR.out]
      exact fG hT acc (q.jD (fun y hy => .inl hy)) (HL.out.keep.trans k) (by omega) ⟨W, hS⟩ 40 (hd s).place 0 [] kv a acc.length c rfl (HL.out.st.ints HL.out.row k) hUW⟩
     have hst : Bx _ := ⟨HL.out.st⟩
     clear HL HR eR e1 HS
     go_wp2_with (first
      | (go_at_call 102; refine Calls.mono (B2.out _ hst.out) ?_; rintro e W2 (⟨_, rfl, q2, l2, k2⟩ | ⟨h, _⟩); rotate_left 1; exact absurd h2 h; clear B2)
      | (go_at_call 70; refine Calls.mono (HD.out _ q2 k2 l2 _) ?_; rintro e W9 ⟨r9, rfl, hp⟩))
     go_ret
     exact hp
    ·have e1 : pF (g + 1) .arms cur = aC (pF g .arm cur) fun a s1 => aC (pF g .arms s1) fun b s2 => .ok (a ++ b) s2 := by
      show body (pF g) .arms cur = _
      simp only [body]
      rw [if_neg h2]
     have hgf : g < f := by have := HL.out.le; omega
     have B3 : Bx (∀ W1, RSs w0 rb ae aa TL xs (Uv U (.slice a acc.length c)) W1 cur (ns ++ ag acc ns.length) -> pF g .arm cur ≠ .out -> Calls Tryz.prog 111 #[.pointer (some ⟨rb, 0, none⟩)] W1 (aj w0 rb ae aa TL xs (Uv U (.slice a acc.length c)) W1 cur (ns ++ ag acc ns.length) (pF g .arm cur))) := ⟨fun W1 h hn => HS g hgf _ W1 cur _ h hn⟩
     have hst : Bx _ := ⟨HL.out.st⟩
     match r3 : pF g .arm cur with
     | .out =>
      have h3 := HR.out
      rw [HL.out.eq, e1, r3] at h3
      exact absurd h3.1.symm h3.2
     | .err s' =>
      rw [r3] at B3
      have eR : Bx (R = .err s') := ⟨by
       have h3 := HR.out.1
       rw [HL.out.eq, e1, r3] at h3
       exact h3.symm⟩
      clear HL HR HS
      go_wp2_with (first
       | (go_at_call 102; refine Calls.mono (B2.out _ hst.out) ?_; rintro e W2 (⟨h, _⟩ | ⟨_, rfl, q2, k2⟩); exact absurd h h2; clear B2)
       | (go_at_call 111; refine Calls.mono (B3.out _ q2 (by simp)) ?_; rintro e W3 ⟨rfl, b3⟩; unfold ak))
      exact ⟨rfl, by rw [eR.out]; exact ⟨rfl, b3⟩⟩
     | .ok ts s' =>
      rw [r3] at B3
      have HN : Bx (∀ W2 W3, af rb wr W2 -> af rb W2 W3 -> RSs w0 rb ae aa TL xs (Uv U (.slice a acc.length c)) W3 s' ((ns ++ ag acc ns.length) ++ ag ts (ns ++ ag acc ns.length).length) -> ts.length = 1 -> s'.length + sizes ts <= cur.length -> ∀ v : Nat, v = ((ns ++ ag acc ns.length).length + sizes ts - 1) ->
        aQ W3 rb (.slice a acc.length c) (ends acc ns.length) /\ ∀ g2 cp w4, (W3.alloc (.cells #[.int .i64 (v : Int)] 3)).grownBy w4 (Value.slice a acc.length c).ownBlock -> ((Value.slice a acc.length c).ownBlock = some g2 ∨ g2 = W3.heap.size + 1) -> g2 < w4.heap.size -> w4.ownsRow (rb + 1) 3 1 (.slice (some ⟨g2, 0, none⟩) (acc.length + 1) cp) (acc.length + 1) (bM (ends acc ns.length) ++ [.int .i64 (v : Int)]) -> tY w0 rb ae aa TL xs U W s ns .arms f (tl (tl s)) (.slice (some ⟨g2, 0, none⟩) (acc.length + 1) cp) w4 g (acc ++ ts) s') := ⟨fun W2 W3 k2 k3 q3 n3 l3 v hv => by
       have hrow := HL.out.st.ints HL.out.row (k2.trans k3)
       refine ⟨hrow, fun g2 cp w4 hg hat hl4 hown => ?_⟩
       obtain ⟨p1, p2⟩ := q3.grown hrow hg g2 (acc.length + 1) cp hat hl4
       obtain ⟨p3, p4⟩ := p2 W (HL.out.keep.trans (k2.trans k3)) HL.out.new
       have hends : ends (acc ++ ts) ns.length = ends acc ns.length ++ [(v : Int)] := by rw [bD, aK n3, hv, dV]
       refine ⟨?_, by omega, ?_, ?_, p3, fun y hy => ?_, ?_⟩
       ·rw [HL.out.eq, e1, r3]
        simp only [aC]
        cases pF g .arms s' <;> simp [iy]
       ·rw [bP] at p1
        exact p1
       ·unfold aQ
        rw [hends, List.length_append, cz, bM, List.map_append]
        exact hown
       ·simp [Value.ownBlock] at hy
        subst hy
        exact p4
       ·rw [aI]
        omega⟩
      have hlen : (acc ++ ts).length = acc.length + 1 -> True := fun _ => trivial
      clear HL HR HS
      go_wp2_with (first
       | (go_at_call 102; refine Calls.mono (B2.out _ hst.out) ?_; rintro e W2 (⟨h, _⟩ | ⟨_, rfl, q2, k2⟩); exact absurd h h2; clear B2)
       | (go_at_call 111; refine Calls.mono (B3.out _ q2 (by simp)) ?_; rintro e W3 ⟨n3, l3, he, q3, k3⟩; obtain ⟨v3, hv⟩ : ∃ r : Nat, r = ((ns ++ ag acc ns.length).length + sizes ts - 1) := ⟨_, rfl⟩; rw [← hv] at he; subst he; obtain ⟨hrow, hnx⟩ := HN.out W2 W3 k2 k3 q3 n3 l3 v3 hv; have NX : Bx _ := ⟨hnx⟩; have RW : Bx _ := ⟨hrow⟩; have hrl := q3.lt; clear hv hnx hrow HN B3)
       | (at_builtin; refine wpList_append_lies _ rfl (.tmp 12) (.tmp 15) 39 rfl (rb + 1) 3 i0 (.int .i64 0) 1 8 Tryz.underlying39 hi hz0 hz1 hz2 rfl (by decide) (.slice a acc.length c) acc.length (bM (ends acc ns.length)) rfl (by have := bO RW.out (ah W3 (.cells #[.int .i64 (v3 : Int)] 3)); rw [cz] at this; exact this) ⟨W3.heap.size, 0, none⟩ 1 1 [.int .i64 (v3 : Int)] rfl rfl (dD _ _ rfl _) (eF _) (by decide) (by unfold maxLen; omega) (by omega) (by simp; omega) (W3.heap.size + 1) (by simp) ?_; intro g2 cp w4 hown hgrow hat hlt4; have LN := NX.out g2 cp w4 hgrow hat hlt4 hown; have LNB : Bx _ := ⟨LN⟩; clear hgrow hat hown LN))
      go_roundw
      case rel => exact ⟨g, acc ++ ts, s', some ⟨g2, 0, none⟩, cp, by simp [n3], LNB⟩
      case measure => simp [sliceLen]; omega
 ·rw [aL c1]
  go_enter Tryz.func94, Tryz.ntmps94
  go_wp2_with (first
   | (go_at_call 85; refine Calls.mono (B1.out _ hS) ?_; rintro e W1 (⟨_, rfl, q1, l1, k1⟩ | ⟨h, _⟩); rotate_left 1; exact absurd h1 h; clear B1)
   | (go_at_call 85; refine Calls.mono (C1.out _ q1) ?_; rintro e W2 (⟨h, _⟩ | ⟨_, rfl, b2⟩); exact absurd h c1; unfold ak))
  exact ⟨rfl, rfl, b2⟩
end Go.Proofs.YtecodpdfckjalaaGreatDoor
namespace Go.Proofs.YtecodpdfckjalaaGreatDoor
open Go.RowKit
variable {w0 : World} {rb : Nat} {ae aa : Value} {TL : List Tok} {xs : List UInt8} {U : Nat -> Prop}
structure qi (w0 : World) (rb : Nat) (ae aa : Value) (TL : List Tok) (xs : List UInt8) (f : Nat) : Prop where
  typ : RC w0 rb ae aa TL xs (pF f .typ) 87 #[]
  chanT : RC w0 rb ae aa TL xs (pF f .chanT) 106 #[]
  expr : RC w0 rb ae aa TL xs (pF f (.operands 1)) 109 #[]
  opnd : ∀ l : Int, 1 <= l -> RC w0 rb ae aa TL xs (pF f (.operands l)) 125 #[.int .i64 l]
  unary : RC w0 rb ae aa TL xs (pF f .unary) 126 #[]
  postf : RC w0 rb ae aa TL xs (pF f .postfix) 137 #[]
  primary : RC w0 rb ae aa TL xs (pF f .primary) 142 #[]
  prog : RC w0 rb ae aa TL xs (pF f .prog) 150 #[]
  param : RC w0 rb ae aa TL xs (pF f .param) 152 #[]
  block : RC w0 rb ae aa TL xs (pF f .block) 95 #[]
  stmt : RC w0 rb ae aa TL xs (pF f .stmt) 69 #[]
  branch : RC w0 rb ae aa TL xs (pF f .branch) 90 #[]
  arm : RC w0 rb ae aa TL xs (pF f .arm) 111 #[]
  tyn : RC w0 rb ae aa TL xs (pF f .tyn) 67 #[]
  pty : LC 0 w0 rb ae aa TL xs (pF f (.parted .typ)) 122 #[.func (.func 87) #[.pointer (some ⟨rb, 0, none⟩)] #[]]
  pex : LC 0 w0 rb ae aa TL xs (pF f (.parted .expr)) 122 #[.func (.func 109) #[.pointer (some ⟨rb, 0, none⟩)] #[]]
  ppa : LC 0 w0 rb ae aa TL xs (pF f (.parted .param)) 122 #[.func (.func 152) #[.pointer (some ⟨rb, 0, none⟩)] #[]]
  lty : LC 1 w0 rb ae aa TL xs (pF f (.listed .typ)) 123 #[.func (.func 87) #[.pointer (some ⟨rb, 0, none⟩)] #[]]
  lex : LC 1 w0 rb ae aa TL xs (pF f (.listed .expr)) 123 #[.func (.func 109) #[.pointer (some ⟨rb, 0, none⟩)] #[]]
  lpa : LC 1 w0 rb ae aa TL xs (pF f (.listed .param)) 123 #[.func (.func 152) #[.pointer (some ⟨rb, 0, none⟩)] #[]]
theorem Ea : qi w0 rb ae aa TL xs 0 := ⟨fun U W s ns hS hne => absurd rfl hne, fun U W s ns hS hne => absurd rfl hne, fun U W s ns hS hne => absurd rfl hne, fun l hl U W s ns hS hne => absurd rfl hne, fun U W s ns hS hne => absurd rfl hne, fun U W s ns hS hne => absurd rfl hne, fun U W s ns hS hne => absurd rfl hne, fun U W s ns hS hne => absurd rfl hne, fun U W s ns hS hne => absurd rfl hne, fun U W s ns hS hne => absurd rfl hne, fun U W s ns hS hne => absurd rfl hne, fun U W s ns hS hne => absurd rfl hne, fun U W s ns hS hne => absurd rfl hne, fun U W s ns hS hne => absurd rfl hne, fun U W s ns hS hne => absurd rfl hne, fun U W s ns hS hne => absurd rfl hne, fun U W s ns hS hne => absurd rfl hne, fun U W s ns hS hne => absurd rfl hne, fun U W s ns hS hne => absurd rfl hne, fun U W s ns hS hne => absurd rfl hne⟩
theorem Gb (hT : RT w0 rb ae aa TL xs) (hK : aR TL) {f : Nat} (A : ∀ f', f' <= f -> qi w0 rb ae aa TL xs f') : RC w0 rb ae aa TL xs (pF (f + 1) .typ) 87 #[] := by
  intro U W s ns hS hne
  show Calls Tryz.prog 87 #[.pointer (some ⟨rb, 0, none⟩)] W (aj w0 rb ae aa TL xs U W s ns (body (pF f) .typ s))
  change body (pF f) .typ s ≠ .out at hne
  simp only [body] at hne ⊢
  by_cases h19 : kd s = 19
  · rw [if_pos h19] at hne ⊢
    exact JH hT hK hS h19
  rw [if_neg h19] at hne ⊢
  by_cases h12 : kd s = 12
  · rw [if_pos h12] at hne ⊢
    exact JI hT hK hS h12
  rw [if_neg h12] at hne ⊢
  by_cases h10 : kd s = 10
  · rw [if_pos h10] at hne ⊢
    exact JK hT hK (qg hT hK (A f (Nat.le_refl _)).typ 4 10 (by decide) ⟨#[97, 114, 114, 97, 121]⟩ (by decide)) hS h10 hne
  rw [if_neg h10] at hne ⊢
  by_cases h14 : kd s = 14
  · rw [if_pos h14] at hne ⊢
    exact JL hT hK (A f (Nat.le_refl _)).chanT hS h14 hne
  rw [if_neg h14] at hne ⊢
  by_cases h40 : kd s = 40
  · rw [if_pos h40] at hne ⊢
    exact JM hT hK (fun U W s ns hS hne => sV hT hK (A f (Nat.le_refl _)).typ (A f (Nat.le_refl _)).pty hS hne) hS h40 hne
  rw [if_neg h40] at hne ⊢
  by_cases h23 : kd s = 23
  · rw [if_pos h23] at hne ⊢
    exact JN hT hK (fun U W s ns hS hne => u6 hT hK (fun f' h => (A f' (Nat.le_of_lt h)).typ) (A f (Nat.le_refl _)).lty hS hne) hS h23 hne
  rw [if_neg h23] at hne ⊢
  exact Ll hT hK hS ⟨h19, h12, h10, h14, h40, h23⟩
theorem Eb (hT : RT w0 rb ae aa TL xs) (hK : aR TL) {f : Nat} (A : ∀ f', f' <= f -> qi w0 rb ae aa TL xs f') : RC w0 rb ae aa TL xs (pF (f + 1) .prog) 150 #[] := by
  intro U W s ns hS hne
  show Calls Tryz.prog 150 #[.pointer (some ⟨rb, 0, none⟩)] W (aj w0 rb ae aa TL xs U W s ns (body (pF f) .prog s))
  change body (pF f) .prog s ≠ .out at hne
  simp only [body] at hne ⊢
  by_cases h0 : kd s = 23
  · rw [aG h0] at hne ⊢
    by_cases h1 : kd (tl s) = 1
    · rw [if_pos h1, gZ h1] at hne ⊢
      exact yD hT hK (fun f' h => (A f' (Nat.le_of_lt h)).typ) (A f (Nat.le_refl _)).lpa (A f (Nat.le_refl _)).block hS h0 h1 hne
    · rw [if_neg h1] at hne ⊢
      exact Ce hT hK (fun f' h => (A f' (Nat.le_of_lt h)).typ) (A f (Nat.le_refl _)).lpa (A f (Nat.le_refl _)).block hS h0 h1 hne
  · rw [aL h0]
    exact D5 hT hK hS h0
theorem xc (hT : RT w0 rb ae aa TL xs) (hK : aR TL) {f : Nat} (A : ∀ f', f' <= f -> qi w0 rb ae aa TL xs f') : RC w0 rb ae aa TL xs (pF (f + 1) .primary) 142 #[] := by
  intro U W s ns hS hne
  show Calls Tryz.prog 142 #[.pointer (some ⟨rb, 0, none⟩)] W (aj w0 rb ae aa TL xs U W s ns (body (pF f) .primary s))
  change body (pF f) .primary s ≠ .out at hne
  simp only [body] at hne ⊢
  by_cases h26 : kd s = 26
  · rw [if_pos h26] at hne ⊢
    exact yQ hT hK hS h26
  rw [if_neg h26] at hne ⊢
  by_cases h16 : kd s = 16
  · rw [if_pos h16] at hne ⊢
    exact yR hT hK hS h16
  rw [if_neg h16] at hne ⊢
  by_cases h40 : kd s = 40
  · rw [if_pos h40] at hne ⊢
    exact yL hT hK (fun U W s ns hS hne => Ca hT hK (A f (Nat.le_refl _)).pex hS hne) hS h40 hne
  rw [if_neg h40] at hne ⊢
  by_cases h42 : kd s = 42
  · rw [if_pos h42] at hne ⊢
    exact yM hT hK (fun U W s ns hS hne => BZ hT hK (A f (Nat.le_refl _)).pex hS hne) hS h42 hne
  rw [if_neg h42] at hne ⊢
  by_cases h17 : kd s = 17
  · rw [if_pos h17] at hne ⊢
    exact yN hT hK (D7 hT hK (A f (Nat.le_refl _)).expr) hS h17 hne
  rw [if_neg h17] at hne ⊢
  by_cases h20 : kd s = 20
  · rw [if_pos h20] at hne ⊢
    exact yO hT hK (yS hT hK (A f (Nat.le_refl _)).expr) hS h20 hne
  rw [if_neg h20] at hne ⊢
  by_cases h21 : kd s = 21
  · rw [if_pos h21] at hne ⊢
    exact yT hT hK (A f (Nat.le_refl _)).chanT hS h21 hne
  rw [if_neg h21] at hne ⊢
  by_cases h23 : kd s = 23
  · rw [if_pos h23] at hne ⊢
    exact yP hT hK (A f (Nat.le_refl _)).prog hS h23 hne
  rw [if_neg h23] at hne ⊢
  by_cases h2 : kd s = 2
  · rw [if_pos h2] at hne ⊢
    exact Cr hT hK hS h2
  rw [if_neg h2] at hne ⊢
  exact Cs hT hK hS ⟨h2, h26, h16, h40, h42, h17, h20, h21, h23⟩
theorem Ec (hT : RT w0 rb ae aa TL xs) (hK : aR TL) {f : Nat} (A : ∀ f', f' <= f -> qi w0 rb ae aa TL xs f') : RC w0 rb ae aa TL xs (pF (f + 1) .stmt) 69 #[] := by
  intro U W s ns hS hne
  show Calls Tryz.prog 69 #[.pointer (some ⟨rb, 0, none⟩)] W (aj w0 rb ae aa TL xs U W s ns (body (pF f) .stmt s))
  change body (pF f) .stmt s ≠ .out at hne
  simp only [body] at hne ⊢
  by_cases h28 : kd s = 28
  · rw [if_pos h28] at hne ⊢
    exact vg hT hK (vE hT hK (A f (Nat.le_refl _)).expr) hS h28 hne
  rw [if_neg h28] at hne ⊢
  by_cases h29 : kd s = 29
  · rw [if_pos h29] at hne ⊢
    exact vk hT hK (fun U W s ns hS hne => u7 hT hK (A f (Nat.le_refl _)).typ (A f (Nat.le_refl _)).expr hS hne) hS h29 hne
  rw [if_neg h29] at hne ⊢
  by_cases h18 : kd s = 18
  · rw [if_pos h18] at hne ⊢
    exact vo hT hK (A f (Nat.le_refl _)).branch hS h18 hne
  rw [if_neg h18] at hne ⊢
  by_cases h30 : kd s = 30
  · rw [if_pos h30] at hne ⊢
    exact vv hT hK (D6 hT hK (A f (Nat.le_refl _)).expr (A f (Nat.le_refl _)).block) hS h30 hne
  rw [if_neg h30] at hne ⊢
  by_cases h24 : kd s = 24
  · rw [if_pos h24] at hne ⊢
    exact vw hT hK (fun U W s ns hS hne => vG hT hK (A f (Nat.le_refl _)).expr hS hne) hS h24 hne
  rw [if_neg h24] at hne ⊢
  by_cases h11 : kd s = 11
  · rw [if_pos h11] at hne ⊢
    exact vz hT hK (Ct hT hK (A f (Nat.le_refl _)).expr) hS h11 hne
  rw [if_neg h11] at hne ⊢
  by_cases h25 : kd s = 25
  · rw [if_pos h25] at hne ⊢
    exact vB hT hK (yU hT hK (fun f' h => (A f' (Nat.le_of_lt h)).arm)) hS h25 hne
  rw [if_neg h25] at hne ⊢
  by_cases h44 : kd s = 44
  · rw [if_pos h44] at hne ⊢
    exact vC hT hK (A f (Nat.le_refl _)).block hS h44 hne
  rw [if_neg h44] at hne ⊢
  exact wW hT hK (yG hT hK (A f (Nat.le_refl _)).expr) hS ⟨h28, h29, h18, h30, h24, h11, h25, h44⟩ hne
theorem sZ (hT : RT w0 rb ae aa TL xs) (hK : aR TL) {f : Nat} (A : ∀ f', f' <= f -> qi w0 rb ae aa TL xs f') : RC w0 rb ae aa TL xs (fun s => if kd s = 18 then pF f .branch s else pF f .block s) 110 #[] := by
  intro U W s ns hS hne
  show Calls Tryz.prog 110 #[.pointer (some ⟨rb, 0, none⟩)] W (aj w0 rb ae aa TL xs U W s ns (if kd s = 18 then pF f .branch s else pF f .block s))
  by_cases h : kd s = 18
  · simp only [if_pos h] at hne ⊢
    exact vD hT hK (A f (Nat.le_refl _)).branch hS h hne
  · simp only [if_neg h] at hne ⊢
    exact wX hT hK (A f (Nat.le_refl _)).block hS h hne
theorem Cw (f : Nat) (s : List ai) : body (pF f) .branch s = (want 18 s fun s1 => aC (pF f (.operands 1) s1) fun a s2 => aC (pF f .block s2) fun b s3 => if kd s3 = 15 then want 15 s3 fun s4 => aC ((fun s => if kd s = 18 then pF f .branch s else pF f .block s) s4) fun c s5 => mk1 36 s 0 [] (a ++ (b ++ c)) s5 else mk1 36 s 0 [] (a ++ b) s3) := by
  simp only [body]
  congr 1; funext s1; congr 1; funext a s2; congr 1; funext b s3
  by_cases h : kd s3 = 15
  · rw [if_pos h, if_pos h]
    congr 1; funext s4
    by_cases h4 : kd s4 = 18
    · rw [if_pos h4, if_pos h4]
    · rw [if_neg h4, if_neg h4]
  · rw [if_neg h, if_neg h]
theorem yV (hT : RT w0 rb ae aa TL xs) (hK : aR TL) {f : Nat} (A : ∀ f', f' <= f -> qi w0 rb ae aa TL xs f') : RC w0 rb ae aa TL xs (pF (f + 1) .branch) 90 #[] := by
  intro U W s ns hS hne
  show Calls Tryz.prog 90 #[.pointer (some ⟨rb, 0, none⟩)] W (aj w0 rb ae aa TL xs U W s ns (body (pF f) .branch s))
  change body (pF f) .branch s ≠ .out at hne
  rw [Cw] at hne ⊢
  exact yE hT hK (A f (Nat.le_refl _)).expr (A f (Nat.le_refl _)).block (sZ hT hK A) hS hne
theorem Ed (hT : RT w0 rb ae aa TL xs) (hK : aR TL) {f : Nat} (A : ∀ f', f' <= f -> qi w0 rb ae aa TL xs f') : qi w0 rb ae aa TL xs (f + 1) := by
  have O : ∀ l : Int, 1 <= l -> RC w0 rb ae aa TL xs (pF (f + 1) (.operands l)) 125 #[.int .i64 l] := fun l hl => vF hT hK l hl (A f (Nat.le_refl _)).unary (fun f' h => (A f' (Nat.le_of_lt h)).opnd)
  have PT : LC 0 w0 rb ae aa TL xs (pF (f + 1) (.parted .typ)) 122 #[.func (.func 87) #[.pointer (some ⟨rb, 0, none⟩)] #[]] := fun U W s ns hS hne => yB hT hK (fun f' h => (A f' (Nat.le_of_lt_succ h)).typ) U W s ns hS hne
  have PE : LC 0 w0 rb ae aa TL xs (pF (f + 1) (.parted .expr)) 122 #[.func (.func 109) #[.pointer (some ⟨rb, 0, none⟩)] #[]] := fun U W s ns hS hne => wR hT hK (fun f' h => (A f' (Nat.le_of_lt_succ h)).expr) U W s ns hS hne
  have PA : LC 0 w0 rb ae aa TL xs (pF (f + 1) (.parted .param)) 122 #[.func (.func 152) #[.pointer (some ⟨rb, 0, none⟩)] #[]] := fun U W s ns hS hne => uX hT hK (fun f' h => (A f' (Nat.le_of_lt_succ h)).param) U W s ns hS hne
  exact ⟨Gb hT hK A, uZ hT hK (A f (Nat.le_refl _)).typ, DW (O 1 (by omega)), O, BV hT hK (A f (Nat.le_refl _)).unary (A f (Nat.le_refl _)).postf, w9 hT hK (A f (Nat.le_refl _)).primary (fun f' h => (A f' (Nat.le_of_lt h)).expr) (fun f' h => (A f' (Nat.le_of_lt h)).lex), xc hT hK A, Eb hT hK A, Cu hT hK (A f (Nat.le_refl _)).typ, BS hT hK (fun f' h => (A f' (Nat.le_of_lt h)).stmt), Ec hT hK A, yV hT hK A, Ga hT hK (A f (Nat.le_refl _)).unary (A f (Nat.le_refl _)).expr (A f (Nat.le_refl _)).block, sW hT hK (A f (Nat.le_refl _)).typ, PT, PE, PA, yC hT hK (fun f' h => (A f' (Nat.le_of_lt_succ h)).pty), wS hT hK (fun f' h => (A f' (Nat.le_of_lt_succ h)).pex), uY hT hK (fun f' h => (A f' (Nat.le_of_lt_succ h)).ppa)⟩
theorem uh (hT : RT w0 rb ae aa TL xs) (hK : aR TL) : ∀ f, qi w0 rb ae aa TL xs f := by
  have key : ∀ f, ∀ f', f' <= f -> qi w0 rb ae aa TL xs f' := by
    intro f
    induction f with
    | zero => intro f' h; obtain rfl : f' = 0 := by omega
              exact Ea
    | succ f ih =>
      intro f' h
      rcases Nat.lt_or_ge f' (f + 1) with h1 | h1
      · exact ih f' (by omega)
      · obtain rfl : f' = f + 1 := by omega
        exact Ed hT hK ih
  exact fun f => key f f (Nat.le_refl _)
end Go.Proofs.YtecodpdfckjalaaGreatDoor
