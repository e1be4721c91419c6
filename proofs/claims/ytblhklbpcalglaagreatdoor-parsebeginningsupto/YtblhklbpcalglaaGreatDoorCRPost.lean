import Derived.Test.YtblhklbpcalglaaGreatDoorCRKid
import Derived.Test.YtblhklbpcalglaaGreatDoorCRName2
import Derived.Test.YtblhklbpcalglaaGreatDoorCRPri2
namespace Go.Proofs.YtblhklbpcalglaaGreatDoor
open Go.RowKit
set_option linter.unusedVariables false
set_option linter.unusedSimpArgs false
variable {w0 : World} {rb : Nat} {srcV tokV : Value} {TL : List Tok} {xs : List UInt8} {U : Nat → Prop}
structure LoopP (w0 : World) (rb : Nat) (srcV tokV : Value) (TL : List Tok) (xs : List UInt8) (U : Nat → Prop) (W : World) (s : List PTok) (ns : List Nd) (f : Nat) (R : Res) (wr : World) (f' : Nat) (kid : List Tr) (cur : List PTok) (v : Nat) : Prop where
  eq : R = pF f' (.post kid) cur
  le : f' ≤ f
  one : kid.length = 1
  val : v = ns.length + sizes kid - 1
  st : RSs w0 rb srcV tokV TL xs U wr cur (ns ++ flats kid ns.length)
  keep : KeepR rb W wr
  sz : cur.length + sizes kid ≤ s.length
set_option maxRecDepth 100000 in
set_option maxHeartbeats 8000000 in
theorem postfix_any (hT : RT w0 rb srcV tokV TL xs) (hK : Kinds TL) {f : Nat} (HU : RC w0 rb srcV tokV TL xs (pF f .primary) 82 #[]) (HE : ∀ f', f' < f → RC w0 rb srcV tokV TL xs (pF f' (.operands 1)) 56 #[])
    (HC : ∀ g, g < f → ∀ U W cur ns kid, kid.length = 1 → RSs w0 rb srcV tokV TL xs U W cur (ns ++ flats kid ns.length) → ∀ v : Nat, v = ns.length + sizes kid - 1 → (andT (pF g (.listed .expr) cur) fun b s1 => .ok [.mk 23 (hd cur).place 0 [] (kid ++ b)] s1) ≠ .out → Calls Tryz.prog 83 #[.pointer (some ⟨rb, 0, none⟩), .int .i64 (v : Int)] W (PostK w0 rb srcV tokV TL xs U W cur ns kid (andT (pF g (.listed .expr) cur) fun b s1 => .ok [.mk 23 (hd cur).place 0 [] (kid ++ b)] s1))) :
    RC w0 rb srcV tokV TL xs (pF (f + 1) .postfix) 76 #[] := by
  intro U W s ns hS hne
  show Calls Tryz.prog 76 #[.pointer (some ⟨rb, 0, none⟩)] W _
  generalize hR : pF (f + 1) .postfix s = R at hne ⊢
  have hR' : andT (pF f .primary s) (fun a s1 => pF f (.post a) s1) = R := hR
  clear hR
  have B1 : Bx (∀ W1, RSs w0 rb srcV tokV TL xs U W1 s ns → pF f .primary s ≠ .out → Calls Tryz.prog 82 #[.pointer (some ⟨rb, 0, none⟩)] W1 (Post1 w0 rb srcV tokV TL xs U W1 s ns (pF f .primary s))) := ⟨fun W1 h hn => HU U W1 s ns h hn⟩
  match r1 : pF f .primary s with
  | .out => rw [r1] at hR'; exact absurd hR'.symm hne
  | .err s' =>
    rw [r1] at B1 hR'
    have eR : Bx (R = .err s') := ⟨hR'.symm⟩
    clear HU HE HC hR'
    go_enter Tryz.func76, Tryz.ntmps76
    go_wp2_with (first
      | (go_at_call 82; refine Calls.mono (B1.out _ hS (by simp)) ?_; rintro e W1 ⟨rfl, b1⟩; unfold faultP))
    exact ⟨rfl, by rw [eR.out]; exact ⟨rfl, b1⟩⟩
  | .ok ts s1 =>
    rw [r1] at B1 hR'
    have HNE : Bx (R ≠ .out) := ⟨hne⟩
    have H0 : Bx (∀ W1 (v : Nat), v = ns.length + sizes ts - 1 → ts.length = 1 → s1.length + sizes ts ≤ s.length → RSs w0 rb srcV tokV TL xs U W1 s1 (ns ++ flats ts ns.length) → KeepR rb W W1 → LoopP w0 rb srcV tokV TL xs U W s ns f R W1 f ts s1 v) := ⟨fun W1 v hv n l q k => ⟨hR'.symm, Nat.le_refl _, n, hv, q, k, l⟩⟩
    clear HU hR' hne
    go_enter Tryz.func76, Tryz.ntmps76
    go_wp2_with (first
      | (go_at_call 82; refine Calls.mono (B1.out _ hS (by simp)) ?_; rintro e W1 ⟨n1, l1, he, q1, k1⟩; obtain ⟨v1, hv⟩ : ∃ r : Nat, r = (ns.length + sizes ts - 1) := ⟨_, rfl⟩; rw [← hv] at he; subst he; have L0 := H0.out W1 v1 hv n1 l1 q1 k1; have LB : Bx _ := ⟨L0⟩; clear hv B1 L0 H0 q1 k1))
    go_loopw [3] (fun lv wr => ∃ f' : Nat, ∃ kid : List Tr, ∃ cur : List PTok, ∃ v : Nat, lv = .int .i64 v ∧ Bx (LoopP w0 rb srcV tokV TL xs U W s ns f R wr f' kid cur v)) (fun lv _ => s.length + ns.length - (match lv with | .int _ x => x.toNat | _ => 0))
    case atStart => exact ⟨f, ts, s1, v1, rfl, LB⟩
    case round =>
      obtain ⟨f', kid, cur, v, rfl, HL⟩ := hrel
      match f', HL with
      | 0, HL => exact absurd HL.out.eq HNE.out
      | g + 1, HL =>
        have st : Bx _ := ⟨HL.out.st⟩
        have hgf : g < f := by have := HL.out.le; omega
        have B5 : Bx (∀ W1, RSs w0 rb srcV tokV TL xs U W1 cur (ns ++ flats kid ns.length) → _) := ⟨fun W1 h => textS hT h⟩
        have e1 : R = body (pF g) (.post kid) cur := HL.out.eq
        simp only [body] at e1
        by_cases c0 : kd cur = 40
        · rw [if_pos c0] at e1
          have d40 : ((⟨(textK (kd cur : Nat)).toArray⟩ : ByteArray).toList == [40]) = true := by rw [text_eq hK st.out 40 (by decide) _ (by decide)]; exact decide_eq_true c0
          have eX : R = andT (andT (pF g (.listed .expr) cur) fun b s1 => .ok [.mk 23 (hd cur).place 0 [] (kid ++ b)] s1) (fun ts s2 => pF g (.post ts) s2) := by
            rw [e1]
            cases pF g (.listed .expr) cur <;> rfl
          have B6 : Bx (∀ W1, RSs w0 rb srcV tokV TL xs U W1 cur (ns ++ flats kid ns.length) → (andT (pF g (.listed .expr) cur) fun b s1 => .ok [.mk 23 (hd cur).place 0 [] (kid ++ b)] s1) ≠ .out → Calls Tryz.prog 83 #[.pointer (some ⟨rb, 0, none⟩), .int .i64 (v : Int)] W1 (PostK w0 rb srcV tokV TL xs U W1 cur ns kid (andT (pF g (.listed .expr) cur) fun b s1 => .ok [.mk 23 (hd cur).place 0 [] (kid ++ b)] s1))) := ⟨fun W1 h hn => HC g hgf U W1 cur ns kid HL.out.one h v HL.out.val hn⟩
          have HN : Bx (∀ ts s2 W1 W2, R = pF g (.post ts) s2 → KeepR rb wr W1 → ts.length = 1 → s2.length + sizes ts ≤ cur.length + sizes kid → RSs w0 rb srcV tokV TL xs U W2 s2 (ns ++ flats ts ns.length) → KeepR rb W1 W2 → ∀ r : Nat, r = ns.length + sizes ts - 1 → LoopP w0 rb srcV tokV TL xs U W s ns f R W2 g ts s2 r) := ⟨fun ts s2 W1 W2 e k n l q k2 r hr => ⟨e, by have := HL.out.le; omega, n, hr, q, HL.out.keep.trans (k.trans k2), by have := HL.out.sz; omega⟩⟩
          have HG : Bx (∀ ts s2, (andT (pF g (.listed .expr) cur) fun b s1 => .ok [.mk 23 (hd cur).place 0 [] (kid ++ b)] s1) = .ok ts s2 → sizes kid < sizes ts) := ⟨fun ts s2 e => by
            cases r : pF g (.listed .expr) cur with | out => rw [r] at e; cases e | err _ => rw [r] at e; cases e | ok b s1 => rw [r] at e; simp only [andT, Res.ok.injEq] at e; rw [← e.1]; simp [sizes, Tr.size, sizes_append]; omega⟩
          have HV : Bx (v = ns.length + sizes kid - 1 ∧ 1 ≤ sizes kid) := ⟨HL.out.val, by have := sizes_ge kid; have := HL.out.one; omega⟩
          generalize (andT (pF g (.listed .expr) cur) fun b s1 => .ok [.mk 23 (hd cur).place 0 [] (kid ++ b)] s1) = SX at *
          generalize (⟨(textK (kd cur : Nat)).toArray⟩ : ByteArray) = tx at *
          clear HL HE HC e1
          match SX, B6, eX, HG with
          | .out, B6, eX, HG => exact absurd eX HNE.out
          | .err s', B6, eX, HG =>
            have eR : Bx (R = .err s') := ⟨eX⟩
            go_wp2_with (first
              | (go_at_call 23; refine Calls.mono (B5.out _ st.out) ?_; rintro e W5 ⟨rfl, b5⟩; have q5 := st.out.ext b5; have k5 := KeepR.ext st.out.lt b5; clear B5)
              | (go_at_call 83; refine Calls.mono (B6.out _ q5 (by simp)) ?_; rintro e W6 ⟨rfl, b6⟩; unfold faultP))
            exact ⟨rfl, by rw [eR.out]; exact ⟨rfl, b6⟩⟩
          | .ok ts2 s2, B6, eX, HG =>
            have EX : Bx (R = pF g (.post ts2) s2) := ⟨eX⟩
            clear eX
            go_wp2_with (first
              | (go_at_call 23; refine Calls.mono (B5.out _ st.out) ?_; rintro e W5 ⟨rfl, b5⟩; have q5 := st.out.ext b5; have k5 := KeepR.ext st.out.lt b5; clear B5)
              | (go_at_call 83; refine Calls.mono (B6.out _ q5 (by simp)) ?_; rintro e W6 ⟨n6, l6, he, q6, k6⟩; obtain ⟨v6, hv⟩ : ∃ r : Nat, r = (ns.length + sizes ts2 - 1) := ⟨_, rfl⟩; rw [← hv] at he; subst he; have LN := HN.out ts2 s2 _ _ EX.out k5 n6 l6 q6 k6 v6 hv; have LNB : Bx _ := ⟨LN⟩; clear hv LN))
            go_roundw
            case rel => exact ⟨g, ts2, s2, v6, rfl, LNB⟩
            case measure => have h1 := HG.out ts2 s2 rfl; have h2 := HV.out; have h3 := LNB.out.val; have h4 := LNB.out.sz; simp; omega
        rw [if_neg c0] at e1
        by_cases c1 : kd cur = 42
        · rw [if_pos c1] at e1
          have d40 : ((⟨(textK (kd cur : Nat)).toArray⟩ : ByteArray).toList == [40]) = false := by rw [text_eq hK st.out 40 (by decide) _ (by decide)]; exact decide_eq_false c0
          have d42 : ((⟨(textK (kd cur : Nat)).toArray⟩ : ByteArray).toList == [91]) = true := by rw [text_eq hK st.out 42 (by decide) _ (by decide)]; exact decide_eq_true c1
          have eX : R = andT (want 42 cur fun s1 => andT (pF g (.operands 1) s1) fun b s2 => want 43 s2 fun s3 => .ok [.mk 24 (hd cur).place 0 [] (kid ++ b)] s3) (fun ts s2 => pF g (.post ts) s2) := by
            rw [e1]
            rw [want_pos c1, want_pos c1]; cases pF g (.operands 1) (tl cur) with | out => rfl | err _ => rfl | ok b s2 => simp only [andT]; unfold want; split <;> rfl
          have B6 : Bx (∀ W1, RSs w0 rb srcV tokV TL xs U W1 cur (ns ++ flats kid ns.length) → (want 42 cur fun s1 => andT (pF g (.operands 1) s1) fun b s2 => want 43 s2 fun s3 => .ok [.mk 24 (hd cur).place 0 [] (kid ++ b)] s3) ≠ .out → Calls Tryz.prog 84 #[.pointer (some ⟨rb, 0, none⟩), .int .i64 (v : Int)] W1 (PostK w0 rb srcV tokV TL xs U W1 cur ns kid (want 42 cur fun s1 => andT (pF g (.operands 1) s1) fun b s2 => want 43 s2 fun s3 => .ok [.mk 24 (hd cur).place 0 [] (kid ++ b)] s3))) := ⟨fun W1 h hn => index_any hT hK (HE g hgf) HL.out.one h v HL.out.val hn⟩
          have HN : Bx (∀ ts s2 W1 W2, R = pF g (.post ts) s2 → KeepR rb wr W1 → ts.length = 1 → s2.length + sizes ts ≤ cur.length + sizes kid → RSs w0 rb srcV tokV TL xs U W2 s2 (ns ++ flats ts ns.length) → KeepR rb W1 W2 → ∀ r : Nat, r = ns.length + sizes ts - 1 → LoopP w0 rb srcV tokV TL xs U W s ns f R W2 g ts s2 r) := ⟨fun ts s2 W1 W2 e k n l q k2 r hr => ⟨e, by have := HL.out.le; omega, n, hr, q, HL.out.keep.trans (k.trans k2), by have := HL.out.sz; omega⟩⟩
          have HG : Bx (∀ ts s2, (want 42 cur fun s1 => andT (pF g (.operands 1) s1) fun b s2 => want 43 s2 fun s3 => .ok [.mk 24 (hd cur).place 0 [] (kid ++ b)] s3) = .ok ts s2 → sizes kid < sizes ts) := ⟨fun ts s2 e => by
            rw [want_pos c1] at e; cases r : pF g (.operands 1) (tl cur) with | out => rw [r] at e; cases e | err _ => rw [r] at e; cases e | ok b s1 => rw [r] at e; simp only [andT] at e; unfold want at e; (split at e <;> first | (simp only [Res.ok.injEq] at e; rw [← e.1]; simp [sizes, Tr.size, sizes_append]; omega) | (cases e; done))⟩
          have HV : Bx (v = ns.length + sizes kid - 1 ∧ 1 ≤ sizes kid) := ⟨HL.out.val, by have := sizes_ge kid; have := HL.out.one; omega⟩
          generalize (want 42 cur fun s1 => andT (pF g (.operands 1) s1) fun b s2 => want 43 s2 fun s3 => .ok [.mk 24 (hd cur).place 0 [] (kid ++ b)] s3) = SX at *
          generalize (⟨(textK (kd cur : Nat)).toArray⟩ : ByteArray) = tx at *
          clear HL HE HC e1
          match SX, B6, eX, HG with
          | .out, B6, eX, HG => exact absurd eX HNE.out
          | .err s', B6, eX, HG =>
            have eR : Bx (R = .err s') := ⟨eX⟩
            go_wp2_with (first
              | (go_at_call 23; refine Calls.mono (B5.out _ st.out) ?_; rintro e W5 ⟨rfl, b5⟩; have q5 := st.out.ext b5; have k5 := KeepR.ext st.out.lt b5; clear B5)
              | (go_at_call 84; refine Calls.mono (B6.out _ q5 (by simp)) ?_; rintro e W6 ⟨rfl, b6⟩; unfold faultP))
            exact ⟨rfl, by rw [eR.out]; exact ⟨rfl, b6⟩⟩
          | .ok ts2 s2, B6, eX, HG =>
            have EX : Bx (R = pF g (.post ts2) s2) := ⟨eX⟩
            clear eX
            go_wp2_with (first
              | (go_at_call 23; refine Calls.mono (B5.out _ st.out) ?_; rintro e W5 ⟨rfl, b5⟩; have q5 := st.out.ext b5; have k5 := KeepR.ext st.out.lt b5; clear B5)
              | (go_at_call 84; refine Calls.mono (B6.out _ q5 (by simp)) ?_; rintro e W6 ⟨n6, l6, he, q6, k6⟩; obtain ⟨v6, hv⟩ : ∃ r : Nat, r = (ns.length + sizes ts2 - 1) := ⟨_, rfl⟩; rw [← hv] at he; subst he; have LN := HN.out ts2 s2 _ _ EX.out k5 n6 l6 q6 k6 v6 hv; have LNB : Bx _ := ⟨LN⟩; clear hv LN))
            go_roundw
            case rel => exact ⟨g, ts2, s2, v6, rfl, LNB⟩
            case measure => have h1 := HG.out ts2 s2 rfl; have h2 := HV.out; have h3 := LNB.out.val; have h4 := LNB.out.sz; simp; omega
        rw [if_neg c1] at e1
        by_cases c2 : kd cur = 49
        · rw [if_pos c2] at e1
          have d40 : ((⟨(textK (kd cur : Nat)).toArray⟩ : ByteArray).toList == [40]) = false := by rw [text_eq hK st.out 40 (by decide) _ (by decide)]; exact decide_eq_false c0
          have d42 : ((⟨(textK (kd cur : Nat)).toArray⟩ : ByteArray).toList == [91]) = false := by rw [text_eq hK st.out 42 (by decide) _ (by decide)]; exact decide_eq_false c1
          have d49 : ((⟨(textK (kd cur : Nat)).toArray⟩ : ByteArray).toList == [46]) = true := by rw [text_eq hK st.out 49 (by decide) _ (by decide)]; exact decide_eq_true c2
          have eX : R = andT (want 49 cur fun s1 => numK s1 fun n s2 => .ok [.mk 25 (hd cur).place n [] kid] s2) (fun ts s2 => pF g (.post ts) s2) := by
            rw [e1]
            rw [want_pos c2, want_pos c2]; unfold numK; split <;> rfl
          have B6 : Bx (∀ W1, RSs w0 rb srcV tokV TL xs U W1 cur (ns ++ flats kid ns.length) → (want 49 cur fun s1 => numK s1 fun n s2 => .ok [.mk 25 (hd cur).place n [] kid] s2) ≠ .out → Calls Tryz.prog 85 #[.pointer (some ⟨rb, 0, none⟩), .int .i64 (v : Int)] W1 (PostK w0 rb srcV tokV TL xs U W1 cur ns kid (want 49 cur fun s1 => numK s1 fun n s2 => .ok [.mk 25 (hd cur).place n [] kid] s2))) := ⟨fun W1 h hn => field_any hT hK HL.out.one h v HL.out.val⟩
          have HN : Bx (∀ ts s2 W1 W2, R = pF g (.post ts) s2 → KeepR rb wr W1 → ts.length = 1 → s2.length + sizes ts ≤ cur.length + sizes kid → RSs w0 rb srcV tokV TL xs U W2 s2 (ns ++ flats ts ns.length) → KeepR rb W1 W2 → ∀ r : Nat, r = ns.length + sizes ts - 1 → LoopP w0 rb srcV tokV TL xs U W s ns f R W2 g ts s2 r) := ⟨fun ts s2 W1 W2 e k n l q k2 r hr => ⟨e, by have := HL.out.le; omega, n, hr, q, HL.out.keep.trans (k.trans k2), by have := HL.out.sz; omega⟩⟩
          have HG : Bx (∀ ts s2, (want 49 cur fun s1 => numK s1 fun n s2 => .ok [.mk 25 (hd cur).place n [] kid] s2) = .ok ts s2 → sizes kid < sizes ts) := ⟨fun ts s2 e => by
            rw [want_pos c2] at e; unfold numK at e; (split at e <;> first | (simp only [Res.ok.injEq] at e; rw [← e.1]; simp [sizes, Tr.size]; done) | (cases e; done))⟩
          have HV : Bx (v = ns.length + sizes kid - 1 ∧ 1 ≤ sizes kid) := ⟨HL.out.val, by have := sizes_ge kid; have := HL.out.one; omega⟩
          generalize (want 49 cur fun s1 => numK s1 fun n s2 => .ok [.mk 25 (hd cur).place n [] kid] s2) = SX at *
          generalize (⟨(textK (kd cur : Nat)).toArray⟩ : ByteArray) = tx at *
          clear HL HE HC e1
          match SX, B6, eX, HG with
          | .out, B6, eX, HG => exact absurd eX HNE.out
          | .err s', B6, eX, HG =>
            have eR : Bx (R = .err s') := ⟨eX⟩
            go_wp2_with (first
              | (go_at_call 23; refine Calls.mono (B5.out _ st.out) ?_; rintro e W5 ⟨rfl, b5⟩; have q5 := st.out.ext b5; have k5 := KeepR.ext st.out.lt b5; clear B5)
              | (go_at_call 85; refine Calls.mono (B6.out _ q5 (by simp)) ?_; rintro e W6 ⟨rfl, b6⟩; unfold faultP))
            exact ⟨rfl, by rw [eR.out]; exact ⟨rfl, b6⟩⟩
          | .ok ts2 s2, B6, eX, HG =>
            have EX : Bx (R = pF g (.post ts2) s2) := ⟨eX⟩
            clear eX
            go_wp2_with (first
              | (go_at_call 23; refine Calls.mono (B5.out _ st.out) ?_; rintro e W5 ⟨rfl, b5⟩; have q5 := st.out.ext b5; have k5 := KeepR.ext st.out.lt b5; clear B5)
              | (go_at_call 85; refine Calls.mono (B6.out _ q5 (by simp)) ?_; rintro e W6 ⟨n6, l6, he, q6, k6⟩; obtain ⟨v6, hv⟩ : ∃ r : Nat, r = (ns.length + sizes ts2 - 1) := ⟨_, rfl⟩; rw [← hv] at he; subst he; have LN := HN.out ts2 s2 _ _ EX.out k5 n6 l6 q6 k6 v6 hv; have LNB : Bx _ := ⟨LN⟩; clear hv LN))
            go_roundw
            case rel => exact ⟨g, ts2, s2, v6, rfl, LNB⟩
            case measure => have h1 := HG.out ts2 s2 rfl; have h2 := HV.out; have h3 := LNB.out.val; have h4 := LNB.out.sz; simp; omega
        rw [if_neg c2] at e1
        have d40 : ((⟨(textK (kd cur : Nat)).toArray⟩ : ByteArray).toList == [40]) = false := by rw [text_eq hK st.out 40 (by decide) _ (by decide)]; exact decide_eq_false c0
        have d42 : ((⟨(textK (kd cur : Nat)).toArray⟩ : ByteArray).toList == [91]) = false := by rw [text_eq hK st.out 42 (by decide) _ (by decide)]; exact decide_eq_false c1
        have d49 : ((⟨(textK (kd cur : Nat)).toArray⟩ : ByteArray).toList == [46]) = false := by rw [text_eq hK st.out 49 (by decide) _ (by decide)]; exact decide_eq_false c2
        have HF : Bx (∀ W1, KeepR rb wr W1 → RSs w0 rb srcV tokV TL xs U W1 cur (ns ++ flats kid ns.length) → Post1 w0 rb srcV tokV TL xs U W s ns R (.returned (.int .i64 (v : Int))) W1) := ⟨fun W1 k q => by
          rw [e1]
          exact ⟨HL.out.one, HL.out.sz, by rw [HL.out.val], q, HL.out.keep.trans k⟩⟩
        generalize (⟨(textK (kd cur : Nat)).toArray⟩ : ByteArray) = tx at *
        clear HL HE HC e1
        go_wp2_with (first
          | (go_at_call 23; refine Calls.mono (B5.out _ st.out) ?_; rintro e W5 ⟨rfl, b5⟩; have q5 := st.out.ext b5; have k5 := KeepR.ext st.out.lt b5; clear B5))
        go_ret
        exact HF.out _ k5 q5
end Go.Proofs.YtblhklbpcalglaaGreatDoor
namespace Go.Proofs.YtblhklbpcalglaaGreatDoor
open Go.RowKit
set_option linter.unusedVariables false
set_option linter.unusedSimpArgs false
variable {w0 : World} {rb : Nat} {srcV tokV : Value} {TL : List Tok} {xs : List UInt8} {U : Nat → Prop}
set_option maxRecDepth 100000 in
set_option maxHeartbeats 4000000 in
theorem call_any (hT : RT w0 rb srcV tokV TL xs) (hK : Kinds TL) {g : Nat} (HL : LC 1 w0 rb srcV tokV TL xs (pF g (.listed .expr)) 65 #[.func (.func 56) #[.pointer (some ⟨rb, 0, none⟩)] #[]]) (U : Nat → Prop) (W : World) (s : List PTok) (ns : List Nd) (kid : List Tr) (hk1 : kid.length = 1) (hS : RSs w0 rb srcV tokV TL xs U W s (ns ++ flats kid ns.length)) (v : Nat) (hv : v = ns.length + sizes kid - 1) (hne : (andT (pF g (.listed .expr) s) fun b s1 => .ok [.mk 23 (hd s).place 0 [] (kid ++ b)] s1) ≠ .out) :
    Calls Tryz.prog 83 #[.pointer (some ⟨rb, 0, none⟩), .int .i64 (v : Int)] W (PostK w0 rb srcV tokV TL xs U W s ns kid (andT (pF g (.listed .expr) s) fun b s1 => .ok [.mk 23 (hd s).place 0 [] (kid ++ b)] s1)) := by
  have hrW := hS.lt
  have hf1 := tok_f1
  have B1 : Bx _ := ⟨nextS hT hS⟩
  have HQ1 : Bx (∀ W1, RSs w0 rb srcV tokV TL xs U W1 s (ns ++ flats kid ns.length) → RSs w0 rb srcV tokV TL xs (Uv U (.slice (some ⟨W1.heap.size + 1, 0, none⟩) 1 1)) ((W1.alloc (boxO 23 (hd s).place ⟨#[]⟩ 0)).alloc (.cells #[.int .i64 (v : Int)] 3)) s (ns ++ flats kid ns.length)) := ⟨fun W1 h => by
    have := (h.ext (below1 W1 (boxO 23 (hd s).place ⟨#[]⟩ 0))).row1 (.cells #[.int .i64 (v : Int)] 3)
    have e : (W1.alloc (boxO 23 (hd s).place ⟨#[]⟩ 0)).heap.size = W1.heap.size + 1 := by simp
    rw [e] at this
    exact this⟩
  have B3 : Bx (∀ U' W1, RSs w0 rb srcV tokV TL xs U' W1 s (ns ++ flats kid ns.length) → pF g (.listed .expr) s ≠ .out → Calls Tryz.prog 65 #[.pointer (some ⟨rb, 0, none⟩), .func (.func 56) #[.pointer (some ⟨rb, 0, none⟩)] #[]] W1 (PostL 1 w0 rb srcV tokV TL xs U' W1 s (ns ++ flats kid ns.length) (pF g (.listed .expr) s))) := ⟨fun U' W1 h hn => HL U' W1 s (ns ++ flats kid ns.length) h hn⟩
  match r3 : pF g (.listed .expr) s with
  | .out => rw [r3] at hne; exact absurd rfl hne
  | .err s' =>
    rw [r3] at B3
    show Calls _ _ _ _ (PostK w0 rb srcV tokV TL xs U W s ns kid (.err s'))
    clear hne HL hv hk1
    go_enter Tryz.func83, Tryz.ntmps83
    go_wp2_with (first
      | (go_at_call 33; refine Calls.mono B1.out ?_; rintro e W1 ⟨t1, rfl, b1⟩; have q1 := hS.ext b1; have k1 := KeepR.ext hrW b1; have q2 := HQ1.out _ q1; have Q2 : Bx _ := ⟨q2⟩; clear B1 q2)
      | (go_at_call 65; refine Calls.mono (B3.out _ _ Q2.out (by simp)) ?_; rintro e W3 ⟨rfl, b3⟩; unfold faultP))
    exact ⟨rfl, rfl, b3⟩
  | .ok ts s' =>
    rw [r3] at B3
    simp only [andT]
    have hsl : s.length ≤ 65537 := by
      obtain ⟨i, rfl, hi, _⟩ := hS
      have := hT.small
      unfold pts
      simp
      omega
    have hge := sizes_ge ts
    have HD : Bx (∀ W4 gb m c, RSs w0 rb srcV tokV TL xs U W4 s' (ns ++ flats (kid ++ ts) ns.length) → KeepR rb W W4 → m = 1 + ts.length → IntsO W4 rb (.slice (some ⟨gb, 0, none⟩) m c) (ends (kid ++ ts) ns.length) → (∀ x, (some ⟨gb, 0, none⟩ : Option Addr) = some ⟨x, 0, none⟩ → ¬ U x) → s'.length + sizes ts + 1 ≤ s.length → ∀ kv, Calls Tryz.prog 27 #[.pointer (some ⟨rb, 0, none⟩), .agg #[.int .i64 23, .int .i64 (hd s).place, kv, .string ⟨#[]⟩, .int .i64 0], .slice (some ⟨gb, 0, none⟩) m c] W4 fun e W' => ∃ r : Int, e = .returned (.int .i64 r) ∧ PostK w0 rb srcV tokV TL xs U W s ns kid (.ok [.mk 23 (hd s).place 0 [] (kid ++ ts)] s') (.returned (.int .i64 r)) W') := ⟨fun W4 gb m c q k hm r n l kv => addK hT kid ts q k l ⟨W, hS⟩ 23 (hd s).place 0 [] kv (some ⟨gb, 0, none⟩) m c (by simp [hk1, hm]) r n⟩
    have HQ2 : Bx (∀ W1 W3 a c, RSs w0 rb srcV tokV TL xs U W1 s (ns ++ flats kid ns.length) → KeepR rb W W1 → s'.length + sizes ts + 1 ≤ s.length → RSs w0 rb srcV tokV TL xs (Uv (Uv U (.slice (some ⟨W1.heap.size + 1, 0, none⟩) 1 1)) (.slice a ts.length c)) W3 s' ((ns ++ flats kid ns.length) ++ flats ts (ns ++ flats kid ns.length).length) → IntsO W3 rb (.slice a ts.length c) (ends ts (ns ++ flats kid ns.length).length) → KeepR rb ((W1.alloc (boxO 23 (hd s).place ⟨#[]⟩ 0)).alloc (.cells #[.int .i64 (v : Int)] 3)) W3 → ∃ m gb cp W4, m = 1 + ts.length ∧ (∀ ty, (Builtin.append_ #[36, 36] ty #[(.slice (some ⟨W1.heap.size + 1, 0, none⟩) 1 1), .slice a ts.length c]).run Tryz.prog W3 = .ok (.slice (some ⟨gb, 0, none⟩) m cp) W4) ∧ W4.heap[W1.heap.size]? = some (boxO 23 (hd s).place ⟨#[]⟩ 0) ∧ RSs w0 rb srcV tokV TL xs U W4 s' (ns ++ flats (kid ++ ts) ns.length) ∧ KeepR rb W W4 ∧ IntsO W4 rb (.slice (some ⟨gb, 0, none⟩) m cp) (ends (kid ++ ts) ns.length) ∧ (∀ x, (some ⟨gb, 0, none⟩ : Option Addr) = some ⟨x, 0, none⟩ → ¬ U x)) := ⟨fun W1 W3 a c q1 k1 l3 q3 r3 k3 => by
      have hr1 := q1.lt
      have hz1 := k1.size
      have q2 := HQ1.out W1 q1
      have e : (W1.alloc (boxO 23 (hd s).place ⟨#[]⟩ 0)).heap.size = W1.heap.size + 1 := by simp
      have row2 := row_one (rb := rb) (W := W1.alloc (boxO 23 (hd s).place ⟨#[]⟩ 0)) (v := v) (by simp; omega)
      rw [e] at row2
      have row3 := q2.ints row2 k3
      obtain ⟨hb, hown, hrx⟩ := box_at (o := (boxO 23 (hd s).place ⟨#[]⟩ 0)) q1 (below1 _ (.cells #[.int .i64 (v : Int)] 3))
      obtain ⟨hb3, ho3⟩ := keep_own k3 hb hrx hown
      obtain ⟨gb, cp, W4, run, I4, gr, hat, hlt⟩ := app_rows W3 [(v : Int)] (ends ts (ns ++ flats kid ns.length).length) row3 rfl r3 (by rw [ends_len]) (by omega) q3.lt
      have hk3 : KeepR rb W W3 := k1.trans ((KeepR.alloc hr1 _).trans ((KeepR.alloc (by simp; omega) _).trans k3))
      obtain ⟨p1, p2⟩ := (q3.anyU (V := Uv U (.slice (some ⟨W1.heap.size + 1, 0, none⟩) 1 1)) (fun y hy => .inl hy)).grown0 row3 gr gb (1 + ts.length) cp hat hlt
      obtain ⟨p3, p4⟩ := p2 W hk3 (fun y hy => by simp [Value.ownBlock] at hy; omega)
      have en : ends (kid ++ ts) ns.length = [(v : Int)] ++ ends ts (ns ++ flats kid ns.length).length := by rw [ends_append, ends_one hk1, hv, two_len]
      refine ⟨_, gb, cp, W4, rfl, run, ?_, ?_, p3, ?_, ?_⟩
      · rw [gr.block _ (heapLt hb3) (by simp)]
        exact hb3
      · have := p1.anyU (V := U) (fun y hy => .inl hy)
        rw [two_lists] at this
        exact this
      · rw [en]
        exact I4
      · intro x hx hU
        simp only [Option.some.injEq, Addr.mk.injEq] at hx
        obtain ⟨_, _, _, _, _, hUb⟩ := hS
        have := hUb x hU
        omega⟩
    show Calls _ _ _ _ (PostK w0 rb srcV tokV TL xs U W s ns kid (.ok [.mk 23 (hd s).place 0 [] (kid ++ ts)] s'))
    clear hne HL hv hk1 hge
    go_enter Tryz.func83, Tryz.ntmps83
    go_wp2_with (first
      | (go_at_call 33; refine Calls.mono B1.out ?_; rintro e W1 ⟨t1, rfl, b1⟩; have q1 := hS.ext b1; have k1 := KeepR.ext hrW b1; have q2 := HQ1.out _ q1; have Q2 : Bx _ := ⟨q2⟩; clear B1 q2)
      | (go_at_call 65; refine Calls.mono (B3.out _ _ Q2.out (by simp)) ?_; rintro e W3 ⟨l3, a3, c3, rfl, q3, r3, k3, n3⟩; clear B3; obtain ⟨m, gb, cp, W4, hm, run, hb4, g1, g2, g3, g4⟩ := HQ2.out _ _ _ _ q1 k1 l3 q3 r3 k3; obtain ⟨y0, y1, y2, y3, y4, ylt⟩ := box5 hb4; have G1 : Bx _ := ⟨g1⟩; have G2 : Bx _ := ⟨g2⟩; have G3 : Bx _ := ⟨g3⟩; have G4 : Bx _ := ⟨g4⟩; have HM : Bx _ := ⟨hm⟩; clear g1 g2 g3 g4 q3 r3 n3 k3 hb4 hm Q2)
      | (at_builtin; refine wpList_app rfl (.tmp 12) (.tmp 16) 36 rfl rfl rfl run ?_; clear run)
      | (go_at_call 27; go_loud (refine Calls.mono (HD.out _ _ _ _ G1.out G2.out HM.out G3.out G4.out l3 _) ?_; rintro e W9 ⟨r9, rfl, hp⟩)))
    go_ret
    exact hp
theorem postfix_all (hT : RT w0 rb srcV tokV TL xs) (hK : Kinds TL) {f : Nat} (HU : RC w0 rb srcV tokV TL xs (pF f .primary) 82 #[]) (HE : ∀ f', f' < f → RC w0 rb srcV tokV TL xs (pF f' (.operands 1)) 56 #[]) (HL : ∀ f', f' < f → LC 1 w0 rb srcV tokV TL xs (pF f' (.listed .expr)) 65 #[.func (.func 56) #[.pointer (some ⟨rb, 0, none⟩)] #[]]) :
    RC w0 rb srcV tokV TL xs (pF (f + 1) .postfix) 76 #[] :=
  postfix_any hT hK HU HE fun g hg U W cur ns kid h1 h2 v hv hne => call_any hT hK (HL g hg) U W cur ns kid h1 h2 v hv hne
end Go.Proofs.YtblhklbpcalglaaGreatDoor
namespace Go.Proofs.YtblhklbpcalglaaGreatDoor
open Go.RowKit
set_option linter.unusedVariables false
set_option linter.unusedSimpArgs false
variable {w0 : World} {rb : Nat} {srcV tokV : Value} {TL : List Tok} {xs : List UInt8} {U : Nat → Prop}
set_option maxRecDepth 100000 in
set_option maxHeartbeats 4000000 in
theorem primary_21 (hT : RT w0 rb srcV tokV TL xs) (hK : Kinds TL) {f : Nat} (HC : RC w0 rb srcV tokV TL xs (pF f .chanT) 53 #[]) {W : World} {s : List PTok} {ns : List Nd} (hS : RSs w0 rb srcV tokV TL xs U W s ns) (hc : kd s = 21) (hne : (want 21 s fun s1 => andT (pF f .chanT s1) fun a s2 => mk1 19 s 0 [] a s2) ≠ .out) :
    Calls Tryz.prog 82 #[.pointer (some ⟨rb, 0, none⟩)] W (Post1 w0 rb srcV tokV TL xs U W s ns (want 21 s fun s1 => andT (pF f .chanT s1) fun a s2 => mk1 19 s 0 [] a s2)) := by
  rw [want_pos hc] at hne ⊢
  have hrW := hS.lt
  have d26 : ((⟨(textK (kd s : Nat)).toArray⟩ : ByteArray).toList == [116, 114, 117, 101]) = false := by rw [text_eq hK hS 26 (by decide) _ (by decide)]; exact decide_eq_false (by omega)
  have d16 : ((⟨(textK (kd s : Nat)).toArray⟩ : ByteArray).toList == [102, 97, 108, 115, 101]) = false := by rw [text_eq hK hS 16 (by decide) _ (by decide)]; exact decide_eq_false (by omega)
  have d40 : ((⟨(textK (kd s : Nat)).toArray⟩ : ByteArray).toList == [40]) = false := by rw [text_eq hK hS 40 (by decide) _ (by decide)]; exact decide_eq_false (by omega)
  have d42 : ((⟨(textK (kd s : Nat)).toArray⟩ : ByteArray).toList == [91]) = false := by rw [text_eq hK hS 42 (by decide) _ (by decide)]; exact decide_eq_false (by omega)
  have d17 : ((⟨(textK (kd s : Nat)).toArray⟩ : ByteArray).toList == [102, 105, 108, 108]) = false := by rw [text_eq hK hS 17 (by decide) _ (by decide)]; exact decide_eq_false (by omega)
  have d20 : ((⟨(textK (kd s : Nat)).toArray⟩ : ByteArray).toList == [108, 101, 110]) = false := by rw [text_eq hK hS 20 (by decide) _ (by decide)]; exact decide_eq_false (by omega)
  have d21 : ((⟨(textK (kd s : Nat)).toArray⟩ : ByteArray).toList == [109, 97, 107, 101]) = true := by rw [text_eq hK hS 21 (by decide) _ (by decide)]; exact decide_eq_true hc
  have B1 : Bx _ := ⟨nextS hT hS⟩
  have hf1 := tok_f1
  have hsl := tl_len hS
  have B2 : Bx (∀ W1, RSs w0 rb srcV tokV TL xs U W1 s ns → _) := ⟨fun W1 h => textS hT h⟩
  have HP : Bx (∀ W2, RSs w0 rb srcV tokV TL xs U W2 s ns → KeepR rb W W2 → ∃ i2 : Nat, RSs w0 rb srcV tokV TL xs U (W2.setCell ⟨rb, 2, none⟩ (.int .i64 ((i2 : Int) + 1))) (tl s) ns ∧ KeepR rb W (W2.setCell ⟨rb, 2, none⟩ (.int .i64 ((i2 : Int) + 1))) ∧ i2 ≤ 65537 ∧ rb < W2.heap.size ∧ W2.cell? ⟨rb, 2, none⟩ = some (.int .i64 i2) ∧ W2.frozen? ⟨rb, 2, none⟩ = false) := ⟨fun W2 q2 k2 => by
    obtain ⟨i2, hi2, hlt, c2, fz, p3⟩ := stepS hK hT q2
    obtain ⟨q4, _, k4⟩ := p3 (by omega)
    exact ⟨i2, q4, k2.trans k4, hi2, hlt, c2, fz⟩⟩
  have B3 : Bx (∀ W1, RSs w0 rb srcV tokV TL xs U W1 (tl s) ns → pF f .chanT (tl s) ≠ .out → Calls Tryz.prog 53 #[.pointer (some ⟨rb, 0, none⟩)] W1 (Post1 w0 rb srcV tokV TL xs U W1 (tl s) ns (pF f .chanT (tl s)))) := ⟨fun W1 h hn => HC U W1 (tl s) ns h hn⟩
  generalize (⟨(textK (kd s : Nat)).toArray⟩ : ByteArray) = tx at *
  match r3 : pF f .chanT (tl s) with
  | .out => rw [r3] at hne; exact absurd rfl hne
  | .err s' =>
    rw [r3] at B3
    show Calls _ _ _ _ (Post1 w0 rb srcV tokV TL xs U W s ns (.err s'))
    go_enter Tryz.func82, Tryz.ntmps82
    go_wp2_with (first
      | (go_at_call 33; refine Calls.mono B1.out ?_; rintro e W1 ⟨t1, rfl, b1⟩; have q1 := hS.ext b1; have k1 := KeepR.ext hrW b1; clear B1)
      | (go_at_call 23; refine Calls.mono (B2.out _ q1) ?_; rintro e W2 ⟨rfl, b2⟩; have q2 := q1.ext b2; have k2 := k1.trans (KeepR.ext q1.lt b2); obtain ⟨i2, q4, k4, hi2, hl2, e2, f2⟩ := HP.out W2 q2 k2; have Q4 : Bx _ := ⟨q4⟩; have K4 : Bx _ := ⟨k4⟩; clear B2 q4 k4 q2 k2)
      | (go_at_call 53; refine Calls.mono (B3.out _ Q4.out (by simp)) ?_; rintro e W3 ⟨rfl, b3⟩; unfold faultP))
    exact ⟨rfl, rfl, b3⟩
  | .ok ts3 s3 =>
    rw [r3] at B3 hne
    have HD : Bx (∀ W1, RSs w0 rb srcV tokV TL xs U W1 s3 (ns ++ flats ts3 ns.length) → KeepR rb W W1 → ∀ v3 : Nat, v3 = (ns.length + sizes ts3 - 1 : Nat) → ts3.length = 1 → s3.length + sizes ts3 + 1 ≤ s.length → ∀ kv, Calls Tryz.prog 27 #[.pointer (some ⟨rb, 0, none⟩), .agg #[.int .i64 19, .int .i64 (hd s).place, kv, .string ⟨([] : List UInt8).toArray⟩, .int .i64 0], .slice (some ⟨W1.heap.size, 0, none⟩) 1 1] (W1.alloc (.cells #[.int .i64 ((v3 : Nat) : Int)] 3)) fun e W' => ∃ r : Int, e = .returned (.int .i64 r) ∧ Post1 w0 rb srcV tokV TL xs U W s ns (.ok [.mk 19 (hd s).place 0 [] ts3] s3) (.returned (.int .i64 r)) W') := ⟨fun W1 h hk v3 g3 e3 hsz kv => by
      have hI := ints_new (rb := rb) (W := W1) (o := #[.int .i64 ((v3 : Nat) : Int)]) (ys := ends ts3 ns.length) (n := 1) (by rw [ends_one e3]; rfl) (by decide) (by decide) h.lt (by rw [ends_one e3, g3]; rfl)
      exact addS hT ts3 (h.ext (below1 _ _)) (hk.trans (KeepR.alloc h.lt _)) hsz ⟨W, hS⟩ 19 (hd s).place 0 [] kv (some ⟨W1.heap.size, 0, none⟩) 1 1 e3.symm hI h.new⟩
    show Calls _ _ _ _ (Post1 w0 rb srcV tokV TL xs U W s ns (.ok [.mk 19 (hd s).place 0 [] ts3] s3))
    go_enter Tryz.func82, Tryz.ntmps82
    go_wp2_with (first
      | (go_at_call 33; refine Calls.mono B1.out ?_; rintro e W1 ⟨t1, rfl, b1⟩; have q1 := hS.ext b1; have k1 := KeepR.ext hrW b1; clear B1)
      | (go_at_call 23; refine Calls.mono (B2.out _ q1) ?_; rintro e W2 ⟨rfl, b2⟩; have q2 := q1.ext b2; have k2 := k1.trans (KeepR.ext q1.lt b2); obtain ⟨i2, q4, k4, hi2, hl2, e2, f2⟩ := HP.out W2 q2 k2; have Q4 : Bx _ := ⟨q4⟩; have K4 : Bx _ := ⟨k4⟩; clear B2 q4 k4 q2 k2)
      | (go_at_call 53; refine Calls.mono (B3.out _ Q4.out (by simp)) ?_; rintro e W3 ⟨n3, l3, he, q3, k3⟩; obtain ⟨v3, hv⟩ : ∃ r : Nat, r = (ns.length + sizes ts3 - 1) := ⟨_, rfl⟩; rw [← hv] at he; subst he; have V3 : Bx _ := ⟨hv⟩; clear hv B3)
      | (go_at_call 27; refine Calls.mono (HD.out _ q3 (K4.out.trans k3) v3 V3.out n3 (by omega) _) ?_; rintro e W9 ⟨r9, rfl, hp⟩))
    go_ret
    exact hp
end Go.Proofs.YtblhklbpcalglaaGreatDoor
