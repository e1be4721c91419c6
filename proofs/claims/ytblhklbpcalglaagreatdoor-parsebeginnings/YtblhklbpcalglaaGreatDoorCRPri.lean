import Derived.Test.YtblhklbpcalglaaGreatDoorCRSim
namespace Go.Proofs.YtblhklbpcalglaaGreatDoor
open Go.RowKit
set_option linter.unusedVariables false
set_option linter.unusedSimpArgs false
variable {w0 : World} {rb : Nat} {srcV tokV : Value} {TL : List Tok} {xs : List UInt8} {U : Nat → Prop}
set_option maxRecDepth 100000 in
set_option maxHeartbeats 4000000 in
theorem primary_40 (hT : RT w0 rb srcV tokV TL xs) (hK : Kinds TL) {S : List PTok → Res} (HU : RC w0 rb srcV tokV TL xs S 87 #[]) {W : World} {s : List PTok} {ns : List Nd} (hS : RSs w0 rb srcV tokV TL xs U W s ns) (hc : kd s = 40) (hne : S s ≠ .out) :
    Calls Tryz.prog 82 #[.pointer (some ⟨rb, 0, none⟩)] W (Post1 w0 rb srcV tokV TL xs U W s ns (S s)) := by
  have hrW := hS.lt
  have d26 : ((⟨(textK (kd s : Nat)).toArray⟩ : ByteArray).toList == [116, 114, 117, 101]) = false := by rw [text_eq hK hS 26 (by decide) _ (by decide)]; exact decide_eq_false (by omega)
  have d16 : ((⟨(textK (kd s : Nat)).toArray⟩ : ByteArray).toList == [102, 97, 108, 115, 101]) = false := by rw [text_eq hK hS 16 (by decide) _ (by decide)]; exact decide_eq_false (by omega)
  have d40 : ((⟨(textK (kd s : Nat)).toArray⟩ : ByteArray).toList == [40]) = true := by rw [text_eq hK hS 40 (by decide) _ (by decide)]; exact decide_eq_true hc
  have B1 : Bx _ := ⟨nextS hT hS⟩
  have hf1 := tok_f1
  have B2 : Bx (∀ W1, RSs w0 rb srcV tokV TL xs U W1 s ns → _) := ⟨fun W1 h => textS hT h⟩
  have B3 : Bx (∀ W1, RSs w0 rb srcV tokV TL xs U W1 s ns → KeepR rb W W1 → Calls Tryz.prog 87 #[.pointer (some ⟨rb, 0, none⟩)] W1 (Post1 w0 rb srcV tokV TL xs U W s ns (S s))) := ⟨fun W1 h hk => Calls.mono (HU U W1 s ns h hne) (fun e W' hp => by
    revert hp
    cases S s with
    | out => exact fun hp => hp
    | err s' => exact fun hp => hp
    | ok ts s' => exact fun ⟨a, b, c, d, k⟩ => ⟨a, b, c, d, hk.trans k⟩)⟩
  generalize (⟨(textK (kd s : Nat)).toArray⟩ : ByteArray) = tx at *
  generalize S s = res at *
  clear HU hne
  match res, B3 with
  | .out, B3 =>
    go_enter Tryz.func82, Tryz.ntmps82
    go_wp2_with (first
      | (go_at_call 33; refine Calls.mono B1.out ?_; rintro e W1 ⟨t1, rfl, b1⟩; have q1 := hS.ext b1; have k1 := KeepR.ext hrW b1; clear B1)
      | (go_at_call 23; refine Calls.mono (B2.out _ q1) ?_; rintro e W2 ⟨rfl, b2⟩; have q2 := q1.ext b2; have k2 := k1.trans (KeepR.ext q1.lt b2); clear B2)
      | (go_at_call 87; refine Calls.mono (B3.out _ q2 k2) ?_; intro e W3 h; exact h.elim))
  | .err s', B3 =>
    go_enter Tryz.func82, Tryz.ntmps82
    go_wp2_with (first
      | (go_at_call 33; refine Calls.mono B1.out ?_; rintro e W1 ⟨t1, rfl, b1⟩; have q1 := hS.ext b1; have k1 := KeepR.ext hrW b1; clear B1)
      | (go_at_call 23; refine Calls.mono (B2.out _ q1) ?_; rintro e W2 ⟨rfl, b2⟩; have q2 := q1.ext b2; have k2 := k1.trans (KeepR.ext q1.lt b2); clear B2)
      | (go_at_call 87; refine Calls.mono (B3.out _ q2 k2) ?_; rintro e W3 ⟨rfl, b3⟩; unfold faultP))
    exact ⟨rfl, rfl, b3⟩
  | .ok ts s', B3 =>
    go_enter Tryz.func82, Tryz.ntmps82
    go_wp2_with (first
      | (go_at_call 33; refine Calls.mono B1.out ?_; rintro e W1 ⟨t1, rfl, b1⟩; have q1 := hS.ext b1; have k1 := KeepR.ext hrW b1; clear B1)
      | (go_at_call 23; refine Calls.mono (B2.out _ q1) ?_; rintro e W2 ⟨rfl, b2⟩; have q2 := q1.ext b2; have k2 := k1.trans (KeepR.ext q1.lt b2); clear B2)
      | (go_at_call 87; refine Calls.mono (B3.out _ q2 k2) ?_; rintro e W3 ⟨n3, l3, he, q3, k3⟩; obtain ⟨v3, hv⟩ : ∃ r : Nat, r = (ns.length + sizes ts - 1) := ⟨_, rfl⟩; rw [← hv] at he; subst he; have V3 : Bx _ := ⟨hv⟩; clear hv))
    go_ret
    exact ⟨n3, l3, by rw [← V3.out]; rfl, q3, k3⟩
set_option maxRecDepth 100000 in
set_option maxHeartbeats 4000000 in
theorem primary_42 (hT : RT w0 rb srcV tokV TL xs) (hK : Kinds TL) {S : List PTok → Res} (HU : RC w0 rb srcV tokV TL xs S 88 #[]) {W : World} {s : List PTok} {ns : List Nd} (hS : RSs w0 rb srcV tokV TL xs U W s ns) (hc : kd s = 42) (hne : S s ≠ .out) :
    Calls Tryz.prog 82 #[.pointer (some ⟨rb, 0, none⟩)] W (Post1 w0 rb srcV tokV TL xs U W s ns (S s)) := by
  have hrW := hS.lt
  have d26 : ((⟨(textK (kd s : Nat)).toArray⟩ : ByteArray).toList == [116, 114, 117, 101]) = false := by rw [text_eq hK hS 26 (by decide) _ (by decide)]; exact decide_eq_false (by omega)
  have d16 : ((⟨(textK (kd s : Nat)).toArray⟩ : ByteArray).toList == [102, 97, 108, 115, 101]) = false := by rw [text_eq hK hS 16 (by decide) _ (by decide)]; exact decide_eq_false (by omega)
  have d40 : ((⟨(textK (kd s : Nat)).toArray⟩ : ByteArray).toList == [40]) = false := by rw [text_eq hK hS 40 (by decide) _ (by decide)]; exact decide_eq_false (by omega)
  have d42 : ((⟨(textK (kd s : Nat)).toArray⟩ : ByteArray).toList == [91]) = true := by rw [text_eq hK hS 42 (by decide) _ (by decide)]; exact decide_eq_true hc
  have B1 : Bx _ := ⟨nextS hT hS⟩
  have hf1 := tok_f1
  have B2 : Bx (∀ W1, RSs w0 rb srcV tokV TL xs U W1 s ns → _) := ⟨fun W1 h => textS hT h⟩
  have B3 : Bx (∀ W1, RSs w0 rb srcV tokV TL xs U W1 s ns → KeepR rb W W1 → Calls Tryz.prog 88 #[.pointer (some ⟨rb, 0, none⟩)] W1 (Post1 w0 rb srcV tokV TL xs U W s ns (S s))) := ⟨fun W1 h hk => Calls.mono (HU U W1 s ns h hne) (fun e W' hp => by
    revert hp
    cases S s with
    | out => exact fun hp => hp
    | err s' => exact fun hp => hp
    | ok ts s' => exact fun ⟨a, b, c, d, k⟩ => ⟨a, b, c, d, hk.trans k⟩)⟩
  generalize (⟨(textK (kd s : Nat)).toArray⟩ : ByteArray) = tx at *
  generalize S s = res at *
  clear HU hne
  match res, B3 with
  | .out, B3 =>
    go_enter Tryz.func82, Tryz.ntmps82
    go_wp2_with (first
      | (go_at_call 33; refine Calls.mono B1.out ?_; rintro e W1 ⟨t1, rfl, b1⟩; have q1 := hS.ext b1; have k1 := KeepR.ext hrW b1; clear B1)
      | (go_at_call 23; refine Calls.mono (B2.out _ q1) ?_; rintro e W2 ⟨rfl, b2⟩; have q2 := q1.ext b2; have k2 := k1.trans (KeepR.ext q1.lt b2); clear B2)
      | (go_at_call 88; refine Calls.mono (B3.out _ q2 k2) ?_; intro e W3 h; exact h.elim))
  | .err s', B3 =>
    go_enter Tryz.func82, Tryz.ntmps82
    go_wp2_with (first
      | (go_at_call 33; refine Calls.mono B1.out ?_; rintro e W1 ⟨t1, rfl, b1⟩; have q1 := hS.ext b1; have k1 := KeepR.ext hrW b1; clear B1)
      | (go_at_call 23; refine Calls.mono (B2.out _ q1) ?_; rintro e W2 ⟨rfl, b2⟩; have q2 := q1.ext b2; have k2 := k1.trans (KeepR.ext q1.lt b2); clear B2)
      | (go_at_call 88; refine Calls.mono (B3.out _ q2 k2) ?_; rintro e W3 ⟨rfl, b3⟩; unfold faultP))
    exact ⟨rfl, rfl, b3⟩
  | .ok ts s', B3 =>
    go_enter Tryz.func82, Tryz.ntmps82
    go_wp2_with (first
      | (go_at_call 33; refine Calls.mono B1.out ?_; rintro e W1 ⟨t1, rfl, b1⟩; have q1 := hS.ext b1; have k1 := KeepR.ext hrW b1; clear B1)
      | (go_at_call 23; refine Calls.mono (B2.out _ q1) ?_; rintro e W2 ⟨rfl, b2⟩; have q2 := q1.ext b2; have k2 := k1.trans (KeepR.ext q1.lt b2); clear B2)
      | (go_at_call 88; refine Calls.mono (B3.out _ q2 k2) ?_; rintro e W3 ⟨n3, l3, he, q3, k3⟩; obtain ⟨v3, hv⟩ : ∃ r : Nat, r = (ns.length + sizes ts - 1) := ⟨_, rfl⟩; rw [← hv] at he; subst he; have V3 : Bx _ := ⟨hv⟩; clear hv))
    go_ret
    exact ⟨n3, l3, by rw [← V3.out]; rfl, q3, k3⟩
set_option maxRecDepth 100000 in
set_option maxHeartbeats 4000000 in
theorem primary_17 (hT : RT w0 rb srcV tokV TL xs) (hK : Kinds TL) {S : List PTok → Res} (HU : RC w0 rb srcV tokV TL xs S 89 #[]) {W : World} {s : List PTok} {ns : List Nd} (hS : RSs w0 rb srcV tokV TL xs U W s ns) (hc : kd s = 17) (hne : S s ≠ .out) :
    Calls Tryz.prog 82 #[.pointer (some ⟨rb, 0, none⟩)] W (Post1 w0 rb srcV tokV TL xs U W s ns (S s)) := by
  have hrW := hS.lt
  have d26 : ((⟨(textK (kd s : Nat)).toArray⟩ : ByteArray).toList == [116, 114, 117, 101]) = false := by rw [text_eq hK hS 26 (by decide) _ (by decide)]; exact decide_eq_false (by omega)
  have d16 : ((⟨(textK (kd s : Nat)).toArray⟩ : ByteArray).toList == [102, 97, 108, 115, 101]) = false := by rw [text_eq hK hS 16 (by decide) _ (by decide)]; exact decide_eq_false (by omega)
  have d40 : ((⟨(textK (kd s : Nat)).toArray⟩ : ByteArray).toList == [40]) = false := by rw [text_eq hK hS 40 (by decide) _ (by decide)]; exact decide_eq_false (by omega)
  have d42 : ((⟨(textK (kd s : Nat)).toArray⟩ : ByteArray).toList == [91]) = false := by rw [text_eq hK hS 42 (by decide) _ (by decide)]; exact decide_eq_false (by omega)
  have d17 : ((⟨(textK (kd s : Nat)).toArray⟩ : ByteArray).toList == [102, 105, 108, 108]) = true := by rw [text_eq hK hS 17 (by decide) _ (by decide)]; exact decide_eq_true hc
  have B1 : Bx _ := ⟨nextS hT hS⟩
  have hf1 := tok_f1
  have B2 : Bx (∀ W1, RSs w0 rb srcV tokV TL xs U W1 s ns → _) := ⟨fun W1 h => textS hT h⟩
  have B3 : Bx (∀ W1, RSs w0 rb srcV tokV TL xs U W1 s ns → KeepR rb W W1 → Calls Tryz.prog 89 #[.pointer (some ⟨rb, 0, none⟩)] W1 (Post1 w0 rb srcV tokV TL xs U W s ns (S s))) := ⟨fun W1 h hk => Calls.mono (HU U W1 s ns h hne) (fun e W' hp => by
    revert hp
    cases S s with
    | out => exact fun hp => hp
    | err s' => exact fun hp => hp
    | ok ts s' => exact fun ⟨a, b, c, d, k⟩ => ⟨a, b, c, d, hk.trans k⟩)⟩
  generalize (⟨(textK (kd s : Nat)).toArray⟩ : ByteArray) = tx at *
  generalize S s = res at *
  clear HU hne
  match res, B3 with
  | .out, B3 =>
    go_enter Tryz.func82, Tryz.ntmps82
    go_wp2_with (first
      | (go_at_call 33; refine Calls.mono B1.out ?_; rintro e W1 ⟨t1, rfl, b1⟩; have q1 := hS.ext b1; have k1 := KeepR.ext hrW b1; clear B1)
      | (go_at_call 23; refine Calls.mono (B2.out _ q1) ?_; rintro e W2 ⟨rfl, b2⟩; have q2 := q1.ext b2; have k2 := k1.trans (KeepR.ext q1.lt b2); clear B2)
      | (go_at_call 89; refine Calls.mono (B3.out _ q2 k2) ?_; intro e W3 h; exact h.elim))
  | .err s', B3 =>
    go_enter Tryz.func82, Tryz.ntmps82
    go_wp2_with (first
      | (go_at_call 33; refine Calls.mono B1.out ?_; rintro e W1 ⟨t1, rfl, b1⟩; have q1 := hS.ext b1; have k1 := KeepR.ext hrW b1; clear B1)
      | (go_at_call 23; refine Calls.mono (B2.out _ q1) ?_; rintro e W2 ⟨rfl, b2⟩; have q2 := q1.ext b2; have k2 := k1.trans (KeepR.ext q1.lt b2); clear B2)
      | (go_at_call 89; refine Calls.mono (B3.out _ q2 k2) ?_; rintro e W3 ⟨rfl, b3⟩; unfold faultP))
    exact ⟨rfl, rfl, b3⟩
  | .ok ts s', B3 =>
    go_enter Tryz.func82, Tryz.ntmps82
    go_wp2_with (first
      | (go_at_call 33; refine Calls.mono B1.out ?_; rintro e W1 ⟨t1, rfl, b1⟩; have q1 := hS.ext b1; have k1 := KeepR.ext hrW b1; clear B1)
      | (go_at_call 23; refine Calls.mono (B2.out _ q1) ?_; rintro e W2 ⟨rfl, b2⟩; have q2 := q1.ext b2; have k2 := k1.trans (KeepR.ext q1.lt b2); clear B2)
      | (go_at_call 89; refine Calls.mono (B3.out _ q2 k2) ?_; rintro e W3 ⟨n3, l3, he, q3, k3⟩; obtain ⟨v3, hv⟩ : ∃ r : Nat, r = (ns.length + sizes ts - 1) := ⟨_, rfl⟩; rw [← hv] at he; subst he; have V3 : Bx _ := ⟨hv⟩; clear hv))
    go_ret
    exact ⟨n3, l3, by rw [← V3.out]; rfl, q3, k3⟩
set_option maxRecDepth 100000 in
set_option maxHeartbeats 4000000 in
theorem primary_20 (hT : RT w0 rb srcV tokV TL xs) (hK : Kinds TL) {S : List PTok → Res} (HU : RC w0 rb srcV tokV TL xs S 90 #[]) {W : World} {s : List PTok} {ns : List Nd} (hS : RSs w0 rb srcV tokV TL xs U W s ns) (hc : kd s = 20) (hne : S s ≠ .out) :
    Calls Tryz.prog 82 #[.pointer (some ⟨rb, 0, none⟩)] W (Post1 w0 rb srcV tokV TL xs U W s ns (S s)) := by
  have hrW := hS.lt
  have d26 : ((⟨(textK (kd s : Nat)).toArray⟩ : ByteArray).toList == [116, 114, 117, 101]) = false := by rw [text_eq hK hS 26 (by decide) _ (by decide)]; exact decide_eq_false (by omega)
  have d16 : ((⟨(textK (kd s : Nat)).toArray⟩ : ByteArray).toList == [102, 97, 108, 115, 101]) = false := by rw [text_eq hK hS 16 (by decide) _ (by decide)]; exact decide_eq_false (by omega)
  have d40 : ((⟨(textK (kd s : Nat)).toArray⟩ : ByteArray).toList == [40]) = false := by rw [text_eq hK hS 40 (by decide) _ (by decide)]; exact decide_eq_false (by omega)
  have d42 : ((⟨(textK (kd s : Nat)).toArray⟩ : ByteArray).toList == [91]) = false := by rw [text_eq hK hS 42 (by decide) _ (by decide)]; exact decide_eq_false (by omega)
  have d17 : ((⟨(textK (kd s : Nat)).toArray⟩ : ByteArray).toList == [102, 105, 108, 108]) = false := by rw [text_eq hK hS 17 (by decide) _ (by decide)]; exact decide_eq_false (by omega)
  have d20 : ((⟨(textK (kd s : Nat)).toArray⟩ : ByteArray).toList == [108, 101, 110]) = true := by rw [text_eq hK hS 20 (by decide) _ (by decide)]; exact decide_eq_true hc
  have B1 : Bx _ := ⟨nextS hT hS⟩
  have hf1 := tok_f1
  have B2 : Bx (∀ W1, RSs w0 rb srcV tokV TL xs U W1 s ns → _) := ⟨fun W1 h => textS hT h⟩
  have B3 : Bx (∀ W1, RSs w0 rb srcV tokV TL xs U W1 s ns → KeepR rb W W1 → Calls Tryz.prog 90 #[.pointer (some ⟨rb, 0, none⟩)] W1 (Post1 w0 rb srcV tokV TL xs U W s ns (S s))) := ⟨fun W1 h hk => Calls.mono (HU U W1 s ns h hne) (fun e W' hp => by
    revert hp
    cases S s with
    | out => exact fun hp => hp
    | err s' => exact fun hp => hp
    | ok ts s' => exact fun ⟨a, b, c, d, k⟩ => ⟨a, b, c, d, hk.trans k⟩)⟩
  generalize (⟨(textK (kd s : Nat)).toArray⟩ : ByteArray) = tx at *
  generalize S s = res at *
  clear HU hne
  match res, B3 with
  | .out, B3 =>
    go_enter Tryz.func82, Tryz.ntmps82
    go_wp2_with (first
      | (go_at_call 33; refine Calls.mono B1.out ?_; rintro e W1 ⟨t1, rfl, b1⟩; have q1 := hS.ext b1; have k1 := KeepR.ext hrW b1; clear B1)
      | (go_at_call 23; refine Calls.mono (B2.out _ q1) ?_; rintro e W2 ⟨rfl, b2⟩; have q2 := q1.ext b2; have k2 := k1.trans (KeepR.ext q1.lt b2); clear B2)
      | (go_at_call 90; refine Calls.mono (B3.out _ q2 k2) ?_; intro e W3 h; exact h.elim))
  | .err s', B3 =>
    go_enter Tryz.func82, Tryz.ntmps82
    go_wp2_with (first
      | (go_at_call 33; refine Calls.mono B1.out ?_; rintro e W1 ⟨t1, rfl, b1⟩; have q1 := hS.ext b1; have k1 := KeepR.ext hrW b1; clear B1)
      | (go_at_call 23; refine Calls.mono (B2.out _ q1) ?_; rintro e W2 ⟨rfl, b2⟩; have q2 := q1.ext b2; have k2 := k1.trans (KeepR.ext q1.lt b2); clear B2)
      | (go_at_call 90; refine Calls.mono (B3.out _ q2 k2) ?_; rintro e W3 ⟨rfl, b3⟩; unfold faultP))
    exact ⟨rfl, rfl, b3⟩
  | .ok ts s', B3 =>
    go_enter Tryz.func82, Tryz.ntmps82
    go_wp2_with (first
      | (go_at_call 33; refine Calls.mono B1.out ?_; rintro e W1 ⟨t1, rfl, b1⟩; have q1 := hS.ext b1; have k1 := KeepR.ext hrW b1; clear B1)
      | (go_at_call 23; refine Calls.mono (B2.out _ q1) ?_; rintro e W2 ⟨rfl, b2⟩; have q2 := q1.ext b2; have k2 := k1.trans (KeepR.ext q1.lt b2); clear B2)
      | (go_at_call 90; refine Calls.mono (B3.out _ q2 k2) ?_; rintro e W3 ⟨n3, l3, he, q3, k3⟩; obtain ⟨v3, hv⟩ : ∃ r : Nat, r = (ns.length + sizes ts - 1) := ⟨_, rfl⟩; rw [← hv] at he; subst he; have V3 : Bx _ := ⟨hv⟩; clear hv))
    go_ret
    exact ⟨n3, l3, by rw [← V3.out]; rfl, q3, k3⟩
set_option maxRecDepth 100000 in
set_option maxHeartbeats 4000000 in
theorem primary_23 (hT : RT w0 rb srcV tokV TL xs) (hK : Kinds TL) {S : List PTok → Res} (HU : RC w0 rb srcV tokV TL xs S 91 #[]) {W : World} {s : List PTok} {ns : List Nd} (hS : RSs w0 rb srcV tokV TL xs U W s ns) (hc : kd s = 23) (hne : S s ≠ .out) :
    Calls Tryz.prog 82 #[.pointer (some ⟨rb, 0, none⟩)] W (Post1 w0 rb srcV tokV TL xs U W s ns (S s)) := by
  have hrW := hS.lt
  have d26 : ((⟨(textK (kd s : Nat)).toArray⟩ : ByteArray).toList == [116, 114, 117, 101]) = false := by rw [text_eq hK hS 26 (by decide) _ (by decide)]; exact decide_eq_false (by omega)
  have d16 : ((⟨(textK (kd s : Nat)).toArray⟩ : ByteArray).toList == [102, 97, 108, 115, 101]) = false := by rw [text_eq hK hS 16 (by decide) _ (by decide)]; exact decide_eq_false (by omega)
  have d40 : ((⟨(textK (kd s : Nat)).toArray⟩ : ByteArray).toList == [40]) = false := by rw [text_eq hK hS 40 (by decide) _ (by decide)]; exact decide_eq_false (by omega)
  have d42 : ((⟨(textK (kd s : Nat)).toArray⟩ : ByteArray).toList == [91]) = false := by rw [text_eq hK hS 42 (by decide) _ (by decide)]; exact decide_eq_false (by omega)
  have d17 : ((⟨(textK (kd s : Nat)).toArray⟩ : ByteArray).toList == [102, 105, 108, 108]) = false := by rw [text_eq hK hS 17 (by decide) _ (by decide)]; exact decide_eq_false (by omega)
  have d20 : ((⟨(textK (kd s : Nat)).toArray⟩ : ByteArray).toList == [108, 101, 110]) = false := by rw [text_eq hK hS 20 (by decide) _ (by decide)]; exact decide_eq_false (by omega)
  have d21 : ((⟨(textK (kd s : Nat)).toArray⟩ : ByteArray).toList == [109, 97, 107, 101]) = false := by rw [text_eq hK hS 21 (by decide) _ (by decide)]; exact decide_eq_false (by omega)
  have d23 : ((⟨(textK (kd s : Nat)).toArray⟩ : ByteArray).toList == [112, 114, 111, 103]) = true := by rw [text_eq hK hS 23 (by decide) _ (by decide)]; exact decide_eq_true hc
  have B1 : Bx _ := ⟨nextS hT hS⟩
  have hf1 := tok_f1
  have B2 : Bx (∀ W1, RSs w0 rb srcV tokV TL xs U W1 s ns → _) := ⟨fun W1 h => textS hT h⟩
  have B3 : Bx (∀ W1, RSs w0 rb srcV tokV TL xs U W1 s ns → KeepR rb W W1 → Calls Tryz.prog 91 #[.pointer (some ⟨rb, 0, none⟩)] W1 (Post1 w0 rb srcV tokV TL xs U W s ns (S s))) := ⟨fun W1 h hk => Calls.mono (HU U W1 s ns h hne) (fun e W' hp => by
    revert hp
    cases S s with
    | out => exact fun hp => hp
    | err s' => exact fun hp => hp
    | ok ts s' => exact fun ⟨a, b, c, d, k⟩ => ⟨a, b, c, d, hk.trans k⟩)⟩
  generalize (⟨(textK (kd s : Nat)).toArray⟩ : ByteArray) = tx at *
  generalize S s = res at *
  clear HU hne
  match res, B3 with
  | .out, B3 =>
    go_enter Tryz.func82, Tryz.ntmps82
    go_wp2_with (first
      | (go_at_call 33; refine Calls.mono B1.out ?_; rintro e W1 ⟨t1, rfl, b1⟩; have q1 := hS.ext b1; have k1 := KeepR.ext hrW b1; clear B1)
      | (go_at_call 23; refine Calls.mono (B2.out _ q1) ?_; rintro e W2 ⟨rfl, b2⟩; have q2 := q1.ext b2; have k2 := k1.trans (KeepR.ext q1.lt b2); clear B2)
      | (go_at_call 91; refine Calls.mono (B3.out _ q2 k2) ?_; intro e W3 h; exact h.elim))
  | .err s', B3 =>
    go_enter Tryz.func82, Tryz.ntmps82
    go_wp2_with (first
      | (go_at_call 33; refine Calls.mono B1.out ?_; rintro e W1 ⟨t1, rfl, b1⟩; have q1 := hS.ext b1; have k1 := KeepR.ext hrW b1; clear B1)
      | (go_at_call 23; refine Calls.mono (B2.out _ q1) ?_; rintro e W2 ⟨rfl, b2⟩; have q2 := q1.ext b2; have k2 := k1.trans (KeepR.ext q1.lt b2); clear B2)
      | (go_at_call 91; refine Calls.mono (B3.out _ q2 k2) ?_; rintro e W3 ⟨rfl, b3⟩; unfold faultP))
    exact ⟨rfl, rfl, b3⟩
  | .ok ts s', B3 =>
    go_enter Tryz.func82, Tryz.ntmps82
    go_wp2_with (first
      | (go_at_call 33; refine Calls.mono B1.out ?_; rintro e W1 ⟨t1, rfl, b1⟩; have q1 := hS.ext b1; have k1 := KeepR.ext hrW b1; clear B1)
      | (go_at_call 23; refine Calls.mono (B2.out _ q1) ?_; rintro e W2 ⟨rfl, b2⟩; have q2 := q1.ext b2; have k2 := k1.trans (KeepR.ext q1.lt b2); clear B2)
      | (go_at_call 91; refine Calls.mono (B3.out _ q2 k2) ?_; rintro e W3 ⟨n3, l3, he, q3, k3⟩; obtain ⟨v3, hv⟩ : ∃ r : Nat, r = (ns.length + sizes ts - 1) := ⟨_, rfl⟩; rw [← hv] at he; subst he; have V3 : Bx _ := ⟨hv⟩; clear hv))
    go_ret
    exact ⟨n3, l3, by rw [← V3.out]; rfl, q3, k3⟩
end Go.Proofs.YtblhklbpcalglaaGreatDoor
