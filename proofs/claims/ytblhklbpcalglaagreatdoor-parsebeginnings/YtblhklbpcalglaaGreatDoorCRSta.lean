import Derived.Test.YtblhklbpcalglaaGreatDoorCRSim
namespace Go.Proofs.YtblhklbpcalglaaGreatDoor
open Go.RowKit
set_option linter.unusedVariables false
set_option linter.unusedSimpArgs false
variable {w0 : World} {rb : Nat} {srcV tokV : Value} {TL : List Tok} {xs : List UInt8} {U : Nat → Prop}
set_option maxRecDepth 100000 in
set_option maxHeartbeats 4000000 in
theorem statement_28 (hT : RT w0 rb srcV tokV TL xs) (hK : Kinds TL) {S : List PTok → Res} (HU : RC w0 rb srcV tokV TL xs S 37 #[]) {W : World} {s : List PTok} {ns : List Nd} (hS : RSs w0 rb srcV tokV TL xs U W s ns) (hc : kd s = 28) (hne : S s ≠ .out) :
    Calls Tryz.prog 26 #[.pointer (some ⟨rb, 0, none⟩)] W (Post1 w0 rb srcV tokV TL xs U W s ns (S s)) := by
  have hrW := hS.lt
  have d28 : ((⟨(textK (kd s : Nat)).toArray⟩ : ByteArray).toList == [118, 97, 108]) = true := by rw [text_eq hK hS 28 (by decide) _ (by decide)]; exact decide_eq_true hc
  have B2 : Bx (∀ W1, RSs w0 rb srcV tokV TL xs U W1 s ns → _) := ⟨fun W1 h => textS hT h⟩
  have B3 : Bx (∀ W1, RSs w0 rb srcV tokV TL xs U W1 s ns → KeepR rb W W1 → Calls Tryz.prog 37 #[.pointer (some ⟨rb, 0, none⟩)] W1 (Post1 w0 rb srcV tokV TL xs U W s ns (S s))) := ⟨fun W1 h hk => Calls.mono (HU U W1 s ns h hne) (fun e W' hp => by
    revert hp
    cases S s with
    | out => exact fun hp => hp
    | err s' => exact fun hp => hp
    | ok ts s' => exact fun ⟨a, b, c, d, k⟩ => ⟨a, b, c, d, hk.trans k⟩)⟩
  generalize (⟨(textK (kd s : Nat)).toArray⟩ : ByteArray) = tx at *
  generalize S s = res at *
  clear HU hne
  match res, B3 with
  | .out, B3 =>
    go_enter Tryz.func26, Tryz.ntmps26
    go_wp2_with (first
      | (go_at_call 23; refine Calls.mono (B2.out _ hS) ?_; rintro e W2 ⟨rfl, b2⟩; have q2 := hS.ext b2; have k2 := KeepR.ext hrW b2; clear B2)
      | (go_at_call 37; refine Calls.mono (B3.out _ q2 k2) ?_; intro e W3 h; exact h.elim))
  | .err s', B3 =>
    go_enter Tryz.func26, Tryz.ntmps26
    go_wp2_with (first
      | (go_at_call 23; refine Calls.mono (B2.out _ hS) ?_; rintro e W2 ⟨rfl, b2⟩; have q2 := hS.ext b2; have k2 := KeepR.ext hrW b2; clear B2)
      | (go_at_call 37; refine Calls.mono (B3.out _ q2 k2) ?_; rintro e W3 ⟨rfl, b3⟩; unfold faultP))
    exact ⟨rfl, rfl, b3⟩
  | .ok ts s', B3 =>
    go_enter Tryz.func26, Tryz.ntmps26
    go_wp2_with (first
      | (go_at_call 23; refine Calls.mono (B2.out _ hS) ?_; rintro e W2 ⟨rfl, b2⟩; have q2 := hS.ext b2; have k2 := KeepR.ext hrW b2; clear B2)
      | (go_at_call 37; refine Calls.mono (B3.out _ q2 k2) ?_; rintro e W3 ⟨n3, l3, he, q3, k3⟩; obtain ⟨v3, hv⟩ : ∃ r : Nat, r = (ns.length + sizes ts - 1) := ⟨_, rfl⟩; rw [← hv] at he; subst he; have V3 : Bx _ := ⟨hv⟩; clear hv))
    go_ret
    exact ⟨n3, l3, by rw [← V3.out]; rfl, q3, k3⟩
set_option maxRecDepth 100000 in
set_option maxHeartbeats 4000000 in
theorem statement_29 (hT : RT w0 rb srcV tokV TL xs) (hK : Kinds TL) {S : List PTok → Res} (HU : RC w0 rb srcV tokV TL xs S 38 #[]) {W : World} {s : List PTok} {ns : List Nd} (hS : RSs w0 rb srcV tokV TL xs U W s ns) (hc : kd s = 29) (hne : S s ≠ .out) :
    Calls Tryz.prog 26 #[.pointer (some ⟨rb, 0, none⟩)] W (Post1 w0 rb srcV tokV TL xs U W s ns (S s)) := by
  have hrW := hS.lt
  have d28 : ((⟨(textK (kd s : Nat)).toArray⟩ : ByteArray).toList == [118, 97, 108]) = false := by rw [text_eq hK hS 28 (by decide) _ (by decide)]; exact decide_eq_false (by omega)
  have d29 : ((⟨(textK (kd s : Nat)).toArray⟩ : ByteArray).toList == [118, 97, 114]) = true := by rw [text_eq hK hS 29 (by decide) _ (by decide)]; exact decide_eq_true hc
  have B2 : Bx (∀ W1, RSs w0 rb srcV tokV TL xs U W1 s ns → _) := ⟨fun W1 h => textS hT h⟩
  have B3 : Bx (∀ W1, RSs w0 rb srcV tokV TL xs U W1 s ns → KeepR rb W W1 → Calls Tryz.prog 38 #[.pointer (some ⟨rb, 0, none⟩)] W1 (Post1 w0 rb srcV tokV TL xs U W s ns (S s))) := ⟨fun W1 h hk => Calls.mono (HU U W1 s ns h hne) (fun e W' hp => by
    revert hp
    cases S s with
    | out => exact fun hp => hp
    | err s' => exact fun hp => hp
    | ok ts s' => exact fun ⟨a, b, c, d, k⟩ => ⟨a, b, c, d, hk.trans k⟩)⟩
  generalize (⟨(textK (kd s : Nat)).toArray⟩ : ByteArray) = tx at *
  generalize S s = res at *
  clear HU hne
  match res, B3 with
  | .out, B3 =>
    go_enter Tryz.func26, Tryz.ntmps26
    go_wp2_with (first
      | (go_at_call 23; refine Calls.mono (B2.out _ hS) ?_; rintro e W2 ⟨rfl, b2⟩; have q2 := hS.ext b2; have k2 := KeepR.ext hrW b2; clear B2)
      | (go_at_call 38; refine Calls.mono (B3.out _ q2 k2) ?_; intro e W3 h; exact h.elim))
  | .err s', B3 =>
    go_enter Tryz.func26, Tryz.ntmps26
    go_wp2_with (first
      | (go_at_call 23; refine Calls.mono (B2.out _ hS) ?_; rintro e W2 ⟨rfl, b2⟩; have q2 := hS.ext b2; have k2 := KeepR.ext hrW b2; clear B2)
      | (go_at_call 38; refine Calls.mono (B3.out _ q2 k2) ?_; rintro e W3 ⟨rfl, b3⟩; unfold faultP))
    exact ⟨rfl, rfl, b3⟩
  | .ok ts s', B3 =>
    go_enter Tryz.func26, Tryz.ntmps26
    go_wp2_with (first
      | (go_at_call 23; refine Calls.mono (B2.out _ hS) ?_; rintro e W2 ⟨rfl, b2⟩; have q2 := hS.ext b2; have k2 := KeepR.ext hrW b2; clear B2)
      | (go_at_call 38; refine Calls.mono (B3.out _ q2 k2) ?_; rintro e W3 ⟨n3, l3, he, q3, k3⟩; obtain ⟨v3, hv⟩ : ∃ r : Nat, r = (ns.length + sizes ts - 1) := ⟨_, rfl⟩; rw [← hv] at he; subst he; have V3 : Bx _ := ⟨hv⟩; clear hv))
    go_ret
    exact ⟨n3, l3, by rw [← V3.out]; rfl, q3, k3⟩
set_option maxRecDepth 100000 in
set_option maxHeartbeats 4000000 in
theorem statement_18 (hT : RT w0 rb srcV tokV TL xs) (hK : Kinds TL) {S : List PTok → Res} (HU : RC w0 rb srcV tokV TL xs S 39 #[]) {W : World} {s : List PTok} {ns : List Nd} (hS : RSs w0 rb srcV tokV TL xs U W s ns) (hc : kd s = 18) (hne : S s ≠ .out) :
    Calls Tryz.prog 26 #[.pointer (some ⟨rb, 0, none⟩)] W (Post1 w0 rb srcV tokV TL xs U W s ns (S s)) := by
  have hrW := hS.lt
  have d28 : ((⟨(textK (kd s : Nat)).toArray⟩ : ByteArray).toList == [118, 97, 108]) = false := by rw [text_eq hK hS 28 (by decide) _ (by decide)]; exact decide_eq_false (by omega)
  have d29 : ((⟨(textK (kd s : Nat)).toArray⟩ : ByteArray).toList == [118, 97, 114]) = false := by rw [text_eq hK hS 29 (by decide) _ (by decide)]; exact decide_eq_false (by omega)
  have d18 : ((⟨(textK (kd s : Nat)).toArray⟩ : ByteArray).toList == [105, 102]) = true := by rw [text_eq hK hS 18 (by decide) _ (by decide)]; exact decide_eq_true hc
  have B2 : Bx (∀ W1, RSs w0 rb srcV tokV TL xs U W1 s ns → _) := ⟨fun W1 h => textS hT h⟩
  have B3 : Bx (∀ W1, RSs w0 rb srcV tokV TL xs U W1 s ns → KeepR rb W W1 → Calls Tryz.prog 39 #[.pointer (some ⟨rb, 0, none⟩)] W1 (Post1 w0 rb srcV tokV TL xs U W s ns (S s))) := ⟨fun W1 h hk => Calls.mono (HU U W1 s ns h hne) (fun e W' hp => by
    revert hp
    cases S s with
    | out => exact fun hp => hp
    | err s' => exact fun hp => hp
    | ok ts s' => exact fun ⟨a, b, c, d, k⟩ => ⟨a, b, c, d, hk.trans k⟩)⟩
  generalize (⟨(textK (kd s : Nat)).toArray⟩ : ByteArray) = tx at *
  generalize S s = res at *
  clear HU hne
  match res, B3 with
  | .out, B3 =>
    go_enter Tryz.func26, Tryz.ntmps26
    go_wp2_with (first
      | (go_at_call 23; refine Calls.mono (B2.out _ hS) ?_; rintro e W2 ⟨rfl, b2⟩; have q2 := hS.ext b2; have k2 := KeepR.ext hrW b2; clear B2)
      | (go_at_call 39; refine Calls.mono (B3.out _ q2 k2) ?_; intro e W3 h; exact h.elim))
  | .err s', B3 =>
    go_enter Tryz.func26, Tryz.ntmps26
    go_wp2_with (first
      | (go_at_call 23; refine Calls.mono (B2.out _ hS) ?_; rintro e W2 ⟨rfl, b2⟩; have q2 := hS.ext b2; have k2 := KeepR.ext hrW b2; clear B2)
      | (go_at_call 39; refine Calls.mono (B3.out _ q2 k2) ?_; rintro e W3 ⟨rfl, b3⟩; unfold faultP))
    exact ⟨rfl, rfl, b3⟩
  | .ok ts s', B3 =>
    go_enter Tryz.func26, Tryz.ntmps26
    go_wp2_with (first
      | (go_at_call 23; refine Calls.mono (B2.out _ hS) ?_; rintro e W2 ⟨rfl, b2⟩; have q2 := hS.ext b2; have k2 := KeepR.ext hrW b2; clear B2)
      | (go_at_call 39; refine Calls.mono (B3.out _ q2 k2) ?_; rintro e W3 ⟨n3, l3, he, q3, k3⟩; obtain ⟨v3, hv⟩ : ∃ r : Nat, r = (ns.length + sizes ts - 1) := ⟨_, rfl⟩; rw [← hv] at he; subst he; have V3 : Bx _ := ⟨hv⟩; clear hv))
    go_ret
    exact ⟨n3, l3, by rw [← V3.out]; rfl, q3, k3⟩
set_option maxRecDepth 100000 in
set_option maxHeartbeats 4000000 in
theorem statement_30 (hT : RT w0 rb srcV tokV TL xs) (hK : Kinds TL) {S : List PTok → Res} (HU : RC w0 rb srcV tokV TL xs S 40 #[]) {W : World} {s : List PTok} {ns : List Nd} (hS : RSs w0 rb srcV tokV TL xs U W s ns) (hc : kd s = 30) (hne : S s ≠ .out) :
    Calls Tryz.prog 26 #[.pointer (some ⟨rb, 0, none⟩)] W (Post1 w0 rb srcV tokV TL xs U W s ns (S s)) := by
  have hrW := hS.lt
  have d28 : ((⟨(textK (kd s : Nat)).toArray⟩ : ByteArray).toList == [118, 97, 108]) = false := by rw [text_eq hK hS 28 (by decide) _ (by decide)]; exact decide_eq_false (by omega)
  have d29 : ((⟨(textK (kd s : Nat)).toArray⟩ : ByteArray).toList == [118, 97, 114]) = false := by rw [text_eq hK hS 29 (by decide) _ (by decide)]; exact decide_eq_false (by omega)
  have d18 : ((⟨(textK (kd s : Nat)).toArray⟩ : ByteArray).toList == [105, 102]) = false := by rw [text_eq hK hS 18 (by decide) _ (by decide)]; exact decide_eq_false (by omega)
  have d30 : ((⟨(textK (kd s : Nat)).toArray⟩ : ByteArray).toList == [119, 104, 105, 108, 101]) = true := by rw [text_eq hK hS 30 (by decide) _ (by decide)]; exact decide_eq_true hc
  have B2 : Bx (∀ W1, RSs w0 rb srcV tokV TL xs U W1 s ns → _) := ⟨fun W1 h => textS hT h⟩
  have B3 : Bx (∀ W1, RSs w0 rb srcV tokV TL xs U W1 s ns → KeepR rb W W1 → Calls Tryz.prog 40 #[.pointer (some ⟨rb, 0, none⟩)] W1 (Post1 w0 rb srcV tokV TL xs U W s ns (S s))) := ⟨fun W1 h hk => Calls.mono (HU U W1 s ns h hne) (fun e W' hp => by
    revert hp
    cases S s with
    | out => exact fun hp => hp
    | err s' => exact fun hp => hp
    | ok ts s' => exact fun ⟨a, b, c, d, k⟩ => ⟨a, b, c, d, hk.trans k⟩)⟩
  generalize (⟨(textK (kd s : Nat)).toArray⟩ : ByteArray) = tx at *
  generalize S s = res at *
  clear HU hne
  match res, B3 with
  | .out, B3 =>
    go_enter Tryz.func26, Tryz.ntmps26
    go_wp2_with (first
      | (go_at_call 23; refine Calls.mono (B2.out _ hS) ?_; rintro e W2 ⟨rfl, b2⟩; have q2 := hS.ext b2; have k2 := KeepR.ext hrW b2; clear B2)
      | (go_at_call 40; refine Calls.mono (B3.out _ q2 k2) ?_; intro e W3 h; exact h.elim))
  | .err s', B3 =>
    go_enter Tryz.func26, Tryz.ntmps26
    go_wp2_with (first
      | (go_at_call 23; refine Calls.mono (B2.out _ hS) ?_; rintro e W2 ⟨rfl, b2⟩; have q2 := hS.ext b2; have k2 := KeepR.ext hrW b2; clear B2)
      | (go_at_call 40; refine Calls.mono (B3.out _ q2 k2) ?_; rintro e W3 ⟨rfl, b3⟩; unfold faultP))
    exact ⟨rfl, rfl, b3⟩
  | .ok ts s', B3 =>
    go_enter Tryz.func26, Tryz.ntmps26
    go_wp2_with (first
      | (go_at_call 23; refine Calls.mono (B2.out _ hS) ?_; rintro e W2 ⟨rfl, b2⟩; have q2 := hS.ext b2; have k2 := KeepR.ext hrW b2; clear B2)
      | (go_at_call 40; refine Calls.mono (B3.out _ q2 k2) ?_; rintro e W3 ⟨n3, l3, he, q3, k3⟩; obtain ⟨v3, hv⟩ : ∃ r : Nat, r = (ns.length + sizes ts - 1) := ⟨_, rfl⟩; rw [← hv] at he; subst he; have V3 : Bx _ := ⟨hv⟩; clear hv))
    go_ret
    exact ⟨n3, l3, by rw [← V3.out]; rfl, q3, k3⟩
set_option maxRecDepth 100000 in
set_option maxHeartbeats 4000000 in
theorem statement_24 (hT : RT w0 rb srcV tokV TL xs) (hK : Kinds TL) {S : List PTok → Res} (HU : RC w0 rb srcV tokV TL xs S 41 #[]) {W : World} {s : List PTok} {ns : List Nd} (hS : RSs w0 rb srcV tokV TL xs U W s ns) (hc : kd s = 24) (hne : S s ≠ .out) :
    Calls Tryz.prog 26 #[.pointer (some ⟨rb, 0, none⟩)] W (Post1 w0 rb srcV tokV TL xs U W s ns (S s)) := by
  have hrW := hS.lt
  have d28 : ((⟨(textK (kd s : Nat)).toArray⟩ : ByteArray).toList == [118, 97, 108]) = false := by rw [text_eq hK hS 28 (by decide) _ (by decide)]; exact decide_eq_false (by omega)
  have d29 : ((⟨(textK (kd s : Nat)).toArray⟩ : ByteArray).toList == [118, 97, 114]) = false := by rw [text_eq hK hS 29 (by decide) _ (by decide)]; exact decide_eq_false (by omega)
  have d18 : ((⟨(textK (kd s : Nat)).toArray⟩ : ByteArray).toList == [105, 102]) = false := by rw [text_eq hK hS 18 (by decide) _ (by decide)]; exact decide_eq_false (by omega)
  have d30 : ((⟨(textK (kd s : Nat)).toArray⟩ : ByteArray).toList == [119, 104, 105, 108, 101]) = false := by rw [text_eq hK hS 30 (by decide) _ (by decide)]; exact decide_eq_false (by omega)
  have d24 : ((⟨(textK (kd s : Nat)).toArray⟩ : ByteArray).toList == [114, 101, 116, 117, 114, 110]) = true := by rw [text_eq hK hS 24 (by decide) _ (by decide)]; exact decide_eq_true hc
  have B2 : Bx (∀ W1, RSs w0 rb srcV tokV TL xs U W1 s ns → _) := ⟨fun W1 h => textS hT h⟩
  have B3 : Bx (∀ W1, RSs w0 rb srcV tokV TL xs U W1 s ns → KeepR rb W W1 → Calls Tryz.prog 41 #[.pointer (some ⟨rb, 0, none⟩)] W1 (Post1 w0 rb srcV tokV TL xs U W s ns (S s))) := ⟨fun W1 h hk => Calls.mono (HU U W1 s ns h hne) (fun e W' hp => by
    revert hp
    cases S s with
    | out => exact fun hp => hp
    | err s' => exact fun hp => hp
    | ok ts s' => exact fun ⟨a, b, c, d, k⟩ => ⟨a, b, c, d, hk.trans k⟩)⟩
  generalize (⟨(textK (kd s : Nat)).toArray⟩ : ByteArray) = tx at *
  generalize S s = res at *
  clear HU hne
  match res, B3 with
  | .out, B3 =>
    go_enter Tryz.func26, Tryz.ntmps26
    go_wp2_with (first
      | (go_at_call 23; refine Calls.mono (B2.out _ hS) ?_; rintro e W2 ⟨rfl, b2⟩; have q2 := hS.ext b2; have k2 := KeepR.ext hrW b2; clear B2)
      | (go_at_call 41; refine Calls.mono (B3.out _ q2 k2) ?_; intro e W3 h; exact h.elim))
  | .err s', B3 =>
    go_enter Tryz.func26, Tryz.ntmps26
    go_wp2_with (first
      | (go_at_call 23; refine Calls.mono (B2.out _ hS) ?_; rintro e W2 ⟨rfl, b2⟩; have q2 := hS.ext b2; have k2 := KeepR.ext hrW b2; clear B2)
      | (go_at_call 41; refine Calls.mono (B3.out _ q2 k2) ?_; rintro e W3 ⟨rfl, b3⟩; unfold faultP))
    exact ⟨rfl, rfl, b3⟩
  | .ok ts s', B3 =>
    go_enter Tryz.func26, Tryz.ntmps26
    go_wp2_with (first
      | (go_at_call 23; refine Calls.mono (B2.out _ hS) ?_; rintro e W2 ⟨rfl, b2⟩; have q2 := hS.ext b2; have k2 := KeepR.ext hrW b2; clear B2)
      | (go_at_call 41; refine Calls.mono (B3.out _ q2 k2) ?_; rintro e W3 ⟨n3, l3, he, q3, k3⟩; obtain ⟨v3, hv⟩ : ∃ r : Nat, r = (ns.length + sizes ts - 1) := ⟨_, rfl⟩; rw [← hv] at he; subst he; have V3 : Bx _ := ⟨hv⟩; clear hv))
    go_ret
    exact ⟨n3, l3, by rw [← V3.out]; rfl, q3, k3⟩
set_option maxRecDepth 100000 in
set_option maxHeartbeats 4000000 in
theorem statement_11 (hT : RT w0 rb srcV tokV TL xs) (hK : Kinds TL) {S : List PTok → Res} (HU : RC w0 rb srcV tokV TL xs S 42 #[]) {W : World} {s : List PTok} {ns : List Nd} (hS : RSs w0 rb srcV tokV TL xs U W s ns) (hc : kd s = 11) (hne : S s ≠ .out) :
    Calls Tryz.prog 26 #[.pointer (some ⟨rb, 0, none⟩)] W (Post1 w0 rb srcV tokV TL xs U W s ns (S s)) := by
  have hrW := hS.lt
  have d28 : ((⟨(textK (kd s : Nat)).toArray⟩ : ByteArray).toList == [118, 97, 108]) = false := by rw [text_eq hK hS 28 (by decide) _ (by decide)]; exact decide_eq_false (by omega)
  have d29 : ((⟨(textK (kd s : Nat)).toArray⟩ : ByteArray).toList == [118, 97, 114]) = false := by rw [text_eq hK hS 29 (by decide) _ (by decide)]; exact decide_eq_false (by omega)
  have d18 : ((⟨(textK (kd s : Nat)).toArray⟩ : ByteArray).toList == [105, 102]) = false := by rw [text_eq hK hS 18 (by decide) _ (by decide)]; exact decide_eq_false (by omega)
  have d30 : ((⟨(textK (kd s : Nat)).toArray⟩ : ByteArray).toList == [119, 104, 105, 108, 101]) = false := by rw [text_eq hK hS 30 (by decide) _ (by decide)]; exact decide_eq_false (by omega)
  have d24 : ((⟨(textK (kd s : Nat)).toArray⟩ : ByteArray).toList == [114, 101, 116, 117, 114, 110]) = false := by rw [text_eq hK hS 24 (by decide) _ (by decide)]; exact decide_eq_false (by omega)
  have d11 : ((⟨(textK (kd s : Nat)).toArray⟩ : ByteArray).toList == [98, 101, 103, 105, 110]) = true := by rw [text_eq hK hS 11 (by decide) _ (by decide)]; exact decide_eq_true hc
  have B2 : Bx (∀ W1, RSs w0 rb srcV tokV TL xs U W1 s ns → _) := ⟨fun W1 h => textS hT h⟩
  have B3 : Bx (∀ W1, RSs w0 rb srcV tokV TL xs U W1 s ns → KeepR rb W W1 → Calls Tryz.prog 42 #[.pointer (some ⟨rb, 0, none⟩)] W1 (Post1 w0 rb srcV tokV TL xs U W s ns (S s))) := ⟨fun W1 h hk => Calls.mono (HU U W1 s ns h hne) (fun e W' hp => by
    revert hp
    cases S s with
    | out => exact fun hp => hp
    | err s' => exact fun hp => hp
    | ok ts s' => exact fun ⟨a, b, c, d, k⟩ => ⟨a, b, c, d, hk.trans k⟩)⟩
  generalize (⟨(textK (kd s : Nat)).toArray⟩ : ByteArray) = tx at *
  generalize S s = res at *
  clear HU hne
  match res, B3 with
  | .out, B3 =>
    go_enter Tryz.func26, Tryz.ntmps26
    go_wp2_with (first
      | (go_at_call 23; refine Calls.mono (B2.out _ hS) ?_; rintro e W2 ⟨rfl, b2⟩; have q2 := hS.ext b2; have k2 := KeepR.ext hrW b2; clear B2)
      | (go_at_call 42; refine Calls.mono (B3.out _ q2 k2) ?_; intro e W3 h; exact h.elim))
  | .err s', B3 =>
    go_enter Tryz.func26, Tryz.ntmps26
    go_wp2_with (first
      | (go_at_call 23; refine Calls.mono (B2.out _ hS) ?_; rintro e W2 ⟨rfl, b2⟩; have q2 := hS.ext b2; have k2 := KeepR.ext hrW b2; clear B2)
      | (go_at_call 42; refine Calls.mono (B3.out _ q2 k2) ?_; rintro e W3 ⟨rfl, b3⟩; unfold faultP))
    exact ⟨rfl, rfl, b3⟩
  | .ok ts s', B3 =>
    go_enter Tryz.func26, Tryz.ntmps26
    go_wp2_with (first
      | (go_at_call 23; refine Calls.mono (B2.out _ hS) ?_; rintro e W2 ⟨rfl, b2⟩; have q2 := hS.ext b2; have k2 := KeepR.ext hrW b2; clear B2)
      | (go_at_call 42; refine Calls.mono (B3.out _ q2 k2) ?_; rintro e W3 ⟨n3, l3, he, q3, k3⟩; obtain ⟨v3, hv⟩ : ∃ r : Nat, r = (ns.length + sizes ts - 1) := ⟨_, rfl⟩; rw [← hv] at he; subst he; have V3 : Bx _ := ⟨hv⟩; clear hv))
    go_ret
    exact ⟨n3, l3, by rw [← V3.out]; rfl, q3, k3⟩
set_option maxRecDepth 100000 in
set_option maxHeartbeats 4000000 in
theorem statement_25 (hT : RT w0 rb srcV tokV TL xs) (hK : Kinds TL) {S : List PTok → Res} (HU : RC w0 rb srcV tokV TL xs S 43 #[]) {W : World} {s : List PTok} {ns : List Nd} (hS : RSs w0 rb srcV tokV TL xs U W s ns) (hc : kd s = 25) (hne : S s ≠ .out) :
    Calls Tryz.prog 26 #[.pointer (some ⟨rb, 0, none⟩)] W (Post1 w0 rb srcV tokV TL xs U W s ns (S s)) := by
  have hrW := hS.lt
  have d28 : ((⟨(textK (kd s : Nat)).toArray⟩ : ByteArray).toList == [118, 97, 108]) = false := by rw [text_eq hK hS 28 (by decide) _ (by decide)]; exact decide_eq_false (by omega)
  have d29 : ((⟨(textK (kd s : Nat)).toArray⟩ : ByteArray).toList == [118, 97, 114]) = false := by rw [text_eq hK hS 29 (by decide) _ (by decide)]; exact decide_eq_false (by omega)
  have d18 : ((⟨(textK (kd s : Nat)).toArray⟩ : ByteArray).toList == [105, 102]) = false := by rw [text_eq hK hS 18 (by decide) _ (by decide)]; exact decide_eq_false (by omega)
  have d30 : ((⟨(textK (kd s : Nat)).toArray⟩ : ByteArray).toList == [119, 104, 105, 108, 101]) = false := by rw [text_eq hK hS 30 (by decide) _ (by decide)]; exact decide_eq_false (by omega)
  have d24 : ((⟨(textK (kd s : Nat)).toArray⟩ : ByteArray).toList == [114, 101, 116, 117, 114, 110]) = false := by rw [text_eq hK hS 24 (by decide) _ (by decide)]; exact decide_eq_false (by omega)
  have d11 : ((⟨(textK (kd s : Nat)).toArray⟩ : ByteArray).toList == [98, 101, 103, 105, 110]) = false := by rw [text_eq hK hS 11 (by decide) _ (by decide)]; exact decide_eq_false (by omega)
  have d25 : ((⟨(textK (kd s : Nat)).toArray⟩ : ByteArray).toList == [115, 101, 108, 101, 99, 116]) = true := by rw [text_eq hK hS 25 (by decide) _ (by decide)]; exact decide_eq_true hc
  have B2 : Bx (∀ W1, RSs w0 rb srcV tokV TL xs U W1 s ns → _) := ⟨fun W1 h => textS hT h⟩
  have B3 : Bx (∀ W1, RSs w0 rb srcV tokV TL xs U W1 s ns → KeepR rb W W1 → Calls Tryz.prog 43 #[.pointer (some ⟨rb, 0, none⟩)] W1 (Post1 w0 rb srcV tokV TL xs U W s ns (S s))) := ⟨fun W1 h hk => Calls.mono (HU U W1 s ns h hne) (fun e W' hp => by
    revert hp
    cases S s with
    | out => exact fun hp => hp
    | err s' => exact fun hp => hp
    | ok ts s' => exact fun ⟨a, b, c, d, k⟩ => ⟨a, b, c, d, hk.trans k⟩)⟩
  generalize (⟨(textK (kd s : Nat)).toArray⟩ : ByteArray) = tx at *
  generalize S s = res at *
  clear HU hne
  match res, B3 with
  | .out, B3 =>
    go_enter Tryz.func26, Tryz.ntmps26
    go_wp2_with (first
      | (go_at_call 23; refine Calls.mono (B2.out _ hS) ?_; rintro e W2 ⟨rfl, b2⟩; have q2 := hS.ext b2; have k2 := KeepR.ext hrW b2; clear B2)
      | (go_at_call 43; refine Calls.mono (B3.out _ q2 k2) ?_; intro e W3 h; exact h.elim))
  | .err s', B3 =>
    go_enter Tryz.func26, Tryz.ntmps26
    go_wp2_with (first
      | (go_at_call 23; refine Calls.mono (B2.out _ hS) ?_; rintro e W2 ⟨rfl, b2⟩; have q2 := hS.ext b2; have k2 := KeepR.ext hrW b2; clear B2)
      | (go_at_call 43; refine Calls.mono (B3.out _ q2 k2) ?_; rintro e W3 ⟨rfl, b3⟩; unfold faultP))
    exact ⟨rfl, rfl, b3⟩
  | .ok ts s', B3 =>
    go_enter Tryz.func26, Tryz.ntmps26
    go_wp2_with (first
      | (go_at_call 23; refine Calls.mono (B2.out _ hS) ?_; rintro e W2 ⟨rfl, b2⟩; have q2 := hS.ext b2; have k2 := KeepR.ext hrW b2; clear B2)
      | (go_at_call 43; refine Calls.mono (B3.out _ q2 k2) ?_; rintro e W3 ⟨n3, l3, he, q3, k3⟩; obtain ⟨v3, hv⟩ : ∃ r : Nat, r = (ns.length + sizes ts - 1) := ⟨_, rfl⟩; rw [← hv] at he; subst he; have V3 : Bx _ := ⟨hv⟩; clear hv))
    go_ret
    exact ⟨n3, l3, by rw [← V3.out]; rfl, q3, k3⟩
set_option maxRecDepth 100000 in
set_option maxHeartbeats 4000000 in
theorem statement_44 (hT : RT w0 rb srcV tokV TL xs) (hK : Kinds TL) {S : List PTok → Res} (HU : RC w0 rb srcV tokV TL xs S 44 #[]) {W : World} {s : List PTok} {ns : List Nd} (hS : RSs w0 rb srcV tokV TL xs U W s ns) (hc : kd s = 44) (hne : S s ≠ .out) :
    Calls Tryz.prog 26 #[.pointer (some ⟨rb, 0, none⟩)] W (Post1 w0 rb srcV tokV TL xs U W s ns (S s)) := by
  have hrW := hS.lt
  have d28 : ((⟨(textK (kd s : Nat)).toArray⟩ : ByteArray).toList == [118, 97, 108]) = false := by rw [text_eq hK hS 28 (by decide) _ (by decide)]; exact decide_eq_false (by omega)
  have d29 : ((⟨(textK (kd s : Nat)).toArray⟩ : ByteArray).toList == [118, 97, 114]) = false := by rw [text_eq hK hS 29 (by decide) _ (by decide)]; exact decide_eq_false (by omega)
  have d18 : ((⟨(textK (kd s : Nat)).toArray⟩ : ByteArray).toList == [105, 102]) = false := by rw [text_eq hK hS 18 (by decide) _ (by decide)]; exact decide_eq_false (by omega)
  have d30 : ((⟨(textK (kd s : Nat)).toArray⟩ : ByteArray).toList == [119, 104, 105, 108, 101]) = false := by rw [text_eq hK hS 30 (by decide) _ (by decide)]; exact decide_eq_false (by omega)
  have d24 : ((⟨(textK (kd s : Nat)).toArray⟩ : ByteArray).toList == [114, 101, 116, 117, 114, 110]) = false := by rw [text_eq hK hS 24 (by decide) _ (by decide)]; exact decide_eq_false (by omega)
  have d11 : ((⟨(textK (kd s : Nat)).toArray⟩ : ByteArray).toList == [98, 101, 103, 105, 110]) = false := by rw [text_eq hK hS 11 (by decide) _ (by decide)]; exact decide_eq_false (by omega)
  have d25 : ((⟨(textK (kd s : Nat)).toArray⟩ : ByteArray).toList == [115, 101, 108, 101, 99, 116]) = false := by rw [text_eq hK hS 25 (by decide) _ (by decide)]; exact decide_eq_false (by omega)
  have d44 : ((⟨(textK (kd s : Nat)).toArray⟩ : ByteArray).toList == [123]) = true := by rw [text_eq hK hS 44 (by decide) _ (by decide)]; exact decide_eq_true hc
  have B2 : Bx (∀ W1, RSs w0 rb srcV tokV TL xs U W1 s ns → _) := ⟨fun W1 h => textS hT h⟩
  have B3 : Bx (∀ W1, RSs w0 rb srcV tokV TL xs U W1 s ns → KeepR rb W W1 → Calls Tryz.prog 44 #[.pointer (some ⟨rb, 0, none⟩)] W1 (Post1 w0 rb srcV tokV TL xs U W s ns (S s))) := ⟨fun W1 h hk => Calls.mono (HU U W1 s ns h hne) (fun e W' hp => by
    revert hp
    cases S s with
    | out => exact fun hp => hp
    | err s' => exact fun hp => hp
    | ok ts s' => exact fun ⟨a, b, c, d, k⟩ => ⟨a, b, c, d, hk.trans k⟩)⟩
  generalize (⟨(textK (kd s : Nat)).toArray⟩ : ByteArray) = tx at *
  generalize S s = res at *
  clear HU hne
  match res, B3 with
  | .out, B3 =>
    go_enter Tryz.func26, Tryz.ntmps26
    go_wp2_with (first
      | (go_at_call 23; refine Calls.mono (B2.out _ hS) ?_; rintro e W2 ⟨rfl, b2⟩; have q2 := hS.ext b2; have k2 := KeepR.ext hrW b2; clear B2)
      | (go_at_call 44; refine Calls.mono (B3.out _ q2 k2) ?_; intro e W3 h; exact h.elim))
  | .err s', B3 =>
    go_enter Tryz.func26, Tryz.ntmps26
    go_wp2_with (first
      | (go_at_call 23; refine Calls.mono (B2.out _ hS) ?_; rintro e W2 ⟨rfl, b2⟩; have q2 := hS.ext b2; have k2 := KeepR.ext hrW b2; clear B2)
      | (go_at_call 44; refine Calls.mono (B3.out _ q2 k2) ?_; rintro e W3 ⟨rfl, b3⟩; unfold faultP))
    exact ⟨rfl, rfl, b3⟩
  | .ok ts s', B3 =>
    go_enter Tryz.func26, Tryz.ntmps26
    go_wp2_with (first
      | (go_at_call 23; refine Calls.mono (B2.out _ hS) ?_; rintro e W2 ⟨rfl, b2⟩; have q2 := hS.ext b2; have k2 := KeepR.ext hrW b2; clear B2)
      | (go_at_call 44; refine Calls.mono (B3.out _ q2 k2) ?_; rintro e W3 ⟨n3, l3, he, q3, k3⟩; obtain ⟨v3, hv⟩ : ∃ r : Nat, r = (ns.length + sizes ts - 1) := ⟨_, rfl⟩; rw [← hv] at he; subst he; have V3 : Bx _ := ⟨hv⟩; clear hv))
    go_ret
    exact ⟨n3, l3, by rw [← V3.out]; rfl, q3, k3⟩
set_option maxRecDepth 100000 in
set_option maxHeartbeats 4000000 in
theorem statement_0 (hT : RT w0 rb srcV tokV TL xs) (hK : Kinds TL) {S : List PTok → Res} (HU : RC w0 rb srcV tokV TL xs S 45 #[]) {W : World} {s : List PTok} {ns : List Nd} (hS : RSs w0 rb srcV tokV TL xs U W s ns) (hc : kd s ≠ 28 ∧ kd s ≠ 29 ∧ kd s ≠ 18 ∧ kd s ≠ 30 ∧ kd s ≠ 24 ∧ kd s ≠ 11 ∧ kd s ≠ 25 ∧ kd s ≠ 44) (hne : S s ≠ .out) :
    Calls Tryz.prog 26 #[.pointer (some ⟨rb, 0, none⟩)] W (Post1 w0 rb srcV tokV TL xs U W s ns (S s)) := by
  have hrW := hS.lt
  have d28 : ((⟨(textK (kd s : Nat)).toArray⟩ : ByteArray).toList == [118, 97, 108]) = false := by rw [text_eq hK hS 28 (by decide) _ (by decide)]; exact decide_eq_false (by omega)
  have d29 : ((⟨(textK (kd s : Nat)).toArray⟩ : ByteArray).toList == [118, 97, 114]) = false := by rw [text_eq hK hS 29 (by decide) _ (by decide)]; exact decide_eq_false (by omega)
  have d18 : ((⟨(textK (kd s : Nat)).toArray⟩ : ByteArray).toList == [105, 102]) = false := by rw [text_eq hK hS 18 (by decide) _ (by decide)]; exact decide_eq_false (by omega)
  have d30 : ((⟨(textK (kd s : Nat)).toArray⟩ : ByteArray).toList == [119, 104, 105, 108, 101]) = false := by rw [text_eq hK hS 30 (by decide) _ (by decide)]; exact decide_eq_false (by omega)
  have d24 : ((⟨(textK (kd s : Nat)).toArray⟩ : ByteArray).toList == [114, 101, 116, 117, 114, 110]) = false := by rw [text_eq hK hS 24 (by decide) _ (by decide)]; exact decide_eq_false (by omega)
  have d11 : ((⟨(textK (kd s : Nat)).toArray⟩ : ByteArray).toList == [98, 101, 103, 105, 110]) = false := by rw [text_eq hK hS 11 (by decide) _ (by decide)]; exact decide_eq_false (by omega)
  have d25 : ((⟨(textK (kd s : Nat)).toArray⟩ : ByteArray).toList == [115, 101, 108, 101, 99, 116]) = false := by rw [text_eq hK hS 25 (by decide) _ (by decide)]; exact decide_eq_false (by omega)
  have d44 : ((⟨(textK (kd s : Nat)).toArray⟩ : ByteArray).toList == [123]) = false := by rw [text_eq hK hS 44 (by decide) _ (by decide)]; exact decide_eq_false (by omega)
  have B2 : Bx (∀ W1, RSs w0 rb srcV tokV TL xs U W1 s ns → _) := ⟨fun W1 h => textS hT h⟩
  have B3 : Bx (∀ W1, RSs w0 rb srcV tokV TL xs U W1 s ns → KeepR rb W W1 → Calls Tryz.prog 45 #[.pointer (some ⟨rb, 0, none⟩)] W1 (Post1 w0 rb srcV tokV TL xs U W s ns (S s))) := ⟨fun W1 h hk => Calls.mono (HU U W1 s ns h hne) (fun e W' hp => by
    revert hp
    cases S s with
    | out => exact fun hp => hp
    | err s' => exact fun hp => hp
    | ok ts s' => exact fun ⟨a, b, c, d, k⟩ => ⟨a, b, c, d, hk.trans k⟩)⟩
  generalize (⟨(textK (kd s : Nat)).toArray⟩ : ByteArray) = tx at *
  generalize S s = res at *
  clear HU hne
  match res, B3 with
  | .out, B3 =>
    go_enter Tryz.func26, Tryz.ntmps26
    go_wp2_with (first
      | (go_at_call 23; refine Calls.mono (B2.out _ hS) ?_; rintro e W2 ⟨rfl, b2⟩; have q2 := hS.ext b2; have k2 := KeepR.ext hrW b2; clear B2)
      | (go_at_call 45; refine Calls.mono (B3.out _ q2 k2) ?_; intro e W3 h; exact h.elim))
  | .err s', B3 =>
    go_enter Tryz.func26, Tryz.ntmps26
    go_wp2_with (first
      | (go_at_call 23; refine Calls.mono (B2.out _ hS) ?_; rintro e W2 ⟨rfl, b2⟩; have q2 := hS.ext b2; have k2 := KeepR.ext hrW b2; clear B2)
      | (go_at_call 45; refine Calls.mono (B3.out _ q2 k2) ?_; rintro e W3 ⟨rfl, b3⟩; unfold faultP))
    exact ⟨rfl, rfl, b3⟩
  | .ok ts s', B3 =>
    go_enter Tryz.func26, Tryz.ntmps26
    go_wp2_with (first
      | (go_at_call 23; refine Calls.mono (B2.out _ hS) ?_; rintro e W2 ⟨rfl, b2⟩; have q2 := hS.ext b2; have k2 := KeepR.ext hrW b2; clear B2)
      | (go_at_call 45; refine Calls.mono (B3.out _ q2 k2) ?_; rintro e W3 ⟨n3, l3, he, q3, k3⟩; obtain ⟨v3, hv⟩ : ∃ r : Nat, r = (ns.length + sizes ts - 1) := ⟨_, rfl⟩; rw [← hv] at he; subst he; have V3 : Bx _ := ⟨hv⟩; clear hv))
    go_ret
    exact ⟨n3, l3, by rw [← V3.out]; rfl, q3, k3⟩
set_option maxRecDepth 100000 in
set_option maxHeartbeats 4000000 in
theorem otherwise_18 (hT : RT w0 rb srcV tokV TL xs) (hK : Kinds TL) {S : List PTok → Res} (HU : RC w0 rb srcV tokV TL xs S 39 #[]) {W : World} {s : List PTok} {ns : List Nd} (hS : RSs w0 rb srcV tokV TL xs U W s ns) (hc : kd s = 18) (hne : S s ≠ .out) :
    Calls Tryz.prog 57 #[.pointer (some ⟨rb, 0, none⟩)] W (Post1 w0 rb srcV tokV TL xs U W s ns (S s)) := by
  have hrW := hS.lt
  have d18 : ((⟨(textK (kd s : Nat)).toArray⟩ : ByteArray).toList == [105, 102]) = true := by rw [text_eq hK hS 18 (by decide) _ (by decide)]; exact decide_eq_true hc
  have B2 : Bx (∀ W1, RSs w0 rb srcV tokV TL xs U W1 s ns → _) := ⟨fun W1 h => textS hT h⟩
  have B3 : Bx (∀ W1, RSs w0 rb srcV tokV TL xs U W1 s ns → KeepR rb W W1 → Calls Tryz.prog 39 #[.pointer (some ⟨rb, 0, none⟩)] W1 (Post1 w0 rb srcV tokV TL xs U W s ns (S s))) := ⟨fun W1 h hk => Calls.mono (HU U W1 s ns h hne) (fun e W' hp => by
    revert hp
    cases S s with
    | out => exact fun hp => hp
    | err s' => exact fun hp => hp
    | ok ts s' => exact fun ⟨a, b, c, d, k⟩ => ⟨a, b, c, d, hk.trans k⟩)⟩
  generalize (⟨(textK (kd s : Nat)).toArray⟩ : ByteArray) = tx at *
  generalize S s = res at *
  clear HU hne
  match res, B3 with
  | .out, B3 =>
    go_enter Tryz.func57, Tryz.ntmps57
    go_wp2_with (first
      | (go_at_call 23; refine Calls.mono (B2.out _ hS) ?_; rintro e W2 ⟨rfl, b2⟩; have q2 := hS.ext b2; have k2 := KeepR.ext hrW b2; clear B2)
      | (go_at_call 39; refine Calls.mono (B3.out _ q2 k2) ?_; intro e W3 h; exact h.elim))
  | .err s', B3 =>
    go_enter Tryz.func57, Tryz.ntmps57
    go_wp2_with (first
      | (go_at_call 23; refine Calls.mono (B2.out _ hS) ?_; rintro e W2 ⟨rfl, b2⟩; have q2 := hS.ext b2; have k2 := KeepR.ext hrW b2; clear B2)
      | (go_at_call 39; refine Calls.mono (B3.out _ q2 k2) ?_; rintro e W3 ⟨rfl, b3⟩; unfold faultP))
    exact ⟨rfl, rfl, b3⟩
  | .ok ts s', B3 =>
    go_enter Tryz.func57, Tryz.ntmps57
    go_wp2_with (first
      | (go_at_call 23; refine Calls.mono (B2.out _ hS) ?_; rintro e W2 ⟨rfl, b2⟩; have q2 := hS.ext b2; have k2 := KeepR.ext hrW b2; clear B2)
      | (go_at_call 39; refine Calls.mono (B3.out _ q2 k2) ?_; rintro e W3 ⟨n3, l3, he, q3, k3⟩; obtain ⟨v3, hv⟩ : ∃ r : Nat, r = (ns.length + sizes ts - 1) := ⟨_, rfl⟩; rw [← hv] at he; subst he; have V3 : Bx _ := ⟨hv⟩; clear hv))
    go_ret
    exact ⟨n3, l3, by rw [← V3.out]; rfl, q3, k3⟩
set_option maxRecDepth 100000 in
set_option maxHeartbeats 4000000 in
theorem otherwise_0 (hT : RT w0 rb srcV tokV TL xs) (hK : Kinds TL) {S : List PTok → Res} (HU : RC w0 rb srcV tokV TL xs S 44 #[]) {W : World} {s : List PTok} {ns : List Nd} (hS : RSs w0 rb srcV tokV TL xs U W s ns) (hc : kd s ≠ 18) (hne : S s ≠ .out) :
    Calls Tryz.prog 57 #[.pointer (some ⟨rb, 0, none⟩)] W (Post1 w0 rb srcV tokV TL xs U W s ns (S s)) := by
  have hrW := hS.lt
  have d18 : ((⟨(textK (kd s : Nat)).toArray⟩ : ByteArray).toList == [105, 102]) = false := by rw [text_eq hK hS 18 (by decide) _ (by decide)]; exact decide_eq_false (by omega)
  have B2 : Bx (∀ W1, RSs w0 rb srcV tokV TL xs U W1 s ns → _) := ⟨fun W1 h => textS hT h⟩
  have B3 : Bx (∀ W1, RSs w0 rb srcV tokV TL xs U W1 s ns → KeepR rb W W1 → Calls Tryz.prog 44 #[.pointer (some ⟨rb, 0, none⟩)] W1 (Post1 w0 rb srcV tokV TL xs U W s ns (S s))) := ⟨fun W1 h hk => Calls.mono (HU U W1 s ns h hne) (fun e W' hp => by
    revert hp
    cases S s with
    | out => exact fun hp => hp
    | err s' => exact fun hp => hp
    | ok ts s' => exact fun ⟨a, b, c, d, k⟩ => ⟨a, b, c, d, hk.trans k⟩)⟩
  generalize (⟨(textK (kd s : Nat)).toArray⟩ : ByteArray) = tx at *
  generalize S s = res at *
  clear HU hne
  match res, B3 with
  | .out, B3 =>
    go_enter Tryz.func57, Tryz.ntmps57
    go_wp2_with (first
      | (go_at_call 23; refine Calls.mono (B2.out _ hS) ?_; rintro e W2 ⟨rfl, b2⟩; have q2 := hS.ext b2; have k2 := KeepR.ext hrW b2; clear B2)
      | (go_at_call 44; refine Calls.mono (B3.out _ q2 k2) ?_; intro e W3 h; exact h.elim))
  | .err s', B3 =>
    go_enter Tryz.func57, Tryz.ntmps57
    go_wp2_with (first
      | (go_at_call 23; refine Calls.mono (B2.out _ hS) ?_; rintro e W2 ⟨rfl, b2⟩; have q2 := hS.ext b2; have k2 := KeepR.ext hrW b2; clear B2)
      | (go_at_call 44; refine Calls.mono (B3.out _ q2 k2) ?_; rintro e W3 ⟨rfl, b3⟩; unfold faultP))
    exact ⟨rfl, rfl, b3⟩
  | .ok ts s', B3 =>
    go_enter Tryz.func57, Tryz.ntmps57
    go_wp2_with (first
      | (go_at_call 23; refine Calls.mono (B2.out _ hS) ?_; rintro e W2 ⟨rfl, b2⟩; have q2 := hS.ext b2; have k2 := KeepR.ext hrW b2; clear B2)
      | (go_at_call 44; refine Calls.mono (B3.out _ q2 k2) ?_; rintro e W3 ⟨n3, l3, he, q3, k3⟩; obtain ⟨v3, hv⟩ : ∃ r : Nat, r = (ns.length + sizes ts - 1) := ⟨_, rfl⟩; rw [← hv] at he; subst he; have V3 : Bx _ := ⟨hv⟩; clear hv))
    go_ret
    exact ⟨n3, l3, by rw [← V3.out]; rfl, q3, k3⟩
end Go.Proofs.YtblhklbpcalglaaGreatDoor
