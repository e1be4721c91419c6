import Derived.Test.YtecodpdfckjalaaGreatDoorYRSim
set_option linter.unusedVariables false
set_option linter.unusedSimpArgs false
set_option maxHeartbeats 4000000
set_option maxRecDepth 100000
namespace Go.Proofs.YtecodpdfckjalaaGreatDoor
open Go.RowKit
variable {w0 : World} {rb : Nat} {ae aa : Value} {TL : List Tok} {xs : List UInt8} {U : Nat -> Prop}
theorem vk (hT : RT w0 rb ae aa TL xs) (hK : aR TL) {S : List ai -> Res} (HU : RC w0 rb ae aa TL xs S 88 #[]) {W : World} {s : List ai} {ns : List Nd} (hS : RSs w0 rb ae aa TL xs U W s ns) (hc : kd s = 28) (hne : S s ≠ .out) :
  Calls Tryz.prog 69 #[.pointer (some ⟨rb, 0, none⟩)] W (aj w0 rb ae aa TL xs U W s ns (S s)) := by
 have hrW := hS.lt
 have d28 : ((⟨(ax (kd s : Nat)).toArray⟩ : ByteArray).toList == [118, 97, 108]) = true := by rw [au hK hS 28 (by decide) _ (by decide)]; exact decide_eq_true hc
 have B2 : Bx (∀ W1, RSs w0 rb ae aa TL xs U W1 s ns -> _) := ⟨fun W1 h => dO hT h⟩
 have B3 : Bx (∀ W1, RSs w0 rb ae aa TL xs U W1 s ns -> af rb W W1 -> Calls Tryz.prog 88 #[.pointer (some ⟨rb, 0, none⟩)] W1 (aj w0 rb ae aa TL xs U W s ns (S s))) := ⟨fun W1 h hk => Calls.mono (HU U W1 s ns h hne) (fun e W' hp => by
  revert hp
  cases S s with
  | out => exact fun hp => hp
  | err s' => exact fun hp => hp
  | ok ts s' => exact fun ⟨a, b, c, d, k⟩ => ⟨a, b, c, d, hk.trans k⟩)⟩
 generalize (⟨(ax (kd s : Nat)).toArray⟩ : ByteArray) = tx at *
 generalize S s = res at *
 clear HU hne
 match res, B3 with
 | .out, B3 =>
  go_enter Tryz.func69, Tryz.ntmps69
  go_wp2_with (first
   | (go_at_call 66; refine Calls.mono (B2.out _ hS) ?_; rintro e W2 ⟨rfl, b2⟩; have q2 := hS.ext b2; have k2 := af.ext hrW b2; clear B2)
   | (go_at_call 88; refine Calls.mono (B3.out _ q2 k2) ?_; intro e W3 h; exact h.elim))
 | .err s', B3 =>
  go_enter Tryz.func69, Tryz.ntmps69
  go_wp2_with (first
   | (go_at_call 66; refine Calls.mono (B2.out _ hS) ?_; rintro e W2 ⟨rfl, b2⟩; have q2 := hS.ext b2; have k2 := af.ext hrW b2; clear B2)
   | (go_at_call 88; refine Calls.mono (B3.out _ q2 k2) ?_; rintro e W3 ⟨rfl, b3⟩; unfold ak))
  exact ⟨rfl, rfl, b3⟩
 | .ok ts s', B3 =>
  go_enter Tryz.func69, Tryz.ntmps69
  go_wp2_with (first
   | (go_at_call 66; refine Calls.mono (B2.out _ hS) ?_; rintro e W2 ⟨rfl, b2⟩; have q2 := hS.ext b2; have k2 := af.ext hrW b2; clear B2)
   | (go_at_call 88; refine Calls.mono (B3.out _ q2 k2) ?_; rintro e W3 ⟨n3, l3, he, q3, k3⟩; obtain ⟨v3, hv⟩ : ∃ r : Nat, r = (ns.length + sizes ts - 1) := ⟨_, rfl⟩; rw [← hv] at he; subst he; have V3 : Bx _ := ⟨hv⟩; clear hv))
  go_ret
  exact ⟨n3, l3, by rw [← V3.out]; rfl, q3, k3⟩
theorem vo (hT : RT w0 rb ae aa TL xs) (hK : aR TL) {S : List ai -> Res} (HU : RC w0 rb ae aa TL xs S 89 #[]) {W : World} {s : List ai} {ns : List Nd} (hS : RSs w0 rb ae aa TL xs U W s ns) (hc : kd s = 29) (hne : S s ≠ .out) :
  Calls Tryz.prog 69 #[.pointer (some ⟨rb, 0, none⟩)] W (aj w0 rb ae aa TL xs U W s ns (S s)) := by
 have hrW := hS.lt
 have d28 : ((⟨(ax (kd s : Nat)).toArray⟩ : ByteArray).toList == [118, 97, 108]) = false := by rw [au hK hS 28 (by decide) _ (by decide)]; exact decide_eq_false (by omega)
 have d29 : ((⟨(ax (kd s : Nat)).toArray⟩ : ByteArray).toList == [118, 97, 114]) = true := by rw [au hK hS 29 (by decide) _ (by decide)]; exact decide_eq_true hc
 have B2 : Bx (∀ W1, RSs w0 rb ae aa TL xs U W1 s ns -> _) := ⟨fun W1 h => dO hT h⟩
 have B3 : Bx (∀ W1, RSs w0 rb ae aa TL xs U W1 s ns -> af rb W W1 -> Calls Tryz.prog 89 #[.pointer (some ⟨rb, 0, none⟩)] W1 (aj w0 rb ae aa TL xs U W s ns (S s))) := ⟨fun W1 h hk => Calls.mono (HU U W1 s ns h hne) (fun e W' hp => by
  revert hp
  cases S s with
  | out => exact fun hp => hp
  | err s' => exact fun hp => hp
  | ok ts s' => exact fun ⟨a, b, c, d, k⟩ => ⟨a, b, c, d, hk.trans k⟩)⟩
 generalize (⟨(ax (kd s : Nat)).toArray⟩ : ByteArray) = tx at *
 generalize S s = res at *
 clear HU hne
 match res, B3 with
 | .out, B3 =>
  go_enter Tryz.func69, Tryz.ntmps69
  go_wp2_with (first
   | (go_at_call 66; refine Calls.mono (B2.out _ hS) ?_; rintro e W2 ⟨rfl, b2⟩; have q2 := hS.ext b2; have k2 := af.ext hrW b2; clear B2)
   | (go_at_call 89; refine Calls.mono (B3.out _ q2 k2) ?_; intro e W3 h; exact h.elim))
 | .err s', B3 =>
  go_enter Tryz.func69, Tryz.ntmps69
  go_wp2_with (first
   | (go_at_call 66; refine Calls.mono (B2.out _ hS) ?_; rintro e W2 ⟨rfl, b2⟩; have q2 := hS.ext b2; have k2 := af.ext hrW b2; clear B2)
   | (go_at_call 89; refine Calls.mono (B3.out _ q2 k2) ?_; rintro e W3 ⟨rfl, b3⟩; unfold ak))
  exact ⟨rfl, rfl, b3⟩
 | .ok ts s', B3 =>
  go_enter Tryz.func69, Tryz.ntmps69
  go_wp2_with (first
   | (go_at_call 66; refine Calls.mono (B2.out _ hS) ?_; rintro e W2 ⟨rfl, b2⟩; have q2 := hS.ext b2; have k2 := af.ext hrW b2; clear B2)
   | (go_at_call 89; refine Calls.mono (B3.out _ q2 k2) ?_; rintro e W3 ⟨n3, l3, he, q3, k3⟩; obtain ⟨v3, hv⟩ : ∃ r : Nat, r = (ns.length + sizes ts - 1) := ⟨_, rfl⟩; rw [← hv] at he; subst he; have V3 : Bx _ := ⟨hv⟩; clear hv))
  go_ret
  exact ⟨n3, l3, by rw [← V3.out]; rfl, q3, k3⟩
theorem vv (hT : RT w0 rb ae aa TL xs) (hK : aR TL) {S : List ai -> Res} (HU : RC w0 rb ae aa TL xs S 90 #[]) {W : World} {s : List ai} {ns : List Nd} (hS : RSs w0 rb ae aa TL xs U W s ns) (hc : kd s = 18) (hne : S s ≠ .out) :
  Calls Tryz.prog 69 #[.pointer (some ⟨rb, 0, none⟩)] W (aj w0 rb ae aa TL xs U W s ns (S s)) := by
 have hrW := hS.lt
 have d28 : ((⟨(ax (kd s : Nat)).toArray⟩ : ByteArray).toList == [118, 97, 108]) = false := by rw [au hK hS 28 (by decide) _ (by decide)]; exact decide_eq_false (by omega)
 have d29 : ((⟨(ax (kd s : Nat)).toArray⟩ : ByteArray).toList == [118, 97, 114]) = false := by rw [au hK hS 29 (by decide) _ (by decide)]; exact decide_eq_false (by omega)
 have d18 : ((⟨(ax (kd s : Nat)).toArray⟩ : ByteArray).toList == [105, 102]) = true := by rw [au hK hS 18 (by decide) _ (by decide)]; exact decide_eq_true hc
 have B2 : Bx (∀ W1, RSs w0 rb ae aa TL xs U W1 s ns -> _) := ⟨fun W1 h => dO hT h⟩
 have B3 : Bx (∀ W1, RSs w0 rb ae aa TL xs U W1 s ns -> af rb W W1 -> Calls Tryz.prog 90 #[.pointer (some ⟨rb, 0, none⟩)] W1 (aj w0 rb ae aa TL xs U W s ns (S s))) := ⟨fun W1 h hk => Calls.mono (HU U W1 s ns h hne) (fun e W' hp => by
  revert hp
  cases S s with
  | out => exact fun hp => hp
  | err s' => exact fun hp => hp
  | ok ts s' => exact fun ⟨a, b, c, d, k⟩ => ⟨a, b, c, d, hk.trans k⟩)⟩
 generalize (⟨(ax (kd s : Nat)).toArray⟩ : ByteArray) = tx at *
 generalize S s = res at *
 clear HU hne
 match res, B3 with
 | .out, B3 =>
  go_enter Tryz.func69, Tryz.ntmps69
  go_wp2_with (first
   | (go_at_call 66; refine Calls.mono (B2.out _ hS) ?_; rintro e W2 ⟨rfl, b2⟩; have q2 := hS.ext b2; have k2 := af.ext hrW b2; clear B2)
   | (go_at_call 90; refine Calls.mono (B3.out _ q2 k2) ?_; intro e W3 h; exact h.elim))
 | .err s', B3 =>
  go_enter Tryz.func69, Tryz.ntmps69
  go_wp2_with (first
   | (go_at_call 66; refine Calls.mono (B2.out _ hS) ?_; rintro e W2 ⟨rfl, b2⟩; have q2 := hS.ext b2; have k2 := af.ext hrW b2; clear B2)
   | (go_at_call 90; refine Calls.mono (B3.out _ q2 k2) ?_; rintro e W3 ⟨rfl, b3⟩; unfold ak))
  exact ⟨rfl, rfl, b3⟩
 | .ok ts s', B3 =>
  go_enter Tryz.func69, Tryz.ntmps69
  go_wp2_with (first
   | (go_at_call 66; refine Calls.mono (B2.out _ hS) ?_; rintro e W2 ⟨rfl, b2⟩; have q2 := hS.ext b2; have k2 := af.ext hrW b2; clear B2)
   | (go_at_call 90; refine Calls.mono (B3.out _ q2 k2) ?_; rintro e W3 ⟨n3, l3, he, q3, k3⟩; obtain ⟨v3, hv⟩ : ∃ r : Nat, r = (ns.length + sizes ts - 1) := ⟨_, rfl⟩; rw [← hv] at he; subst he; have V3 : Bx _ := ⟨hv⟩; clear hv))
  go_ret
  exact ⟨n3, l3, by rw [← V3.out]; rfl, q3, k3⟩
theorem vw (hT : RT w0 rb ae aa TL xs) (hK : aR TL) {S : List ai -> Res} (HU : RC w0 rb ae aa TL xs S 91 #[]) {W : World} {s : List ai} {ns : List Nd} (hS : RSs w0 rb ae aa TL xs U W s ns) (hc : kd s = 30) (hne : S s ≠ .out) :
  Calls Tryz.prog 69 #[.pointer (some ⟨rb, 0, none⟩)] W (aj w0 rb ae aa TL xs U W s ns (S s)) := by
 have hrW := hS.lt
 have d28 : ((⟨(ax (kd s : Nat)).toArray⟩ : ByteArray).toList == [118, 97, 108]) = false := by rw [au hK hS 28 (by decide) _ (by decide)]; exact decide_eq_false (by omega)
 have d29 : ((⟨(ax (kd s : Nat)).toArray⟩ : ByteArray).toList == [118, 97, 114]) = false := by rw [au hK hS 29 (by decide) _ (by decide)]; exact decide_eq_false (by omega)
 have d18 : ((⟨(ax (kd s : Nat)).toArray⟩ : ByteArray).toList == [105, 102]) = false := by rw [au hK hS 18 (by decide) _ (by decide)]; exact decide_eq_false (by omega)
 have d30 : ((⟨(ax (kd s : Nat)).toArray⟩ : ByteArray).toList == [119, 104, 105, 108, 101]) = true := by rw [au hK hS 30 (by decide) _ (by decide)]; exact decide_eq_true hc
 have B2 : Bx (∀ W1, RSs w0 rb ae aa TL xs U W1 s ns -> _) := ⟨fun W1 h => dO hT h⟩
 have B3 : Bx (∀ W1, RSs w0 rb ae aa TL xs U W1 s ns -> af rb W W1 -> Calls Tryz.prog 91 #[.pointer (some ⟨rb, 0, none⟩)] W1 (aj w0 rb ae aa TL xs U W s ns (S s))) := ⟨fun W1 h hk => Calls.mono (HU U W1 s ns h hne) (fun e W' hp => by
  revert hp
  cases S s with
  | out => exact fun hp => hp
  | err s' => exact fun hp => hp
  | ok ts s' => exact fun ⟨a, b, c, d, k⟩ => ⟨a, b, c, d, hk.trans k⟩)⟩
 generalize (⟨(ax (kd s : Nat)).toArray⟩ : ByteArray) = tx at *
 generalize S s = res at *
 clear HU hne
 match res, B3 with
 | .out, B3 =>
  go_enter Tryz.func69, Tryz.ntmps69
  go_wp2_with (first
   | (go_at_call 66; refine Calls.mono (B2.out _ hS) ?_; rintro e W2 ⟨rfl, b2⟩; have q2 := hS.ext b2; have k2 := af.ext hrW b2; clear B2)
   | (go_at_call 91; refine Calls.mono (B3.out _ q2 k2) ?_; intro e W3 h; exact h.elim))
 | .err s', B3 =>
  go_enter Tryz.func69, Tryz.ntmps69
  go_wp2_with (first
   | (go_at_call 66; refine Calls.mono (B2.out _ hS) ?_; rintro e W2 ⟨rfl, b2⟩; have q2 := hS.ext b2; have k2 := af.ext hrW b2; clear B2)
   | (go_at_call 91; refine Calls.mono (B3.out _ q2 k2) ?_; rintro e W3 ⟨rfl, b3⟩; unfold ak))
  exact ⟨rfl, rfl, b3⟩
 | .ok ts s', B3 =>
  go_enter Tryz.func69, Tryz.ntmps69
  go_wp2_with (first
   | (go_at_call 66; refine Calls.mono (B2.out _ hS) ?_; rintro e W2 ⟨rfl, b2⟩; have q2 := hS.ext b2; have k2 := af.ext hrW b2; clear B2)
   | (go_at_call 91; refine Calls.mono (B3.out _ q2 k2) ?_; rintro e W3 ⟨n3, l3, he, q3, k3⟩; obtain ⟨v3, hv⟩ : ∃ r : Nat, r = (ns.length + sizes ts - 1) := ⟨_, rfl⟩; rw [← hv] at he; subst he; have V3 : Bx _ := ⟨hv⟩; clear hv))
  go_ret
  exact ⟨n3, l3, by rw [← V3.out]; rfl, q3, k3⟩
theorem vz (hT : RT w0 rb ae aa TL xs) (hK : aR TL) {S : List ai -> Res} (HU : RC w0 rb ae aa TL xs S 92 #[]) {W : World} {s : List ai} {ns : List Nd} (hS : RSs w0 rb ae aa TL xs U W s ns) (hc : kd s = 24) (hne : S s ≠ .out) :
  Calls Tryz.prog 69 #[.pointer (some ⟨rb, 0, none⟩)] W (aj w0 rb ae aa TL xs U W s ns (S s)) := by
 have hrW := hS.lt
 have d28 : ((⟨(ax (kd s : Nat)).toArray⟩ : ByteArray).toList == [118, 97, 108]) = false := by rw [au hK hS 28 (by decide) _ (by decide)]; exact decide_eq_false (by omega)
 have d29 : ((⟨(ax (kd s : Nat)).toArray⟩ : ByteArray).toList == [118, 97, 114]) = false := by rw [au hK hS 29 (by decide) _ (by decide)]; exact decide_eq_false (by omega)
 have d18 : ((⟨(ax (kd s : Nat)).toArray⟩ : ByteArray).toList == [105, 102]) = false := by rw [au hK hS 18 (by decide) _ (by decide)]; exact decide_eq_false (by omega)
 have d30 : ((⟨(ax (kd s : Nat)).toArray⟩ : ByteArray).toList == [119, 104, 105, 108, 101]) = false := by rw [au hK hS 30 (by decide) _ (by decide)]; exact decide_eq_false (by omega)
 have d24 : ((⟨(ax (kd s : Nat)).toArray⟩ : ByteArray).toList == [114, 101, 116, 117, 114, 110]) = true := by rw [au hK hS 24 (by decide) _ (by decide)]; exact decide_eq_true hc
 have B2 : Bx (∀ W1, RSs w0 rb ae aa TL xs U W1 s ns -> _) := ⟨fun W1 h => dO hT h⟩
 have B3 : Bx (∀ W1, RSs w0 rb ae aa TL xs U W1 s ns -> af rb W W1 -> Calls Tryz.prog 92 #[.pointer (some ⟨rb, 0, none⟩)] W1 (aj w0 rb ae aa TL xs U W s ns (S s))) := ⟨fun W1 h hk => Calls.mono (HU U W1 s ns h hne) (fun e W' hp => by
  revert hp
  cases S s with
  | out => exact fun hp => hp
  | err s' => exact fun hp => hp
  | ok ts s' => exact fun ⟨a, b, c, d, k⟩ => ⟨a, b, c, d, hk.trans k⟩)⟩
 generalize (⟨(ax (kd s : Nat)).toArray⟩ : ByteArray) = tx at *
 generalize S s = res at *
 clear HU hne
 match res, B3 with
 | .out, B3 =>
  go_enter Tryz.func69, Tryz.ntmps69
  go_wp2_with (first
   | (go_at_call 66; refine Calls.mono (B2.out _ hS) ?_; rintro e W2 ⟨rfl, b2⟩; have q2 := hS.ext b2; have k2 := af.ext hrW b2; clear B2)
   | (go_at_call 92; refine Calls.mono (B3.out _ q2 k2) ?_; intro e W3 h; exact h.elim))
 | .err s', B3 =>
  go_enter Tryz.func69, Tryz.ntmps69
  go_wp2_with (first
   | (go_at_call 66; refine Calls.mono (B2.out _ hS) ?_; rintro e W2 ⟨rfl, b2⟩; have q2 := hS.ext b2; have k2 := af.ext hrW b2; clear B2)
   | (go_at_call 92; refine Calls.mono (B3.out _ q2 k2) ?_; rintro e W3 ⟨rfl, b3⟩; unfold ak))
  exact ⟨rfl, rfl, b3⟩
 | .ok ts s', B3 =>
  go_enter Tryz.func69, Tryz.ntmps69
  go_wp2_with (first
   | (go_at_call 66; refine Calls.mono (B2.out _ hS) ?_; rintro e W2 ⟨rfl, b2⟩; have q2 := hS.ext b2; have k2 := af.ext hrW b2; clear B2)
   | (go_at_call 92; refine Calls.mono (B3.out _ q2 k2) ?_; rintro e W3 ⟨n3, l3, he, q3, k3⟩; obtain ⟨v3, hv⟩ : ∃ r : Nat, r = (ns.length + sizes ts - 1) := ⟨_, rfl⟩; rw [← hv] at he; subst he; have V3 : Bx _ := ⟨hv⟩; clear hv))
  go_ret
  exact ⟨n3, l3, by rw [← V3.out]; rfl, q3, k3⟩
theorem vB (hT : RT w0 rb ae aa TL xs) (hK : aR TL) {S : List ai -> Res} (HU : RC w0 rb ae aa TL xs S 93 #[]) {W : World} {s : List ai} {ns : List Nd} (hS : RSs w0 rb ae aa TL xs U W s ns) (hc : kd s = 11) (hne : S s ≠ .out) :
  Calls Tryz.prog 69 #[.pointer (some ⟨rb, 0, none⟩)] W (aj w0 rb ae aa TL xs U W s ns (S s)) := by
 have hrW := hS.lt
 have d28 : ((⟨(ax (kd s : Nat)).toArray⟩ : ByteArray).toList == [118, 97, 108]) = false := by rw [au hK hS 28 (by decide) _ (by decide)]; exact decide_eq_false (by omega)
 have d29 : ((⟨(ax (kd s : Nat)).toArray⟩ : ByteArray).toList == [118, 97, 114]) = false := by rw [au hK hS 29 (by decide) _ (by decide)]; exact decide_eq_false (by omega)
 have d18 : ((⟨(ax (kd s : Nat)).toArray⟩ : ByteArray).toList == [105, 102]) = false := by rw [au hK hS 18 (by decide) _ (by decide)]; exact decide_eq_false (by omega)
 have d30 : ((⟨(ax (kd s : Nat)).toArray⟩ : ByteArray).toList == [119, 104, 105, 108, 101]) = false := by rw [au hK hS 30 (by decide) _ (by decide)]; exact decide_eq_false (by omega)
 have d24 : ((⟨(ax (kd s : Nat)).toArray⟩ : ByteArray).toList == [114, 101, 116, 117, 114, 110]) = false := by rw [au hK hS 24 (by decide) _ (by decide)]; exact decide_eq_false (by omega)
 have d11 : ((⟨(ax (kd s : Nat)).toArray⟩ : ByteArray).toList == [98, 101, 103, 105, 110]) = true := by rw [au hK hS 11 (by decide) _ (by decide)]; exact decide_eq_true hc
 have B2 : Bx (∀ W1, RSs w0 rb ae aa TL xs U W1 s ns -> _) := ⟨fun W1 h => dO hT h⟩
 have B3 : Bx (∀ W1, RSs w0 rb ae aa TL xs U W1 s ns -> af rb W W1 -> Calls Tryz.prog 93 #[.pointer (some ⟨rb, 0, none⟩)] W1 (aj w0 rb ae aa TL xs U W s ns (S s))) := ⟨fun W1 h hk => Calls.mono (HU U W1 s ns h hne) (fun e W' hp => by
  revert hp
  cases S s with
  | out => exact fun hp => hp
  | err s' => exact fun hp => hp
  | ok ts s' => exact fun ⟨a, b, c, d, k⟩ => ⟨a, b, c, d, hk.trans k⟩)⟩
 generalize (⟨(ax (kd s : Nat)).toArray⟩ : ByteArray) = tx at *
 generalize S s = res at *
 clear HU hne
 match res, B3 with
 | .out, B3 =>
  go_enter Tryz.func69, Tryz.ntmps69
  go_wp2_with (first
   | (go_at_call 66; refine Calls.mono (B2.out _ hS) ?_; rintro e W2 ⟨rfl, b2⟩; have q2 := hS.ext b2; have k2 := af.ext hrW b2; clear B2)
   | (go_at_call 93; refine Calls.mono (B3.out _ q2 k2) ?_; intro e W3 h; exact h.elim))
 | .err s', B3 =>
  go_enter Tryz.func69, Tryz.ntmps69
  go_wp2_with (first
   | (go_at_call 66; refine Calls.mono (B2.out _ hS) ?_; rintro e W2 ⟨rfl, b2⟩; have q2 := hS.ext b2; have k2 := af.ext hrW b2; clear B2)
   | (go_at_call 93; refine Calls.mono (B3.out _ q2 k2) ?_; rintro e W3 ⟨rfl, b3⟩; unfold ak))
  exact ⟨rfl, rfl, b3⟩
 | .ok ts s', B3 =>
  go_enter Tryz.func69, Tryz.ntmps69
  go_wp2_with (first
   | (go_at_call 66; refine Calls.mono (B2.out _ hS) ?_; rintro e W2 ⟨rfl, b2⟩; have q2 := hS.ext b2; have k2 := af.ext hrW b2; clear B2)
   | (go_at_call 93; refine Calls.mono (B3.out _ q2 k2) ?_; rintro e W3 ⟨n3, l3, he, q3, k3⟩; obtain ⟨v3, hv⟩ : ∃ r : Nat, r = (ns.length + sizes ts - 1) := ⟨_, rfl⟩; rw [← hv] at he; subst he; have V3 : Bx _ := ⟨hv⟩; clear hv))
  go_ret
  exact ⟨n3, l3, by rw [← V3.out]; rfl, q3, k3⟩
theorem vC (hT : RT w0 rb ae aa TL xs) (hK : aR TL) {S : List ai -> Res} (HU : RC w0 rb ae aa TL xs S 94 #[]) {W : World} {s : List ai} {ns : List Nd} (hS : RSs w0 rb ae aa TL xs U W s ns) (hc : kd s = 25) (hne : S s ≠ .out) :
  Calls Tryz.prog 69 #[.pointer (some ⟨rb, 0, none⟩)] W (aj w0 rb ae aa TL xs U W s ns (S s)) := by
 have hrW := hS.lt
 have d28 : ((⟨(ax (kd s : Nat)).toArray⟩ : ByteArray).toList == [118, 97, 108]) = false := by rw [au hK hS 28 (by decide) _ (by decide)]; exact decide_eq_false (by omega)
 have d29 : ((⟨(ax (kd s : Nat)).toArray⟩ : ByteArray).toList == [118, 97, 114]) = false := by rw [au hK hS 29 (by decide) _ (by decide)]; exact decide_eq_false (by omega)
 have d18 : ((⟨(ax (kd s : Nat)).toArray⟩ : ByteArray).toList == [105, 102]) = false := by rw [au hK hS 18 (by decide) _ (by decide)]; exact decide_eq_false (by omega)
 have d30 : ((⟨(ax (kd s : Nat)).toArray⟩ : ByteArray).toList == [119, 104, 105, 108, 101]) = false := by rw [au hK hS 30 (by decide) _ (by decide)]; exact decide_eq_false (by omega)
 have d24 : ((⟨(ax (kd s : Nat)).toArray⟩ : ByteArray).toList == [114, 101, 116, 117, 114, 110]) = false := by rw [au hK hS 24 (by decide) _ (by decide)]; exact decide_eq_false (by omega)
 have d11 : ((⟨(ax (kd s : Nat)).toArray⟩ : ByteArray).toList == [98, 101, 103, 105, 110]) = false := by rw [au hK hS 11 (by decide) _ (by decide)]; exact decide_eq_false (by omega)
 have d25 : ((⟨(ax (kd s : Nat)).toArray⟩ : ByteArray).toList == [115, 101, 108, 101, 99, 116]) = true := by rw [au hK hS 25 (by decide) _ (by decide)]; exact decide_eq_true hc
 have B2 : Bx (∀ W1, RSs w0 rb ae aa TL xs U W1 s ns -> _) := ⟨fun W1 h => dO hT h⟩
 have B3 : Bx (∀ W1, RSs w0 rb ae aa TL xs U W1 s ns -> af rb W W1 -> Calls Tryz.prog 94 #[.pointer (some ⟨rb, 0, none⟩)] W1 (aj w0 rb ae aa TL xs U W s ns (S s))) := ⟨fun W1 h hk => Calls.mono (HU U W1 s ns h hne) (fun e W' hp => by
  revert hp
  cases S s with
  | out => exact fun hp => hp
  | err s' => exact fun hp => hp
  | ok ts s' => exact fun ⟨a, b, c, d, k⟩ => ⟨a, b, c, d, hk.trans k⟩)⟩
 generalize (⟨(ax (kd s : Nat)).toArray⟩ : ByteArray) = tx at *
 generalize S s = res at *
 clear HU hne
 match res, B3 with
 | .out, B3 =>
  go_enter Tryz.func69, Tryz.ntmps69
  go_wp2_with (first
   | (go_at_call 66; refine Calls.mono (B2.out _ hS) ?_; rintro e W2 ⟨rfl, b2⟩; have q2 := hS.ext b2; have k2 := af.ext hrW b2; clear B2)
   | (go_at_call 94; refine Calls.mono (B3.out _ q2 k2) ?_; intro e W3 h; exact h.elim))
 | .err s', B3 =>
  go_enter Tryz.func69, Tryz.ntmps69
  go_wp2_with (first
   | (go_at_call 66; refine Calls.mono (B2.out _ hS) ?_; rintro e W2 ⟨rfl, b2⟩; have q2 := hS.ext b2; have k2 := af.ext hrW b2; clear B2)
   | (go_at_call 94; refine Calls.mono (B3.out _ q2 k2) ?_; rintro e W3 ⟨rfl, b3⟩; unfold ak))
  exact ⟨rfl, rfl, b3⟩
 | .ok ts s', B3 =>
  go_enter Tryz.func69, Tryz.ntmps69
  go_wp2_with (first
   | (go_at_call 66; refine Calls.mono (B2.out _ hS) ?_; rintro e W2 ⟨rfl, b2⟩; have q2 := hS.ext b2; have k2 := af.ext hrW b2; clear B2)
   | (go_at_call 94; refine Calls.mono (B3.out _ q2 k2) ?_; rintro e W3 ⟨n3, l3, he, q3, k3⟩; obtain ⟨v3, hv⟩ : ∃ r : Nat, r = (ns.length + sizes ts - 1) := ⟨_, rfl⟩; rw [← hv] at he; subst he; have V3 : Bx _ := ⟨hv⟩; clear hv))
  go_ret
  exact ⟨n3, l3, by rw [← V3.out]; rfl, q3, k3⟩
theorem vD (hT : RT w0 rb ae aa TL xs) (hK : aR TL) {S : List ai -> Res} (HU : RC w0 rb ae aa TL xs S 95 #[]) {W : World} {s : List ai} {ns : List Nd} (hS : RSs w0 rb ae aa TL xs U W s ns) (hc : kd s = 44) (hne : S s ≠ .out) :
  Calls Tryz.prog 69 #[.pointer (some ⟨rb, 0, none⟩)] W (aj w0 rb ae aa TL xs U W s ns (S s)) := by
 have hrW := hS.lt
 have d28 : ((⟨(ax (kd s : Nat)).toArray⟩ : ByteArray).toList == [118, 97, 108]) = false := by rw [au hK hS 28 (by decide) _ (by decide)]; exact decide_eq_false (by omega)
 have d29 : ((⟨(ax (kd s : Nat)).toArray⟩ : ByteArray).toList == [118, 97, 114]) = false := by rw [au hK hS 29 (by decide) _ (by decide)]; exact decide_eq_false (by omega)
 have d18 : ((⟨(ax (kd s : Nat)).toArray⟩ : ByteArray).toList == [105, 102]) = false := by rw [au hK hS 18 (by decide) _ (by decide)]; exact decide_eq_false (by omega)
 have d30 : ((⟨(ax (kd s : Nat)).toArray⟩ : ByteArray).toList == [119, 104, 105, 108, 101]) = false := by rw [au hK hS 30 (by decide) _ (by decide)]; exact decide_eq_false (by omega)
 have d24 : ((⟨(ax (kd s : Nat)).toArray⟩ : ByteArray).toList == [114, 101, 116, 117, 114, 110]) = false := by rw [au hK hS 24 (by decide) _ (by decide)]; exact decide_eq_false (by omega)
 have d11 : ((⟨(ax (kd s : Nat)).toArray⟩ : ByteArray).toList == [98, 101, 103, 105, 110]) = false := by rw [au hK hS 11 (by decide) _ (by decide)]; exact decide_eq_false (by omega)
 have d25 : ((⟨(ax (kd s : Nat)).toArray⟩ : ByteArray).toList == [115, 101, 108, 101, 99, 116]) = false := by rw [au hK hS 25 (by decide) _ (by decide)]; exact decide_eq_false (by omega)
 have d44 : ((⟨(ax (kd s : Nat)).toArray⟩ : ByteArray).toList == [123]) = true := by rw [au hK hS 44 (by decide) _ (by decide)]; exact decide_eq_true hc
 have B2 : Bx (∀ W1, RSs w0 rb ae aa TL xs U W1 s ns -> _) := ⟨fun W1 h => dO hT h⟩
 have B3 : Bx (∀ W1, RSs w0 rb ae aa TL xs U W1 s ns -> af rb W W1 -> Calls Tryz.prog 95 #[.pointer (some ⟨rb, 0, none⟩)] W1 (aj w0 rb ae aa TL xs U W s ns (S s))) := ⟨fun W1 h hk => Calls.mono (HU U W1 s ns h hne) (fun e W' hp => by
  revert hp
  cases S s with
  | out => exact fun hp => hp
  | err s' => exact fun hp => hp
  | ok ts s' => exact fun ⟨a, b, c, d, k⟩ => ⟨a, b, c, d, hk.trans k⟩)⟩
 generalize (⟨(ax (kd s : Nat)).toArray⟩ : ByteArray) = tx at *
 generalize S s = res at *
 clear HU hne
 match res, B3 with
 | .out, B3 =>
  go_enter Tryz.func69, Tryz.ntmps69
  go_wp2_with (first
   | (go_at_call 66; refine Calls.mono (B2.out _ hS) ?_; rintro e W2 ⟨rfl, b2⟩; have q2 := hS.ext b2; have k2 := af.ext hrW b2; clear B2)
   | (go_at_call 95; refine Calls.mono (B3.out _ q2 k2) ?_; intro e W3 h; exact h.elim))
 | .err s', B3 =>
  go_enter Tryz.func69, Tryz.ntmps69
  go_wp2_with (first
   | (go_at_call 66; refine Calls.mono (B2.out _ hS) ?_; rintro e W2 ⟨rfl, b2⟩; have q2 := hS.ext b2; have k2 := af.ext hrW b2; clear B2)
   | (go_at_call 95; refine Calls.mono (B3.out _ q2 k2) ?_; rintro e W3 ⟨rfl, b3⟩; unfold ak))
  exact ⟨rfl, rfl, b3⟩
 | .ok ts s', B3 =>
  go_enter Tryz.func69, Tryz.ntmps69
  go_wp2_with (first
   | (go_at_call 66; refine Calls.mono (B2.out _ hS) ?_; rintro e W2 ⟨rfl, b2⟩; have q2 := hS.ext b2; have k2 := af.ext hrW b2; clear B2)
   | (go_at_call 95; refine Calls.mono (B3.out _ q2 k2) ?_; rintro e W3 ⟨n3, l3, he, q3, k3⟩; obtain ⟨v3, hv⟩ : ∃ r : Nat, r = (ns.length + sizes ts - 1) := ⟨_, rfl⟩; rw [← hv] at he; subst he; have V3 : Bx _ := ⟨hv⟩; clear hv))
  go_ret
  exact ⟨n3, l3, by rw [← V3.out]; rfl, q3, k3⟩
theorem wX (hT : RT w0 rb ae aa TL xs) (hK : aR TL) {S : List ai -> Res} (HU : RC w0 rb ae aa TL xs S 96 #[]) {W : World} {s : List ai} {ns : List Nd} (hS : RSs w0 rb ae aa TL xs U W s ns) (hc : kd s ≠ 28 /\ kd s ≠ 29 /\ kd s ≠ 18 /\ kd s ≠ 30 /\ kd s ≠ 24 /\ kd s ≠ 11 /\ kd s ≠ 25 /\ kd s ≠ 44) (hne : S s ≠ .out) :
  Calls Tryz.prog 69 #[.pointer (some ⟨rb, 0, none⟩)] W (aj w0 rb ae aa TL xs U W s ns (S s)) := by
 have hrW := hS.lt
 have d28 : ((⟨(ax (kd s : Nat)).toArray⟩ : ByteArray).toList == [118, 97, 108]) = false := by rw [au hK hS 28 (by decide) _ (by decide)]; exact decide_eq_false (by omega)
 have d29 : ((⟨(ax (kd s : Nat)).toArray⟩ : ByteArray).toList == [118, 97, 114]) = false := by rw [au hK hS 29 (by decide) _ (by decide)]; exact decide_eq_false (by omega)
 have d18 : ((⟨(ax (kd s : Nat)).toArray⟩ : ByteArray).toList == [105, 102]) = false := by rw [au hK hS 18 (by decide) _ (by decide)]; exact decide_eq_false (by omega)
 have d30 : ((⟨(ax (kd s : Nat)).toArray⟩ : ByteArray).toList == [119, 104, 105, 108, 101]) = false := by rw [au hK hS 30 (by decide) _ (by decide)]; exact decide_eq_false (by omega)
 have d24 : ((⟨(ax (kd s : Nat)).toArray⟩ : ByteArray).toList == [114, 101, 116, 117, 114, 110]) = false := by rw [au hK hS 24 (by decide) _ (by decide)]; exact decide_eq_false (by omega)
 have d11 : ((⟨(ax (kd s : Nat)).toArray⟩ : ByteArray).toList == [98, 101, 103, 105, 110]) = false := by rw [au hK hS 11 (by decide) _ (by decide)]; exact decide_eq_false (by omega)
 have d25 : ((⟨(ax (kd s : Nat)).toArray⟩ : ByteArray).toList == [115, 101, 108, 101, 99, 116]) = false := by rw [au hK hS 25 (by decide) _ (by decide)]; exact decide_eq_false (by omega)
 have d44 : ((⟨(ax (kd s : Nat)).toArray⟩ : ByteArray).toList == [123]) = false := by rw [au hK hS 44 (by decide) _ (by decide)]; exact decide_eq_false (by omega)
 have B2 : Bx (∀ W1, RSs w0 rb ae aa TL xs U W1 s ns -> _) := ⟨fun W1 h => dO hT h⟩
 have B3 : Bx (∀ W1, RSs w0 rb ae aa TL xs U W1 s ns -> af rb W W1 -> Calls Tryz.prog 96 #[.pointer (some ⟨rb, 0, none⟩)] W1 (aj w0 rb ae aa TL xs U W s ns (S s))) := ⟨fun W1 h hk => Calls.mono (HU U W1 s ns h hne) (fun e W' hp => by
  revert hp
  cases S s with
  | out => exact fun hp => hp
  | err s' => exact fun hp => hp
  | ok ts s' => exact fun ⟨a, b, c, d, k⟩ => ⟨a, b, c, d, hk.trans k⟩)⟩
 generalize (⟨(ax (kd s : Nat)).toArray⟩ : ByteArray) = tx at *
 generalize S s = res at *
 clear HU hne
 match res, B3 with
 | .out, B3 =>
  go_enter Tryz.func69, Tryz.ntmps69
  go_wp2_with (first
   | (go_at_call 66; refine Calls.mono (B2.out _ hS) ?_; rintro e W2 ⟨rfl, b2⟩; have q2 := hS.ext b2; have k2 := af.ext hrW b2; clear B2)
   | (go_at_call 96; refine Calls.mono (B3.out _ q2 k2) ?_; intro e W3 h; exact h.elim))
 | .err s', B3 =>
  go_enter Tryz.func69, Tryz.ntmps69
  go_wp2_with (first
   | (go_at_call 66; refine Calls.mono (B2.out _ hS) ?_; rintro e W2 ⟨rfl, b2⟩; have q2 := hS.ext b2; have k2 := af.ext hrW b2; clear B2)
   | (go_at_call 96; refine Calls.mono (B3.out _ q2 k2) ?_; rintro e W3 ⟨rfl, b3⟩; unfold ak))
  exact ⟨rfl, rfl, b3⟩
 | .ok ts s', B3 =>
  go_enter Tryz.func69, Tryz.ntmps69
  go_wp2_with (first
   | (go_at_call 66; refine Calls.mono (B2.out _ hS) ?_; rintro e W2 ⟨rfl, b2⟩; have q2 := hS.ext b2; have k2 := af.ext hrW b2; clear B2)
   | (go_at_call 96; refine Calls.mono (B3.out _ q2 k2) ?_; rintro e W3 ⟨n3, l3, he, q3, k3⟩; obtain ⟨v3, hv⟩ : ∃ r : Nat, r = (ns.length + sizes ts - 1) := ⟨_, rfl⟩; rw [← hv] at he; subst he; have V3 : Bx _ := ⟨hv⟩; clear hv))
  go_ret
  exact ⟨n3, l3, by rw [← V3.out]; rfl, q3, k3⟩
theorem vE (hT : RT w0 rb ae aa TL xs) (hK : aR TL) {S : List ai -> Res} (HU : RC w0 rb ae aa TL xs S 90 #[]) {W : World} {s : List ai} {ns : List Nd} (hS : RSs w0 rb ae aa TL xs U W s ns) (hc : kd s = 18) (hne : S s ≠ .out) :
  Calls Tryz.prog 110 #[.pointer (some ⟨rb, 0, none⟩)] W (aj w0 rb ae aa TL xs U W s ns (S s)) := by
 have hrW := hS.lt
 have d18 : ((⟨(ax (kd s : Nat)).toArray⟩ : ByteArray).toList == [105, 102]) = true := by rw [au hK hS 18 (by decide) _ (by decide)]; exact decide_eq_true hc
 have B2 : Bx (∀ W1, RSs w0 rb ae aa TL xs U W1 s ns -> _) := ⟨fun W1 h => dO hT h⟩
 have B3 : Bx (∀ W1, RSs w0 rb ae aa TL xs U W1 s ns -> af rb W W1 -> Calls Tryz.prog 90 #[.pointer (some ⟨rb, 0, none⟩)] W1 (aj w0 rb ae aa TL xs U W s ns (S s))) := ⟨fun W1 h hk => Calls.mono (HU U W1 s ns h hne) (fun e W' hp => by
  revert hp
  cases S s with
  | out => exact fun hp => hp
  | err s' => exact fun hp => hp
  | ok ts s' => exact fun ⟨a, b, c, d, k⟩ => ⟨a, b, c, d, hk.trans k⟩)⟩
 generalize (⟨(ax (kd s : Nat)).toArray⟩ : ByteArray) = tx at *
 generalize S s = res at *
 clear HU hne
 match res, B3 with
 | .out, B3 =>
  go_enter Tryz.func110, Tryz.ntmps110
  go_wp2_with (first
   | (go_at_call 66; refine Calls.mono (B2.out _ hS) ?_; rintro e W2 ⟨rfl, b2⟩; have q2 := hS.ext b2; have k2 := af.ext hrW b2; clear B2)
   | (go_at_call 90; refine Calls.mono (B3.out _ q2 k2) ?_; intro e W3 h; exact h.elim))
 | .err s', B3 =>
  go_enter Tryz.func110, Tryz.ntmps110
  go_wp2_with (first
   | (go_at_call 66; refine Calls.mono (B2.out _ hS) ?_; rintro e W2 ⟨rfl, b2⟩; have q2 := hS.ext b2; have k2 := af.ext hrW b2; clear B2)
   | (go_at_call 90; refine Calls.mono (B3.out _ q2 k2) ?_; rintro e W3 ⟨rfl, b3⟩; unfold ak))
  exact ⟨rfl, rfl, b3⟩
 | .ok ts s', B3 =>
  go_enter Tryz.func110, Tryz.ntmps110
  go_wp2_with (first
   | (go_at_call 66; refine Calls.mono (B2.out _ hS) ?_; rintro e W2 ⟨rfl, b2⟩; have q2 := hS.ext b2; have k2 := af.ext hrW b2; clear B2)
   | (go_at_call 90; refine Calls.mono (B3.out _ q2 k2) ?_; rintro e W3 ⟨n3, l3, he, q3, k3⟩; obtain ⟨v3, hv⟩ : ∃ r : Nat, r = (ns.length + sizes ts - 1) := ⟨_, rfl⟩; rw [← hv] at he; subst he; have V3 : Bx _ := ⟨hv⟩; clear hv))
  go_ret
  exact ⟨n3, l3, by rw [← V3.out]; rfl, q3, k3⟩
theorem wY (hT : RT w0 rb ae aa TL xs) (hK : aR TL) {S : List ai -> Res} (HU : RC w0 rb ae aa TL xs S 95 #[]) {W : World} {s : List ai} {ns : List Nd} (hS : RSs w0 rb ae aa TL xs U W s ns) (hc : kd s ≠ 18) (hne : S s ≠ .out) :
  Calls Tryz.prog 110 #[.pointer (some ⟨rb, 0, none⟩)] W (aj w0 rb ae aa TL xs U W s ns (S s)) := by
 have hrW := hS.lt
 have d18 : ((⟨(ax (kd s : Nat)).toArray⟩ : ByteArray).toList == [105, 102]) = false := by rw [au hK hS 18 (by decide) _ (by decide)]; exact decide_eq_false (by omega)
 have B2 : Bx (∀ W1, RSs w0 rb ae aa TL xs U W1 s ns -> _) := ⟨fun W1 h => dO hT h⟩
 have B3 : Bx (∀ W1, RSs w0 rb ae aa TL xs U W1 s ns -> af rb W W1 -> Calls Tryz.prog 95 #[.pointer (some ⟨rb, 0, none⟩)] W1 (aj w0 rb ae aa TL xs U W s ns (S s))) := ⟨fun W1 h hk => Calls.mono (HU U W1 s ns h hne) (fun e W' hp => by
  revert hp
  cases S s with
  | out => exact fun hp => hp
  | err s' => exact fun hp => hp
  | ok ts s' => exact fun ⟨a, b, c, d, k⟩ => ⟨a, b, c, d, hk.trans k⟩)⟩
 generalize (⟨(ax (kd s : Nat)).toArray⟩ : ByteArray) = tx at *
 generalize S s = res at *
 clear HU hne
 match res, B3 with
 | .out, B3 =>
  go_enter Tryz.func110, Tryz.ntmps110
  go_wp2_with (first
   | (go_at_call 66; refine Calls.mono (B2.out _ hS) ?_; rintro e W2 ⟨rfl, b2⟩; have q2 := hS.ext b2; have k2 := af.ext hrW b2; clear B2)
   | (go_at_call 95; refine Calls.mono (B3.out _ q2 k2) ?_; intro e W3 h; exact h.elim))
 | .err s', B3 =>
  go_enter Tryz.func110, Tryz.ntmps110
  go_wp2_with (first
   | (go_at_call 66; refine Calls.mono (B2.out _ hS) ?_; rintro e W2 ⟨rfl, b2⟩; have q2 := hS.ext b2; have k2 := af.ext hrW b2; clear B2)
   | (go_at_call 95; refine Calls.mono (B3.out _ q2 k2) ?_; rintro e W3 ⟨rfl, b3⟩; unfold ak))
  exact ⟨rfl, rfl, b3⟩
 | .ok ts s', B3 =>
  go_enter Tryz.func110, Tryz.ntmps110
  go_wp2_with (first
   | (go_at_call 66; refine Calls.mono (B2.out _ hS) ?_; rintro e W2 ⟨rfl, b2⟩; have q2 := hS.ext b2; have k2 := af.ext hrW b2; clear B2)
   | (go_at_call 95; refine Calls.mono (B3.out _ q2 k2) ?_; rintro e W3 ⟨n3, l3, he, q3, k3⟩; obtain ⟨v3, hv⟩ : ∃ r : Nat, r = (ns.length + sizes ts - 1) := ⟨_, rfl⟩; rw [← hv] at he; subst he; have V3 : Bx _ := ⟨hv⟩; clear hv))
  go_ret
  exact ⟨n3, l3, by rw [← V3.out]; rfl, q3, k3⟩
end Go.Proofs.YtecodpdfckjalaaGreatDoor
namespace Go.Proofs.YtecodpdfckjalaaGreatDoor
open Go.RowKit
variable {w0 : World} {rb : Nat} {ae aa : Value} {TL : List Tok} {xs : List UInt8} {U : Nat -> Prop}
theorem JJ (hT : RT w0 rb ae aa TL xs) (hK : aR TL) {S : List ai -> Res} (HU : RC w0 rb ae aa TL xs S 105 #[.int .i64 4, .string ⟨#[97, 114, 114, 97, 121]⟩]) {W : World} {s : List ai} {ns : List Nd} (hS : RSs w0 rb ae aa TL xs U W s ns) (hc : kd s = 10) (hne : S s ≠ .out) :
  Calls Tryz.prog 87 #[.pointer (some ⟨rb, 0, none⟩)] W (aj w0 rb ae aa TL xs U W s ns (S s)) := by
 have hrW := hS.lt
 have d19 : ((⟨(ax (kd s : Nat)).toArray⟩ : ByteArray).toList == [105, 110, 116]) = false := by rw [au hK hS 19 (by decide) _ (by decide)]; exact decide_eq_false (by omega)
 have d12 : ((⟨(ax (kd s : Nat)).toArray⟩ : ByteArray).toList == [98, 111, 111, 108]) = false := by rw [au hK hS 12 (by decide) _ (by decide)]; exact decide_eq_false (by omega)
 have d10 : ((⟨(ax (kd s : Nat)).toArray⟩ : ByteArray).toList == [97, 114, 114, 97, 121]) = true := by rw [au hK hS 10 (by decide) _ (by decide)]; exact decide_eq_true hc
 have B1 : Bx _ := ⟨eP hT hS⟩
 have hf1 := dC
 have B2 : Bx (∀ W1, RSs w0 rb ae aa TL xs U W1 s ns -> _) := ⟨fun W1 h => dO hT h⟩
 have B3 : Bx (∀ W1, RSs w0 rb ae aa TL xs U W1 s ns -> af rb W W1 -> Calls Tryz.prog 105 #[.pointer (some ⟨rb, 0, none⟩), .int .i64 4, .string ⟨#[97, 114, 114, 97, 121]⟩] W1 (aj w0 rb ae aa TL xs U W s ns (S s))) := ⟨fun W1 h hk => Calls.mono (HU U W1 s ns h hne) (fun e W' hp => by
  revert hp
  cases S s with
  | out => exact fun hp => hp
  | err s' => exact fun hp => hp
  | ok ts s' => exact fun ⟨a, b, c, d, k⟩ => ⟨a, b, c, d, hk.trans k⟩)⟩
 generalize (⟨(ax (kd s : Nat)).toArray⟩ : ByteArray) = tx at *
 generalize S s = res at *
 clear HU hne
 match res, B3 with
 | .out, B3 =>
  go_enter Tryz.func87, Tryz.ntmps87
  go_wp2_with (first
   | (go_at_call 84; refine Calls.mono B1.out ?_; rintro e W1 ⟨t1, rfl, b1⟩; have q1 := hS.ext b1; have k1 := af.ext hrW b1; clear B1)
   | (go_at_call 66; refine Calls.mono (B2.out _ (q1.ext (ah _ _))) ?_; rintro e W2 ⟨rfl, b2⟩; have q2 := (q1.ext (ah _ _)).ext b2; have k2 := k1.trans ((af.alloc q1.lt _).trans (af.ext (q1.ext (ah _ _)).lt b2)); clear B2)
   | (go_at_call 105; refine Calls.mono (B3.out _ q2 k2) ?_; intro e W3 h; exact h.elim))
 | .err s', B3 =>
  go_enter Tryz.func87, Tryz.ntmps87
  go_wp2_with (first
   | (go_at_call 84; refine Calls.mono B1.out ?_; rintro e W1 ⟨t1, rfl, b1⟩; have q1 := hS.ext b1; have k1 := af.ext hrW b1; clear B1)
   | (go_at_call 66; refine Calls.mono (B2.out _ (q1.ext (ah _ _))) ?_; rintro e W2 ⟨rfl, b2⟩; have q2 := (q1.ext (ah _ _)).ext b2; have k2 := k1.trans ((af.alloc q1.lt _).trans (af.ext (q1.ext (ah _ _)).lt b2)); clear B2)
   | (go_at_call 105; refine Calls.mono (B3.out _ q2 k2) ?_; rintro e W3 ⟨rfl, b3⟩; unfold ak))
  exact ⟨rfl, rfl, b3⟩
 | .ok ts s', B3 =>
  go_enter Tryz.func87, Tryz.ntmps87
  go_wp2_with (first
   | (go_at_call 84; refine Calls.mono B1.out ?_; rintro e W1 ⟨t1, rfl, b1⟩; have q1 := hS.ext b1; have k1 := af.ext hrW b1; clear B1)
   | (go_at_call 66; refine Calls.mono (B2.out _ (q1.ext (ah _ _))) ?_; rintro e W2 ⟨rfl, b2⟩; have q2 := (q1.ext (ah _ _)).ext b2; have k2 := k1.trans ((af.alloc q1.lt _).trans (af.ext (q1.ext (ah _ _)).lt b2)); clear B2)
   | (go_at_call 105; refine Calls.mono (B3.out _ q2 k2) ?_; rintro e W3 ⟨n3, l3, he, q3, k3⟩; obtain ⟨v3, hv⟩ : ∃ r : Nat, r = (ns.length + sizes ts - 1) := ⟨_, rfl⟩; rw [← hv] at he; subst he; have V3 : Bx _ := ⟨hv⟩; clear hv))
  go_ret
  exact ⟨n3, l3, by rw [← V3.out]; rfl, q3, k3⟩
theorem JK (hT : RT w0 rb ae aa TL xs) (hK : aR TL) {S : List ai -> Res} (HU : RC w0 rb ae aa TL xs S 106 #[]) {W : World} {s : List ai} {ns : List Nd} (hS : RSs w0 rb ae aa TL xs U W s ns) (hc : kd s = 14) (hne : S s ≠ .out) :
  Calls Tryz.prog 87 #[.pointer (some ⟨rb, 0, none⟩)] W (aj w0 rb ae aa TL xs U W s ns (S s)) := by
 have hrW := hS.lt
 have d19 : ((⟨(ax (kd s : Nat)).toArray⟩ : ByteArray).toList == [105, 110, 116]) = false := by rw [au hK hS 19 (by decide) _ (by decide)]; exact decide_eq_false (by omega)
 have d12 : ((⟨(ax (kd s : Nat)).toArray⟩ : ByteArray).toList == [98, 111, 111, 108]) = false := by rw [au hK hS 12 (by decide) _ (by decide)]; exact decide_eq_false (by omega)
 have d10 : ((⟨(ax (kd s : Nat)).toArray⟩ : ByteArray).toList == [97, 114, 114, 97, 121]) = false := by rw [au hK hS 10 (by decide) _ (by decide)]; exact decide_eq_false (by omega)
 have d14 : ((⟨(ax (kd s : Nat)).toArray⟩ : ByteArray).toList == [99, 104, 97, 110]) = true := by rw [au hK hS 14 (by decide) _ (by decide)]; exact decide_eq_true hc
 have B1 : Bx _ := ⟨eP hT hS⟩
 have hf1 := dC
 have B2 : Bx (∀ W1, RSs w0 rb ae aa TL xs U W1 s ns -> _) := ⟨fun W1 h => dO hT h⟩
 have B3 : Bx (∀ W1, RSs w0 rb ae aa TL xs U W1 s ns -> af rb W W1 -> Calls Tryz.prog 106 #[.pointer (some ⟨rb, 0, none⟩)] W1 (aj w0 rb ae aa TL xs U W s ns (S s))) := ⟨fun W1 h hk => Calls.mono (HU U W1 s ns h hne) (fun e W' hp => by
  revert hp
  cases S s with
  | out => exact fun hp => hp
  | err s' => exact fun hp => hp
  | ok ts s' => exact fun ⟨a, b, c, d, k⟩ => ⟨a, b, c, d, hk.trans k⟩)⟩
 generalize (⟨(ax (kd s : Nat)).toArray⟩ : ByteArray) = tx at *
 generalize S s = res at *
 clear HU hne
 match res, B3 with
 | .out, B3 =>
  go_enter Tryz.func87, Tryz.ntmps87
  go_wp2_with (first
   | (go_at_call 84; refine Calls.mono B1.out ?_; rintro e W1 ⟨t1, rfl, b1⟩; have q1 := hS.ext b1; have k1 := af.ext hrW b1; clear B1)
   | (go_at_call 66; refine Calls.mono (B2.out _ (q1.ext (ah _ _))) ?_; rintro e W2 ⟨rfl, b2⟩; have q2 := (q1.ext (ah _ _)).ext b2; have k2 := k1.trans ((af.alloc q1.lt _).trans (af.ext (q1.ext (ah _ _)).lt b2)); clear B2)
   | (go_at_call 106; refine Calls.mono (B3.out _ q2 k2) ?_; intro e W3 h; exact h.elim))
 | .err s', B3 =>
  go_enter Tryz.func87, Tryz.ntmps87
  go_wp2_with (first
   | (go_at_call 84; refine Calls.mono B1.out ?_; rintro e W1 ⟨t1, rfl, b1⟩; have q1 := hS.ext b1; have k1 := af.ext hrW b1; clear B1)
   | (go_at_call 66; refine Calls.mono (B2.out _ (q1.ext (ah _ _))) ?_; rintro e W2 ⟨rfl, b2⟩; have q2 := (q1.ext (ah _ _)).ext b2; have k2 := k1.trans ((af.alloc q1.lt _).trans (af.ext (q1.ext (ah _ _)).lt b2)); clear B2)
   | (go_at_call 106; refine Calls.mono (B3.out _ q2 k2) ?_; rintro e W3 ⟨rfl, b3⟩; unfold ak))
  exact ⟨rfl, rfl, b3⟩
 | .ok ts s', B3 =>
  go_enter Tryz.func87, Tryz.ntmps87
  go_wp2_with (first
   | (go_at_call 84; refine Calls.mono B1.out ?_; rintro e W1 ⟨t1, rfl, b1⟩; have q1 := hS.ext b1; have k1 := af.ext hrW b1; clear B1)
   | (go_at_call 66; refine Calls.mono (B2.out _ (q1.ext (ah _ _))) ?_; rintro e W2 ⟨rfl, b2⟩; have q2 := (q1.ext (ah _ _)).ext b2; have k2 := k1.trans ((af.alloc q1.lt _).trans (af.ext (q1.ext (ah _ _)).lt b2)); clear B2)
   | (go_at_call 106; refine Calls.mono (B3.out _ q2 k2) ?_; rintro e W3 ⟨n3, l3, he, q3, k3⟩; obtain ⟨v3, hv⟩ : ∃ r : Nat, r = (ns.length + sizes ts - 1) := ⟨_, rfl⟩; rw [← hv] at he; subst he; have V3 : Bx _ := ⟨hv⟩; clear hv))
  go_ret
  exact ⟨n3, l3, by rw [← V3.out]; rfl, q3, k3⟩
theorem JL (hT : RT w0 rb ae aa TL xs) (hK : aR TL) {S : List ai -> Res} (HU : RC w0 rb ae aa TL xs S 107 #[]) {W : World} {s : List ai} {ns : List Nd} (hS : RSs w0 rb ae aa TL xs U W s ns) (hc : kd s = 40) (hne : S s ≠ .out) :
  Calls Tryz.prog 87 #[.pointer (some ⟨rb, 0, none⟩)] W (aj w0 rb ae aa TL xs U W s ns (S s)) := by
 have hrW := hS.lt
 have d19 : ((⟨(ax (kd s : Nat)).toArray⟩ : ByteArray).toList == [105, 110, 116]) = false := by rw [au hK hS 19 (by decide) _ (by decide)]; exact decide_eq_false (by omega)
 have d12 : ((⟨(ax (kd s : Nat)).toArray⟩ : ByteArray).toList == [98, 111, 111, 108]) = false := by rw [au hK hS 12 (by decide) _ (by decide)]; exact decide_eq_false (by omega)
 have d10 : ((⟨(ax (kd s : Nat)).toArray⟩ : ByteArray).toList == [97, 114, 114, 97, 121]) = false := by rw [au hK hS 10 (by decide) _ (by decide)]; exact decide_eq_false (by omega)
 have d14 : ((⟨(ax (kd s : Nat)).toArray⟩ : ByteArray).toList == [99, 104, 97, 110]) = false := by rw [au hK hS 14 (by decide) _ (by decide)]; exact decide_eq_false (by omega)
 have d40 : ((⟨(ax (kd s : Nat)).toArray⟩ : ByteArray).toList == [40]) = true := by rw [au hK hS 40 (by decide) _ (by decide)]; exact decide_eq_true hc
 have B1 : Bx _ := ⟨eP hT hS⟩
 have hf1 := dC
 have B2 : Bx (∀ W1, RSs w0 rb ae aa TL xs U W1 s ns -> _) := ⟨fun W1 h => dO hT h⟩
 have B3 : Bx (∀ W1, RSs w0 rb ae aa TL xs U W1 s ns -> af rb W W1 -> Calls Tryz.prog 107 #[.pointer (some ⟨rb, 0, none⟩)] W1 (aj w0 rb ae aa TL xs U W s ns (S s))) := ⟨fun W1 h hk => Calls.mono (HU U W1 s ns h hne) (fun e W' hp => by
  revert hp
  cases S s with
  | out => exact fun hp => hp
  | err s' => exact fun hp => hp
  | ok ts s' => exact fun ⟨a, b, c, d, k⟩ => ⟨a, b, c, d, hk.trans k⟩)⟩
 generalize (⟨(ax (kd s : Nat)).toArray⟩ : ByteArray) = tx at *
 generalize S s = res at *
 clear HU hne
 match res, B3 with
 | .out, B3 =>
  go_enter Tryz.func87, Tryz.ntmps87
  go_wp2_with (first
   | (go_at_call 84; refine Calls.mono B1.out ?_; rintro e W1 ⟨t1, rfl, b1⟩; have q1 := hS.ext b1; have k1 := af.ext hrW b1; clear B1)
   | (go_at_call 66; refine Calls.mono (B2.out _ (q1.ext (ah _ _))) ?_; rintro e W2 ⟨rfl, b2⟩; have q2 := (q1.ext (ah _ _)).ext b2; have k2 := k1.trans ((af.alloc q1.lt _).trans (af.ext (q1.ext (ah _ _)).lt b2)); clear B2)
   | (go_at_call 107; refine Calls.mono (B3.out _ q2 k2) ?_; intro e W3 h; exact h.elim))
 | .err s', B3 =>
  go_enter Tryz.func87, Tryz.ntmps87
  go_wp2_with (first
   | (go_at_call 84; refine Calls.mono B1.out ?_; rintro e W1 ⟨t1, rfl, b1⟩; have q1 := hS.ext b1; have k1 := af.ext hrW b1; clear B1)
   | (go_at_call 66; refine Calls.mono (B2.out _ (q1.ext (ah _ _))) ?_; rintro e W2 ⟨rfl, b2⟩; have q2 := (q1.ext (ah _ _)).ext b2; have k2 := k1.trans ((af.alloc q1.lt _).trans (af.ext (q1.ext (ah _ _)).lt b2)); clear B2)
   | (go_at_call 107; refine Calls.mono (B3.out _ q2 k2) ?_; rintro e W3 ⟨rfl, b3⟩; unfold ak))
  exact ⟨rfl, rfl, b3⟩
 | .ok ts s', B3 =>
  go_enter Tryz.func87, Tryz.ntmps87
  go_wp2_with (first
   | (go_at_call 84; refine Calls.mono B1.out ?_; rintro e W1 ⟨t1, rfl, b1⟩; have q1 := hS.ext b1; have k1 := af.ext hrW b1; clear B1)
   | (go_at_call 66; refine Calls.mono (B2.out _ (q1.ext (ah _ _))) ?_; rintro e W2 ⟨rfl, b2⟩; have q2 := (q1.ext (ah _ _)).ext b2; have k2 := k1.trans ((af.alloc q1.lt _).trans (af.ext (q1.ext (ah _ _)).lt b2)); clear B2)
   | (go_at_call 107; refine Calls.mono (B3.out _ q2 k2) ?_; rintro e W3 ⟨n3, l3, he, q3, k3⟩; obtain ⟨v3, hv⟩ : ∃ r : Nat, r = (ns.length + sizes ts - 1) := ⟨_, rfl⟩; rw [← hv] at he; subst he; have V3 : Bx _ := ⟨hv⟩; clear hv))
  go_ret
  exact ⟨n3, l3, by rw [← V3.out]; rfl, q3, k3⟩
theorem JM (hT : RT w0 rb ae aa TL xs) (hK : aR TL) {S : List ai -> Res} (HU : RC w0 rb ae aa TL xs S 108 #[]) {W : World} {s : List ai} {ns : List Nd} (hS : RSs w0 rb ae aa TL xs U W s ns) (hc : kd s = 23) (hne : S s ≠ .out) :
  Calls Tryz.prog 87 #[.pointer (some ⟨rb, 0, none⟩)] W (aj w0 rb ae aa TL xs U W s ns (S s)) := by
 have hrW := hS.lt
 have d19 : ((⟨(ax (kd s : Nat)).toArray⟩ : ByteArray).toList == [105, 110, 116]) = false := by rw [au hK hS 19 (by decide) _ (by decide)]; exact decide_eq_false (by omega)
 have d12 : ((⟨(ax (kd s : Nat)).toArray⟩ : ByteArray).toList == [98, 111, 111, 108]) = false := by rw [au hK hS 12 (by decide) _ (by decide)]; exact decide_eq_false (by omega)
 have d10 : ((⟨(ax (kd s : Nat)).toArray⟩ : ByteArray).toList == [97, 114, 114, 97, 121]) = false := by rw [au hK hS 10 (by decide) _ (by decide)]; exact decide_eq_false (by omega)
 have d14 : ((⟨(ax (kd s : Nat)).toArray⟩ : ByteArray).toList == [99, 104, 97, 110]) = false := by rw [au hK hS 14 (by decide) _ (by decide)]; exact decide_eq_false (by omega)
 have d40 : ((⟨(ax (kd s : Nat)).toArray⟩ : ByteArray).toList == [40]) = false := by rw [au hK hS 40 (by decide) _ (by decide)]; exact decide_eq_false (by omega)
 have d23 : ((⟨(ax (kd s : Nat)).toArray⟩ : ByteArray).toList == [112, 114, 111, 103]) = true := by rw [au hK hS 23 (by decide) _ (by decide)]; exact decide_eq_true hc
 have B1 : Bx _ := ⟨eP hT hS⟩
 have hf1 := dC
 have B2 : Bx (∀ W1, RSs w0 rb ae aa TL xs U W1 s ns -> _) := ⟨fun W1 h => dO hT h⟩
 have B3 : Bx (∀ W1, RSs w0 rb ae aa TL xs U W1 s ns -> af rb W W1 -> Calls Tryz.prog 108 #[.pointer (some ⟨rb, 0, none⟩)] W1 (aj w0 rb ae aa TL xs U W s ns (S s))) := ⟨fun W1 h hk => Calls.mono (HU U W1 s ns h hne) (fun e W' hp => by
  revert hp
  cases S s with
  | out => exact fun hp => hp
  | err s' => exact fun hp => hp
  | ok ts s' => exact fun ⟨a, b, c, d, k⟩ => ⟨a, b, c, d, hk.trans k⟩)⟩
 generalize (⟨(ax (kd s : Nat)).toArray⟩ : ByteArray) = tx at *
 generalize S s = res at *
 clear HU hne
 match res, B3 with
 | .out, B3 =>
  go_enter Tryz.func87, Tryz.ntmps87
  go_wp2_with (first
   | (go_at_call 84; refine Calls.mono B1.out ?_; rintro e W1 ⟨t1, rfl, b1⟩; have q1 := hS.ext b1; have k1 := af.ext hrW b1; clear B1)
   | (go_at_call 66; refine Calls.mono (B2.out _ (q1.ext (ah _ _))) ?_; rintro e W2 ⟨rfl, b2⟩; have q2 := (q1.ext (ah _ _)).ext b2; have k2 := k1.trans ((af.alloc q1.lt _).trans (af.ext (q1.ext (ah _ _)).lt b2)); clear B2)
   | (go_at_call 108; refine Calls.mono (B3.out _ q2 k2) ?_; intro e W3 h; exact h.elim))
 | .err s', B3 =>
  go_enter Tryz.func87, Tryz.ntmps87
  go_wp2_with (first
   | (go_at_call 84; refine Calls.mono B1.out ?_; rintro e W1 ⟨t1, rfl, b1⟩; have q1 := hS.ext b1; have k1 := af.ext hrW b1; clear B1)
   | (go_at_call 66; refine Calls.mono (B2.out _ (q1.ext (ah _ _))) ?_; rintro e W2 ⟨rfl, b2⟩; have q2 := (q1.ext (ah _ _)).ext b2; have k2 := k1.trans ((af.alloc q1.lt _).trans (af.ext (q1.ext (ah _ _)).lt b2)); clear B2)
   | (go_at_call 108; refine Calls.mono (B3.out _ q2 k2) ?_; rintro e W3 ⟨rfl, b3⟩; unfold ak))
  exact ⟨rfl, rfl, b3⟩
 | .ok ts s', B3 =>
  go_enter Tryz.func87, Tryz.ntmps87
  go_wp2_with (first
   | (go_at_call 84; refine Calls.mono B1.out ?_; rintro e W1 ⟨t1, rfl, b1⟩; have q1 := hS.ext b1; have k1 := af.ext hrW b1; clear B1)
   | (go_at_call 66; refine Calls.mono (B2.out _ (q1.ext (ah _ _))) ?_; rintro e W2 ⟨rfl, b2⟩; have q2 := (q1.ext (ah _ _)).ext b2; have k2 := k1.trans ((af.alloc q1.lt _).trans (af.ext (q1.ext (ah _ _)).lt b2)); clear B2)
   | (go_at_call 108; refine Calls.mono (B3.out _ q2 k2) ?_; rintro e W3 ⟨n3, l3, he, q3, k3⟩; obtain ⟨v3, hv⟩ : ∃ r : Nat, r = (ns.length + sizes ts - 1) := ⟨_, rfl⟩; rw [← hv] at he; subst he; have V3 : Bx _ := ⟨hv⟩; clear hv))
  go_ret
  exact ⟨n3, l3, by rw [← V3.out]; rfl, q3, k3⟩
end Go.Proofs.YtecodpdfckjalaaGreatDoor
