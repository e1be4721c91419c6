import Derived.Test.YtecodpdfckjalaaGreatDoorYRSim
set_option linter.unusedVariables false
set_option linter.unusedSimpArgs false
set_option maxHeartbeats 4000000
set_option maxRecDepth 100000
namespace Go.Proofs.YtecodpdfckjalaaGreatDoor
open Go.RowKit
variable {w0 : World} {rb : Nat} {ae aa : Value} {TL : List Tok} {xs : List UInt8} {U : Nat -> Prop}
theorem yN (hT : RT w0 rb ae aa TL xs) (hK : aR TL) {S : List ai -> Res} (HU : RC w0 rb ae aa TL xs S 146 #[]) {W : World} {s : List ai} {ns : List Nd} (hS : RSs w0 rb ae aa TL xs U W s ns) (hc : kd s = 40) (hne : S s ≠ .out) :
  Calls Tryz.prog 142 #[.pointer (some ⟨rb, 0, none⟩)] W (aj w0 rb ae aa TL xs U W s ns (S s)) := by
 have hrW := hS.lt
 have d26 : ((⟨(ax (kd s : Nat)).toArray⟩ : ByteArray).toList == [116, 114, 117, 101]) = false := by rw [au hK hS 26 (by decide) _ (by decide)]; exact decide_eq_false (by omega)
 have d16 : ((⟨(ax (kd s : Nat)).toArray⟩ : ByteArray).toList == [102, 97, 108, 115, 101]) = false := by rw [au hK hS 16 (by decide) _ (by decide)]; exact decide_eq_false (by omega)
 have d40 : ((⟨(ax (kd s : Nat)).toArray⟩ : ByteArray).toList == [40]) = true := by rw [au hK hS 40 (by decide) _ (by decide)]; exact decide_eq_true hc
 have B1 : Bx _ := ⟨eP hT hS⟩
 have hf1 := dC
 have B2 : Bx (∀ W1, RSs w0 rb ae aa TL xs U W1 s ns -> _) := ⟨fun W1 h => dO hT h⟩
 have B3 : Bx (∀ W1, RSs w0 rb ae aa TL xs U W1 s ns -> af rb W W1 -> Calls Tryz.prog 146 #[.pointer (some ⟨rb, 0, none⟩)] W1 (aj w0 rb ae aa TL xs U W s ns (S s))) := ⟨fun W1 h hk => Calls.mono (HU U W1 s ns h hne) (fun e W' hp => by
  revert hp
  cases S s with
  | out => exact fun hp => hp
  | err s' => exact fun hp => hp
  | ok ts s' => exact fun ⟨a, b, c, d, k⟩ => ⟨a, b, c, d, hk.trans k⟩)⟩
 generalize (⟨(ax (kd s : Nat)).toArray⟩ : ByteArray) = tx at *
 generalize S s = res at *
 clear HU hne
 match res, B3 with
 | .out, B3 =>
  go_enter Tryz.func142, Tryz.ntmps142
  go_wp2_with (first
   | (go_at_call 84; refine Calls.mono B1.out ?_; rintro e W1 ⟨t1, rfl, b1⟩; have q1 := hS.ext b1; have k1 := af.ext hrW b1; clear B1)
   | (go_at_call 66; refine Calls.mono (B2.out _ q1) ?_; rintro e W2 ⟨rfl, b2⟩; have q2 := q1.ext b2; have k2 := k1.trans (af.ext q1.lt b2); clear B2)
   | (go_at_call 146; refine Calls.mono (B3.out _ q2 k2) ?_; intro e W3 h; exact h.elim))
 | .err s', B3 =>
  go_enter Tryz.func142, Tryz.ntmps142
  go_wp2_with (first
   | (go_at_call 84; refine Calls.mono B1.out ?_; rintro e W1 ⟨t1, rfl, b1⟩; have q1 := hS.ext b1; have k1 := af.ext hrW b1; clear B1)
   | (go_at_call 66; refine Calls.mono (B2.out _ q1) ?_; rintro e W2 ⟨rfl, b2⟩; have q2 := q1.ext b2; have k2 := k1.trans (af.ext q1.lt b2); clear B2)
   | (go_at_call 146; refine Calls.mono (B3.out _ q2 k2) ?_; rintro e W3 ⟨rfl, b3⟩; unfold ak))
  exact ⟨rfl, rfl, b3⟩
 | .ok ts s', B3 =>
  go_enter Tryz.func142, Tryz.ntmps142
  go_wp2_with (first
   | (go_at_call 84; refine Calls.mono B1.out ?_; rintro e W1 ⟨t1, rfl, b1⟩; have q1 := hS.ext b1; have k1 := af.ext hrW b1; clear B1)
   | (go_at_call 66; refine Calls.mono (B2.out _ q1) ?_; rintro e W2 ⟨rfl, b2⟩; have q2 := q1.ext b2; have k2 := k1.trans (af.ext q1.lt b2); clear B2)
   | (go_at_call 146; refine Calls.mono (B3.out _ q2 k2) ?_; rintro e W3 ⟨n3, l3, he, q3, k3⟩; obtain ⟨v3, hv⟩ : ∃ r : Nat, r = (ns.length + sizes ts - 1) := ⟨_, rfl⟩; rw [← hv] at he; subst he; have V3 : Bx _ := ⟨hv⟩; clear hv))
  go_ret
  exact ⟨n3, l3, by rw [← V3.out]; rfl, q3, k3⟩
theorem yO (hT : RT w0 rb ae aa TL xs) (hK : aR TL) {S : List ai -> Res} (HU : RC w0 rb ae aa TL xs S 147 #[]) {W : World} {s : List ai} {ns : List Nd} (hS : RSs w0 rb ae aa TL xs U W s ns) (hc : kd s = 42) (hne : S s ≠ .out) :
  Calls Tryz.prog 142 #[.pointer (some ⟨rb, 0, none⟩)] W (aj w0 rb ae aa TL xs U W s ns (S s)) := by
 have hrW := hS.lt
 have d26 : ((⟨(ax (kd s : Nat)).toArray⟩ : ByteArray).toList == [116, 114, 117, 101]) = false := by rw [au hK hS 26 (by decide) _ (by decide)]; exact decide_eq_false (by omega)
 have d16 : ((⟨(ax (kd s : Nat)).toArray⟩ : ByteArray).toList == [102, 97, 108, 115, 101]) = false := by rw [au hK hS 16 (by decide) _ (by decide)]; exact decide_eq_false (by omega)
 have d40 : ((⟨(ax (kd s : Nat)).toArray⟩ : ByteArray).toList == [40]) = false := by rw [au hK hS 40 (by decide) _ (by decide)]; exact decide_eq_false (by omega)
 have d42 : ((⟨(ax (kd s : Nat)).toArray⟩ : ByteArray).toList == [91]) = true := by rw [au hK hS 42 (by decide) _ (by decide)]; exact decide_eq_true hc
 have B1 : Bx _ := ⟨eP hT hS⟩
 have hf1 := dC
 have B2 : Bx (∀ W1, RSs w0 rb ae aa TL xs U W1 s ns -> _) := ⟨fun W1 h => dO hT h⟩
 have B3 : Bx (∀ W1, RSs w0 rb ae aa TL xs U W1 s ns -> af rb W W1 -> Calls Tryz.prog 147 #[.pointer (some ⟨rb, 0, none⟩)] W1 (aj w0 rb ae aa TL xs U W s ns (S s))) := ⟨fun W1 h hk => Calls.mono (HU U W1 s ns h hne) (fun e W' hp => by
  revert hp
  cases S s with
  | out => exact fun hp => hp
  | err s' => exact fun hp => hp
  | ok ts s' => exact fun ⟨a, b, c, d, k⟩ => ⟨a, b, c, d, hk.trans k⟩)⟩
 generalize (⟨(ax (kd s : Nat)).toArray⟩ : ByteArray) = tx at *
 generalize S s = res at *
 clear HU hne
 match res, B3 with
 | .out, B3 =>
  go_enter Tryz.func142, Tryz.ntmps142
  go_wp2_with (first
   | (go_at_call 84; refine Calls.mono B1.out ?_; rintro e W1 ⟨t1, rfl, b1⟩; have q1 := hS.ext b1; have k1 := af.ext hrW b1; clear B1)
   | (go_at_call 66; refine Calls.mono (B2.out _ q1) ?_; rintro e W2 ⟨rfl, b2⟩; have q2 := q1.ext b2; have k2 := k1.trans (af.ext q1.lt b2); clear B2)
   | (go_at_call 147; refine Calls.mono (B3.out _ q2 k2) ?_; intro e W3 h; exact h.elim))
 | .err s', B3 =>
  go_enter Tryz.func142, Tryz.ntmps142
  go_wp2_with (first
   | (go_at_call 84; refine Calls.mono B1.out ?_; rintro e W1 ⟨t1, rfl, b1⟩; have q1 := hS.ext b1; have k1 := af.ext hrW b1; clear B1)
   | (go_at_call 66; refine Calls.mono (B2.out _ q1) ?_; rintro e W2 ⟨rfl, b2⟩; have q2 := q1.ext b2; have k2 := k1.trans (af.ext q1.lt b2); clear B2)
   | (go_at_call 147; refine Calls.mono (B3.out _ q2 k2) ?_; rintro e W3 ⟨rfl, b3⟩; unfold ak))
  exact ⟨rfl, rfl, b3⟩
 | .ok ts s', B3 =>
  go_enter Tryz.func142, Tryz.ntmps142
  go_wp2_with (first
   | (go_at_call 84; refine Calls.mono B1.out ?_; rintro e W1 ⟨t1, rfl, b1⟩; have q1 := hS.ext b1; have k1 := af.ext hrW b1; clear B1)
   | (go_at_call 66; refine Calls.mono (B2.out _ q1) ?_; rintro e W2 ⟨rfl, b2⟩; have q2 := q1.ext b2; have k2 := k1.trans (af.ext q1.lt b2); clear B2)
   | (go_at_call 147; refine Calls.mono (B3.out _ q2 k2) ?_; rintro e W3 ⟨n3, l3, he, q3, k3⟩; obtain ⟨v3, hv⟩ : ∃ r : Nat, r = (ns.length + sizes ts - 1) := ⟨_, rfl⟩; rw [← hv] at he; subst he; have V3 : Bx _ := ⟨hv⟩; clear hv))
  go_ret
  exact ⟨n3, l3, by rw [← V3.out]; rfl, q3, k3⟩
theorem yP (hT : RT w0 rb ae aa TL xs) (hK : aR TL) {S : List ai -> Res} (HU : RC w0 rb ae aa TL xs S 148 #[]) {W : World} {s : List ai} {ns : List Nd} (hS : RSs w0 rb ae aa TL xs U W s ns) (hc : kd s = 17) (hne : S s ≠ .out) :
  Calls Tryz.prog 142 #[.pointer (some ⟨rb, 0, none⟩)] W (aj w0 rb ae aa TL xs U W s ns (S s)) := by
 have hrW := hS.lt
 have d26 : ((⟨(ax (kd s : Nat)).toArray⟩ : ByteArray).toList == [116, 114, 117, 101]) = false := by rw [au hK hS 26 (by decide) _ (by decide)]; exact decide_eq_false (by omega)
 have d16 : ((⟨(ax (kd s : Nat)).toArray⟩ : ByteArray).toList == [102, 97, 108, 115, 101]) = false := by rw [au hK hS 16 (by decide) _ (by decide)]; exact decide_eq_false (by omega)
 have d40 : ((⟨(ax (kd s : Nat)).toArray⟩ : ByteArray).toList == [40]) = false := by rw [au hK hS 40 (by decide) _ (by decide)]; exact decide_eq_false (by omega)
 have d42 : ((⟨(ax (kd s : Nat)).toArray⟩ : ByteArray).toList == [91]) = false := by rw [au hK hS 42 (by decide) _ (by decide)]; exact decide_eq_false (by omega)
 have d17 : ((⟨(ax (kd s : Nat)).toArray⟩ : ByteArray).toList == [102, 105, 108, 108]) = true := by rw [au hK hS 17 (by decide) _ (by decide)]; exact decide_eq_true hc
 have B1 : Bx _ := ⟨eP hT hS⟩
 have hf1 := dC
 have B2 : Bx (∀ W1, RSs w0 rb ae aa TL xs U W1 s ns -> _) := ⟨fun W1 h => dO hT h⟩
 have B3 : Bx (∀ W1, RSs w0 rb ae aa TL xs U W1 s ns -> af rb W W1 -> Calls Tryz.prog 148 #[.pointer (some ⟨rb, 0, none⟩)] W1 (aj w0 rb ae aa TL xs U W s ns (S s))) := ⟨fun W1 h hk => Calls.mono (HU U W1 s ns h hne) (fun e W' hp => by
  revert hp
  cases S s with
  | out => exact fun hp => hp
  | err s' => exact fun hp => hp
  | ok ts s' => exact fun ⟨a, b, c, d, k⟩ => ⟨a, b, c, d, hk.trans k⟩)⟩
 generalize (⟨(ax (kd s : Nat)).toArray⟩ : ByteArray) = tx at *
 generalize S s = res at *
 clear HU hne
 match res, B3 with
 | .out, B3 =>
  go_enter Tryz.func142, Tryz.ntmps142
  go_wp2_with (first
   | (go_at_call 84; refine Calls.mono B1.out ?_; rintro e W1 ⟨t1, rfl, b1⟩; have q1 := hS.ext b1; have k1 := af.ext hrW b1; clear B1)
   | (go_at_call 66; refine Calls.mono (B2.out _ q1) ?_; rintro e W2 ⟨rfl, b2⟩; have q2 := q1.ext b2; have k2 := k1.trans (af.ext q1.lt b2); clear B2)
   | (go_at_call 148; refine Calls.mono (B3.out _ q2 k2) ?_; intro e W3 h; exact h.elim))
 | .err s', B3 =>
  go_enter Tryz.func142, Tryz.ntmps142
  go_wp2_with (first
   | (go_at_call 84; refine Calls.mono B1.out ?_; rintro e W1 ⟨t1, rfl, b1⟩; have q1 := hS.ext b1; have k1 := af.ext hrW b1; clear B1)
   | (go_at_call 66; refine Calls.mono (B2.out _ q1) ?_; rintro e W2 ⟨rfl, b2⟩; have q2 := q1.ext b2; have k2 := k1.trans (af.ext q1.lt b2); clear B2)
   | (go_at_call 148; refine Calls.mono (B3.out _ q2 k2) ?_; rintro e W3 ⟨rfl, b3⟩; unfold ak))
  exact ⟨rfl, rfl, b3⟩
 | .ok ts s', B3 =>
  go_enter Tryz.func142, Tryz.ntmps142
  go_wp2_with (first
   | (go_at_call 84; refine Calls.mono B1.out ?_; rintro e W1 ⟨t1, rfl, b1⟩; have q1 := hS.ext b1; have k1 := af.ext hrW b1; clear B1)
   | (go_at_call 66; refine Calls.mono (B2.out _ q1) ?_; rintro e W2 ⟨rfl, b2⟩; have q2 := q1.ext b2; have k2 := k1.trans (af.ext q1.lt b2); clear B2)
   | (go_at_call 148; refine Calls.mono (B3.out _ q2 k2) ?_; rintro e W3 ⟨n3, l3, he, q3, k3⟩; obtain ⟨v3, hv⟩ : ∃ r : Nat, r = (ns.length + sizes ts - 1) := ⟨_, rfl⟩; rw [← hv] at he; subst he; have V3 : Bx _ := ⟨hv⟩; clear hv))
  go_ret
  exact ⟨n3, l3, by rw [← V3.out]; rfl, q3, k3⟩
theorem yQ (hT : RT w0 rb ae aa TL xs) (hK : aR TL) {S : List ai -> Res} (HU : RC w0 rb ae aa TL xs S 149 #[]) {W : World} {s : List ai} {ns : List Nd} (hS : RSs w0 rb ae aa TL xs U W s ns) (hc : kd s = 20) (hne : S s ≠ .out) :
  Calls Tryz.prog 142 #[.pointer (some ⟨rb, 0, none⟩)] W (aj w0 rb ae aa TL xs U W s ns (S s)) := by
 have hrW := hS.lt
 have d26 : ((⟨(ax (kd s : Nat)).toArray⟩ : ByteArray).toList == [116, 114, 117, 101]) = false := by rw [au hK hS 26 (by decide) _ (by decide)]; exact decide_eq_false (by omega)
 have d16 : ((⟨(ax (kd s : Nat)).toArray⟩ : ByteArray).toList == [102, 97, 108, 115, 101]) = false := by rw [au hK hS 16 (by decide) _ (by decide)]; exact decide_eq_false (by omega)
 have d40 : ((⟨(ax (kd s : Nat)).toArray⟩ : ByteArray).toList == [40]) = false := by rw [au hK hS 40 (by decide) _ (by decide)]; exact decide_eq_false (by omega)
 have d42 : ((⟨(ax (kd s : Nat)).toArray⟩ : ByteArray).toList == [91]) = false := by rw [au hK hS 42 (by decide) _ (by decide)]; exact decide_eq_false (by omega)
 have d17 : ((⟨(ax (kd s : Nat)).toArray⟩ : ByteArray).toList == [102, 105, 108, 108]) = false := by rw [au hK hS 17 (by decide) _ (by decide)]; exact decide_eq_false (by omega)
 have d20 : ((⟨(ax (kd s : Nat)).toArray⟩ : ByteArray).toList == [108, 101, 110]) = true := by rw [au hK hS 20 (by decide) _ (by decide)]; exact decide_eq_true hc
 have B1 : Bx _ := ⟨eP hT hS⟩
 have hf1 := dC
 have B2 : Bx (∀ W1, RSs w0 rb ae aa TL xs U W1 s ns -> _) := ⟨fun W1 h => dO hT h⟩
 have B3 : Bx (∀ W1, RSs w0 rb ae aa TL xs U W1 s ns -> af rb W W1 -> Calls Tryz.prog 149 #[.pointer (some ⟨rb, 0, none⟩)] W1 (aj w0 rb ae aa TL xs U W s ns (S s))) := ⟨fun W1 h hk => Calls.mono (HU U W1 s ns h hne) (fun e W' hp => by
  revert hp
  cases S s with
  | out => exact fun hp => hp
  | err s' => exact fun hp => hp
  | ok ts s' => exact fun ⟨a, b, c, d, k⟩ => ⟨a, b, c, d, hk.trans k⟩)⟩
 generalize (⟨(ax (kd s : Nat)).toArray⟩ : ByteArray) = tx at *
 generalize S s = res at *
 clear HU hne
 match res, B3 with
 | .out, B3 =>
  go_enter Tryz.func142, Tryz.ntmps142
  go_wp2_with (first
   | (go_at_call 84; refine Calls.mono B1.out ?_; rintro e W1 ⟨t1, rfl, b1⟩; have q1 := hS.ext b1; have k1 := af.ext hrW b1; clear B1)
   | (go_at_call 66; refine Calls.mono (B2.out _ q1) ?_; rintro e W2 ⟨rfl, b2⟩; have q2 := q1.ext b2; have k2 := k1.trans (af.ext q1.lt b2); clear B2)
   | (go_at_call 149; refine Calls.mono (B3.out _ q2 k2) ?_; intro e W3 h; exact h.elim))
 | .err s', B3 =>
  go_enter Tryz.func142, Tryz.ntmps142
  go_wp2_with (first
   | (go_at_call 84; refine Calls.mono B1.out ?_; rintro e W1 ⟨t1, rfl, b1⟩; have q1 := hS.ext b1; have k1 := af.ext hrW b1; clear B1)
   | (go_at_call 66; refine Calls.mono (B2.out _ q1) ?_; rintro e W2 ⟨rfl, b2⟩; have q2 := q1.ext b2; have k2 := k1.trans (af.ext q1.lt b2); clear B2)
   | (go_at_call 149; refine Calls.mono (B3.out _ q2 k2) ?_; rintro e W3 ⟨rfl, b3⟩; unfold ak))
  exact ⟨rfl, rfl, b3⟩
 | .ok ts s', B3 =>
  go_enter Tryz.func142, Tryz.ntmps142
  go_wp2_with (first
   | (go_at_call 84; refine Calls.mono B1.out ?_; rintro e W1 ⟨t1, rfl, b1⟩; have q1 := hS.ext b1; have k1 := af.ext hrW b1; clear B1)
   | (go_at_call 66; refine Calls.mono (B2.out _ q1) ?_; rintro e W2 ⟨rfl, b2⟩; have q2 := q1.ext b2; have k2 := k1.trans (af.ext q1.lt b2); clear B2)
   | (go_at_call 149; refine Calls.mono (B3.out _ q2 k2) ?_; rintro e W3 ⟨n3, l3, he, q3, k3⟩; obtain ⟨v3, hv⟩ : ∃ r : Nat, r = (ns.length + sizes ts - 1) := ⟨_, rfl⟩; rw [← hv] at he; subst he; have V3 : Bx _ := ⟨hv⟩; clear hv))
  go_ret
  exact ⟨n3, l3, by rw [← V3.out]; rfl, q3, k3⟩
theorem yR (hT : RT w0 rb ae aa TL xs) (hK : aR TL) {S : List ai -> Res} (HU : RC w0 rb ae aa TL xs S 150 #[]) {W : World} {s : List ai} {ns : List Nd} (hS : RSs w0 rb ae aa TL xs U W s ns) (hc : kd s = 23) (hne : S s ≠ .out) :
  Calls Tryz.prog 142 #[.pointer (some ⟨rb, 0, none⟩)] W (aj w0 rb ae aa TL xs U W s ns (S s)) := by
 have hrW := hS.lt
 have d26 : ((⟨(ax (kd s : Nat)).toArray⟩ : ByteArray).toList == [116, 114, 117, 101]) = false := by rw [au hK hS 26 (by decide) _ (by decide)]; exact decide_eq_false (by omega)
 have d16 : ((⟨(ax (kd s : Nat)).toArray⟩ : ByteArray).toList == [102, 97, 108, 115, 101]) = false := by rw [au hK hS 16 (by decide) _ (by decide)]; exact decide_eq_false (by omega)
 have d40 : ((⟨(ax (kd s : Nat)).toArray⟩ : ByteArray).toList == [40]) = false := by rw [au hK hS 40 (by decide) _ (by decide)]; exact decide_eq_false (by omega)
 have d42 : ((⟨(ax (kd s : Nat)).toArray⟩ : ByteArray).toList == [91]) = false := by rw [au hK hS 42 (by decide) _ (by decide)]; exact decide_eq_false (by omega)
 have d17 : ((⟨(ax (kd s : Nat)).toArray⟩ : ByteArray).toList == [102, 105, 108, 108]) = false := by rw [au hK hS 17 (by decide) _ (by decide)]; exact decide_eq_false (by omega)
 have d20 : ((⟨(ax (kd s : Nat)).toArray⟩ : ByteArray).toList == [108, 101, 110]) = false := by rw [au hK hS 20 (by decide) _ (by decide)]; exact decide_eq_false (by omega)
 have d21 : ((⟨(ax (kd s : Nat)).toArray⟩ : ByteArray).toList == [109, 97, 107, 101]) = false := by rw [au hK hS 21 (by decide) _ (by decide)]; exact decide_eq_false (by omega)
 have d23 : ((⟨(ax (kd s : Nat)).toArray⟩ : ByteArray).toList == [112, 114, 111, 103]) = true := by rw [au hK hS 23 (by decide) _ (by decide)]; exact decide_eq_true hc
 have B1 : Bx _ := ⟨eP hT hS⟩
 have hf1 := dC
 have B2 : Bx (∀ W1, RSs w0 rb ae aa TL xs U W1 s ns -> _) := ⟨fun W1 h => dO hT h⟩
 have B3 : Bx (∀ W1, RSs w0 rb ae aa TL xs U W1 s ns -> af rb W W1 -> Calls Tryz.prog 150 #[.pointer (some ⟨rb, 0, none⟩)] W1 (aj w0 rb ae aa TL xs U W s ns (S s))) := ⟨fun W1 h hk => Calls.mono (HU U W1 s ns h hne) (fun e W' hp => by
  revert hp
  cases S s with
  | out => exact fun hp => hp
  | err s' => exact fun hp => hp
  | ok ts s' => exact fun ⟨a, b, c, d, k⟩ => ⟨a, b, c, d, hk.trans k⟩)⟩
 generalize (⟨(ax (kd s : Nat)).toArray⟩ : ByteArray) = tx at *
 generalize S s = res at *
 clear HU hne
 match res, B3 with
 | .out, B3 =>
  go_enter Tryz.func142, Tryz.ntmps142
  go_wp2_with (first
   | (go_at_call 84; refine Calls.mono B1.out ?_; rintro e W1 ⟨t1, rfl, b1⟩; have q1 := hS.ext b1; have k1 := af.ext hrW b1; clear B1)
   | (go_at_call 66; refine Calls.mono (B2.out _ q1) ?_; rintro e W2 ⟨rfl, b2⟩; have q2 := q1.ext b2; have k2 := k1.trans (af.ext q1.lt b2); clear B2)
   | (go_at_call 150; refine Calls.mono (B3.out _ q2 k2) ?_; intro e W3 h; exact h.elim))
 | .err s', B3 =>
  go_enter Tryz.func142, Tryz.ntmps142
  go_wp2_with (first
   | (go_at_call 84; refine Calls.mono B1.out ?_; rintro e W1 ⟨t1, rfl, b1⟩; have q1 := hS.ext b1; have k1 := af.ext hrW b1; clear B1)
   | (go_at_call 66; refine Calls.mono (B2.out _ q1) ?_; rintro e W2 ⟨rfl, b2⟩; have q2 := q1.ext b2; have k2 := k1.trans (af.ext q1.lt b2); clear B2)
   | (go_at_call 150; refine Calls.mono (B3.out _ q2 k2) ?_; rintro e W3 ⟨rfl, b3⟩; unfold ak))
  exact ⟨rfl, rfl, b3⟩
 | .ok ts s', B3 =>
  go_enter Tryz.func142, Tryz.ntmps142
  go_wp2_with (first
   | (go_at_call 84; refine Calls.mono B1.out ?_; rintro e W1 ⟨t1, rfl, b1⟩; have q1 := hS.ext b1; have k1 := af.ext hrW b1; clear B1)
   | (go_at_call 66; refine Calls.mono (B2.out _ q1) ?_; rintro e W2 ⟨rfl, b2⟩; have q2 := q1.ext b2; have k2 := k1.trans (af.ext q1.lt b2); clear B2)
   | (go_at_call 150; refine Calls.mono (B3.out _ q2 k2) ?_; rintro e W3 ⟨n3, l3, he, q3, k3⟩; obtain ⟨v3, hv⟩ : ∃ r : Nat, r = (ns.length + sizes ts - 1) := ⟨_, rfl⟩; rw [← hv] at he; subst he; have V3 : Bx _ := ⟨hv⟩; clear hv))
  go_ret
  exact ⟨n3, l3, by rw [← V3.out]; rfl, q3, k3⟩
end Go.Proofs.YtecodpdfckjalaaGreatDoor
namespace Go.Proofs.YtecodpdfckjalaaGreatDoor
open Go.RowKit
variable {w0 : World} {rb : Nat} {ae aa : Value} {TL : List Tok} {xs : List UInt8} {U : Nat -> Prop}
theorem yS (hT : RT w0 rb ae aa TL xs) (hK : aR TL) {W : World} {s : List ai} {ns : List Nd} (hS : RSs w0 rb ae aa TL xs U W s ns) (hc : kd s = 26) :
  Calls Tryz.prog 142 #[.pointer (some ⟨rb, 0, none⟩)] W (aj w0 rb ae aa TL xs U W s ns (mk1 12 s 1 [] [] (tl s))) := by
 have hrW := hS.lt
 have d26 : ((⟨(ax (kd s : Nat)).toArray⟩ : ByteArray).toList == [116, 114, 117, 101]) = true := by rw [au hK hS 26 (by decide) _ (by decide)]; exact decide_eq_true hc
 have B1 : Bx _ := ⟨eP hT hS⟩
 have hf1 := dC
 have B2 : Bx (∀ W1, RSs w0 rb ae aa TL xs U W1 s ns -> _) := ⟨fun W1 h => dO hT h⟩
 have HP : Bx (∀ W2, RSs w0 rb ae aa TL xs U W2 s ns -> af rb W W2 -> ∃ i2 : Nat, RSs w0 rb ae aa TL xs U (W2.setCell ⟨rb, 2, none⟩ (.int .i64 ((i2 : Int) + 1))) (tl s) ns /\ af rb W (W2.setCell ⟨rb, 2, none⟩ (.int .i64 ((i2 : Int) + 1))) /\ i2 <= 65537 /\ rb < W2.heap.size /\ W2.cell? ⟨rb, 2, none⟩ = some (.int .i64 i2) /\ W2.frozen? ⟨rb, 2, none⟩ = false) := ⟨fun W2 q2 k2 => by
  obtain ⟨i2, hi2, hlt, c2, fz, p3⟩ := nz hK hT q2
  obtain ⟨q4, _, k4⟩ := p3 (by omega)
  exact ⟨i2, q4, k2.trans k4, hi2, hlt, c2, fz⟩⟩
 have HD : Bx (∀ W1, RSs w0 rb ae aa TL xs U W1 (tl s) ns -> af rb W W1 -> ∀ kv, Calls Tryz.prog 70 #[.pointer (some ⟨rb, 0, none⟩), .agg #[.int .i64 12, .int .i64 (hd s).place, kv, .string ⟨#[]⟩, .int .i64 1], .slice none 0 0] W1 fun e W' => ∃ r : Int, e = .returned (.int .i64 r) /\ aj w0 rb ae aa TL xs U W s ns (.ok [.mk 12 (hd s).place 1 [] []] (tl s)) (.returned (.int .i64 r)) W') := ⟨fun W1 h hk kv => fG hT [] h.kT hk (by have := jV hS; simp [sizes]; omega) ⟨W, hS⟩ 12 (hd s).place 1 [] kv none 0 0 rfl (World.ownsRow_nil _ _ _ _) (fun _ h => by cases h)⟩
 generalize (⟨(ax (kd s : Nat)).toArray⟩ : ByteArray) = tx at *
 show Calls _ _ _ _ (aj w0 rb ae aa TL xs U W s ns (.ok [.mk 12 (hd s).place 1 [] []] (tl s)))
 go_enter Tryz.func142, Tryz.ntmps142
 go_wp2_with (first
  | (go_at_call 84; refine Calls.mono B1.out ?_; rintro e W1 ⟨t1, rfl, b1⟩; have q1 := hS.ext b1; have k1 := af.ext hrW b1; clear B1)
  | (go_at_call 66; refine Calls.mono (B2.out _ q1) ?_; rintro e W2 ⟨rfl, b2⟩; have q2 := q1.ext b2; have k2 := k1.trans (af.ext q1.lt b2); obtain ⟨i2, q4, k4, hi2, hl2, e2, f2⟩ := HP.out W2 q2 k2; have Q4 : Bx _ := ⟨q4⟩; have K4 : Bx _ := ⟨k4⟩; clear B2 q4 k4 q2 k2)
  | (go_at_call 70; refine Calls.mono (HD.out _ Q4.out K4.out _) ?_; rintro e W9 ⟨r9, rfl, hp⟩))
 go_ret
 exact hp
theorem yT (hT : RT w0 rb ae aa TL xs) (hK : aR TL) {W : World} {s : List ai} {ns : List Nd} (hS : RSs w0 rb ae aa TL xs U W s ns) (hc : kd s = 16) :
  Calls Tryz.prog 142 #[.pointer (some ⟨rb, 0, none⟩)] W (aj w0 rb ae aa TL xs U W s ns (mk1 12 s 0 [] [] (tl s))) := by
 have hrW := hS.lt
 have d26 : ((⟨(ax (kd s : Nat)).toArray⟩ : ByteArray).toList == [116, 114, 117, 101]) = false := by rw [au hK hS 26 (by decide) _ (by decide)]; exact decide_eq_false (by omega)
 have d16 : ((⟨(ax (kd s : Nat)).toArray⟩ : ByteArray).toList == [102, 97, 108, 115, 101]) = true := by rw [au hK hS 16 (by decide) _ (by decide)]; exact decide_eq_true hc
 have B1 : Bx _ := ⟨eP hT hS⟩
 have hf1 := dC
 have B2 : Bx (∀ W1, RSs w0 rb ae aa TL xs U W1 s ns -> _) := ⟨fun W1 h => dO hT h⟩
 have HP : Bx (∀ W2, RSs w0 rb ae aa TL xs U W2 s ns -> af rb W W2 -> ∃ i2 : Nat, RSs w0 rb ae aa TL xs U (W2.setCell ⟨rb, 2, none⟩ (.int .i64 ((i2 : Int) + 1))) (tl s) ns /\ af rb W (W2.setCell ⟨rb, 2, none⟩ (.int .i64 ((i2 : Int) + 1))) /\ i2 <= 65537 /\ rb < W2.heap.size /\ W2.cell? ⟨rb, 2, none⟩ = some (.int .i64 i2) /\ W2.frozen? ⟨rb, 2, none⟩ = false) := ⟨fun W2 q2 k2 => by
  obtain ⟨i2, hi2, hlt, c2, fz, p3⟩ := nz hK hT q2
  obtain ⟨q4, _, k4⟩ := p3 (by omega)
  exact ⟨i2, q4, k2.trans k4, hi2, hlt, c2, fz⟩⟩
 have HD : Bx (∀ W1, RSs w0 rb ae aa TL xs U W1 (tl s) ns -> af rb W W1 -> ∀ kv, Calls Tryz.prog 70 #[.pointer (some ⟨rb, 0, none⟩), .agg #[.int .i64 12, .int .i64 (hd s).place, kv, .string ⟨#[]⟩, .int .i64 0], .slice none 0 0] W1 fun e W' => ∃ r : Int, e = .returned (.int .i64 r) /\ aj w0 rb ae aa TL xs U W s ns (.ok [.mk 12 (hd s).place 0 [] []] (tl s)) (.returned (.int .i64 r)) W') := ⟨fun W1 h hk kv => fG hT [] h.kT hk (by have := jV hS; simp [sizes]; omega) ⟨W, hS⟩ 12 (hd s).place 0 [] kv none 0 0 rfl (World.ownsRow_nil _ _ _ _) (fun _ h => by cases h)⟩
 generalize (⟨(ax (kd s : Nat)).toArray⟩ : ByteArray) = tx at *
 show Calls _ _ _ _ (aj w0 rb ae aa TL xs U W s ns (.ok [.mk 12 (hd s).place 0 [] []] (tl s)))
 go_enter Tryz.func142, Tryz.ntmps142
 go_wp2_with (first
  | (go_at_call 84; refine Calls.mono B1.out ?_; rintro e W1 ⟨t1, rfl, b1⟩; have q1 := hS.ext b1; have k1 := af.ext hrW b1; clear B1)
  | (go_at_call 66; refine Calls.mono (B2.out _ q1) ?_; rintro e W2 ⟨rfl, b2⟩; have q2 := q1.ext b2; have k2 := k1.trans (af.ext q1.lt b2); obtain ⟨i2, q4, k4, hi2, hl2, e2, f2⟩ := HP.out W2 q2 k2; have Q4 : Bx _ := ⟨q4⟩; have K4 : Bx _ := ⟨k4⟩; clear B2 q4 k4 q2 k2)
  | (go_at_call 70; refine Calls.mono (HD.out _ Q4.out K4.out _) ?_; rintro e W9 ⟨r9, rfl, hp⟩))
 go_ret
 exact hp
theorem Ct (hT : RT w0 rb ae aa TL xs) (hK : aR TL) {W : World} {s : List ai} {ns : List Nd} (hS : RSs w0 rb ae aa TL xs U W s ns) (hc : kd s = 2) :
  Calls Tryz.prog 142 #[.pointer (some ⟨rb, 0, none⟩)] W (aj w0 rb ae aa TL xs U W s ns (gN s fun n s1 => mk1 11 s n [] [] s1)) := by
 have hrW := hS.lt
 have d26 : ((⟨(ax (kd s : Nat)).toArray⟩ : ByteArray).toList == [116, 114, 117, 101]) = false := by rw [au hK hS 26 (by decide) _ (by decide)]; exact decide_eq_false (by omega)
 have d16 : ((⟨(ax (kd s : Nat)).toArray⟩ : ByteArray).toList == [102, 97, 108, 115, 101]) = false := by rw [au hK hS 16 (by decide) _ (by decide)]; exact decide_eq_false (by omega)
 have d40 : ((⟨(ax (kd s : Nat)).toArray⟩ : ByteArray).toList == [40]) = false := by rw [au hK hS 40 (by decide) _ (by decide)]; exact decide_eq_false (by omega)
 have d42 : ((⟨(ax (kd s : Nat)).toArray⟩ : ByteArray).toList == [91]) = false := by rw [au hK hS 42 (by decide) _ (by decide)]; exact decide_eq_false (by omega)
 have d17 : ((⟨(ax (kd s : Nat)).toArray⟩ : ByteArray).toList == [102, 105, 108, 108]) = false := by rw [au hK hS 17 (by decide) _ (by decide)]; exact decide_eq_false (by omega)
 have d20 : ((⟨(ax (kd s : Nat)).toArray⟩ : ByteArray).toList == [108, 101, 110]) = false := by rw [au hK hS 20 (by decide) _ (by decide)]; exact decide_eq_false (by omega)
 have d21 : ((⟨(ax (kd s : Nat)).toArray⟩ : ByteArray).toList == [109, 97, 107, 101]) = false := by rw [au hK hS 21 (by decide) _ (by decide)]; exact decide_eq_false (by omega)
 have d23 : ((⟨(ax (kd s : Nat)).toArray⟩ : ByteArray).toList == [112, 114, 111, 103]) = false := by rw [au hK hS 23 (by decide) _ (by decide)]; exact decide_eq_false (by omega)
 have B1 : Bx _ := ⟨eP hT hS⟩
 have hf1 := dC
 have hf0 := mg
 have B2 : Bx (∀ W1, RSs w0 rb ae aa TL xs U W1 s ns -> _) := ⟨fun W1 h => dO hT h⟩
 have B4 : Bx (∀ W1, RSs w0 rb ae aa TL xs U W1 s ns -> _) := ⟨fun W1 h => eP hT h⟩
 have B3 : Bx (∀ W1, RSs w0 rb ae aa TL xs U W1 s ns -> _) := ⟨fun W1 h => AP hT hK h⟩
 have hck : ((kd s : Int) == 2) = true := by rw [hc]; rfl
 have hck2 : ((kd s : Nat) : Int) = 2 := by rw [hc]; rfl
 rw [wQ hc]
 have HD : Bx (∀ W1, RSs w0 rb ae aa TL xs U W1 (tl s) ns -> af rb W W1 -> ∀ kv, Calls Tryz.prog 70 #[.pointer (some ⟨rb, 0, none⟩), .agg #[.int .i64 11, .int .i64 (hd s).place, kv, .string ⟨#[]⟩, .int .i64 (hd s).num], .slice none 0 0] W1 fun e W' => ∃ r : Int, e = .returned (.int .i64 r) /\ aj w0 rb ae aa TL xs U W s ns (.ok [.mk 11 (hd s).place (hd s).num [] []] (tl s)) (.returned (.int .i64 r)) W') := ⟨fun W1 h hk kv => fG hT [] h.kT hk (by have := jV hS; simp [sizes]; omega) ⟨W, hS⟩ 11 (hd s).place (hd s).num [] kv none 0 0 rfl (World.ownsRow_nil _ _ _ _) (fun _ h => by cases h)⟩
 generalize (⟨(ax (kd s : Nat)).toArray⟩ : ByteArray) = tx at *
 show Calls _ _ _ _ (aj w0 rb ae aa TL xs U W s ns (.ok [.mk 11 (hd s).place (hd s).num [] []] (tl s)))
 go_enter Tryz.func142, Tryz.ntmps142
 go_wp2_with (first
  | (go_at_call 84; refine Calls.mono B1.out ?_; rintro e W1 ⟨t1, rfl, b1⟩; have q1 := hS.ext b1; have k1 := af.ext hrW b1; clear B1)
  | (go_at_call 66; refine Calls.mono (B2.out _ q1) ?_; rintro e W2 ⟨rfl, b2⟩; have q2 := q1.ext b2; have k2 := k1.trans (af.ext q1.lt b2); clear B2)
  | (go_at_call 84; refine Calls.mono (B4.out _ q2) ?_; rintro e W3 ⟨t3, rfl, b3⟩; have q3 := q2.ext b3; have k3 := k2.trans (af.ext q2.lt b3); clear B4)
  | (go_at_call 151; refine Calls.mono (B3.out _ q3) ?_; rintro e W4 (⟨_, rfl, q4, l4, k4⟩ | ⟨h, _⟩); rotate_left 1; exact absurd hc h; have k5 := k3.trans k4; clear B3)
  | (go_at_call 70; refine Calls.mono (HD.out _ q4 k5 _) ?_; rintro e W9 ⟨r9, rfl, hp⟩))
 go_ret
 exact hp
theorem Cu (hT : RT w0 rb ae aa TL xs) (hK : aR TL) {W : World} {s : List ai} {ns : List Nd} (hS : RSs w0 rb ae aa TL xs U W s ns) (hc : kd s ≠ 2 /\ kd s ≠ 26 /\ kd s ≠ 16 /\ kd s ≠ 40 /\ kd s ≠ 42 /\ kd s ≠ 17 /\ kd s ≠ 20 /\ kd s ≠ 21 /\ kd s ≠ 23) :
  Calls Tryz.prog 142 #[.pointer (some ⟨rb, 0, none⟩)] W (aj w0 rb ae aa TL xs U W s ns (dJ s fun n s1 => mk1 13 s 0 n [] s1)) := by
 have hrW := hS.lt
 have d26 : ((⟨(ax (kd s : Nat)).toArray⟩ : ByteArray).toList == [116, 114, 117, 101]) = false := by rw [au hK hS 26 (by decide) _ (by decide)]; exact decide_eq_false (by omega)
 have d16 : ((⟨(ax (kd s : Nat)).toArray⟩ : ByteArray).toList == [102, 97, 108, 115, 101]) = false := by rw [au hK hS 16 (by decide) _ (by decide)]; exact decide_eq_false (by omega)
 have d40 : ((⟨(ax (kd s : Nat)).toArray⟩ : ByteArray).toList == [40]) = false := by rw [au hK hS 40 (by decide) _ (by decide)]; exact decide_eq_false (by omega)
 have d42 : ((⟨(ax (kd s : Nat)).toArray⟩ : ByteArray).toList == [91]) = false := by rw [au hK hS 42 (by decide) _ (by decide)]; exact decide_eq_false (by omega)
 have d17 : ((⟨(ax (kd s : Nat)).toArray⟩ : ByteArray).toList == [102, 105, 108, 108]) = false := by rw [au hK hS 17 (by decide) _ (by decide)]; exact decide_eq_false (by omega)
 have d20 : ((⟨(ax (kd s : Nat)).toArray⟩ : ByteArray).toList == [108, 101, 110]) = false := by rw [au hK hS 20 (by decide) _ (by decide)]; exact decide_eq_false (by omega)
 have d21 : ((⟨(ax (kd s : Nat)).toArray⟩ : ByteArray).toList == [109, 97, 107, 101]) = false := by rw [au hK hS 21 (by decide) _ (by decide)]; exact decide_eq_false (by omega)
 have d23 : ((⟨(ax (kd s : Nat)).toArray⟩ : ByteArray).toList == [112, 114, 111, 103]) = false := by rw [au hK hS 23 (by decide) _ (by decide)]; exact decide_eq_false (by omega)
 have B1 : Bx _ := ⟨eP hT hS⟩
 have hf1 := dC
 have hf0 := mg
 have B2 : Bx (∀ W1, RSs w0 rb ae aa TL xs U W1 s ns -> _) := ⟨fun W1 h => dO hT h⟩
 have B4 : Bx (∀ W1, RSs w0 rb ae aa TL xs U W1 s ns -> _) := ⟨fun W1 h => eP hT h⟩
 have B3 : Bx (∀ W1, RSs w0 rb ae aa TL xs U W1 s ns -> _) := ⟨fun W1 h => lV hT hK h⟩
 have hck2 : ¬ ((kd s : Nat) : Int) = 2 := by omega
 by_cases h1 : kd s = 1
 ·rw [gZ h1]
  have HD : Bx (∀ W1, RSs w0 rb ae aa TL xs U W1 (tl s) ns -> af rb W W1 -> ∀ kv, Calls Tryz.prog 70 #[.pointer (some ⟨rb, 0, none⟩), .agg #[.int .i64 13, .int .i64 (hd s).place, kv, .string ⟨(hd s).name.toArray⟩, .int .i64 0], .slice none 0 0] W1 fun e W' => ∃ r : Int, e = .returned (.int .i64 r) /\ aj w0 rb ae aa TL xs U W s ns (.ok [.mk 13 (hd s).place 0 (hd s).name []] (tl s)) (.returned (.int .i64 r)) W') := ⟨fun W1 h hk kv => fG hT [] h.kT hk (by have := jV hS; simp [sizes]; omega) ⟨W, hS⟩ 13 (hd s).place 0 (hd s).name kv none 0 0 rfl (World.ownsRow_nil _ _ _ _) (fun _ h => by cases h)⟩
  generalize (⟨(ax (kd s : Nat)).toArray⟩ : ByteArray) = tx at *
  show Calls _ _ _ _ (aj w0 rb ae aa TL xs U W s ns (.ok [.mk 13 (hd s).place 0 (hd s).name []] (tl s)))
  generalize (⟨(hd s).name.toArray⟩ : ByteArray) = nmB at *
  go_enter Tryz.func142, Tryz.ntmps142
  go_wp2_with (first
   | (go_at_call 84; refine Calls.mono B1.out ?_; rintro e W1 ⟨t1, rfl, b1⟩; have q1 := hS.ext b1; have k1 := af.ext hrW b1; clear B1)
   | (go_at_call 66; refine Calls.mono (B2.out _ q1) ?_; rintro e W2 ⟨rfl, b2⟩; have q2 := q1.ext b2; have k2 := k1.trans (af.ext q1.lt b2); clear B2)
   | (go_at_call 84; refine Calls.mono (B4.out _ q2) ?_; rintro e W3 ⟨t3, rfl, b3⟩; have q3 := q2.ext b3; have k3 := k2.trans (af.ext q2.lt b3); clear B4)
   | (go_at_call 86; refine Calls.mono (B3.out _ q3) ?_; rintro e W4 (⟨_, rfl, q4, l4, k4⟩ | ⟨h, _⟩); rotate_left 1; exact absurd h1 h; have k5 := k3.trans k4; clear B3)
   | (go_at_call 70; refine Calls.mono (HD.out _ q4 k5 _) ?_; rintro e W9 ⟨r9, rfl, hp⟩))
  go_ret
  exact hp
 ·rw [jh h1]
  generalize (⟨(ax (kd s : Nat)).toArray⟩ : ByteArray) = tx at *
  go_enter Tryz.func142, Tryz.ntmps142
  go_wp2_with (first
   | (go_at_call 84; refine Calls.mono B1.out ?_; rintro e W1 ⟨t1, rfl, b1⟩; have q1 := hS.ext b1; have k1 := af.ext hrW b1; clear B1)
   | (go_at_call 66; refine Calls.mono (B2.out _ q1) ?_; rintro e W2 ⟨rfl, b2⟩; have q2 := q1.ext b2; have k2 := k1.trans (af.ext q1.lt b2); clear B2)
   | (go_at_call 84; refine Calls.mono (B4.out _ q2) ?_; rintro e W3 ⟨t3, rfl, b3⟩; have q3 := q2.ext b3; have k3 := k2.trans (af.ext q2.lt b3); clear B4)
   | (go_at_call 86; refine Calls.mono (B3.out _ q3) ?_; rintro e W4 (⟨h, _⟩ | ⟨_, rfl, b4⟩); exact absurd h h1; unfold ak))
  exact ⟨rfl, rfl, b4⟩
end Go.Proofs.YtecodpdfckjalaaGreatDoor
