import Derived.Test.YtecodpdfckjalaaGreatDoorCRSim
import Derived.Test.YtecodpdfckjalaaGreatDoorCRAdd
namespace Go.Proofs.YtecodpdfckjalaaGreatDoor
open Go.RowKit
set_option linter.unusedVariables false
set_option linter.unusedSimpArgs false

variable {w0 : World} {rb : Nat} {srcV tokV : Value} {TL : List Tok} {xs : List UInt8} {U : Nat → Prop}
set_option maxRecDepth 100000 in
set_option maxHeartbeats 4000000 in
theorem primary_26 (hT : RT w0 rb srcV tokV TL xs) (hK : Kinds TL) {W : World} {s : List PTok} {ns : List Nd} (hS : RSs w0 rb srcV tokV TL xs U W s ns) (hc : kd s = 26) :
    Calls Tryz.prog 142 #[.pointer (some ⟨rb, 0, none⟩)] W (Post1 w0 rb srcV tokV TL xs U W s ns (mk1 12 s 1 [] [] (tl s))) := by
  have hrW := hS.lt
  have d26 : ((⟨(textK (kd s : Nat)).toArray⟩ : ByteArray).toList == [116, 114, 117, 101]) = true := by rw [text_eq hK hS 26 (by decide) _ (by decide)]; exact decide_eq_true hc
  have B1 : Bx _ := ⟨nextS hT hS⟩
  have hf1 := tok_f1
  have B2 : Bx (∀ W1, RSs w0 rb srcV tokV TL xs U W1 s ns → _) := ⟨fun W1 h => textS hT h⟩
  have HP : Bx (∀ W2, RSs w0 rb srcV tokV TL xs U W2 s ns → KeepR rb W W2 → ∃ i2 : Nat, RSs w0 rb srcV tokV TL xs U (W2.setCell ⟨rb, 2, none⟩ (.int .i64 ((i2 : Int) + 1))) (tl s) ns ∧ KeepR rb W (W2.setCell ⟨rb, 2, none⟩ (.int .i64 ((i2 : Int) + 1))) ∧ i2 ≤ 65537 ∧ rb < W2.heap.size ∧ W2.cell? ⟨rb, 2, none⟩ = some (.int .i64 i2) ∧ W2.frozen? ⟨rb, 2, none⟩ = false) := ⟨fun W2 q2 k2 => by
    obtain ⟨i2, hi2, hlt, c2, fz, p3⟩ := stepS hK hT q2
    obtain ⟨q4, _, k4⟩ := p3 (by omega)
    exact ⟨i2, q4, k2.trans k4, hi2, hlt, c2, fz⟩⟩
  have HD : Bx (∀ W1, RSs w0 rb srcV tokV TL xs U W1 (tl s) ns → KeepR rb W W1 → ∀ kv, Calls Tryz.prog 70 #[.pointer (some ⟨rb, 0, none⟩), .agg #[.int .i64 12, .int .i64 (hd s).place, kv, .string ⟨#[]⟩, .int .i64 1], .slice none 0 0] W1 fun e W' => ∃ r : Int, e = .returned (.int .i64 r) ∧ Post1 w0 rb srcV tokV TL xs U W s ns (.ok [.mk 12 (hd s).place 1 [] []] (tl s)) (.returned (.int .i64 r)) W') := ⟨fun W1 h hk kv => addS hT [] h.nokids hk (by have := tl_len hS; simp [sizes]; omega) ⟨W, hS⟩ 12 (hd s).place 1 [] kv none 0 0 rfl (World.ownsRow_nil _ _ _ _) (fun _ h => by cases h)⟩
  generalize (⟨(textK (kd s : Nat)).toArray⟩ : ByteArray) = tx at *
  show Calls _ _ _ _ (Post1 w0 rb srcV tokV TL xs U W s ns (.ok [.mk 12 (hd s).place 1 [] []] (tl s)))
  go_enter Tryz.func142, Tryz.ntmps142
  go_wp2_with (first
    | (go_at_call 84; refine Calls.mono B1.out ?_; rintro e W1 ⟨t1, rfl, b1⟩; have q1 := hS.ext b1; have k1 := KeepR.ext hrW b1; clear B1)
    | (go_at_call 66; refine Calls.mono (B2.out _ q1) ?_; rintro e W2 ⟨rfl, b2⟩; have q2 := q1.ext b2; have k2 := k1.trans (KeepR.ext q1.lt b2); obtain ⟨i2, q4, k4, hi2, hl2, e2, f2⟩ := HP.out W2 q2 k2; have Q4 : Bx _ := ⟨q4⟩; have K4 : Bx _ := ⟨k4⟩; clear B2 q4 k4 q2 k2)
    | (go_at_call 70; refine Calls.mono (HD.out _ Q4.out K4.out _) ?_; rintro e W9 ⟨r9, rfl, hp⟩))
  go_ret
  exact hp

set_option maxRecDepth 100000 in
set_option maxHeartbeats 4000000 in
theorem primary_16 (hT : RT w0 rb srcV tokV TL xs) (hK : Kinds TL) {W : World} {s : List PTok} {ns : List Nd} (hS : RSs w0 rb srcV tokV TL xs U W s ns) (hc : kd s = 16) :
    Calls Tryz.prog 142 #[.pointer (some ⟨rb, 0, none⟩)] W (Post1 w0 rb srcV tokV TL xs U W s ns (mk1 12 s 0 [] [] (tl s))) := by
  have hrW := hS.lt
  have d26 : ((⟨(textK (kd s : Nat)).toArray⟩ : ByteArray).toList == [116, 114, 117, 101]) = false := by rw [text_eq hK hS 26 (by decide) _ (by decide)]; exact decide_eq_false (by omega)
  have d16 : ((⟨(textK (kd s : Nat)).toArray⟩ : ByteArray).toList == [102, 97, 108, 115, 101]) = true := by rw [text_eq hK hS 16 (by decide) _ (by decide)]; exact decide_eq_true hc
  have B1 : Bx _ := ⟨nextS hT hS⟩
  have hf1 := tok_f1
  have B2 : Bx (∀ W1, RSs w0 rb srcV tokV TL xs U W1 s ns → _) := ⟨fun W1 h => textS hT h⟩
  have HP : Bx (∀ W2, RSs w0 rb srcV tokV TL xs U W2 s ns → KeepR rb W W2 → ∃ i2 : Nat, RSs w0 rb srcV tokV TL xs U (W2.setCell ⟨rb, 2, none⟩ (.int .i64 ((i2 : Int) + 1))) (tl s) ns ∧ KeepR rb W (W2.setCell ⟨rb, 2, none⟩ (.int .i64 ((i2 : Int) + 1))) ∧ i2 ≤ 65537 ∧ rb < W2.heap.size ∧ W2.cell? ⟨rb, 2, none⟩ = some (.int .i64 i2) ∧ W2.frozen? ⟨rb, 2, none⟩ = false) := ⟨fun W2 q2 k2 => by
    obtain ⟨i2, hi2, hlt, c2, fz, p3⟩ := stepS hK hT q2
    obtain ⟨q4, _, k4⟩ := p3 (by omega)
    exact ⟨i2, q4, k2.trans k4, hi2, hlt, c2, fz⟩⟩
  have HD : Bx (∀ W1, RSs w0 rb srcV tokV TL xs U W1 (tl s) ns → KeepR rb W W1 → ∀ kv, Calls Tryz.prog 70 #[.pointer (some ⟨rb, 0, none⟩), .agg #[.int .i64 12, .int .i64 (hd s).place, kv, .string ⟨#[]⟩, .int .i64 0], .slice none 0 0] W1 fun e W' => ∃ r : Int, e = .returned (.int .i64 r) ∧ Post1 w0 rb srcV tokV TL xs U W s ns (.ok [.mk 12 (hd s).place 0 [] []] (tl s)) (.returned (.int .i64 r)) W') := ⟨fun W1 h hk kv => addS hT [] h.nokids hk (by have := tl_len hS; simp [sizes]; omega) ⟨W, hS⟩ 12 (hd s).place 0 [] kv none 0 0 rfl (World.ownsRow_nil _ _ _ _) (fun _ h => by cases h)⟩
  generalize (⟨(textK (kd s : Nat)).toArray⟩ : ByteArray) = tx at *
  show Calls _ _ _ _ (Post1 w0 rb srcV tokV TL xs U W s ns (.ok [.mk 12 (hd s).place 0 [] []] (tl s)))
  go_enter Tryz.func142, Tryz.ntmps142
  go_wp2_with (first
    | (go_at_call 84; refine Calls.mono B1.out ?_; rintro e W1 ⟨t1, rfl, b1⟩; have q1 := hS.ext b1; have k1 := KeepR.ext hrW b1; clear B1)
    | (go_at_call 66; refine Calls.mono (B2.out _ q1) ?_; rintro e W2 ⟨rfl, b2⟩; have q2 := q1.ext b2; have k2 := k1.trans (KeepR.ext q1.lt b2); obtain ⟨i2, q4, k4, hi2, hl2, e2, f2⟩ := HP.out W2 q2 k2; have Q4 : Bx _ := ⟨q4⟩; have K4 : Bx _ := ⟨k4⟩; clear B2 q4 k4 q2 k2)
    | (go_at_call 70; refine Calls.mono (HD.out _ Q4.out K4.out _) ?_; rintro e W9 ⟨r9, rfl, hp⟩))
  go_ret
  exact hp

set_option maxRecDepth 100000 in
set_option maxHeartbeats 4000000 in
theorem primary_2 (hT : RT w0 rb srcV tokV TL xs) (hK : Kinds TL) {W : World} {s : List PTok} {ns : List Nd} (hS : RSs w0 rb srcV tokV TL xs U W s ns) (hc : kd s = 2) :
    Calls Tryz.prog 142 #[.pointer (some ⟨rb, 0, none⟩)] W (Post1 w0 rb srcV tokV TL xs U W s ns (numK s fun n s1 => mk1 11 s n [] [] s1)) := by
  have hrW := hS.lt
  have d26 : ((⟨(textK (kd s : Nat)).toArray⟩ : ByteArray).toList == [116, 114, 117, 101]) = false := by rw [text_eq hK hS 26 (by decide) _ (by decide)]; exact decide_eq_false (by omega)
  have d16 : ((⟨(textK (kd s : Nat)).toArray⟩ : ByteArray).toList == [102, 97, 108, 115, 101]) = false := by rw [text_eq hK hS 16 (by decide) _ (by decide)]; exact decide_eq_false (by omega)
  have d40 : ((⟨(textK (kd s : Nat)).toArray⟩ : ByteArray).toList == [40]) = false := by rw [text_eq hK hS 40 (by decide) _ (by decide)]; exact decide_eq_false (by omega)
  have d42 : ((⟨(textK (kd s : Nat)).toArray⟩ : ByteArray).toList == [91]) = false := by rw [text_eq hK hS 42 (by decide) _ (by decide)]; exact decide_eq_false (by omega)
  have d17 : ((⟨(textK (kd s : Nat)).toArray⟩ : ByteArray).toList == [102, 105, 108, 108]) = false := by rw [text_eq hK hS 17 (by decide) _ (by decide)]; exact decide_eq_false (by omega)
  have d20 : ((⟨(textK (kd s : Nat)).toArray⟩ : ByteArray).toList == [108, 101, 110]) = false := by rw [text_eq hK hS 20 (by decide) _ (by decide)]; exact decide_eq_false (by omega)
  have d21 : ((⟨(textK (kd s : Nat)).toArray⟩ : ByteArray).toList == [109, 97, 107, 101]) = false := by rw [text_eq hK hS 21 (by decide) _ (by decide)]; exact decide_eq_false (by omega)
  have d23 : ((⟨(textK (kd s : Nat)).toArray⟩ : ByteArray).toList == [112, 114, 111, 103]) = false := by rw [text_eq hK hS 23 (by decide) _ (by decide)]; exact decide_eq_false (by omega)
  have B1 : Bx _ := ⟨nextS hT hS⟩
  have hf1 := tok_f1
  have hf0 := tok_f0
  have B2 : Bx (∀ W1, RSs w0 rb srcV tokV TL xs U W1 s ns → _) := ⟨fun W1 h => textS hT h⟩
  have B4 : Bx (∀ W1, RSs w0 rb srcV tokV TL xs U W1 s ns → _) := ⟨fun W1 h => nextS hT h⟩
  have B3 : Bx (∀ W1, RSs w0 rb srcV tokV TL xs U W1 s ns → _) := ⟨fun W1 h => numberS hT hK h⟩
  have hck : ((kd s : Int) == 2) = true := by rw [hc]; rfl
  have hck2 : ((kd s : Nat) : Int) = 2 := by rw [hc]; rfl
  rw [numK_pos hc]
  have HD : Bx (∀ W1, RSs w0 rb srcV tokV TL xs U W1 (tl s) ns → KeepR rb W W1 → ∀ kv, Calls Tryz.prog 70 #[.pointer (some ⟨rb, 0, none⟩), .agg #[.int .i64 11, .int .i64 (hd s).place, kv, .string ⟨#[]⟩, .int .i64 (hd s).num], .slice none 0 0] W1 fun e W' => ∃ r : Int, e = .returned (.int .i64 r) ∧ Post1 w0 rb srcV tokV TL xs U W s ns (.ok [.mk 11 (hd s).place (hd s).num [] []] (tl s)) (.returned (.int .i64 r)) W') := ⟨fun W1 h hk kv => addS hT [] h.nokids hk (by have := tl_len hS; simp [sizes]; omega) ⟨W, hS⟩ 11 (hd s).place (hd s).num [] kv none 0 0 rfl (World.ownsRow_nil _ _ _ _) (fun _ h => by cases h)⟩
  generalize (⟨(textK (kd s : Nat)).toArray⟩ : ByteArray) = tx at *
  show Calls _ _ _ _ (Post1 w0 rb srcV tokV TL xs U W s ns (.ok [.mk 11 (hd s).place (hd s).num [] []] (tl s)))
  go_enter Tryz.func142, Tryz.ntmps142
  go_wp2_with (first
    | (go_at_call 84; refine Calls.mono B1.out ?_; rintro e W1 ⟨t1, rfl, b1⟩; have q1 := hS.ext b1; have k1 := KeepR.ext hrW b1; clear B1)
    | (go_at_call 66; refine Calls.mono (B2.out _ q1) ?_; rintro e W2 ⟨rfl, b2⟩; have q2 := q1.ext b2; have k2 := k1.trans (KeepR.ext q1.lt b2); clear B2)
    | (go_at_call 84; refine Calls.mono (B4.out _ q2) ?_; rintro e W3 ⟨t3, rfl, b3⟩; have q3 := q2.ext b3; have k3 := k2.trans (KeepR.ext q2.lt b3); clear B4)
    | (go_at_call 151; refine Calls.mono (B3.out _ q3) ?_; rintro e W4 (⟨_, rfl, q4, l4, k4⟩ | ⟨h, _⟩); rotate_left 1; exact absurd hc h; have k5 := k3.trans k4; clear B3)
    | (go_at_call 70; refine Calls.mono (HD.out _ q4 k5 _) ?_; rintro e W9 ⟨r9, rfl, hp⟩))
  go_ret
  exact hp
set_option maxRecDepth 100000 in
set_option maxHeartbeats 4000000 in
theorem primary_0 (hT : RT w0 rb srcV tokV TL xs) (hK : Kinds TL) {W : World} {s : List PTok} {ns : List Nd} (hS : RSs w0 rb srcV tokV TL xs U W s ns) (hc : kd s ≠ 2 ∧ kd s ≠ 26 ∧ kd s ≠ 16 ∧ kd s ≠ 40 ∧ kd s ≠ 42 ∧ kd s ≠ 17 ∧ kd s ≠ 20 ∧ kd s ≠ 21 ∧ kd s ≠ 23) :
    Calls Tryz.prog 142 #[.pointer (some ⟨rb, 0, none⟩)] W (Post1 w0 rb srcV tokV TL xs U W s ns (nameK s fun n s1 => mk1 13 s 0 n [] s1)) := by
  have hrW := hS.lt
  have d26 : ((⟨(textK (kd s : Nat)).toArray⟩ : ByteArray).toList == [116, 114, 117, 101]) = false := by rw [text_eq hK hS 26 (by decide) _ (by decide)]; exact decide_eq_false (by omega)
  have d16 : ((⟨(textK (kd s : Nat)).toArray⟩ : ByteArray).toList == [102, 97, 108, 115, 101]) = false := by rw [text_eq hK hS 16 (by decide) _ (by decide)]; exact decide_eq_false (by omega)
  have d40 : ((⟨(textK (kd s : Nat)).toArray⟩ : ByteArray).toList == [40]) = false := by rw [text_eq hK hS 40 (by decide) _ (by decide)]; exact decide_eq_false (by omega)
  have d42 : ((⟨(textK (kd s : Nat)).toArray⟩ : ByteArray).toList == [91]) = false := by rw [text_eq hK hS 42 (by decide) _ (by decide)]; exact decide_eq_false (by omega)
  have d17 : ((⟨(textK (kd s : Nat)).toArray⟩ : ByteArray).toList == [102, 105, 108, 108]) = false := by rw [text_eq hK hS 17 (by decide) _ (by decide)]; exact decide_eq_false (by omega)
  have d20 : ((⟨(textK (kd s : Nat)).toArray⟩ : ByteArray).toList == [108, 101, 110]) = false := by rw [text_eq hK hS 20 (by decide) _ (by decide)]; exact decide_eq_false (by omega)
  have d21 : ((⟨(textK (kd s : Nat)).toArray⟩ : ByteArray).toList == [109, 97, 107, 101]) = false := by rw [text_eq hK hS 21 (by decide) _ (by decide)]; exact decide_eq_false (by omega)
  have d23 : ((⟨(textK (kd s : Nat)).toArray⟩ : ByteArray).toList == [112, 114, 111, 103]) = false := by rw [text_eq hK hS 23 (by decide) _ (by decide)]; exact decide_eq_false (by omega)
  have B1 : Bx _ := ⟨nextS hT hS⟩
  have hf1 := tok_f1
  have hf0 := tok_f0
  have B2 : Bx (∀ W1, RSs w0 rb srcV tokV TL xs U W1 s ns → _) := ⟨fun W1 h => textS hT h⟩
  have B4 : Bx (∀ W1, RSs w0 rb srcV tokV TL xs U W1 s ns → _) := ⟨fun W1 h => nextS hT h⟩
  have B3 : Bx (∀ W1, RSs w0 rb srcV tokV TL xs U W1 s ns → _) := ⟨fun W1 h => nameS hT hK h⟩
  have hck2 : ¬ ((kd s : Nat) : Int) = 2 := by omega
  by_cases h1 : kd s = 1
  · rw [nameK_pos h1]
    have HD : Bx (∀ W1, RSs w0 rb srcV tokV TL xs U W1 (tl s) ns → KeepR rb W W1 → ∀ kv, Calls Tryz.prog 70 #[.pointer (some ⟨rb, 0, none⟩), .agg #[.int .i64 13, .int .i64 (hd s).place, kv, .string ⟨(hd s).name.toArray⟩, .int .i64 0], .slice none 0 0] W1 fun e W' => ∃ r : Int, e = .returned (.int .i64 r) ∧ Post1 w0 rb srcV tokV TL xs U W s ns (.ok [.mk 13 (hd s).place 0 (hd s).name []] (tl s)) (.returned (.int .i64 r)) W') := ⟨fun W1 h hk kv => addS hT [] h.nokids hk (by have := tl_len hS; simp [sizes]; omega) ⟨W, hS⟩ 13 (hd s).place 0 (hd s).name kv none 0 0 rfl (World.ownsRow_nil _ _ _ _) (fun _ h => by cases h)⟩
    generalize (⟨(textK (kd s : Nat)).toArray⟩ : ByteArray) = tx at *
    show Calls _ _ _ _ (Post1 w0 rb srcV tokV TL xs U W s ns (.ok [.mk 13 (hd s).place 0 (hd s).name []] (tl s)))
    generalize (⟨(hd s).name.toArray⟩ : ByteArray) = nmB at *
    go_enter Tryz.func142, Tryz.ntmps142
    go_wp2_with (first
      | (go_at_call 84; refine Calls.mono B1.out ?_; rintro e W1 ⟨t1, rfl, b1⟩; have q1 := hS.ext b1; have k1 := KeepR.ext hrW b1; clear B1)
      | (go_at_call 66; refine Calls.mono (B2.out _ q1) ?_; rintro e W2 ⟨rfl, b2⟩; have q2 := q1.ext b2; have k2 := k1.trans (KeepR.ext q1.lt b2); clear B2)
      | (go_at_call 84; refine Calls.mono (B4.out _ q2) ?_; rintro e W3 ⟨t3, rfl, b3⟩; have q3 := q2.ext b3; have k3 := k2.trans (KeepR.ext q2.lt b3); clear B4)
      | (go_at_call 86; refine Calls.mono (B3.out _ q3) ?_; rintro e W4 (⟨_, rfl, q4, l4, k4⟩ | ⟨h, _⟩); rotate_left 1; exact absurd h1 h; have k5 := k3.trans k4; clear B3)
      | (go_at_call 70; refine Calls.mono (HD.out _ q4 k5 _) ?_; rintro e W9 ⟨r9, rfl, hp⟩))
    go_ret
    exact hp
  · rw [nameK_neg h1]
    generalize (⟨(textK (kd s : Nat)).toArray⟩ : ByteArray) = tx at *
    go_enter Tryz.func142, Tryz.ntmps142
    go_wp2_with (first
      | (go_at_call 84; refine Calls.mono B1.out ?_; rintro e W1 ⟨t1, rfl, b1⟩; have q1 := hS.ext b1; have k1 := KeepR.ext hrW b1; clear B1)
      | (go_at_call 66; refine Calls.mono (B2.out _ q1) ?_; rintro e W2 ⟨rfl, b2⟩; have q2 := q1.ext b2; have k2 := k1.trans (KeepR.ext q1.lt b2); clear B2)
      | (go_at_call 84; refine Calls.mono (B4.out _ q2) ?_; rintro e W3 ⟨t3, rfl, b3⟩; have q3 := q2.ext b3; have k3 := k2.trans (KeepR.ext q2.lt b3); clear B4)
      | (go_at_call 86; refine Calls.mono (B3.out _ q3) ?_; rintro e W4 (⟨h, _⟩ | ⟨_, rfl, b4⟩); exact absurd h h1; unfold faultP))
    exact ⟨rfl, rfl, b4⟩
end Go.Proofs.YtecodpdfckjalaaGreatDoor
namespace Go.Proofs.YtecodpdfckjalaaGreatDoor
open Go.RowKit
set_option linter.unusedVariables false
set_option linter.unusedSimpArgs false

variable {w0 : World} {rb : Nat} {srcV tokV : Value} {TL : List Tok} {xs : List UInt8}

set_option maxRecDepth 100000 in
set_option maxHeartbeats 2000000 in
theorem begun_any (hT : RT w0 rb srcV tokV TL xs) (hK : Kinds TL) {f : Nat} (Hexpr : RC w0 rb srcV tokV TL xs (pF f (.operands 1)) 109 #[])  :
    RC w0 rb srcV tokV TL xs (fun s => want 11 s fun s1 => andT (pF f (.operands 1) s1) fun a s2 => want 47 s2 fun s3 => mk1 39 s 0 [] a s3) 93 #[] := by
  intro U W s ns hS hne
  show Calls Tryz.prog 93 #[.pointer (some ⟨rb, 0, none⟩)] W _
  dsimp only at hne ⊢
  have hrW := hS.lt
  have B1 : Bx (∀ W1, RSs w0 rb srcV tokV TL xs U W1 (s) (ns) → _) := ⟨fun W1 h => wantS hT hK h 11 (by decide) ⟨#[98, 101, 103, 105, 110]⟩ (by decide)⟩
  by_cases h1 : kd (s) = 11
  · rw [want_pos h1] at hne ⊢
    have B2 : Bx (∀ W1, RSs w0 rb srcV tokV TL xs U W1 (tl (s)) (ns) → pF f (.operands 1) (tl (s)) ≠ .out → Calls Tryz.prog 109 #[.pointer (some ⟨rb, 0, none⟩)] W1 (Post1 w0 rb srcV tokV TL xs U W1 (tl (s)) (ns) (pF f (.operands 1) (tl (s))))) := ⟨fun W1 h hn => Hexpr U W1 (tl (s)) (ns) h hn⟩
    match r2 : pF f (.operands 1) (tl (s)) with
    | .out => rw [r2] at hne; exact absurd rfl hne
    | .err s' =>
      rw [r2] at B2
      show Calls _ _ _ _ (Post1 w0 rb srcV tokV TL xs U W s ns (.err s'))
      go_enter Tryz.func93, Tryz.ntmps93
      go_wp2_with (first
        | (go_at_call 85; refine Calls.mono (B1.out _ hS) ?_; rintro e W1 (⟨_, rfl, q1, l1, k1⟩ | ⟨h, _⟩); rotate_left 1; exact absurd h1 h; clear B1)
        | (go_at_call 109; refine Calls.mono (B2.out _ q1 (by simp)) ?_; rintro e W2 ⟨rfl, b2⟩; unfold faultP))
      exact ⟨rfl, rfl, b2⟩
    | .ok ts2 s2 =>
      rw [r2] at B2 hne
      simp only [andT] at hne ⊢
      have B3 : Bx (∀ W1, RSs w0 rb srcV tokV TL xs U W1 (s2) (ns ++ flats ts2 (ns).length) → _) := ⟨fun W1 h => wantS hT hK h 47 (by decide) ⟨#[59]⟩ (by decide)⟩
      by_cases h3 : kd (s2) = 47
      · rw [want_pos h3] at hne ⊢
        have HD : Bx (∀ W1, RSs w0 rb srcV tokV TL xs U W1 (tl s2) (ns ++ flats ts2 (ns).length) → KeepR rb W W1 → ∀ v2 : Nat, v2 = ((ns).length + sizes ts2 - 1 : Nat) → ts2.length = 1 → (tl s2).length + sizes ts2 + 1 ≤ s.length → ∀ kv, Calls Tryz.prog 70 #[.pointer (some ⟨rb, 0, none⟩), .agg #[.int .i64 39, .int .i64 (hd s).place, kv, .string ⟨([]).toArray⟩, .int .i64 0], .slice (some ⟨W1.heap.size, 0, none⟩) 1 1] (W1.alloc (.cells #[.int .i64 ((v2 : Nat) : Int)] 3)) fun e W' => ∃ r : Int, e = .returned (.int .i64 r) ∧ Post1 w0 rb srcV tokV TL xs U W s ns (.ok [.mk 39 (hd s).place 0 ([]) ts2] (tl s2)) (.returned (.int .i64 r)) W') := ⟨fun W1 h hk v2 g2 e2 hsz kv => by
          have hI := ints_new (rb := rb) (W := W1) (o := #[.int .i64 ((v2 : Nat) : Int)]) (ys := ends ts2 ns.length) (n := 1) (by rw [ends_one e2]; rfl) (by decide) (by decide) h.lt (by rw [ends_one e2, g2]; rfl)
          exact addS hT ts2 (h.ext (below1 _ _)) (hk.trans (KeepR.alloc h.lt _)) hsz ⟨W, hS⟩ 39 (hd s).place 0 ([]) kv (some ⟨W1.heap.size, 0, none⟩) 1 1 e2.symm hI h.new⟩
        show Calls _ _ _ _ (Post1 w0 rb srcV tokV TL xs U W s ns (.ok [.mk 39 (hd s).place 0 ([]) ts2] (tl s2)))
        go_enter Tryz.func93, Tryz.ntmps93
        go_wp2_with (first
          | (go_at_call 85; refine Calls.mono (B1.out _ hS) ?_; rintro e W1 (⟨_, rfl, q1, l1, k1⟩ | ⟨h, _⟩); rotate_left 1; exact absurd h1 h; clear B1)
          | (go_at_call 109; refine Calls.mono (B2.out _ q1 (by simp)) ?_; rintro e W2 ⟨n2, l2, he, q2, k2⟩; obtain ⟨v2, hv⟩ : ∃ r : Nat, r = ((ns).length + sizes ts2 - 1) := ⟨_, rfl⟩; rw [← hv] at he; subst he; have V2 : Bx _ := ⟨hv⟩; clear hv B2)
          | (go_at_call 85; refine Calls.mono (B3.out _ q2) ?_; rintro e W3 (⟨_, rfl, q3, l3, k3⟩ | ⟨h, _⟩); rotate_left 1; exact absurd h3 h; clear B3)
          | (go_at_call 70; refine Calls.mono (HD.out _ q3 (k1.trans (k2.trans k3)) v2 V2.out n2 (by omega) _) ?_; rintro e W9 ⟨r9, rfl, hp⟩))
        go_ret
        exact hp
      · rw [want_neg h3]
        go_enter Tryz.func93, Tryz.ntmps93
        go_wp2_with (first
          | (go_at_call 85; refine Calls.mono (B1.out _ hS) ?_; rintro e W1 (⟨_, rfl, q1, l1, k1⟩ | ⟨h, _⟩); rotate_left 1; exact absurd h1 h; clear B1)
          | (go_at_call 109; refine Calls.mono (B2.out _ q1 (by simp)) ?_; rintro e W2 ⟨n2, l2, he, q2, k2⟩; obtain ⟨v2, hv⟩ : ∃ r : Nat, r = ((ns).length + sizes ts2 - 1) := ⟨_, rfl⟩; rw [← hv] at he; subst he; have V2 : Bx _ := ⟨hv⟩; clear hv B2)
          | (go_at_call 85; refine Calls.mono (B3.out _ q2) ?_; rintro e W3 (⟨h, _⟩ | ⟨_, rfl, b3⟩); exact absurd h h3; unfold faultP))
        exact ⟨rfl, rfl, b3⟩
  · rw [want_neg h1]
    go_enter Tryz.func93, Tryz.ntmps93
    go_wp2_with (first
      | (go_at_call 85; refine Calls.mono (B1.out _ hS) ?_; rintro e W1 (⟨h, _⟩ | ⟨_, rfl, b1⟩); exact absurd h h1; unfold faultP))
    exact ⟨rfl, rfl, b1⟩
set_option maxRecDepth 100000 in
set_option maxHeartbeats 2000000 in
theorem loop_any (hT : RT w0 rb srcV tokV TL xs) (hK : Kinds TL) {f : Nat} (Hexpr : RC w0 rb srcV tokV TL xs (pF f (.operands 1)) 109 #[]) (Hblock : RC w0 rb srcV tokV TL xs (pF f .block) 95 #[])  :
    RC w0 rb srcV tokV TL xs (fun s => want 30 s fun s1 => andT (pF f (.operands 1) s1) fun a s2 => andT (pF f .block s2) fun b s3 => mk1 37 s 0 [] (a ++ b) s3) 91 #[] := by
  intro U W s ns hS hne
  show Calls Tryz.prog 91 #[.pointer (some ⟨rb, 0, none⟩)] W _
  dsimp only at hne ⊢
  have hrW := hS.lt
  have B1 : Bx (∀ W1, RSs w0 rb srcV tokV TL xs U W1 (s) (ns) → _) := ⟨fun W1 h => wantS hT hK h 30 (by decide) ⟨#[119, 104, 105, 108, 101]⟩ (by decide)⟩
  by_cases h1 : kd (s) = 30
  · rw [want_pos h1] at hne ⊢
    have B2 : Bx (∀ W1, RSs w0 rb srcV tokV TL xs U W1 (tl (s)) (ns) → pF f (.operands 1) (tl (s)) ≠ .out → Calls Tryz.prog 109 #[.pointer (some ⟨rb, 0, none⟩)] W1 (Post1 w0 rb srcV tokV TL xs U W1 (tl (s)) (ns) (pF f (.operands 1) (tl (s))))) := ⟨fun W1 h hn => Hexpr U W1 (tl (s)) (ns) h hn⟩
    match r2 : pF f (.operands 1) (tl (s)) with
    | .out => rw [r2] at hne; exact absurd rfl hne
    | .err s' =>
      rw [r2] at B2
      show Calls _ _ _ _ (Post1 w0 rb srcV tokV TL xs U W s ns (.err s'))
      go_enter Tryz.func91, Tryz.ntmps91
      go_wp2_with (first
        | (go_at_call 85; refine Calls.mono (B1.out _ hS) ?_; rintro e W1 (⟨_, rfl, q1, l1, k1⟩ | ⟨h, _⟩); rotate_left 1; exact absurd h1 h; clear B1)
        | (go_at_call 109; refine Calls.mono (B2.out _ q1 (by simp)) ?_; rintro e W2 ⟨rfl, b2⟩; unfold faultP))
      exact ⟨rfl, rfl, b2⟩
    | .ok ts2 s2 =>
      rw [r2] at B2 hne
      simp only [andT] at hne ⊢
      have B3 : Bx (∀ W1, RSs w0 rb srcV tokV TL xs U W1 (s2) (ns ++ flats ts2 (ns).length) → pF f .block (s2) ≠ .out → Calls Tryz.prog 95 #[.pointer (some ⟨rb, 0, none⟩)] W1 (Post1 w0 rb srcV tokV TL xs U W1 (s2) (ns ++ flats ts2 (ns).length) (pF f .block (s2)))) := ⟨fun W1 h hn => Hblock U W1 (s2) (ns ++ flats ts2 (ns).length) h hn⟩
      match r3 : pF f .block (s2) with
      | .out => rw [r3] at hne; exact absurd rfl hne
      | .err s' =>
        rw [r3] at B3
        show Calls _ _ _ _ (Post1 w0 rb srcV tokV TL xs U W s ns (.err s'))
        go_enter Tryz.func91, Tryz.ntmps91
        go_wp2_with (first
          | (go_at_call 85; refine Calls.mono (B1.out _ hS) ?_; rintro e W1 (⟨_, rfl, q1, l1, k1⟩ | ⟨h, _⟩); rotate_left 1; exact absurd h1 h; clear B1)
          | (go_at_call 109; refine Calls.mono (B2.out _ q1 (by simp)) ?_; rintro e W2 ⟨n2, l2, he, q2, k2⟩; obtain ⟨v2, hv⟩ : ∃ r : Nat, r = ((ns).length + sizes ts2 - 1) := ⟨_, rfl⟩; rw [← hv] at he; subst he; have V2 : Bx _ := ⟨hv⟩; clear hv B2)
          | (go_at_call 95; refine Calls.mono (B3.out _ q2 (by simp)) ?_; rintro e W3 ⟨rfl, b3⟩; unfold faultP))
        exact ⟨rfl, rfl, b3⟩
      | .ok ts3 s3 =>
        rw [r3] at B3 hne
        simp only [andT] at hne ⊢
        have HD : Bx (∀ W1, RSs w0 rb srcV tokV TL xs U W1 (s3) ((ns ++ flats ts2 (ns).length) ++ flats ts3 ((ns ++ flats ts2 (ns).length)).length) → KeepR rb W W1 → ∀ v2 : Nat, v2 = ((ns).length + sizes ts2 - 1 : Nat) → ∀ v3 : Nat, v3 = ((ns ++ flats ts2 (ns).length).length + sizes ts3 - 1 : Nat) → ts2.length = 1 → ts3.length = 1 → (s3).length + sizes (ts2 ++ ts3) + 1 ≤ s.length → ∀ kv, Calls Tryz.prog 70 #[.pointer (some ⟨rb, 0, none⟩), .agg #[.int .i64 37, .int .i64 (hd s).place, kv, .string ⟨([]).toArray⟩, .int .i64 0], .slice (some ⟨W1.heap.size, 0, none⟩) 2 2] (W1.alloc (.cells #[.int .i64 ((v2 : Nat) : Int), .int .i64 ((v3 : Nat) : Int)] 3)) fun e W' => ∃ r : Int, e = .returned (.int .i64 r) ∧ Post1 w0 rb srcV tokV TL xs U W s ns (.ok [.mk 37 (hd s).place 0 ([]) (ts2 ++ ts3)] (s3)) (.returned (.int .i64 r)) W') := ⟨fun W1 h hk v2 g2 v3 g3 e2 e3 hsz kv => by
          have en : ends (ts2 ++ ts3) ns.length = [(((ns).length + sizes ts2 - 1 : Nat) : Int), (((ns ++ flats ts2 (ns).length).length + sizes ts3 - 1 : Nat) : Int)] := by rw [ends_append, ends_one e2, ends_one e3, two_len]; rfl
          rw [← g2, ← g3] at en
          have hI := ints_new (rb := rb) (W := W1) (o := #[.int .i64 ((v2 : Nat) : Int), .int .i64 ((v3 : Nat) : Int)]) (ys := ends (ts2 ++ ts3) ns.length) (n := 2) (by rw [en]; rfl) (by decide) (by decide) h.lt (by rw [en]; rfl)
          have h2 := h.ext (below1 W1 (.cells #[.int .i64 ((v2 : Nat) : Int), .int .i64 ((v3 : Nat) : Int)] 3))
          rw [two_lists] at h2
          exact addS hT (ts2 ++ ts3) h2 (hk.trans (KeepR.alloc h.lt _)) hsz ⟨W, hS⟩ 37 (hd s).place 0 ([]) kv (some ⟨W1.heap.size, 0, none⟩) 2 2 (by simp [e2, e3]) hI h.new⟩
        show Calls _ _ _ _ (Post1 w0 rb srcV tokV TL xs U W s ns (.ok [.mk 37 (hd s).place 0 ([]) (ts2 ++ ts3)] (s3)))
        go_enter Tryz.func91, Tryz.ntmps91
        go_wp2_with (first
          | (go_at_call 85; refine Calls.mono (B1.out _ hS) ?_; rintro e W1 (⟨_, rfl, q1, l1, k1⟩ | ⟨h, _⟩); rotate_left 1; exact absurd h1 h; clear B1)
          | (go_at_call 109; refine Calls.mono (B2.out _ q1 (by simp)) ?_; rintro e W2 ⟨n2, l2, he, q2, k2⟩; obtain ⟨v2, hv⟩ : ∃ r : Nat, r = ((ns).length + sizes ts2 - 1) := ⟨_, rfl⟩; rw [← hv] at he; subst he; have V2 : Bx _ := ⟨hv⟩; clear hv B2)
          | (go_at_call 95; refine Calls.mono (B3.out _ q2 (by simp)) ?_; rintro e W3 ⟨n3, l3, he, q3, k3⟩; obtain ⟨v3, hv⟩ : ∃ r : Nat, r = ((ns ++ flats ts2 (ns).length).length + sizes ts3 - 1) := ⟨_, rfl⟩; rw [← hv] at he; subst he; have V3 : Bx _ := ⟨hv⟩; clear hv B3)
          | (go_at_call 70; refine Calls.mono (HD.out _ q3 (k1.trans (k2.trans k3)) v2 V2.out v3 V3.out n2 n3 (by simp only [sizes_append]; omega) _) ?_; rintro e W9 ⟨r9, rfl, hp⟩))
        go_ret
        exact hp
  · rw [want_neg h1]
    go_enter Tryz.func91, Tryz.ntmps91
    go_wp2_with (first
      | (go_at_call 85; refine Calls.mono (B1.out _ hS) ?_; rintro e W1 (⟨h, _⟩ | ⟨_, rfl, b1⟩); exact absurd h h1; unfold faultP))
    exact ⟨rfl, rfl, b1⟩
set_option maxRecDepth 100000 in
set_option maxHeartbeats 2000000 in
theorem length_any (hT : RT w0 rb srcV tokV TL xs) (hK : Kinds TL) {f : Nat} (Hexpr : RC w0 rb srcV tokV TL xs (pF f (.operands 1)) 109 #[])  :
    RC w0 rb srcV tokV TL xs (fun s => want 20 s fun s1 => want 40 s1 fun s2 => andT (pF f (.operands 1) s2) fun a s3 => want 41 s3 fun s4 => mk1 18 s 0 [] a s4) 149 #[] := by
  intro U W s ns hS hne
  show Calls Tryz.prog 149 #[.pointer (some ⟨rb, 0, none⟩)] W _
  dsimp only at hne ⊢
  have hrW := hS.lt
  have B1 : Bx (∀ W1, RSs w0 rb srcV tokV TL xs U W1 (s) (ns) → _) := ⟨fun W1 h => wantS hT hK h 20 (by decide) ⟨#[108, 101, 110]⟩ (by decide)⟩
  by_cases h1 : kd (s) = 20
  · rw [want_pos h1] at hne ⊢
    have B2 : Bx (∀ W1, RSs w0 rb srcV tokV TL xs U W1 (tl (s)) (ns) → _) := ⟨fun W1 h => wantS hT hK h 40 (by decide) ⟨#[40]⟩ (by decide)⟩
    by_cases h2 : kd (tl (s)) = 40
    · rw [want_pos h2] at hne ⊢
      have B3 : Bx (∀ W1, RSs w0 rb srcV tokV TL xs U W1 (tl (tl (s))) (ns) → pF f (.operands 1) (tl (tl (s))) ≠ .out → Calls Tryz.prog 109 #[.pointer (some ⟨rb, 0, none⟩)] W1 (Post1 w0 rb srcV tokV TL xs U W1 (tl (tl (s))) (ns) (pF f (.operands 1) (tl (tl (s)))))) := ⟨fun W1 h hn => Hexpr U W1 (tl (tl (s))) (ns) h hn⟩
      match r3 : pF f (.operands 1) (tl (tl (s))) with
      | .out => rw [r3] at hne; exact absurd rfl hne
      | .err s' =>
        rw [r3] at B3
        show Calls _ _ _ _ (Post1 w0 rb srcV tokV TL xs U W s ns (.err s'))
        go_enter Tryz.func149, Tryz.ntmps149
        go_wp2_with (first
          | (go_at_call 85; refine Calls.mono (B1.out _ hS) ?_; rintro e W1 (⟨_, rfl, q1, l1, k1⟩ | ⟨h, _⟩); rotate_left 1; exact absurd h1 h; clear B1)
          | (go_at_call 85; refine Calls.mono (B2.out _ q1) ?_; rintro e W2 (⟨_, rfl, q2, l2, k2⟩ | ⟨h, _⟩); rotate_left 1; exact absurd h2 h; clear B2)
          | (go_at_call 109; refine Calls.mono (B3.out _ q2 (by simp)) ?_; rintro e W3 ⟨rfl, b3⟩; unfold faultP))
        exact ⟨rfl, rfl, b3⟩
      | .ok ts3 s3 =>
        rw [r3] at B3 hne
        simp only [andT] at hne ⊢
        have B4 : Bx (∀ W1, RSs w0 rb srcV tokV TL xs U W1 (s3) (ns ++ flats ts3 (ns).length) → _) := ⟨fun W1 h => wantS hT hK h 41 (by decide) ⟨#[41]⟩ (by decide)⟩
        by_cases h4 : kd (s3) = 41
        · rw [want_pos h4] at hne ⊢
          have HD : Bx (∀ W1, RSs w0 rb srcV tokV TL xs U W1 (tl s3) (ns ++ flats ts3 (ns).length) → KeepR rb W W1 → ∀ v3 : Nat, v3 = ((ns).length + sizes ts3 - 1 : Nat) → ts3.length = 1 → (tl s3).length + sizes ts3 + 1 ≤ s.length → ∀ kv, Calls Tryz.prog 70 #[.pointer (some ⟨rb, 0, none⟩), .agg #[.int .i64 18, .int .i64 (hd s).place, kv, .string ⟨([]).toArray⟩, .int .i64 0], .slice (some ⟨W1.heap.size, 0, none⟩) 1 1] (W1.alloc (.cells #[.int .i64 ((v3 : Nat) : Int)] 3)) fun e W' => ∃ r : Int, e = .returned (.int .i64 r) ∧ Post1 w0 rb srcV tokV TL xs U W s ns (.ok [.mk 18 (hd s).place 0 ([]) ts3] (tl s3)) (.returned (.int .i64 r)) W') := ⟨fun W1 h hk v3 g3 e3 hsz kv => by
            have hI := ints_new (rb := rb) (W := W1) (o := #[.int .i64 ((v3 : Nat) : Int)]) (ys := ends ts3 ns.length) (n := 1) (by rw [ends_one e3]; rfl) (by decide) (by decide) h.lt (by rw [ends_one e3, g3]; rfl)
            exact addS hT ts3 (h.ext (below1 _ _)) (hk.trans (KeepR.alloc h.lt _)) hsz ⟨W, hS⟩ 18 (hd s).place 0 ([]) kv (some ⟨W1.heap.size, 0, none⟩) 1 1 e3.symm hI h.new⟩
          show Calls _ _ _ _ (Post1 w0 rb srcV tokV TL xs U W s ns (.ok [.mk 18 (hd s).place 0 ([]) ts3] (tl s3)))
          go_enter Tryz.func149, Tryz.ntmps149
          go_wp2_with (first
            | (go_at_call 85; refine Calls.mono (B1.out _ hS) ?_; rintro e W1 (⟨_, rfl, q1, l1, k1⟩ | ⟨h, _⟩); rotate_left 1; exact absurd h1 h; clear B1)
            | (go_at_call 85; refine Calls.mono (B2.out _ q1) ?_; rintro e W2 (⟨_, rfl, q2, l2, k2⟩ | ⟨h, _⟩); rotate_left 1; exact absurd h2 h; clear B2)
            | (go_at_call 109; refine Calls.mono (B3.out _ q2 (by simp)) ?_; rintro e W3 ⟨n3, l3, he, q3, k3⟩; obtain ⟨v3, hv⟩ : ∃ r : Nat, r = ((ns).length + sizes ts3 - 1) := ⟨_, rfl⟩; rw [← hv] at he; subst he; have V3 : Bx _ := ⟨hv⟩; clear hv B3)
            | (go_at_call 85; refine Calls.mono (B4.out _ q3) ?_; rintro e W4 (⟨_, rfl, q4, l4, k4⟩ | ⟨h, _⟩); rotate_left 1; exact absurd h4 h; clear B4)
            | (go_at_call 70; refine Calls.mono (HD.out _ q4 (k1.trans (k2.trans (k3.trans k4))) v3 V3.out n3 (by omega) _) ?_; rintro e W9 ⟨r9, rfl, hp⟩))
          go_ret
          exact hp
        · rw [want_neg h4]
          go_enter Tryz.func149, Tryz.ntmps149
          go_wp2_with (first
            | (go_at_call 85; refine Calls.mono (B1.out _ hS) ?_; rintro e W1 (⟨_, rfl, q1, l1, k1⟩ | ⟨h, _⟩); rotate_left 1; exact absurd h1 h; clear B1)
            | (go_at_call 85; refine Calls.mono (B2.out _ q1) ?_; rintro e W2 (⟨_, rfl, q2, l2, k2⟩ | ⟨h, _⟩); rotate_left 1; exact absurd h2 h; clear B2)
            | (go_at_call 109; refine Calls.mono (B3.out _ q2 (by simp)) ?_; rintro e W3 ⟨n3, l3, he, q3, k3⟩; obtain ⟨v3, hv⟩ : ∃ r : Nat, r = ((ns).length + sizes ts3 - 1) := ⟨_, rfl⟩; rw [← hv] at he; subst he; have V3 : Bx _ := ⟨hv⟩; clear hv B3)
            | (go_at_call 85; refine Calls.mono (B4.out _ q3) ?_; rintro e W4 (⟨h, _⟩ | ⟨_, rfl, b4⟩); exact absurd h h4; unfold faultP))
          exact ⟨rfl, rfl, b4⟩
    · rw [want_neg h2]
      go_enter Tryz.func149, Tryz.ntmps149
      go_wp2_with (first
        | (go_at_call 85; refine Calls.mono (B1.out _ hS) ?_; rintro e W1 (⟨_, rfl, q1, l1, k1⟩ | ⟨h, _⟩); rotate_left 1; exact absurd h1 h; clear B1)
        | (go_at_call 85; refine Calls.mono (B2.out _ q1) ?_; rintro e W2 (⟨h, _⟩ | ⟨_, rfl, b2⟩); exact absurd h h2; unfold faultP))
      exact ⟨rfl, rfl, b2⟩
  · rw [want_neg h1]
    go_enter Tryz.func149, Tryz.ntmps149
    go_wp2_with (first
      | (go_at_call 85; refine Calls.mono (B1.out _ hS) ?_; rintro e W1 (⟨h, _⟩ | ⟨_, rfl, b1⟩); exact absurd h h1; unfold faultP))
    exact ⟨rfl, rfl, b1⟩
set_option maxRecDepth 100000 in
set_option maxHeartbeats 2000000 in
theorem fill_any (hT : RT w0 rb srcV tokV TL xs) (hK : Kinds TL) {f : Nat} (Hexpr : RC w0 rb srcV tokV TL xs (pF f (.operands 1)) 109 #[])  :
    RC w0 rb srcV tokV TL xs (fun s => want 17 s fun s1 => want 40 s1 fun s2 => andT (pF f (.operands 1) s2) fun a s3 => want 46 s3 fun s4 => andT (pF f (.operands 1) s4) fun b s5 => want 41 s5 fun s6 => mk1 17 s 0 [] (a ++ b) s6) 148 #[] := by
  intro U W s ns hS hne
  show Calls Tryz.prog 148 #[.pointer (some ⟨rb, 0, none⟩)] W _
  dsimp only at hne ⊢
  have hrW := hS.lt
  have B1 : Bx (∀ W1, RSs w0 rb srcV tokV TL xs U W1 (s) (ns) → _) := ⟨fun W1 h => wantS hT hK h 17 (by decide) ⟨#[102, 105, 108, 108]⟩ (by decide)⟩
  by_cases h1 : kd (s) = 17
  · rw [want_pos h1] at hne ⊢
    have B2 : Bx (∀ W1, RSs w0 rb srcV tokV TL xs U W1 (tl (s)) (ns) → _) := ⟨fun W1 h => wantS hT hK h 40 (by decide) ⟨#[40]⟩ (by decide)⟩
    by_cases h2 : kd (tl (s)) = 40
    · rw [want_pos h2] at hne ⊢
      have B3 : Bx (∀ W1, RSs w0 rb srcV tokV TL xs U W1 (tl (tl (s))) (ns) → pF f (.operands 1) (tl (tl (s))) ≠ .out → Calls Tryz.prog 109 #[.pointer (some ⟨rb, 0, none⟩)] W1 (Post1 w0 rb srcV tokV TL xs U W1 (tl (tl (s))) (ns) (pF f (.operands 1) (tl (tl (s)))))) := ⟨fun W1 h hn => Hexpr U W1 (tl (tl (s))) (ns) h hn⟩
      match r3 : pF f (.operands 1) (tl (tl (s))) with
      | .out => rw [r3] at hne; exact absurd rfl hne
      | .err s' =>
        rw [r3] at B3
        show Calls _ _ _ _ (Post1 w0 rb srcV tokV TL xs U W s ns (.err s'))
        go_enter Tryz.func148, Tryz.ntmps148
        go_wp2_with (first
          | (go_at_call 85; refine Calls.mono (B1.out _ hS) ?_; rintro e W1 (⟨_, rfl, q1, l1, k1⟩ | ⟨h, _⟩); rotate_left 1; exact absurd h1 h; clear B1)
          | (go_at_call 85; refine Calls.mono (B2.out _ q1) ?_; rintro e W2 (⟨_, rfl, q2, l2, k2⟩ | ⟨h, _⟩); rotate_left 1; exact absurd h2 h; clear B2)
          | (go_at_call 109; refine Calls.mono (B3.out _ q2 (by simp)) ?_; rintro e W3 ⟨rfl, b3⟩; unfold faultP))
        exact ⟨rfl, rfl, b3⟩
      | .ok ts3 s3 =>
        rw [r3] at B3 hne
        simp only [andT] at hne ⊢
        have B4 : Bx (∀ W1, RSs w0 rb srcV tokV TL xs U W1 (s3) (ns ++ flats ts3 (ns).length) → _) := ⟨fun W1 h => wantS hT hK h 46 (by decide) ⟨#[44]⟩ (by decide)⟩
        by_cases h4 : kd (s3) = 46
        · rw [want_pos h4] at hne ⊢
          have B5 : Bx (∀ W1, RSs w0 rb srcV tokV TL xs U W1 (tl s3) (ns ++ flats ts3 (ns).length) → pF f (.operands 1) (tl s3) ≠ .out → Calls Tryz.prog 109 #[.pointer (some ⟨rb, 0, none⟩)] W1 (Post1 w0 rb srcV tokV TL xs U W1 (tl s3) (ns ++ flats ts3 (ns).length) (pF f (.operands 1) (tl s3)))) := ⟨fun W1 h hn => Hexpr U W1 (tl s3) (ns ++ flats ts3 (ns).length) h hn⟩
          match r5 : pF f (.operands 1) (tl s3) with
          | .out => rw [r5] at hne; exact absurd rfl hne
          | .err s' =>
            rw [r5] at B5
            show Calls _ _ _ _ (Post1 w0 rb srcV tokV TL xs U W s ns (.err s'))
            go_enter Tryz.func148, Tryz.ntmps148
            go_wp2_with (first
              | (go_at_call 85; refine Calls.mono (B1.out _ hS) ?_; rintro e W1 (⟨_, rfl, q1, l1, k1⟩ | ⟨h, _⟩); rotate_left 1; exact absurd h1 h; clear B1)
              | (go_at_call 85; refine Calls.mono (B2.out _ q1) ?_; rintro e W2 (⟨_, rfl, q2, l2, k2⟩ | ⟨h, _⟩); rotate_left 1; exact absurd h2 h; clear B2)
              | (go_at_call 109; refine Calls.mono (B3.out _ q2 (by simp)) ?_; rintro e W3 ⟨n3, l3, he, q3, k3⟩; obtain ⟨v3, hv⟩ : ∃ r : Nat, r = ((ns).length + sizes ts3 - 1) := ⟨_, rfl⟩; rw [← hv] at he; subst he; have V3 : Bx _ := ⟨hv⟩; clear hv B3)
              | (go_at_call 85; refine Calls.mono (B4.out _ q3) ?_; rintro e W4 (⟨_, rfl, q4, l4, k4⟩ | ⟨h, _⟩); rotate_left 1; exact absurd h4 h; clear B4)
              | (go_at_call 109; refine Calls.mono (B5.out _ q4 (by simp)) ?_; rintro e W5 ⟨rfl, b5⟩; unfold faultP))
            exact ⟨rfl, rfl, b5⟩
          | .ok ts5 s5 =>
            rw [r5] at B5 hne
            simp only [andT] at hne ⊢
            have B6 : Bx (∀ W1, RSs w0 rb srcV tokV TL xs U W1 (s5) ((ns ++ flats ts3 (ns).length) ++ flats ts5 ((ns ++ flats ts3 (ns).length)).length) → _) := ⟨fun W1 h => wantS hT hK h 41 (by decide) ⟨#[41]⟩ (by decide)⟩
            by_cases h6 : kd (s5) = 41
            · rw [want_pos h6] at hne ⊢
              have HD : Bx (∀ W1, RSs w0 rb srcV tokV TL xs U W1 (tl s5) ((ns ++ flats ts3 (ns).length) ++ flats ts5 ((ns ++ flats ts3 (ns).length)).length) → KeepR rb W W1 → ∀ v3 : Nat, v3 = ((ns).length + sizes ts3 - 1 : Nat) → ∀ v5 : Nat, v5 = ((ns ++ flats ts3 (ns).length).length + sizes ts5 - 1 : Nat) → ts3.length = 1 → ts5.length = 1 → (tl s5).length + sizes (ts3 ++ ts5) + 1 ≤ s.length → ∀ kv, Calls Tryz.prog 70 #[.pointer (some ⟨rb, 0, none⟩), .agg #[.int .i64 17, .int .i64 (hd s).place, kv, .string ⟨([]).toArray⟩, .int .i64 0], .slice (some ⟨W1.heap.size, 0, none⟩) 2 2] (W1.alloc (.cells #[.int .i64 ((v3 : Nat) : Int), .int .i64 ((v5 : Nat) : Int)] 3)) fun e W' => ∃ r : Int, e = .returned (.int .i64 r) ∧ Post1 w0 rb srcV tokV TL xs U W s ns (.ok [.mk 17 (hd s).place 0 ([]) (ts3 ++ ts5)] (tl s5)) (.returned (.int .i64 r)) W') := ⟨fun W1 h hk v3 g3 v5 g5 e3 e5 hsz kv => by
                have en : ends (ts3 ++ ts5) ns.length = [(((ns).length + sizes ts3 - 1 : Nat) : Int), (((ns ++ flats ts3 (ns).length).length + sizes ts5 - 1 : Nat) : Int)] := by rw [ends_append, ends_one e3, ends_one e5, two_len]; rfl
                rw [← g3, ← g5] at en
                have hI := ints_new (rb := rb) (W := W1) (o := #[.int .i64 ((v3 : Nat) : Int), .int .i64 ((v5 : Nat) : Int)]) (ys := ends (ts3 ++ ts5) ns.length) (n := 2) (by rw [en]; rfl) (by decide) (by decide) h.lt (by rw [en]; rfl)
                have h2 := h.ext (below1 W1 (.cells #[.int .i64 ((v3 : Nat) : Int), .int .i64 ((v5 : Nat) : Int)] 3))
                rw [two_lists] at h2
                exact addS hT (ts3 ++ ts5) h2 (hk.trans (KeepR.alloc h.lt _)) hsz ⟨W, hS⟩ 17 (hd s).place 0 ([]) kv (some ⟨W1.heap.size, 0, none⟩) 2 2 (by simp [e3, e5]) hI h.new⟩
              show Calls _ _ _ _ (Post1 w0 rb srcV tokV TL xs U W s ns (.ok [.mk 17 (hd s).place 0 ([]) (ts3 ++ ts5)] (tl s5)))
              go_enter Tryz.func148, Tryz.ntmps148
              go_wp2_with (first
                | (go_at_call 85; refine Calls.mono (B1.out _ hS) ?_; rintro e W1 (⟨_, rfl, q1, l1, k1⟩ | ⟨h, _⟩); rotate_left 1; exact absurd h1 h; clear B1)
                | (go_at_call 85; refine Calls.mono (B2.out _ q1) ?_; rintro e W2 (⟨_, rfl, q2, l2, k2⟩ | ⟨h, _⟩); rotate_left 1; exact absurd h2 h; clear B2)
                | (go_at_call 109; refine Calls.mono (B3.out _ q2 (by simp)) ?_; rintro e W3 ⟨n3, l3, he, q3, k3⟩; obtain ⟨v3, hv⟩ : ∃ r : Nat, r = ((ns).length + sizes ts3 - 1) := ⟨_, rfl⟩; rw [← hv] at he; subst he; have V3 : Bx _ := ⟨hv⟩; clear hv B3)
                | (go_at_call 85; refine Calls.mono (B4.out _ q3) ?_; rintro e W4 (⟨_, rfl, q4, l4, k4⟩ | ⟨h, _⟩); rotate_left 1; exact absurd h4 h; clear B4)
                | (go_at_call 109; refine Calls.mono (B5.out _ q4 (by simp)) ?_; rintro e W5 ⟨n5, l5, he, q5, k5⟩; obtain ⟨v5, hv⟩ : ∃ r : Nat, r = ((ns ++ flats ts3 (ns).length).length + sizes ts5 - 1) := ⟨_, rfl⟩; rw [← hv] at he; subst he; have V5 : Bx _ := ⟨hv⟩; clear hv B5)
                | (go_at_call 85; refine Calls.mono (B6.out _ q5) ?_; rintro e W6 (⟨_, rfl, q6, l6, k6⟩ | ⟨h, _⟩); rotate_left 1; exact absurd h6 h; clear B6)
                | (go_at_call 70; refine Calls.mono (HD.out _ q6 (k1.trans (k2.trans (k3.trans (k4.trans (k5.trans k6))))) v3 V3.out v5 V5.out n3 n5 (by simp only [sizes_append]; omega) _) ?_; rintro e W9 ⟨r9, rfl, hp⟩))
              go_ret
              exact hp
            · rw [want_neg h6]
              go_enter Tryz.func148, Tryz.ntmps148
              go_wp2_with (first
                | (go_at_call 85; refine Calls.mono (B1.out _ hS) ?_; rintro e W1 (⟨_, rfl, q1, l1, k1⟩ | ⟨h, _⟩); rotate_left 1; exact absurd h1 h; clear B1)
                | (go_at_call 85; refine Calls.mono (B2.out _ q1) ?_; rintro e W2 (⟨_, rfl, q2, l2, k2⟩ | ⟨h, _⟩); rotate_left 1; exact absurd h2 h; clear B2)
                | (go_at_call 109; refine Calls.mono (B3.out _ q2 (by simp)) ?_; rintro e W3 ⟨n3, l3, he, q3, k3⟩; obtain ⟨v3, hv⟩ : ∃ r : Nat, r = ((ns).length + sizes ts3 - 1) := ⟨_, rfl⟩; rw [← hv] at he; subst he; have V3 : Bx _ := ⟨hv⟩; clear hv B3)
                | (go_at_call 85; refine Calls.mono (B4.out _ q3) ?_; rintro e W4 (⟨_, rfl, q4, l4, k4⟩ | ⟨h, _⟩); rotate_left 1; exact absurd h4 h; clear B4)
                | (go_at_call 109; refine Calls.mono (B5.out _ q4 (by simp)) ?_; rintro e W5 ⟨n5, l5, he, q5, k5⟩; obtain ⟨v5, hv⟩ : ∃ r : Nat, r = ((ns ++ flats ts3 (ns).length).length + sizes ts5 - 1) := ⟨_, rfl⟩; rw [← hv] at he; subst he; have V5 : Bx _ := ⟨hv⟩; clear hv B5)
                | (go_at_call 85; refine Calls.mono (B6.out _ q5) ?_; rintro e W6 (⟨h, _⟩ | ⟨_, rfl, b6⟩); exact absurd h h6; unfold faultP))
              exact ⟨rfl, rfl, b6⟩
        · rw [want_neg h4]
          go_enter Tryz.func148, Tryz.ntmps148
          go_wp2_with (first
            | (go_at_call 85; refine Calls.mono (B1.out _ hS) ?_; rintro e W1 (⟨_, rfl, q1, l1, k1⟩ | ⟨h, _⟩); rotate_left 1; exact absurd h1 h; clear B1)
            | (go_at_call 85; refine Calls.mono (B2.out _ q1) ?_; rintro e W2 (⟨_, rfl, q2, l2, k2⟩ | ⟨h, _⟩); rotate_left 1; exact absurd h2 h; clear B2)
            | (go_at_call 109; refine Calls.mono (B3.out _ q2 (by simp)) ?_; rintro e W3 ⟨n3, l3, he, q3, k3⟩; obtain ⟨v3, hv⟩ : ∃ r : Nat, r = ((ns).length + sizes ts3 - 1) := ⟨_, rfl⟩; rw [← hv] at he; subst he; have V3 : Bx _ := ⟨hv⟩; clear hv B3)
            | (go_at_call 85; refine Calls.mono (B4.out _ q3) ?_; rintro e W4 (⟨h, _⟩ | ⟨_, rfl, b4⟩); exact absurd h h4; unfold faultP))
          exact ⟨rfl, rfl, b4⟩
    · rw [want_neg h2]
      go_enter Tryz.func148, Tryz.ntmps148
      go_wp2_with (first
        | (go_at_call 85; refine Calls.mono (B1.out _ hS) ?_; rintro e W1 (⟨_, rfl, q1, l1, k1⟩ | ⟨h, _⟩); rotate_left 1; exact absurd h1 h; clear B1)
        | (go_at_call 85; refine Calls.mono (B2.out _ q1) ?_; rintro e W2 (⟨h, _⟩ | ⟨_, rfl, b2⟩); exact absurd h h2; unfold faultP))
      exact ⟨rfl, rfl, b2⟩
  · rw [want_neg h1]
    go_enter Tryz.func148, Tryz.ntmps148
    go_wp2_with (first
      | (go_at_call 85; refine Calls.mono (B1.out _ hS) ?_; rintro e W1 (⟨h, _⟩ | ⟨_, rfl, b1⟩); exact absurd h h1; unfold faultP))
    exact ⟨rfl, rfl, b1⟩
end Go.Proofs.YtecodpdfckjalaaGreatDoor
