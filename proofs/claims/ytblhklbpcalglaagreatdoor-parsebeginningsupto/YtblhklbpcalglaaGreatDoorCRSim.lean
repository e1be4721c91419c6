import Derived.Test.YtblhklbpcalglaaGreatDoorCRName2
import Derived.Test.YtblhklbpcalglaaGreatDoorCRUn
namespace Go.Proofs.YtblhklbpcalglaaGreatDoor
open Go.RowKit
set_option linter.unusedVariables false
set_option linter.unusedSimpArgs false
variable {w0 : World} {rb : Nat} {srcV tokV : Value} {TL : List Tok} {xs : List UInt8} {U : Nat → Prop}
set_option maxRecDepth 100000 in
set_option maxHeartbeats 1000000 in
theorem expr_any {f : Nat} (HO : RC w0 rb srcV tokV TL xs (pF f (.operands 1)) 67 #[.int .i64 1]) : RC w0 rb srcV tokV TL xs (pF f (.operands 1)) 56 #[] := by
  intro U W s ns hS hne
  show Calls Tryz.prog 56 #[.pointer (some ⟨rb, 0, none⟩)] W _
  have B1 : Bx (Calls Tryz.prog 67 #[.pointer (some ⟨rb, 0, none⟩), .int .i64 1] W (Post1 w0 rb srcV tokV TL xs U W s ns (pF f (.operands 1) s))) := ⟨HO U W s ns hS hne⟩
  generalize pF f (.operands 1) s = res at *
  clear hS hne HO
  match res, B1 with
  | .out, B1 =>
    go_enter Tryz.func56, Tryz.ntmps56
    go_wp2_with (first | (go_at_call 67; refine Calls.mono B1.out ?_; intro e W1 h; exact h.elim))
  | .err s', B1 =>
    go_enter Tryz.func56, Tryz.ntmps56
    go_wp2_with (first | (go_at_call 67; refine Calls.mono B1.out ?_; rintro e W1 ⟨rfl, b1⟩; unfold faultP))
    exact ⟨rfl, rfl, b1⟩
  | .ok ts s', B1 =>
    go_enter Tryz.func56, Tryz.ntmps56
    go_wp2_with (first | (go_at_call 67; refine Calls.mono B1.out ?_; rintro e W1 ⟨n1, l1, he, q1, k1⟩; obtain ⟨v1, hv⟩ : ∃ r : Nat, r = (ns.length + sizes ts - 1) := ⟨_, rfl⟩; rw [← hv] at he; subst he; have V1 : Bx _ := ⟨hv⟩; clear hv))
    go_ret
    exact ⟨n1, l1, by rw [← V1.out]; rfl, q1, k1⟩
set_option maxRecDepth 100000 in
set_option maxHeartbeats 1000000 in
theorem chanType_any (hT : RT w0 rb srcV tokV TL xs) (hK : Kinds TL) {f : Nat} (HA : RC w0 rb srcV tokV TL xs (pF f .typ) 36 #[]) : RC w0 rb srcV tokV TL xs (pF (f + 1) .chanT) 53 #[] := by
  intro U W s ns hS hne
  show Calls Tryz.prog 53 #[.pointer (some ⟨rb, 0, none⟩)] W _
  have H := typeOf_any hT hK HA 6 14 (by decide) ⟨#[99, 104, 97, 110]⟩ (by decide)
  have B1 : Bx (Calls Tryz.prog 52 #[.pointer (some ⟨rb, 0, none⟩), .int .i64 6, .string ⟨#[99, 104, 97, 110]⟩] W (Post1 w0 rb srcV tokV TL xs U W s ns (pF (f + 1) .chanT s))) := ⟨H U W s ns hS hne⟩
  generalize pF (f + 1) .chanT s = res at *
  clear hS hne HA H hT
  match res, B1 with
  | .out, B1 =>
    go_enter Tryz.func53, Tryz.ntmps53
    go_wp2_with (first | (go_at_call 52; refine Calls.mono B1.out ?_; intro e W1 h; exact h.elim))
  | .err s', B1 =>
    go_enter Tryz.func53, Tryz.ntmps53
    go_wp2_with (first | (go_at_call 52; refine Calls.mono B1.out ?_; rintro e W1 ⟨rfl, b1⟩; unfold faultP))
    exact ⟨rfl, rfl, b1⟩
  | .ok ts s', B1 =>
    go_enter Tryz.func53, Tryz.ntmps53
    go_wp2_with (first | (go_at_call 52; refine Calls.mono B1.out ?_; rintro e W1 ⟨n1, l1, he, q1, k1⟩; obtain ⟨v1, hv⟩ : ∃ r : Nat, r = (ns.length + sizes ts - 1) := ⟨_, rfl⟩; rw [← hv] at he; subst he; have V1 : Bx _ := ⟨hv⟩; clear hv))
    go_ret
    exact ⟨n1, l1, by rw [← V1.out]; rfl, q1, k1⟩
end Go.Proofs.YtblhklbpcalglaaGreatDoor
namespace Go.Proofs.YtblhklbpcalglaaGreatDoor
open Go.RowKit
set_option linter.unusedVariables false
set_option linter.unusedSimpArgs false
variable {w0 : World} {rb : Nat} {srcV tokV : Value} {TL : List Tok} {xs : List UInt8} {U : Nat → Prop}
set_option maxRecDepth 100000 in
set_option maxHeartbeats 4000000 in
theorem unary_0 (hT : RT w0 rb srcV tokV TL xs) (hK : Kinds TL) {f : Nat} (HU : RC w0 rb srcV tokV TL xs (pF f .postfix) 76 #[]) {W : World} {s : List PTok} {ns : List Nd} (hS : RSs w0 rb srcV tokV TL xs U W s ns) (h1 : kd s ≠ 58) (h2 : kd s ≠ 64) (h3 : kd s ≠ 65) (hne : pF f .postfix s ≠ .out) :
    Calls Tryz.prog 68 #[.pointer (some ⟨rb, 0, none⟩)] W (Post1 w0 rb srcV tokV TL xs U W s ns (pF f .postfix s)) := by
  have hrW := hS.lt
  have d58 : ((⟨(textK (kd s : Nat)).toArray⟩ : ByteArray).toList == [45]) = false := by rw [text_eq hK hS 58 (by decide) _ (by decide)]; exact decide_eq_false h1
  have d64 : ((⟨(textK (kd s : Nat)).toArray⟩ : ByteArray).toList == [33]) = false := by rw [text_eq hK hS 64 (by decide) _ (by decide)]; exact decide_eq_false h2
  have d65 : ((⟨(textK (kd s : Nat)).toArray⟩ : ByteArray).toList == [60, 45]) = false := by rw [text_eq hK hS 65 (by decide) _ (by decide)]; exact decide_eq_false h3
  have B1 : Bx _ := ⟨nextS hT hS⟩
  have hf1 := tok_f1
  have B2 : Bx (∀ W1, RSs w0 rb srcV tokV TL xs U W1 s ns → _) := ⟨fun W1 h => textS hT h⟩
  have B3 : Bx (∀ W1, RSs w0 rb srcV tokV TL xs U W1 s ns → KeepR rb W W1 → Calls Tryz.prog 76 #[.pointer (some ⟨rb, 0, none⟩)] W1 (Post1 w0 rb srcV tokV TL xs U W s ns (pF f .postfix s))) := ⟨fun W1 h hk => Calls.mono (HU U W1 s ns h hne) (fun e W' hp => by
    revert hp
    cases pF f .postfix s with
    | out => exact fun hp => hp
    | err s' => exact fun hp => hp
    | ok ts s' => exact fun ⟨a, b, c, d, k⟩ => ⟨a, b, c, d, hk.trans k⟩)⟩
  generalize (⟨(textK (kd s : Nat)).toArray⟩ : ByteArray) = tx at *
  generalize pF f .postfix s = res at *
  clear HU hne
  match res, B3 with
  | .out, B3 =>
    go_enter Tryz.func68, Tryz.ntmps68
    go_wp2_with (first
      | (go_at_call 33; refine Calls.mono B1.out ?_; rintro e W1 ⟨t1, rfl, b1⟩; have q1 := hS.ext b1; have k1 := KeepR.ext hrW b1; clear B1)
      | (go_at_call 23; refine Calls.mono (B2.out _ (q1.ext (below1 _ _))) ?_; rintro e W2 ⟨rfl, b2⟩; have q2 := (q1.ext (below1 _ _)).ext b2; have k2 := k1.trans ((KeepR.alloc q1.lt _).trans (KeepR.ext (q1.ext (below1 _ _)).lt b2)); clear B2)
      | (go_at_call 76; refine Calls.mono (B3.out _ q2 k2) ?_; intro e W3 h; exact h.elim))
  | .err s', B3 =>
    go_enter Tryz.func68, Tryz.ntmps68
    go_wp2_with (first
      | (go_at_call 33; refine Calls.mono B1.out ?_; rintro e W1 ⟨t1, rfl, b1⟩; have q1 := hS.ext b1; have k1 := KeepR.ext hrW b1; clear B1)
      | (go_at_call 23; refine Calls.mono (B2.out _ (q1.ext (below1 _ _))) ?_; rintro e W2 ⟨rfl, b2⟩; have q2 := (q1.ext (below1 _ _)).ext b2; have k2 := k1.trans ((KeepR.alloc q1.lt _).trans (KeepR.ext (q1.ext (below1 _ _)).lt b2)); clear B2)
      | (go_at_call 76; refine Calls.mono (B3.out _ q2 k2) ?_; rintro e W3 ⟨rfl, b3⟩; unfold faultP))
    exact ⟨rfl, rfl, b3⟩
  | .ok ts s', B3 =>
    go_enter Tryz.func68, Tryz.ntmps68
    go_wp2_with (first
      | (go_at_call 33; refine Calls.mono B1.out ?_; rintro e W1 ⟨t1, rfl, b1⟩; have q1 := hS.ext b1; have k1 := KeepR.ext hrW b1; clear B1)
      | (go_at_call 23; refine Calls.mono (B2.out _ (q1.ext (below1 _ _))) ?_; rintro e W2 ⟨rfl, b2⟩; have q2 := (q1.ext (below1 _ _)).ext b2; have k2 := k1.trans ((KeepR.alloc q1.lt _).trans (KeepR.ext (q1.ext (below1 _ _)).lt b2)); clear B2)
      | (go_at_call 76; refine Calls.mono (B3.out _ q2 k2) ?_; rintro e W3 ⟨n3, l3, he, q3, k3⟩; obtain ⟨v3, hv⟩ : ∃ r : Nat, r = (ns.length + sizes ts - 1) := ⟨_, rfl⟩; rw [← hv] at he; subst he; have V3 : Bx _ := ⟨hv⟩; clear hv))
    go_ret
    exact ⟨n3, l3, by rw [← V3.out]; rfl, q3, k3⟩
theorem unary_any (hT : RT w0 rb srcV tokV TL xs) (hK : Kinds TL) {f : Nat} (HU : RC w0 rb srcV tokV TL xs (pF f .unary) 68 #[]) (HP : RC w0 rb srcV tokV TL xs (pF f .postfix) 76 #[]) : RC w0 rb srcV tokV TL xs (pF (f + 1) .unary) 68 #[] := by
  intro U W s ns hS hne
  show Calls Tryz.prog 68 #[.pointer (some ⟨rb, 0, none⟩)] W _
  have e : pF (f + 1) .unary s = body (pF f) .unary s := rfl
  rw [e] at hne ⊢
  simp only [body] at hne ⊢
  by_cases h1 : kd s = 58
  · rw [if_pos h1] at hne ⊢; exact unary_1 hT hK HU hS h1 hne
  rw [if_neg h1] at hne ⊢
  by_cases h2 : kd s = 64
  · rw [if_pos h2] at hne ⊢; exact unary_2 hT hK HU hS h2 hne
  rw [if_neg h2] at hne ⊢
  by_cases h3 : kd s = 65
  · rw [if_pos h3] at hne ⊢; exact unary_3 hT hK HU hS h3 hne
  rw [if_neg h3] at hne ⊢
  exact unary_0 hT hK HP hS h1 h2 h3 hne
end Go.Proofs.YtblhklbpcalglaaGreatDoor
namespace Go.Proofs.YtblhklbpcalglaaGreatDoor
open Go.RowKit
set_option linter.unusedVariables false
set_option linter.unusedSimpArgs false
variable {w0 : World} {rb : Nat} {srcV tokV : Value} {TL : List Tok} {xs : List UInt8} {U : Nat → Prop}
theorem poke_box0 {W : World} {x : Nat} {k k2 p num : Int} {nm : ByteArray} (h : W.heap[x]? = some (boxO k p nm num)) : (W.setCell ⟨x, 0, none⟩ (.int .i64 k2)).heap[x]? = some (boxO k2 p nm num) := by
  rw [heap_setCell_same W x 0 _ 38 _ h]
  rfl
theorem poke_box3 {W : World} {x : Nat} {k p num : Int} {nm nm2 : ByteArray} (h : W.heap[x]? = some (boxO k p nm num)) : (W.setCell ⟨x, 3, none⟩ (.string nm2)).heap[x]? = some (boxO k p nm2 num) := by
  rw [heap_setCell_same W x 3 _ 38 _ h]
  rfl
theorem RSs.nokids {W : World} {s : List PTok} {ns : List Nd} (h : RSs w0 rb srcV tokV TL xs U W s ns) : RSs w0 rb srcV tokV TL xs U W s (ns ++ flats [] ns.length) := by
  have : ns ++ flats [] ns.length = ns := by simp [flats]
  rw [this]
  exact h
theorem tl_len {W : World} {s : List PTok} {ns : List Nd} (h : RSs w0 rb srcV tokV TL xs U W s ns) : (tl s).length + 1 = s.length := by
  obtain ⟨i, rfl, hi, _⟩ := h
  rw [pts_cons hi]
  rfl
set_option maxRecDepth 100000 in
set_option maxHeartbeats 4000000 in
theorem typ_19 (hT : RT w0 rb srcV tokV TL xs) (hK : Kinds TL) {W : World} {s : List PTok} {ns : List Nd} (hS : RSs w0 rb srcV tokV TL xs U W s ns) (hc : kd s = 19) :
    Calls Tryz.prog 36 #[.pointer (some ⟨rb, 0, none⟩)] W (Post1 w0 rb srcV tokV TL xs U W s ns (mk1 1 s 0 [] [] (tl s))) := by
  have hrW := hS.lt
  have d19 : ((⟨(textK (kd s : Nat)).toArray⟩ : ByteArray).toList == [105, 110, 116]) = true := by rw [text_eq hK hS 19 (by decide) _ (by decide)]; exact decide_eq_true hc
  have B1 : Bx _ := ⟨nextS hT hS⟩
  have hf1 := tok_f1
  have B2 : Bx (∀ W1, RSs w0 rb srcV tokV TL xs U W1 s ns → _) := ⟨fun W1 h => textS hT h⟩
  have HP : Bx (∀ W1 W2 : World, RSs w0 rb srcV tokV TL xs U W2 s ns → KeepR rb W W2 → W2.heap[W1.heap.size]? = some (boxO 0 (hd s).place ⟨#[]⟩ 0) → ownN W2 rb ≠ some W1.heap.size → rb < W1.heap.size → W.heap.size ≤ W1.heap.size → ∃ i2 : Nat, RSs w0 rb srcV tokV TL xs U ((W2.setCell ⟨W1.heap.size, 0, none⟩ (.int .i64 1)).setCell ⟨rb, 2, none⟩ (.int .i64 ((i2 : Int) + 1))) (tl s) ns ∧ KeepR rb W ((W2.setCell ⟨W1.heap.size, 0, none⟩ (.int .i64 1)).setCell ⟨rb, 2, none⟩ (.int .i64 ((i2 : Int) + 1))) ∧ i2 ≤ 65537 ∧ rb < W2.heap.size ∧ W2.cell? ⟨rb, 2, none⟩ = some (.int .i64 i2) ∧ W2.frozen? ⟨rb, 2, none⟩ = false ∧ W2.cell? ⟨W1.heap.size, 0, none⟩ = some (.int .i64 0) ∧ W2.frozen? ⟨W1.heap.size, 0, none⟩ = false ∧ W1.heap.size < W2.heap.size ∧ ((W2.setCell ⟨W1.heap.size, 0, none⟩ (.int .i64 1)).setCell ⟨rb, 2, none⟩ (.int .i64 ((i2 : Int) + 1))).heap[W1.heap.size]? = some (boxO 1 (hd s).place ⟨#[]⟩ 0)) := ⟨fun W1 W2 q2 k2 hb hown hrx hz => by
    obtain ⟨p1, p2⟩ := q2.poke hrx hown hb 0 (.int .i64 1)
    obtain ⟨i2, hi2, hlt, c2, fz, p3⟩ := stepS hK hT p1
    obtain ⟨q4, _, k4⟩ := p3 (by omega)
    have hrh : (W2.setCell ⟨W1.heap.size, 0, none⟩ (.int .i64 1)).heap[rb]? = W2.heap[rb]? := heap_setCell_other W2 ⟨W1.heap.size, 0, none⟩ rb _ (by show rb ≠ W1.heap.size; omega)
    refine ⟨i2, q4, (p2 W k2 hz).trans k4, hi2, q2.lt, ?_, ?_, by simp [World.cell?, hb, boxO], by simp [World.frozen?, hb, boxO], heapLt hb, ?_⟩
    · unfold World.cell? at c2 ⊢
      rw [hrh] at c2
      exact c2
    · unfold World.frozen? at fz ⊢
      rw [hrh] at fz
      exact fz
    · rw [heap_setCell_other _ ⟨rb, 2, none⟩ W1.heap.size _ (by show W1.heap.size ≠ rb; omega)]
      exact poke_box0 hb⟩
  have HD : Bx (∀ W1, RSs w0 rb srcV tokV TL xs U W1 (tl s) ns → KeepR rb W W1 → ∀ kv, Calls Tryz.prog 27 #[.pointer (some ⟨rb, 0, none⟩), .agg #[.int .i64 1, .int .i64 (hd s).place, kv, .string ⟨#[]⟩, .int .i64 0], .slice none 0 0] W1 fun e W' => ∃ r : Int, e = .returned (.int .i64 r) ∧ Post1 w0 rb srcV tokV TL xs U W s ns (.ok [.mk 1 (hd s).place 0 [] []] (tl s)) (.returned (.int .i64 r)) W') := ⟨fun W1 h hk kv => addS hT [] h.nokids hk (by have := tl_len hS; simp [sizes]; omega) ⟨W, hS⟩ 1 (hd s).place 0 [] kv none 0 0 rfl (World.ownsRow_nil _ _ _ _) (fun _ h => by cases h)⟩
  generalize (⟨(textK (kd s : Nat)).toArray⟩ : ByteArray) = tx at *
  show Calls _ _ _ _ (Post1 w0 rb srcV tokV TL xs U W s ns (.ok [.mk 1 (hd s).place 0 [] []] (tl s)))
  go_enter Tryz.func36, Tryz.ntmps36
  go_wp2_with (first
    | (go_at_call 33; refine Calls.mono B1.out ?_; rintro e W1 ⟨t1, rfl, b1⟩; have q1 := hS.ext b1; have k1 := KeepR.ext hrW b1; clear B1)
    | (go_at_call 23; refine Calls.mono (B2.out _ (q1.ext (below1 _ _))) ?_; rintro e W2 ⟨rfl, b2⟩; obtain ⟨hb, hown, hrx⟩ := box_at q1 b2; have q2 := (q1.ext (below1 _ _)).ext b2; have k2 := k1.trans ((KeepR.alloc q1.lt _).trans (KeepR.ext (q1.ext (below1 _ _)).lt b2)); obtain ⟨i2, q4, k4, hi2, hl2, e2, f2, x4, g4, xlt, hb4⟩ := HP.out W1 W2 q2 k2 hb hown hrx (by have := k1.size; omega); have Q4 : Bx _ := ⟨q4⟩; have K4 : Bx _ := ⟨k4⟩; obtain ⟨y0, y1, y2, y3, y4, ylt⟩ := box5 hb4; clear B2 hb hown hb4 q4 k4 q2 k2)
    | (go_at_call 27; refine Calls.mono (HD.out _ Q4.out K4.out _) ?_; rintro e W9 ⟨r9, rfl, hp⟩))
  go_ret
  exact hp
set_option maxRecDepth 100000 in
set_option maxHeartbeats 4000000 in
theorem typ_12 (hT : RT w0 rb srcV tokV TL xs) (hK : Kinds TL) {W : World} {s : List PTok} {ns : List Nd} (hS : RSs w0 rb srcV tokV TL xs U W s ns) (hc : kd s = 12) :
    Calls Tryz.prog 36 #[.pointer (some ⟨rb, 0, none⟩)] W (Post1 w0 rb srcV tokV TL xs U W s ns (mk1 2 s 0 [] [] (tl s))) := by
  have hrW := hS.lt
  have d19 : ((⟨(textK (kd s : Nat)).toArray⟩ : ByteArray).toList == [105, 110, 116]) = false := by rw [text_eq hK hS 19 (by decide) _ (by decide)]; exact decide_eq_false (by omega)
  have d12 : ((⟨(textK (kd s : Nat)).toArray⟩ : ByteArray).toList == [98, 111, 111, 108]) = true := by rw [text_eq hK hS 12 (by decide) _ (by decide)]; exact decide_eq_true hc
  have B1 : Bx _ := ⟨nextS hT hS⟩
  have hf1 := tok_f1
  have B2 : Bx (∀ W1, RSs w0 rb srcV tokV TL xs U W1 s ns → _) := ⟨fun W1 h => textS hT h⟩
  have HP : Bx (∀ W1 W2 : World, RSs w0 rb srcV tokV TL xs U W2 s ns → KeepR rb W W2 → W2.heap[W1.heap.size]? = some (boxO 0 (hd s).place ⟨#[]⟩ 0) → ownN W2 rb ≠ some W1.heap.size → rb < W1.heap.size → W.heap.size ≤ W1.heap.size → ∃ i2 : Nat, RSs w0 rb srcV tokV TL xs U ((W2.setCell ⟨W1.heap.size, 0, none⟩ (.int .i64 2)).setCell ⟨rb, 2, none⟩ (.int .i64 ((i2 : Int) + 1))) (tl s) ns ∧ KeepR rb W ((W2.setCell ⟨W1.heap.size, 0, none⟩ (.int .i64 2)).setCell ⟨rb, 2, none⟩ (.int .i64 ((i2 : Int) + 1))) ∧ i2 ≤ 65537 ∧ rb < W2.heap.size ∧ W2.cell? ⟨rb, 2, none⟩ = some (.int .i64 i2) ∧ W2.frozen? ⟨rb, 2, none⟩ = false ∧ W2.cell? ⟨W1.heap.size, 0, none⟩ = some (.int .i64 0) ∧ W2.frozen? ⟨W1.heap.size, 0, none⟩ = false ∧ W1.heap.size < W2.heap.size ∧ ((W2.setCell ⟨W1.heap.size, 0, none⟩ (.int .i64 2)).setCell ⟨rb, 2, none⟩ (.int .i64 ((i2 : Int) + 1))).heap[W1.heap.size]? = some (boxO 2 (hd s).place ⟨#[]⟩ 0)) := ⟨fun W1 W2 q2 k2 hb hown hrx hz => by
    obtain ⟨p1, p2⟩ := q2.poke hrx hown hb 0 (.int .i64 2)
    obtain ⟨i2, hi2, hlt, c2, fz, p3⟩ := stepS hK hT p1
    obtain ⟨q4, _, k4⟩ := p3 (by omega)
    have hrh : (W2.setCell ⟨W1.heap.size, 0, none⟩ (.int .i64 2)).heap[rb]? = W2.heap[rb]? := heap_setCell_other W2 ⟨W1.heap.size, 0, none⟩ rb _ (by show rb ≠ W1.heap.size; omega)
    refine ⟨i2, q4, (p2 W k2 hz).trans k4, hi2, q2.lt, ?_, ?_, by simp [World.cell?, hb, boxO], by simp [World.frozen?, hb, boxO], heapLt hb, ?_⟩
    · unfold World.cell? at c2 ⊢
      rw [hrh] at c2
      exact c2
    · unfold World.frozen? at fz ⊢
      rw [hrh] at fz
      exact fz
    · rw [heap_setCell_other _ ⟨rb, 2, none⟩ W1.heap.size _ (by show W1.heap.size ≠ rb; omega)]
      exact poke_box0 hb⟩
  have HD : Bx (∀ W1, RSs w0 rb srcV tokV TL xs U W1 (tl s) ns → KeepR rb W W1 → ∀ kv, Calls Tryz.prog 27 #[.pointer (some ⟨rb, 0, none⟩), .agg #[.int .i64 2, .int .i64 (hd s).place, kv, .string ⟨#[]⟩, .int .i64 0], .slice none 0 0] W1 fun e W' => ∃ r : Int, e = .returned (.int .i64 r) ∧ Post1 w0 rb srcV tokV TL xs U W s ns (.ok [.mk 2 (hd s).place 0 [] []] (tl s)) (.returned (.int .i64 r)) W') := ⟨fun W1 h hk kv => addS hT [] h.nokids hk (by have := tl_len hS; simp [sizes]; omega) ⟨W, hS⟩ 2 (hd s).place 0 [] kv none 0 0 rfl (World.ownsRow_nil _ _ _ _) (fun _ h => by cases h)⟩
  generalize (⟨(textK (kd s : Nat)).toArray⟩ : ByteArray) = tx at *
  show Calls _ _ _ _ (Post1 w0 rb srcV tokV TL xs U W s ns (.ok [.mk 2 (hd s).place 0 [] []] (tl s)))
  go_enter Tryz.func36, Tryz.ntmps36
  go_wp2_with (first
    | (go_at_call 33; refine Calls.mono B1.out ?_; rintro e W1 ⟨t1, rfl, b1⟩; have q1 := hS.ext b1; have k1 := KeepR.ext hrW b1; clear B1)
    | (go_at_call 23; refine Calls.mono (B2.out _ (q1.ext (below1 _ _))) ?_; rintro e W2 ⟨rfl, b2⟩; obtain ⟨hb, hown, hrx⟩ := box_at q1 b2; have q2 := (q1.ext (below1 _ _)).ext b2; have k2 := k1.trans ((KeepR.alloc q1.lt _).trans (KeepR.ext (q1.ext (below1 _ _)).lt b2)); obtain ⟨i2, q4, k4, hi2, hl2, e2, f2, x4, g4, xlt, hb4⟩ := HP.out W1 W2 q2 k2 hb hown hrx (by have := k1.size; omega); have Q4 : Bx _ := ⟨q4⟩; have K4 : Bx _ := ⟨k4⟩; obtain ⟨y0, y1, y2, y3, y4, ylt⟩ := box5 hb4; clear B2 hb hown hb4 q4 k4 q2 k2)
    | (go_at_call 27; refine Calls.mono (HD.out _ Q4.out K4.out _) ?_; rintro e W9 ⟨r9, rfl, hp⟩))
  go_ret
  exact hp
end Go.Proofs.YtblhklbpcalglaaGreatDoor
