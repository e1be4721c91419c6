import Derived.Test.YtblhklbpcalglaaGreatDoorCRTy2
import Derived.Test.YtblhklbpcalglaaGreatDoorCRSta
import Derived.Test.YtblhklbpcalglaaGreatDoorCRName2
import Derived.Test.YtblhklbpcalglaaGreatDoorCRAct
import Derived.Test.YtblhklbpcalglaaGreatDoorCRAr3
import Derived.Test.YtblhklbpcalglaaGreatDoorCRTy0
import Derived.Test.YtblhklbpcalglaaGreatDoorCRPri
import Derived.Test.YtblhklbpcalglaaGreatDoorCRPri2
import Derived.Test.YtblhklbpcalglaaGreatDoorCRStr
import Derived.Test.YtblhklbpcalglaaGreatDoorCRPar
import Derived.Test.YtblhklbpcalglaaGreatDoorCRBox
import Derived.Test.YtblhklbpcalglaaGreatDoorCROp
import Derived.Test.YtblhklbpcalglaaGreatDoorCRPost
import Derived.Test.YtblhklbpcalglaaGreatDoorCRSim
namespace Go.Proofs.YtblhklbpcalglaaGreatDoor
open Go.RowKit
set_option linter.unusedVariables false
set_option linter.unusedSimpArgs false
variable {w0 : World} {rb : Nat} {srcV tokV : Value} {TL : List Tok} {xs : List UInt8} {U : Nat → Prop}
theorem row_first {W W2 : World} {s' : List PTok} {ns : List Nd} {a : List Tr} (q2 : RSs w0 rb srcV tokV TL xs U W2 s' (ns ++ flats a ns.length)) (k2 : KeepR rb W W2) (n2 : a.length = 1) (v : Nat) (hv : v = ns.length + sizes a - 1) : ∀ g2 cp w4, (W2.alloc (.cells #[.int .i64 (v : Int)] 3)).grownBy w4 (Value.slice none 0 0).ownBlock → ((Value.slice none 0 0).ownBlock = some g2 ∨ g2 = W2.heap.size + 1) → g2 < w4.heap.size → w4.ownsRow (rb + 1) 3 1 (.slice (some ⟨g2, 0, none⟩) (0 + 1) cp) (0 + 1) ([] ++ [.int .i64 (v : Int)]) → RSs w0 rb srcV tokV TL xs (Uv U (.slice (some ⟨g2, 0, none⟩) (0 + 1) cp)) w4 s' (ns ++ flats a ns.length) ∧ KeepR rb W w4 ∧ IntsO w4 rb (.slice (some ⟨g2, 0, none⟩) (0 + 1) cp) (ends a ns.length) ∧ W.heap.size ≤ g2 := fun g2 cp w4 hg hat hl4 hown => by
  obtain ⟨p1, p2⟩ := q2.uv0.grown (v := .slice none 0 0) (ys := []) (World.ownsRow_nil _ _ _ _) hg g2 (0 + 1) cp hat hl4
  obtain ⟨p3, p4⟩ := p2 W k2 (fun y hy => by simp [Value.ownBlock] at hy)
  refine ⟨p1, p3, ?_, p4⟩
  unfold IntsO
  rw [ends_one n2, ← hv]
  exact hown
set_option maxRecDepth 100000 in
set_option maxHeartbeats 4000000 in
theorem returned_any (hT : RT w0 rb srcV tokV TL xs) (hK : Kinds TL) {f : Nat} (HE : RC w0 rb srcV tokV TL xs (pF f (.operands 1)) 56 #[]) {W : World} {s : List PTok} {ns : List Nd} (hS : RSs w0 rb srcV tokV TL xs U W s ns) (hne : (want 24 s fun s1 => if kd s1 = 47 then want 47 s1 fun s2 => mk1 38 s 0 [] [] s2 else andT (pF f (.operands 1) s1) fun a s2 => want 47 s2 fun s3 => mk1 38 s 0 [] a s3) ≠ .out) :
    Calls Tryz.prog 41 #[.pointer (some ⟨rb, 0, none⟩)] W (Post1 w0 rb srcV tokV TL xs U W s ns (want 24 s fun s1 => if kd s1 = 47 then want 47 s1 fun s2 => mk1 38 s 0 [] [] s2 else andT (pF f (.operands 1) s1) fun a s2 => want 47 s2 fun s3 => mk1 38 s 0 [] a s3)) := by
  have hrW := hS.lt
  obtain ⟨i0, hi, hz0, hz1, hz2⟩ := info_parts infoInt
  have B1 : Bx (∀ W1, RSs w0 rb srcV tokV TL xs U W1 s ns → _) := ⟨fun W1 h => wantS hT hK h 24 (by decide) ⟨#[114, 101, 116, 117, 114, 110]⟩ (by decide)⟩
  by_cases h1 : kd s = 24
  · rw [want_pos h1] at hne ⊢
    have B2 : Bx (∀ W1, RSs w0 rb srcV tokV TL xs U W1 (tl s) ns → _) := ⟨fun W1 h => textS hT h⟩
    have B3 : Bx (∀ W1, RSs w0 rb srcV tokV TL xs U W1 (tl s) ns → _) := ⟨fun W1 h => wantS hT hK h 47 (by decide) ⟨#[59]⟩ (by decide)⟩
    have HX : Bx (∀ W1, RSs w0 rb srcV tokV TL xs U W1 (tl s) ns → ((⟨(textK (kd (tl s) : Nat)).toArray⟩ : ByteArray).toList == [59]) = decide (kd (tl s) = 47)) := ⟨fun W1 h => text_eq hK h 47 (by decide) _ (by decide)⟩
    by_cases h2' : kd (tl s) = 47
    · rw [if_pos h2', want_pos h2']
      have h2 : Bx (kd (tl s) = 47) := ⟨h2'⟩
      have HD : Bx (∀ W1, RSs w0 rb srcV tokV TL xs U W1 (tl (tl s)) ns → KeepR rb W W1 → (tl (tl s)).length + 1 ≤ s.length → ∀ kv, Calls Tryz.prog 27 #[.pointer (some ⟨rb, 0, none⟩), .agg #[.int .i64 38, .int .i64 (hd s).place, kv, .string ⟨#[]⟩, .int .i64 0], .slice none 0 0] W1 fun e W' => ∃ r : Int, e = .returned (.int .i64 r) ∧ Post1 w0 rb srcV tokV TL xs U W s ns (.ok [.mk 38 (hd s).place 0 [] []] (tl (tl s))) (.returned (.int .i64 r)) W') := ⟨fun W1 h hk hl kv => addS hT [] h.nokids hk (by simp [sizes]; omega) ⟨W, hS⟩ 38 (hd s).place 0 [] kv none 0 0 rfl (World.ownsRow_nil _ _ _ _) (fun _ h => by cases h)⟩
      show Calls _ _ _ _ (Post1 w0 rb srcV tokV TL xs U W s ns (.ok [.mk 38 (hd s).place 0 [] []] (tl (tl s))))
      have HT : Bx (∀ W1, RSs w0 rb srcV tokV TL xs U W1 (tl s) ns → ((⟨(textK (kd (tl s) : Nat)).toArray⟩ : ByteArray).toList == [59]) = true) := ⟨fun W1 h => by rw [HX.out W1 h]; exact decide_eq_true h2.out⟩
      clear HX h2'
      generalize (⟨(textK (kd (tl s) : Nat)).toArray⟩ : ByteArray) = tx at *
      clear hne HE
      go_enter Tryz.func41, Tryz.ntmps41
      go_wp2_with (first
        | (go_at_call 34; refine Calls.mono (B1.out _ hS) ?_; rintro e W1 (⟨_, rfl, q1, l1, k1⟩ | ⟨h, _⟩); rotate_left 1; exact absurd h1 h; clear B1; have d47 := HT.out _ q1)
        | (go_at_call 23; refine Calls.mono (B2.out _ q1) ?_; rintro e W2 ⟨rfl, b2⟩; have q2 := q1.ext b2; have k2 := k1.trans (KeepR.ext q1.lt b2); clear B2)
        | (go_at_call 34; refine Calls.mono (B3.out _ q2) ?_; rintro e W3 (⟨_, rfl, q3, l3, k3⟩ | ⟨h, _⟩); rotate_left 1; exact absurd h2.out h; clear B3)
        | (go_at_call 27; refine Calls.mono (HD.out _ q3 (k2.trans k3) (by omega) _) ?_; rintro e W9 ⟨r9, rfl, hp⟩))
      go_ret
      exact hp
    · rw [if_neg h2'] at hne ⊢
      have HT : Bx (∀ W1, RSs w0 rb srcV tokV TL xs U W1 (tl s) ns → ((⟨(textK (kd (tl s) : Nat)).toArray⟩ : ByteArray).toList == [59]) = false) := ⟨fun W1 h => by rw [HX.out W1 h]; exact decide_eq_false h2'⟩
      have B4 : Bx (∀ W1, RSs w0 rb srcV tokV TL xs U W1 (tl s) ns → pF f (.operands 1) (tl s) ≠ .out → Calls Tryz.prog 56 #[.pointer (some ⟨rb, 0, none⟩)] W1 (Post1 w0 rb srcV tokV TL xs U W1 (tl s) ns (pF f (.operands 1) (tl s)))) := ⟨fun W1 h hn => HE U W1 (tl s) ns h hn⟩
      match r4 : pF f (.operands 1) (tl s) with
      | .out => rw [r4] at hne; exact absurd rfl hne
      | .err s3 =>
        rw [r4] at B4
        show Calls _ _ _ _ (Post1 w0 rb srcV tokV TL xs U W s ns (.err s3))
        clear HX h2' B3
        generalize (⟨(textK (kd (tl s) : Nat)).toArray⟩ : ByteArray) = tx at *
        clear hne HE
        go_enter Tryz.func41, Tryz.ntmps41
        go_wp2_with (first
          | (go_at_call 34; refine Calls.mono (B1.out _ hS) ?_; rintro e W1 (⟨_, rfl, q1, l1, k1⟩ | ⟨h, _⟩); rotate_left 1; exact absurd h1 h; clear B1; have d47 := HT.out _ q1)
          | (go_at_call 23; refine Calls.mono (B2.out _ q1) ?_; rintro e W2 ⟨rfl, b2⟩; have q2 := q1.ext b2; have k2 := k1.trans (KeepR.ext q1.lt b2); clear B2)
          | (go_at_call 56; refine Calls.mono (B4.out _ q2 (by simp)) ?_; rintro e W3 ⟨rfl, b⟩; unfold faultP))
        exact ⟨rfl, rfl, b⟩
      | .ok a s3 =>
        rw [r4] at B4 hne
        simp only [andT] at hne ⊢
        have B5 : Bx (∀ U' W1, RSs w0 rb srcV tokV TL xs U' W1 s3 (ns ++ flats a ns.length) → _) := ⟨fun U' W1 h => wantS (U := U') hT hK h 47 (by decide) ⟨#[59]⟩ (by decide)⟩
        by_cases h5 : kd s3 = 47
        · rw [want_pos h5]
          have HD : Bx (∀ W5 W6 gb c, RSs w0 rb srcV tokV TL xs (Uv U (.slice (some ⟨gb, 0, none⟩) (0 + 1) c)) W5 s3 (ns ++ flats a ns.length) → KeepR rb W W5 → IntsO W5 rb (.slice (some ⟨gb, 0, none⟩) (0 + 1) c) (ends a ns.length) → W.heap.size ≤ gb → RSs w0 rb srcV tokV TL xs (Uv U (.slice (some ⟨gb, 0, none⟩) (0 + 1) c)) W6 (tl s3) (ns ++ flats a ns.length) → KeepR rb W5 W6 → a.length = 1 → (tl s3).length + sizes a + 1 ≤ s.length → ∀ kv, Calls Tryz.prog 27 #[.pointer (some ⟨rb, 0, none⟩), .agg #[.int .i64 38, .int .i64 (hd s).place, kv, .string ⟨#[]⟩, .int .i64 0], .slice (some ⟨gb, 0, none⟩) 1 c] W6 fun e W' => ∃ r : Int, e = .returned (.int .i64 r) ∧ Post1 w0 rb srcV tokV TL xs U W s ns (.ok [.mk 38 (hd s).place 0 [] a] (tl s3)) (.returned (.int .i64 r)) W') := ⟨fun W5 W6 gb c g1 g2 g3 g4 q6 k6 ha hl kv => addS hT a (q6.anyU (fun y hy => .inl hy)) (g2.trans k6) hl ⟨W, hS⟩ 38 (hd s).place 0 [] kv (some ⟨gb, 0, none⟩) 1 c ha.symm (g1.ints g3 k6) (hS.isnew (n := 1) (c := c) (fun y hy => by simp [Value.ownBlock] at hy; omega))⟩
          show Calls _ _ _ _ (Post1 w0 rb srcV tokV TL xs U W s ns (.ok [.mk 38 (hd s).place 0 [] a] (tl s3)))
          clear HX h2' B3
          generalize (⟨(textK (kd (tl s) : Nat)).toArray⟩ : ByteArray) = tx at *
          clear hne HE
          go_enter Tryz.func41, Tryz.ntmps41
          go_wp2_with (first
            | (go_at_call 34; refine Calls.mono (B1.out _ hS) ?_; rintro e W1 (⟨_, rfl, q1, l1, k1⟩ | ⟨h, _⟩); rotate_left 1; exact absurd h1 h; clear B1; have d47 := HT.out _ q1)
            | (go_at_call 23; refine Calls.mono (B2.out _ q1) ?_; rintro e W2 ⟨rfl, b2⟩; have q2 := q1.ext b2; have k2 := k1.trans (KeepR.ext q1.lt b2); clear B2)
            | (go_at_call 56; refine Calls.mono (B4.out _ q2 (by simp)) ?_; rintro e W3 ⟨n3, l3, he, q3, k3⟩; obtain ⟨v, hv⟩ : ∃ r : Nat, r = (ns.length + sizes a - 1) := ⟨_, rfl⟩; rw [← hv] at he; subst he; have NX : Bx _ := ⟨row_first q3 (k2.trans k3) n3 v hv⟩; have hr3 := q3.lt; clear hv B4 q3)
            | (at_builtin; refine wpList_append_lies _ rfl (.tmp 10) (.tmp 13) 36 rfl (rb + 1) 3 i0 (.int .i64 0) 1 8 Tryz.underlying36 hi hz0 hz1 hz2 rfl (by decide) (.slice none 0 0) 0 [] rfl (World.ownsRow_nil _ _ _ _) ⟨W3.heap.size, 0, none⟩ 1 1 [.int .i64 (v : Int)] rfl rfl (int_news _ _ rfl _) (int_one _) (by decide) (by unfold maxLen; omega) (by omega) (by simp; omega) (W3.heap.size + 1) (by simp) ?_; intro g2 cp w4 hown hgrow hat hlt4; obtain ⟨g1, gk, g3, g4⟩ := NX.out g2 cp w4 hgrow hat hlt4 hown; have G1 : Bx _ := ⟨g1⟩; have G2 : Bx _ := ⟨gk⟩; have G3 : Bx _ := ⟨g3⟩; have G4 : Bx _ := ⟨g4⟩; clear hgrow hat hown g1 gk g3 g4 NX)
            | (go_at_call 34; refine Calls.mono (B5.out _ _ G1.out) ?_; rintro e W6 (⟨_, rfl, q6, l6, k6⟩ | ⟨h, _⟩); rotate_left 1; exact absurd h5 h; clear B5; have Q6 : Bx _ := ⟨q6⟩; have K6 : Bx _ := ⟨k6⟩; clear q6 k6)
            | (go_at_call 27; go_loud (refine Calls.mono (HD.out _ _ _ _ G1.out G2.out G3.out G4.out Q6.out K6.out n3 (by omega) _) ?_; rintro e W9 ⟨r9, rfl, hp⟩)))
          go_ret
          exact hp
        · rw [want_neg h5]
          show Calls _ _ _ _ (Post1 w0 rb srcV tokV TL xs U W s ns (.err s3))
          clear HX h2' B3
          generalize (⟨(textK (kd (tl s) : Nat)).toArray⟩ : ByteArray) = tx at *
          clear hne HE
          go_enter Tryz.func41, Tryz.ntmps41
          go_wp2_with (first
            | (go_at_call 34; refine Calls.mono (B1.out _ hS) ?_; rintro e W1 (⟨_, rfl, q1, l1, k1⟩ | ⟨h, _⟩); rotate_left 1; exact absurd h1 h; clear B1; have d47 := HT.out _ q1)
            | (go_at_call 23; refine Calls.mono (B2.out _ q1) ?_; rintro e W2 ⟨rfl, b2⟩; have q2 := q1.ext b2; have k2 := k1.trans (KeepR.ext q1.lt b2); clear B2)
            | (go_at_call 56; refine Calls.mono (B4.out _ q2 (by simp)) ?_; rintro e W3 ⟨n3, l3, he, q3, k3⟩; obtain ⟨v, hv⟩ : ∃ r : Nat, r = (ns.length + sizes a - 1) := ⟨_, rfl⟩; rw [← hv] at he; subst he; have NX : Bx _ := ⟨row_first q3 (k2.trans k3) n3 v hv⟩; have hr3 := q3.lt; clear hv B4 q3)
            | (at_builtin; refine wpList_append_lies _ rfl (.tmp 10) (.tmp 13) 36 rfl (rb + 1) 3 i0 (.int .i64 0) 1 8 Tryz.underlying36 hi hz0 hz1 hz2 rfl (by decide) (.slice none 0 0) 0 [] rfl (World.ownsRow_nil _ _ _ _) ⟨W3.heap.size, 0, none⟩ 1 1 [.int .i64 (v : Int)] rfl rfl (int_news _ _ rfl _) (int_one _) (by decide) (by unfold maxLen; omega) (by omega) (by simp; omega) (W3.heap.size + 1) (by simp) ?_; intro g2 cp w4 hown hgrow hat hlt4; obtain ⟨g1, gk, g3, g4⟩ := NX.out g2 cp w4 hgrow hat hlt4 hown; have G1 : Bx _ := ⟨g1⟩; have G2 : Bx _ := ⟨gk⟩; have G3 : Bx _ := ⟨g3⟩; have G4 : Bx _ := ⟨g4⟩; clear hgrow hat hown g1 gk g3 g4 NX)
            | (go_at_call 34; refine Calls.mono (B5.out _ _ G1.out) ?_; rintro e W6 (⟨h, _⟩ | ⟨_, rfl, b⟩); exact absurd h h5; unfold faultP))
          exact ⟨rfl, rfl, b⟩
  · rw [want_neg h1]
    show Calls _ _ _ _ (Post1 w0 rb srcV tokV TL xs U W s ns (.err s))
    clear hne HE
    go_enter Tryz.func41, Tryz.ntmps41
    go_wp2_with (first
      | (go_at_call 34; refine Calls.mono (B1.out _ hS) ?_; rintro e W1 (⟨h, _⟩ | ⟨_, rfl, b⟩); exact absurd h h1; unfold faultP))
    exact ⟨rfl, rfl, b⟩
end Go.Proofs.YtblhklbpcalglaaGreatDoor
namespace Go.Proofs.YtblhklbpcalglaaGreatDoor
open Go.RowKit
set_option linter.unusedVariables false
set_option linter.unusedSimpArgs false
variable {w0 : World} {rb : Nat} {srcV tokV : Value} {TL : List Tok} {xs : List UInt8} {U : Nat → Prop}
set_option maxRecDepth 100000 in
set_option maxHeartbeats 4000000 in
theorem choice_any (hT : RT w0 rb srcV tokV TL xs) (hK : Kinds TL) {f : Nat} (HS : ∀ f', f' < f → RC w0 rb srcV tokV TL xs (pF f' .arm) 58 #[]) :
    RC w0 rb srcV tokV TL xs (fun s => want 25 s fun s0 => want 44 s0 fun s1 => andT (pF f .arms s1) fun a s2 => mk1 40 s 0 [] a s2) 43 #[] := by
  intro U W s ns hS hne
  show Calls Tryz.prog 43 #[.pointer (some ⟨rb, 0, none⟩)] W _
  dsimp only at hne ⊢
  have hrW := hS.lt
  have B1 : Bx (∀ W1, RSs w0 rb srcV tokV TL xs U W1 s ns → _) := ⟨fun W1 h => wantS hT hK h 25 (by decide) ⟨#[115, 101, 108, 101, 99, 116]⟩ (by decide)⟩
  have C1 : Bx (∀ W1, RSs w0 rb srcV tokV TL xs U W1 (tl s) ns → _) := ⟨fun W1 h => wantS hT hK h 44 (by decide) ⟨#[123]⟩ (by decide)⟩
  by_cases h1 : kd s = 25
  rotate_left 1
  · rw [want_neg h1]
    go_enter Tryz.func43, Tryz.ntmps43
    go_wp2_with (first
      | (go_at_call 34; refine Calls.mono (B1.out _ hS) ?_; rintro e W1 (⟨h, _⟩ | ⟨_, rfl, b1⟩); exact absurd h h1; unfold faultP))
    exact ⟨rfl, rfl, b1⟩
  rw [want_pos h1] at hne ⊢
  by_cases c1 : kd (tl s) = 44
  · rw [want_pos c1] at hne ⊢
    obtain ⟨i0, hi, hz0, hz1, hz2⟩ := info_parts infoInt
    have hslen : s.length ≤ 65537 := by
      obtain ⟨i, rfl, hi, _⟩ := hS
      have := hT.small
      unfold pts
      simp
      omega
    generalize hR : (andT (pF f .arms (tl (tl s))) fun a s2 => mk1 40 s 0 [] a s2) = R at hne ⊢
    have HR : Bx (andT (pF f .arms (tl (tl s))) (fun a s2 => mk1 40 s 0 [] a s2) = R ∧ R ≠ .out) := ⟨hR, hne⟩
    clear hR hne
    have H0 : Bx (∀ W1, RSs w0 rb srcV tokV TL xs U W1 (tl (tl s)) ns → KeepR rb W W1 → (tl (tl s)).length + 1 = (tl s).length → (tl s).length + 1 = s.length → LoopS w0 rb srcV tokV TL xs U W s ns .arms f (tl (tl s)) (.slice none 0 0) W1 f [] (tl (tl s))) := ⟨fun W1 q k l l0 => ⟨by rw [prep_nil], Nat.le_refl _, by
      have : ns ++ flats [] ns.length = ns := by simp [flats]
      rw [this]
      exact q.anyU (fun y hy => by rcases hy with hy | hy; exact hy; simp [Value.ownBlock] at hy), World.ownsRow_nil _ _ _ _, k, fun y hy => by simp [Value.ownBlock] at hy, by simp [sizes]; omega⟩⟩
    go_enter Tryz.func43, Tryz.ntmps43
    go_wp2_with (first
      | (go_at_call 34; refine Calls.mono (B1.out _ hS) ?_; rintro e W1 (⟨_, rfl, q1, l1, k1⟩ | ⟨h, _⟩); rotate_left 1; exact absurd h1 h; clear B1)
      | (go_at_call 34; refine Calls.mono (C1.out _ q1) ?_; rintro e W2 (⟨_, rfl, q2, l2, k2⟩ | ⟨h, _⟩); rotate_left 1; exact absurd c1 h; clear C1; have L0 := H0.out _ q2 (k1.trans k2) l2 l1; have LB : Bx _ := ⟨L0⟩; clear L0 H0))
    go_loopw [4] (fun kv wr => ∃ f' : Nat, ∃ acc cur, ∃ a c, kv = .slice a acc.length c ∧ Bx (LoopS w0 rb srcV tokV TL xs U W s ns .arms f (tl (tl s)) kv wr f' acc cur)) (fun kv _ => s.length - sliceLen kv)
    case atStart => exact ⟨f, [], tl (tl s), none, 0, rfl, LB⟩
    case round =>
      obtain ⟨f', acc, cur, a, c, rfl, HL⟩ := hrel
      have hsz := HL.out.sz
      have hac := sizes_ge acc
      match f', HL with
      | 0, HL =>
        have := HL.out.eq
        have h2 := HR.out
        rw [this] at h2
        exact absurd h2.1.symm h2.2
      | g + 1, HL =>
        have B2 : Bx (∀ W1, RSs w0 rb srcV tokV TL xs (Uv U (.slice a acc.length c)) W1 cur (ns ++ flats acc ns.length) → _) := ⟨fun W1 h => skipS hT hK h 45 (by decide) ⟨#[125]⟩ (by decide)⟩
        by_cases h2 : kd cur = 45
        · have e1 : pF (g + 1) .arms cur = .ok [] (tl cur) := by
            show body (pF g) .arms cur = _
            simp only [body]
            rw [if_pos h2]
          have eR : Bx (R = .ok [.mk 40 (hd s).place 0 [] acc] (tl cur)) := ⟨by
            have h3 := HR.out.1
            rw [HL.out.eq, e1] at h3
            simp only [prep, andT, List.append_nil] at h3
            exact h3.symm⟩
          have hUW : ∀ y, a = some ⟨y, 0, none⟩ → ¬ U y := fun y hy hyU => by
            have h4 := HL.out.new y (by rw [hy]; rfl)
            obtain ⟨_, _, _, _, _, hU⟩ := hS
            have := hU y hyU
            omega
          have HD : Bx (∀ W2, RSs w0 rb srcV tokV TL xs (Uv U (.slice a acc.length c)) W2 (tl cur) (ns ++ flats acc ns.length) → KeepR rb wr W2 → (tl cur).length + 1 = cur.length → ∀ kv, Calls Tryz.prog 27 #[.pointer (some ⟨rb, 0, none⟩), .agg #[.int .i64 40, .int .i64 (hd s).place, kv, .string ⟨#[]⟩, .int .i64 0], .slice a acc.length c] W2 fun e W' => ∃ r : Int, e = .returned (.int .i64 r) ∧ Post1 w0 rb srcV tokV TL xs U W s ns R (.returned (.int .i64 r)) W') := ⟨fun W2 q k l kv => by
            rw [eR.out]
            exact addS hT acc (q.anyU (fun y hy => .inl hy)) (HL.out.keep.trans k) (by omega) ⟨W, hS⟩ 40 (hd s).place 0 [] kv a acc.length c rfl (HL.out.st.ints HL.out.row k) hUW⟩
          have hst : Bx _ := ⟨HL.out.st⟩
          clear HL HR eR e1 HS
          go_wp2_with (first
            | (go_at_call 49; refine Calls.mono (B2.out _ hst.out) ?_; rintro e W2 (⟨_, rfl, q2, l2, k2⟩ | ⟨h, _⟩); rotate_left 1; exact absurd h2 h; clear B2)
            | (go_at_call 27; refine Calls.mono (HD.out _ q2 k2 l2 _) ?_; rintro e W9 ⟨r9, rfl, hp⟩))
          go_ret
          exact hp
        · have e1 : pF (g + 1) .arms cur = andT (pF g .arm cur) fun a s1 => andT (pF g .arms s1) fun b s2 => .ok (a ++ b) s2 := by
            show body (pF g) .arms cur = _
            simp only [body]
            rw [if_neg h2]
          have hgf : g < f := by have := HL.out.le; omega
          have B3 : Bx (∀ W1, RSs w0 rb srcV tokV TL xs (Uv U (.slice a acc.length c)) W1 cur (ns ++ flats acc ns.length) → pF g .arm cur ≠ .out → Calls Tryz.prog 58 #[.pointer (some ⟨rb, 0, none⟩)] W1 (Post1 w0 rb srcV tokV TL xs (Uv U (.slice a acc.length c)) W1 cur (ns ++ flats acc ns.length) (pF g .arm cur))) := ⟨fun W1 h hn => HS g hgf _ W1 cur _ h hn⟩
          have hst : Bx _ := ⟨HL.out.st⟩
          match r3 : pF g .arm cur with
          | .out =>
            have h3 := HR.out
            rw [HL.out.eq, e1, r3] at h3
            exact absurd h3.1.symm h3.2
          | .err s' =>
            rw [r3] at B3
            have eR : Bx (R = .err s') := ⟨by
              have h3 := HR.out.1
              rw [HL.out.eq, e1, r3] at h3
              exact h3.symm⟩
            clear HL HR HS
            go_wp2_with (first
              | (go_at_call 49; refine Calls.mono (B2.out _ hst.out) ?_; rintro e W2 (⟨h, _⟩ | ⟨_, rfl, q2, k2⟩); exact absurd h h2; clear B2)
              | (go_at_call 58; refine Calls.mono (B3.out _ q2 (by simp)) ?_; rintro e W3 ⟨rfl, b3⟩; unfold faultP))
            exact ⟨rfl, by rw [eR.out]; exact ⟨rfl, b3⟩⟩
          | .ok ts s' =>
            rw [r3] at B3
            have HN : Bx (∀ W2 W3, KeepR rb wr W2 → KeepR rb W2 W3 → RSs w0 rb srcV tokV TL xs (Uv U (.slice a acc.length c)) W3 s' ((ns ++ flats acc ns.length) ++ flats ts (ns ++ flats acc ns.length).length) → ts.length = 1 → s'.length + sizes ts ≤ cur.length → ∀ v : Nat, v = ((ns ++ flats acc ns.length).length + sizes ts - 1) →
                IntsO W3 rb (.slice a acc.length c) (ends acc ns.length) ∧ ∀ g2 cp w4, (W3.alloc (.cells #[.int .i64 (v : Int)] 3)).grownBy w4 (Value.slice a acc.length c).ownBlock → ((Value.slice a acc.length c).ownBlock = some g2 ∨ g2 = W3.heap.size + 1) → g2 < w4.heap.size → w4.ownsRow (rb + 1) 3 1 (.slice (some ⟨g2, 0, none⟩) (acc.length + 1) cp) (acc.length + 1) (intsC (ends acc ns.length) ++ [.int .i64 (v : Int)]) → LoopS w0 rb srcV tokV TL xs U W s ns .arms f (tl (tl s)) (.slice (some ⟨g2, 0, none⟩) (acc.length + 1) cp) w4 g (acc ++ ts) s') := ⟨fun W2 W3 k2 k3 q3 n3 l3 v hv => by
              have hrow := HL.out.st.ints HL.out.row (k2.trans k3)
              refine ⟨hrow, fun g2 cp w4 hg hat hl4 hown => ?_⟩
              obtain ⟨p1, p2⟩ := q3.grown hrow hg g2 (acc.length + 1) cp hat hl4
              obtain ⟨p3, p4⟩ := p2 W (HL.out.keep.trans (k2.trans k3)) HL.out.new
              have hends : ends (acc ++ ts) ns.length = ends acc ns.length ++ [(v : Int)] := by rw [ends_append, ends_one n3, hv, two_len]
              refine ⟨?_, by omega, ?_, ?_, p3, fun y hy => ?_, ?_⟩
              · rw [HL.out.eq, e1, r3]
                simp only [andT]
                cases pF g .arms s' <;> simp [prep]
              · rw [two_lists] at p1
                exact p1
              · unfold IntsO
                rw [hends, List.length_append, ends_len, intsC, List.map_append]
                exact hown
              · simp [Value.ownBlock] at hy
                subst hy
                exact p4
              · rw [sizes_append]
                omega⟩
            have hlen : (acc ++ ts).length = acc.length + 1 → True := fun _ => trivial
            clear HL HR HS
            go_wp2_with (first
              | (go_at_call 49; refine Calls.mono (B2.out _ hst.out) ?_; rintro e W2 (⟨h, _⟩ | ⟨_, rfl, q2, k2⟩); exact absurd h h2; clear B2)
              | (go_at_call 58; refine Calls.mono (B3.out _ q2 (by simp)) ?_; rintro e W3 ⟨n3, l3, he, q3, k3⟩; obtain ⟨v3, hv⟩ : ∃ r : Nat, r = ((ns ++ flats acc ns.length).length + sizes ts - 1) := ⟨_, rfl⟩; rw [← hv] at he; subst he; obtain ⟨hrow, hnx⟩ := HN.out W2 W3 k2 k3 q3 n3 l3 v3 hv; have NX : Bx _ := ⟨hnx⟩; have RW : Bx _ := ⟨hrow⟩; have hrl := q3.lt; clear hv hnx hrow HN B3)
              | (at_builtin; refine wpList_append_lies _ rfl (.tmp 12) (.tmp 15) 36 rfl (rb + 1) 3 i0 (.int .i64 0) 1 8 Tryz.underlying36 hi hz0 hz1 hz2 rfl (by decide) (.slice a acc.length c) acc.length (intsC (ends acc ns.length)) rfl (by have := owns_bel RW.out (below1 W3 (.cells #[.int .i64 (v3 : Int)] 3)); rw [ends_len] at this; exact this) ⟨W3.heap.size, 0, none⟩ 1 1 [.int .i64 (v3 : Int)] rfl rfl (int_news _ _ rfl _) (int_one _) (by decide) (by unfold maxLen; omega) (by omega) (by simp; omega) (W3.heap.size + 1) (by simp) ?_; intro g2 cp w4 hown hgrow hat hlt4; have LN := NX.out g2 cp w4 hgrow hat hlt4 hown; have LNB : Bx _ := ⟨LN⟩; clear hgrow hat hown LN))
            go_roundw
            case rel => exact ⟨g, acc ++ ts, s', some ⟨g2, 0, none⟩, cp, by simp [n3], LNB⟩
            case measure => simp [sliceLen]; omega
  · rw [want_neg c1]
    go_enter Tryz.func43, Tryz.ntmps43
    go_wp2_with (first
      | (go_at_call 34; refine Calls.mono (B1.out _ hS) ?_; rintro e W1 (⟨_, rfl, q1, l1, k1⟩ | ⟨h, _⟩); rotate_left 1; exact absurd h1 h; clear B1)
      | (go_at_call 34; refine Calls.mono (C1.out _ q1) ?_; rintro e W2 (⟨h, _⟩ | ⟨_, rfl, b2⟩); exact absurd h c1; unfold faultP))
    exact ⟨rfl, rfl, b2⟩
end Go.Proofs.YtblhklbpcalglaaGreatDoor
namespace Go.Proofs.YtblhklbpcalglaaGreatDoor
open Go.RowKit
set_option linter.unusedVariables false
set_option linter.unusedSimpArgs false
variable {w0 : World} {rb : Nat} {srcV tokV : Value} {TL : List Tok} {xs : List UInt8} {U : Nat → Prop}
structure AllR (w0 : World) (rb : Nat) (srcV tokV : Value) (TL : List Tok) (xs : List UInt8) (f : Nat) : Prop where
  typ : RC w0 rb srcV tokV TL xs (pF f .typ) 36 #[]
  chanT : RC w0 rb srcV tokV TL xs (pF f .chanT) 53 #[]
  expr : RC w0 rb srcV tokV TL xs (pF f (.operands 1)) 56 #[]
  opnd : ∀ l : Int, 1 ≤ l → RC w0 rb srcV tokV TL xs (pF f (.operands l)) 67 #[.int .i64 l]
  unary : RC w0 rb srcV tokV TL xs (pF f .unary) 68 #[]
  postf : RC w0 rb srcV tokV TL xs (pF f .postfix) 76 #[]
  primary : RC w0 rb srcV tokV TL xs (pF f .primary) 82 #[]
  prog : RC w0 rb srcV tokV TL xs (pF f .prog) 91 #[]
  param : RC w0 rb srcV tokV TL xs (pF f .param) 97 #[]
  block : RC w0 rb srcV tokV TL xs (pF f .block) 44 #[]
  stmt : RC w0 rb srcV tokV TL xs (pF f .stmt) 26 #[]
  branch : RC w0 rb srcV tokV TL xs (pF f .branch) 39 #[]
  arm : RC w0 rb srcV tokV TL xs (pF f .arm) 58 #[]
  tyn : RC w0 rb srcV tokV TL xs (pF f .tyn) 24 #[]
  pty : LC 0 w0 rb srcV tokV TL xs (pF f (.parted .typ)) 64 #[.func (.func 36) #[.pointer (some ⟨rb, 0, none⟩)] #[]]
  pex : LC 0 w0 rb srcV tokV TL xs (pF f (.parted .expr)) 64 #[.func (.func 56) #[.pointer (some ⟨rb, 0, none⟩)] #[]]
  ppa : LC 0 w0 rb srcV tokV TL xs (pF f (.parted .param)) 64 #[.func (.func 97) #[.pointer (some ⟨rb, 0, none⟩)] #[]]
  lty : LC 1 w0 rb srcV tokV TL xs (pF f (.listed .typ)) 65 #[.func (.func 36) #[.pointer (some ⟨rb, 0, none⟩)] #[]]
  lex : LC 1 w0 rb srcV tokV TL xs (pF f (.listed .expr)) 65 #[.func (.func 56) #[.pointer (some ⟨rb, 0, none⟩)] #[]]
  lpa : LC 1 w0 rb srcV tokV TL xs (pF f (.listed .param)) 65 #[.func (.func 97) #[.pointer (some ⟨rb, 0, none⟩)] #[]]
theorem all_zero : AllR w0 rb srcV tokV TL xs 0 := ⟨fun U W s ns hS hne => absurd rfl hne, fun U W s ns hS hne => absurd rfl hne, fun U W s ns hS hne => absurd rfl hne, fun l hl U W s ns hS hne => absurd rfl hne, fun U W s ns hS hne => absurd rfl hne, fun U W s ns hS hne => absurd rfl hne, fun U W s ns hS hne => absurd rfl hne, fun U W s ns hS hne => absurd rfl hne, fun U W s ns hS hne => absurd rfl hne, fun U W s ns hS hne => absurd rfl hne, fun U W s ns hS hne => absurd rfl hne, fun U W s ns hS hne => absurd rfl hne, fun U W s ns hS hne => absurd rfl hne, fun U W s ns hS hne => absurd rfl hne, fun U W s ns hS hne => absurd rfl hne, fun U W s ns hS hne => absurd rfl hne, fun U W s ns hS hne => absurd rfl hne, fun U W s ns hS hne => absurd rfl hne, fun U W s ns hS hne => absurd rfl hne, fun U W s ns hS hne => absurd rfl hne⟩
theorem typ_all (hT : RT w0 rb srcV tokV TL xs) (hK : Kinds TL) {f : Nat} (A : ∀ f', f' ≤ f → AllR w0 rb srcV tokV TL xs f') : RC w0 rb srcV tokV TL xs (pF (f + 1) .typ) 36 #[] := by
  intro U W s ns hS hne
  show Calls Tryz.prog 36 #[.pointer (some ⟨rb, 0, none⟩)] W (Post1 w0 rb srcV tokV TL xs U W s ns (body (pF f) .typ s))
  change body (pF f) .typ s ≠ .out at hne
  simp only [body] at hne ⊢
  by_cases h19 : kd s = 19
  · rw [if_pos h19] at hne ⊢
    exact typ_19 hT hK hS h19
  rw [if_neg h19] at hne ⊢
  by_cases h12 : kd s = 12
  · rw [if_pos h12] at hne ⊢
    exact typ_12 hT hK hS h12
  rw [if_neg h12] at hne ⊢
  by_cases h10 : kd s = 10
  · rw [if_pos h10] at hne ⊢
    exact typ_10 hT hK (typeOf_any hT hK (A f (Nat.le_refl _)).typ 4 10 (by decide) ⟨#[97, 114, 114, 97, 121]⟩ (by decide)) hS h10 hne
  rw [if_neg h10] at hne ⊢
  by_cases h14 : kd s = 14
  · rw [if_pos h14] at hne ⊢
    exact typ_14 hT hK (A f (Nat.le_refl _)).chanT hS h14 hne
  rw [if_neg h14] at hne ⊢
  by_cases h40 : kd s = 40
  · rw [if_pos h40] at hne ⊢
    exact typ_40 hT hK (fun U W s ns hS hne => tupleType_any hT hK (A f (Nat.le_refl _)).typ (A f (Nat.le_refl _)).pty hS hne) hS h40 hne
  rw [if_neg h40] at hne ⊢
  by_cases h23 : kd s = 23
  · rw [if_pos h23] at hne ⊢
    exact typ_23 hT hK (fun U W s ns hS hne => progType_any hT hK (fun f' h => (A f' (Nat.le_of_lt h)).typ) (A f (Nat.le_refl _)).lty hS hne) hS h23 hne
  rw [if_neg h23] at hne ⊢
  exact typ_0 hT hK hS ⟨h19, h12, h10, h14, h40, h23⟩
theorem prog_all (hT : RT w0 rb srcV tokV TL xs) (hK : Kinds TL) {f : Nat} (A : ∀ f', f' ≤ f → AllR w0 rb srcV tokV TL xs f') : RC w0 rb srcV tokV TL xs (pF (f + 1) .prog) 91 #[] := by
  intro U W s ns hS hne
  show Calls Tryz.prog 91 #[.pointer (some ⟨rb, 0, none⟩)] W (Post1 w0 rb srcV tokV TL xs U W s ns (body (pF f) .prog s))
  change body (pF f) .prog s ≠ .out at hne
  simp only [body] at hne ⊢
  by_cases h0 : kd s = 23
  · rw [want_pos h0] at hne ⊢
    by_cases h1 : kd (tl s) = 1
    · rw [if_pos h1, nameK_pos h1] at hne ⊢
      exact prog_named hT hK (fun f' h => (A f' (Nat.le_of_lt h)).typ) (A f (Nat.le_refl _)).lpa (A f (Nat.le_refl _)).block hS h0 h1 hne
    · rw [if_neg h1] at hne ⊢
      exact prog_none hT hK (fun f' h => (A f' (Nat.le_of_lt h)).typ) (A f (Nat.le_refl _)).lpa (A f (Nat.le_refl _)).block hS h0 h1 hne
  · rw [want_neg h0]
    exact prog_bad hT hK hS h0
theorem primary_all (hT : RT w0 rb srcV tokV TL xs) (hK : Kinds TL) {f : Nat} (A : ∀ f', f' ≤ f → AllR w0 rb srcV tokV TL xs f') : RC w0 rb srcV tokV TL xs (pF (f + 1) .primary) 82 #[] := by
  intro U W s ns hS hne
  show Calls Tryz.prog 82 #[.pointer (some ⟨rb, 0, none⟩)] W (Post1 w0 rb srcV tokV TL xs U W s ns (body (pF f) .primary s))
  change body (pF f) .primary s ≠ .out at hne
  simp only [body] at hne ⊢
  by_cases h26 : kd s = 26
  · rw [if_pos h26] at hne ⊢
    exact primary_26 hT hK hS h26
  rw [if_neg h26] at hne ⊢
  by_cases h16 : kd s = 16
  · rw [if_pos h16] at hne ⊢
    exact primary_16 hT hK hS h16
  rw [if_neg h16] at hne ⊢
  by_cases h40 : kd s = 40
  · rw [if_pos h40] at hne ⊢
    exact primary_40 hT hK (fun U W s ns hS hne => paren_any hT hK (A f (Nat.le_refl _)).pex hS hne) hS h40 hne
  rw [if_neg h40] at hne ⊢
  by_cases h42 : kd s = 42
  · rw [if_pos h42] at hne ⊢
    exact primary_42 hT hK (fun U W s ns hS hne => array_any hT hK (A f (Nat.le_refl _)).pex hS hne) hS h42 hne
  rw [if_neg h42] at hne ⊢
  by_cases h17 : kd s = 17
  · rw [if_pos h17] at hne ⊢
    exact primary_17 hT hK (fill_any hT hK (A f (Nat.le_refl _)).expr) hS h17 hne
  rw [if_neg h17] at hne ⊢
  by_cases h20 : kd s = 20
  · rw [if_pos h20] at hne ⊢
    exact primary_20 hT hK (length_any hT hK (A f (Nat.le_refl _)).expr) hS h20 hne
  rw [if_neg h20] at hne ⊢
  by_cases h21 : kd s = 21
  · rw [if_pos h21] at hne ⊢
    exact primary_21 hT hK (A f (Nat.le_refl _)).chanT hS h21 hne
  rw [if_neg h21] at hne ⊢
  by_cases h23 : kd s = 23
  · rw [if_pos h23] at hne ⊢
    exact primary_23 hT hK (A f (Nat.le_refl _)).prog hS h23 hne
  rw [if_neg h23] at hne ⊢
  by_cases h2 : kd s = 2
  · rw [if_pos h2] at hne ⊢
    exact primary_2 hT hK hS h2
  rw [if_neg h2] at hne ⊢
  exact primary_0 hT hK hS ⟨h2, h26, h16, h40, h42, h17, h20, h21, h23⟩
theorem stmt_all (hT : RT w0 rb srcV tokV TL xs) (hK : Kinds TL) {f : Nat} (A : ∀ f', f' ≤ f → AllR w0 rb srcV tokV TL xs f') : RC w0 rb srcV tokV TL xs (pF (f + 1) .stmt) 26 #[] := by
  intro U W s ns hS hne
  show Calls Tryz.prog 26 #[.pointer (some ⟨rb, 0, none⟩)] W (Post1 w0 rb srcV tokV TL xs U W s ns (body (pF f) .stmt s))
  change body (pF f) .stmt s ≠ .out at hne
  simp only [body] at hne ⊢
  by_cases h28 : kd s = 28
  · rw [if_pos h28] at hne ⊢
    exact statement_28 hT hK (valNamed_any hT hK (A f (Nat.le_refl _)).expr) hS h28 hne
  rw [if_neg h28] at hne ⊢
  by_cases h29 : kd s = 29
  · rw [if_pos h29] at hne ⊢
    exact statement_29 hT hK (fun U W s ns hS hne => varNamed_any hT hK (A f (Nat.le_refl _)).typ (A f (Nat.le_refl _)).expr hS hne) hS h29 hne
  rw [if_neg h29] at hne ⊢
  by_cases h18 : kd s = 18
  · rw [if_pos h18] at hne ⊢
    exact statement_18 hT hK (A f (Nat.le_refl _)).branch hS h18 hne
  rw [if_neg h18] at hne ⊢
  by_cases h30 : kd s = 30
  · rw [if_pos h30] at hne ⊢
    exact statement_30 hT hK (loop_any hT hK (A f (Nat.le_refl _)).expr (A f (Nat.le_refl _)).block) hS h30 hne
  rw [if_neg h30] at hne ⊢
  by_cases h24 : kd s = 24
  · rw [if_pos h24] at hne ⊢
    exact statement_24 hT hK (fun U W s ns hS hne => returned_any hT hK (A f (Nat.le_refl _)).expr hS hne) hS h24 hne
  rw [if_neg h24] at hne ⊢
  by_cases h11 : kd s = 11
  · rw [if_pos h11] at hne ⊢
    exact statement_11 hT hK (begun_any hT hK (A f (Nat.le_refl _)).expr) hS h11 hne
  rw [if_neg h11] at hne ⊢
  by_cases h25 : kd s = 25
  · rw [if_pos h25] at hne ⊢
    exact statement_25 hT hK (choice_any hT hK (fun f' h => (A f' (Nat.le_of_lt h)).arm)) hS h25 hne
  rw [if_neg h25] at hne ⊢
  by_cases h44 : kd s = 44
  · rw [if_pos h44] at hne ⊢
    exact statement_44 hT hK (A f (Nat.le_refl _)).block hS h44 hne
  rw [if_neg h44] at hne ⊢
  exact statement_0 hT hK (action_any hT hK (A f (Nat.le_refl _)).expr) hS ⟨h28, h29, h18, h30, h24, h11, h25, h44⟩ hne
theorem otherwise_all (hT : RT w0 rb srcV tokV TL xs) (hK : Kinds TL) {f : Nat} (A : ∀ f', f' ≤ f → AllR w0 rb srcV tokV TL xs f') : RC w0 rb srcV tokV TL xs (fun s => if kd s = 18 then pF f .branch s else pF f .block s) 57 #[] := by
  intro U W s ns hS hne
  show Calls Tryz.prog 57 #[.pointer (some ⟨rb, 0, none⟩)] W (Post1 w0 rb srcV tokV TL xs U W s ns (if kd s = 18 then pF f .branch s else pF f .block s))
  by_cases h : kd s = 18
  · simp only [if_pos h] at hne ⊢
    exact otherwise_18 hT hK (A f (Nat.le_refl _)).branch hS h hne
  · simp only [if_neg h] at hne ⊢
    exact otherwise_0 hT hK (A f (Nat.le_refl _)).block hS h hne
theorem branch_eq (f : Nat) (s : List PTok) : body (pF f) .branch s = (want 18 s fun s1 => andT (pF f (.operands 1) s1) fun a s2 => andT (pF f .block s2) fun b s3 => if kd s3 = 15 then want 15 s3 fun s4 => andT ((fun s => if kd s = 18 then pF f .branch s else pF f .block s) s4) fun c s5 => mk1 36 s 0 [] (a ++ (b ++ c)) s5 else mk1 36 s 0 [] (a ++ b) s3) := by
  simp only [body]
  congr 1; funext s1; congr 1; funext a s2; congr 1; funext b s3
  by_cases h : kd s3 = 15
  · rw [if_pos h, if_pos h]
    congr 1; funext s4
    by_cases h4 : kd s4 = 18
    · rw [if_pos h4, if_pos h4]
    · rw [if_neg h4, if_neg h4]
  · rw [if_neg h, if_neg h]
theorem branch_all (hT : RT w0 rb srcV tokV TL xs) (hK : Kinds TL) {f : Nat} (A : ∀ f', f' ≤ f → AllR w0 rb srcV tokV TL xs f') : RC w0 rb srcV tokV TL xs (pF (f + 1) .branch) 39 #[] := by
  intro U W s ns hS hne
  show Calls Tryz.prog 39 #[.pointer (some ⟨rb, 0, none⟩)] W (Post1 w0 rb srcV tokV TL xs U W s ns (body (pF f) .branch s))
  change body (pF f) .branch s ≠ .out at hne
  rw [branch_eq] at hne ⊢
  exact branch_any hT hK (A f (Nat.le_refl _)).expr (A f (Nat.le_refl _)).block (otherwise_all hT hK A) hS hne
theorem all_step (hT : RT w0 rb srcV tokV TL xs) (hK : Kinds TL) {f : Nat} (A : ∀ f', f' ≤ f → AllR w0 rb srcV tokV TL xs f') : AllR w0 rb srcV tokV TL xs (f + 1) := by
  have O : ∀ l : Int, 1 ≤ l → RC w0 rb srcV tokV TL xs (pF (f + 1) (.operands l)) 67 #[.int .i64 l] := fun l hl => operands_any hT hK l hl (A f (Nat.le_refl _)).unary (fun f' h => (A f' (Nat.le_of_lt h)).opnd)
  have PT : LC 0 w0 rb srcV tokV TL xs (pF (f + 1) (.parted .typ)) 64 #[.func (.func 36) #[.pointer (some ⟨rb, 0, none⟩)] #[]] := fun U W s ns hS hne => parted_typ hT hK (fun f' h => (A f' (Nat.le_of_lt_succ h)).typ) U W s ns hS hne
  have PE : LC 0 w0 rb srcV tokV TL xs (pF (f + 1) (.parted .expr)) 64 #[.func (.func 56) #[.pointer (some ⟨rb, 0, none⟩)] #[]] := fun U W s ns hS hne => parted_expr hT hK (fun f' h => (A f' (Nat.le_of_lt_succ h)).expr) U W s ns hS hne
  have PA : LC 0 w0 rb srcV tokV TL xs (pF (f + 1) (.parted .param)) 64 #[.func (.func 97) #[.pointer (some ⟨rb, 0, none⟩)] #[]] := fun U W s ns hS hne => parted_param hT hK (fun f' h => (A f' (Nat.le_of_lt_succ h)).param) U W s ns hS hne
  exact ⟨typ_all hT hK A, chanType_any hT hK (A f (Nat.le_refl _)).typ, expr_any (O 1 (by omega)), O, unary_any hT hK (A f (Nat.le_refl _)).unary (A f (Nat.le_refl _)).postf, postfix_all hT hK (A f (Nat.le_refl _)).primary (fun f' h => (A f' (Nat.le_of_lt h)).expr) (fun f' h => (A f' (Nat.le_of_lt h)).lex), primary_all hT hK A, prog_all hT hK A, param_any hT hK (A f (Nat.le_refl _)).typ, block_any hT hK (fun f' h => (A f' (Nat.le_of_lt h)).stmt), stmt_all hT hK A, branch_all hT hK A, arm_any hT hK (A f (Nat.le_refl _)).unary (A f (Nat.le_refl _)).expr (A f (Nat.le_refl _)).block, typeNamed_any hT hK (A f (Nat.le_refl _)).typ, PT, PE, PA, listed_typ hT hK (fun f' h => (A f' (Nat.le_of_lt_succ h)).pty), listed_expr hT hK (fun f' h => (A f' (Nat.le_of_lt_succ h)).pex), listed_param hT hK (fun f' h => (A f' (Nat.le_of_lt_succ h)).ppa)⟩
theorem all_rules (hT : RT w0 rb srcV tokV TL xs) (hK : Kinds TL) : ∀ f, AllR w0 rb srcV tokV TL xs f := by
  have key : ∀ f, ∀ f', f' ≤ f → AllR w0 rb srcV tokV TL xs f' := by
    intro f
    induction f with
    | zero => intro f' h; obtain rfl : f' = 0 := by omega
              exact all_zero
    | succ f ih =>
      intro f' h
      rcases Nat.lt_or_ge f' (f + 1) with h1 | h1
      · exact ih f' (by omega)
      · obtain rfl : f' = f + 1 := by omega
        exact all_step hT hK ih
  exact fun f => key f f (Nat.le_refl _)
end Go.Proofs.YtblhklbpcalglaaGreatDoor
