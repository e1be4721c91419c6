import Derived.Test.YtblhklbpcalglaaGreatDoorCRName2
namespace Go.Proofs.YtblhklbpcalglaaGreatDoor
open Go.RowKit
set_option linter.unusedVariables false
set_option linter.unusedSimpArgs false
variable {w0 : World} {rb : Nat} {srcV tokV : Value} {TL : List Tok} {xs : List UInt8}
set_option maxRecDepth 100000 in
set_option maxHeartbeats 2000000 in
theorem typeNamed_any (hT : RT w0 rb srcV tokV TL xs) (hK : Kinds TL) {f : Nat} (Htyp : RC w0 rb srcV tokV TL xs (pF f .typ) 36 #[])  :
    RC w0 rb srcV tokV TL xs (fun s => want 27 s fun s1 => nameK s1 fun n s2 => want 50 s2 fun s3 => andT (pF f .typ s3) fun a s4 => want 47 s4 fun s5 => mk1 45 s 0 n a s5) 24 #[] := by
  intro U W s ns hS hne
  show Calls Tryz.prog 24 #[.pointer (some ⟨rb, 0, none⟩)] W _
  dsimp only at hne ⊢
  have hrW := hS.lt
  have B1 : Bx (∀ W1, RSs w0 rb srcV tokV TL xs U W1 (s) (ns) → _) := ⟨fun W1 h => wantS hT hK h 27 (by decide) ⟨#[116, 121, 112, 101]⟩ (by decide)⟩
  by_cases h1 : kd (s) = 27
  · rw [want_pos h1] at hne ⊢
    have B2 : Bx (∀ W1, RSs w0 rb srcV tokV TL xs U W1 (tl (s)) (ns) → _) := ⟨fun W1 h => nameS hT hK h⟩
    by_cases h2 : kd (tl (s)) = 1
    · rw [nameK_pos h2] at hne ⊢
      have B3 : Bx (∀ W1, RSs w0 rb srcV tokV TL xs U W1 (tl (tl (s))) (ns) → _) := ⟨fun W1 h => wantS hT hK h 50 (by decide) ⟨#[61]⟩ (by decide)⟩
      by_cases h3 : kd (tl (tl (s))) = 50
      · rw [want_pos h3] at hne ⊢
        have B4 : Bx (∀ W1, RSs w0 rb srcV tokV TL xs U W1 (tl (tl (tl (s)))) (ns) → pF f .typ (tl (tl (tl (s)))) ≠ .out → Calls Tryz.prog 36 #[.pointer (some ⟨rb, 0, none⟩)] W1 (Post1 w0 rb srcV tokV TL xs U W1 (tl (tl (tl (s)))) (ns) (pF f .typ (tl (tl (tl (s))))))) := ⟨fun W1 h hn => Htyp U W1 (tl (tl (tl (s)))) (ns) h hn⟩
        match r4 : pF f .typ (tl (tl (tl (s)))) with
        | .out => rw [r4] at hne; exact absurd rfl hne
        | .err s' =>
          rw [r4] at B4
          show Calls _ _ _ _ (Post1 w0 rb srcV tokV TL xs U W s ns (.err s'))
          go_enter Tryz.func24, Tryz.ntmps24
          go_wp2_with (first
            | (go_at_call 34; refine Calls.mono (B1.out _ hS) ?_; rintro e W1 (⟨_, rfl, q1, l1, k1⟩ | ⟨h, _⟩); rotate_left 1; exact absurd h1 h; clear B1)
            | (go_at_call 35; refine Calls.mono (B2.out _ q1) ?_; rintro e W2 (⟨_, rfl, q2, l2, k2⟩ | ⟨h, _⟩); rotate_left 1; exact absurd h2 h; clear B2)
            | (go_at_call 34; refine Calls.mono (B3.out _ (q2.ext (below1 _ _))) ?_; rintro e W3 (⟨_, rfl, q3, l3, k3⟩ | ⟨h, _⟩); rotate_left 1; exact absurd h3 h; clear B3)
            | (go_at_call 36; refine Calls.mono (B4.out _ q3 (by simp)) ?_; rintro e W4 ⟨rfl, b4⟩; unfold faultP))
          exact ⟨rfl, rfl, b4⟩
        | .ok ts4 s4 =>
          rw [r4] at B4 hne
          simp only [andT] at hne ⊢
          have B5 : Bx (∀ W1, RSs w0 rb srcV tokV TL xs U W1 (s4) (ns ++ flats ts4 (ns).length) → _) := ⟨fun W1 h => wantS hT hK h 47 (by decide) ⟨#[59]⟩ (by decide)⟩
          by_cases h5 : kd (s4) = 47
          · rw [want_pos h5] at hne ⊢
            have HD : Bx (∀ W1, RSs w0 rb srcV tokV TL xs U W1 (tl s4) (ns ++ flats ts4 (ns).length) → KeepR rb W W1 → ∀ v4 : Nat, v4 = ((ns).length + sizes ts4 - 1 : Nat) → ts4.length = 1 → (tl s4).length + sizes ts4 + 1 ≤ s.length → ∀ kv, Calls Tryz.prog 27 #[.pointer (some ⟨rb, 0, none⟩), .agg #[.int .i64 45, .int .i64 (hd s).place, kv, .string ⟨((hd (tl s)).name).toArray⟩, .int .i64 0], .slice (some ⟨W1.heap.size, 0, none⟩) 1 1] (W1.alloc (.cells #[.int .i64 ((v4 : Nat) : Int)] 3)) fun e W' => ∃ r : Int, e = .returned (.int .i64 r) ∧ Post1 w0 rb srcV tokV TL xs U W s ns (.ok [.mk 45 (hd s).place 0 ((hd (tl s)).name) ts4] (tl s4)) (.returned (.int .i64 r)) W') := ⟨fun W1 h hk v4 g4 e4 hsz kv => by
              have hI := ints_new (rb := rb) (W := W1) (o := #[.int .i64 ((v4 : Nat) : Int)]) (ys := ends ts4 ns.length) (n := 1) (by rw [ends_one e4]; rfl) (by decide) (by decide) h.lt (by rw [ends_one e4, g4]; rfl)
              exact addS hT ts4 (h.ext (below1 _ _)) (hk.trans (KeepR.alloc h.lt _)) hsz ⟨W, hS⟩ 45 (hd s).place 0 ((hd (tl s)).name) kv (some ⟨W1.heap.size, 0, none⟩) 1 1 e4.symm hI h.new⟩
            show Calls _ _ _ _ (Post1 w0 rb srcV tokV TL xs U W s ns (.ok [.mk 45 (hd s).place 0 ((hd (tl s)).name) ts4] (tl s4)))
            go_enter Tryz.func24, Tryz.ntmps24
            go_wp2_with (first
              | (go_at_call 34; refine Calls.mono (B1.out _ hS) ?_; rintro e W1 (⟨_, rfl, q1, l1, k1⟩ | ⟨h, _⟩); rotate_left 1; exact absurd h1 h; clear B1)
              | (go_at_call 35; refine Calls.mono (B2.out _ q1) ?_; rintro e W2 (⟨_, rfl, q2, l2, k2⟩ | ⟨h, _⟩); rotate_left 1; exact absurd h2 h; clear B2)
              | (go_at_call 34; refine Calls.mono (B3.out _ (q2.ext (below1 _ _))) ?_; rintro e W3 (⟨_, rfl, q3, l3, k3⟩ | ⟨h, _⟩); rotate_left 1; exact absurd h3 h; clear B3)
              | (go_at_call 36; refine Calls.mono (B4.out _ q3 (by simp)) ?_; rintro e W4 ⟨n4, l4, he, q4, k4⟩; obtain ⟨v4, hv⟩ : ∃ r : Nat, r = ((ns).length + sizes ts4 - 1) := ⟨_, rfl⟩; rw [← hv] at he; subst he; have V4 : Bx _ := ⟨hv⟩; clear hv B4)
              | (go_at_call 34; refine Calls.mono (B5.out _ q4) ?_; rintro e W5 (⟨_, rfl, q5, l5, k5⟩ | ⟨h, _⟩); rotate_left 1; exact absurd h5 h; clear B5; obtain ⟨x0, x1, x2, x3, x4, xlt⟩ := box5 (box_keep q2 (k3.trans (k4.trans k5))))
              | (go_at_call 27; refine Calls.mono (HD.out _ q5 (k1.trans (k2.trans ((KeepR.alloc q2.lt _).trans (k3.trans (k4.trans k5))))) v4 V4.out n4 (by omega) _) ?_; rintro e W9 ⟨r9, rfl, hp⟩))
            go_ret
            exact hp
          · rw [want_neg h5]
            go_enter Tryz.func24, Tryz.ntmps24
            go_wp2_with (first
              | (go_at_call 34; refine Calls.mono (B1.out _ hS) ?_; rintro e W1 (⟨_, rfl, q1, l1, k1⟩ | ⟨h, _⟩); rotate_left 1; exact absurd h1 h; clear B1)
              | (go_at_call 35; refine Calls.mono (B2.out _ q1) ?_; rintro e W2 (⟨_, rfl, q2, l2, k2⟩ | ⟨h, _⟩); rotate_left 1; exact absurd h2 h; clear B2)
              | (go_at_call 34; refine Calls.mono (B3.out _ (q2.ext (below1 _ _))) ?_; rintro e W3 (⟨_, rfl, q3, l3, k3⟩ | ⟨h, _⟩); rotate_left 1; exact absurd h3 h; clear B3)
              | (go_at_call 36; refine Calls.mono (B4.out _ q3 (by simp)) ?_; rintro e W4 ⟨n4, l4, he, q4, k4⟩; obtain ⟨v4, hv⟩ : ∃ r : Nat, r = ((ns).length + sizes ts4 - 1) := ⟨_, rfl⟩; rw [← hv] at he; subst he; have V4 : Bx _ := ⟨hv⟩; clear hv B4)
              | (go_at_call 34; refine Calls.mono (B5.out _ q4) ?_; rintro e W5 (⟨h, _⟩ | ⟨_, rfl, b5⟩); exact absurd h h5; unfold faultP))
            exact ⟨rfl, rfl, b5⟩
      · rw [want_neg h3]
        go_enter Tryz.func24, Tryz.ntmps24
        go_wp2_with (first
          | (go_at_call 34; refine Calls.mono (B1.out _ hS) ?_; rintro e W1 (⟨_, rfl, q1, l1, k1⟩ | ⟨h, _⟩); rotate_left 1; exact absurd h1 h; clear B1)
          | (go_at_call 35; refine Calls.mono (B2.out _ q1) ?_; rintro e W2 (⟨_, rfl, q2, l2, k2⟩ | ⟨h, _⟩); rotate_left 1; exact absurd h2 h; clear B2)
          | (go_at_call 34; refine Calls.mono (B3.out _ (q2.ext (below1 _ _))) ?_; rintro e W3 (⟨h, _⟩ | ⟨_, rfl, b3⟩); exact absurd h h3; unfold faultP))
        exact ⟨rfl, rfl, b3⟩
    · rw [nameK_neg h2]
      go_enter Tryz.func24, Tryz.ntmps24
      go_wp2_with (first
        | (go_at_call 34; refine Calls.mono (B1.out _ hS) ?_; rintro e W1 (⟨_, rfl, q1, l1, k1⟩ | ⟨h, _⟩); rotate_left 1; exact absurd h1 h; clear B1)
        | (go_at_call 35; refine Calls.mono (B2.out _ q1) ?_; rintro e W2 (⟨h, _⟩ | ⟨_, rfl, b2⟩); exact absurd h h2; unfold faultP))
      exact ⟨rfl, rfl, b2⟩
  · rw [want_neg h1]
    go_enter Tryz.func24, Tryz.ntmps24
    go_wp2_with (first
      | (go_at_call 34; refine Calls.mono (B1.out _ hS) ?_; rintro e W1 (⟨h, _⟩ | ⟨_, rfl, b1⟩); exact absurd h h1; unfold faultP))
    exact ⟨rfl, rfl, b1⟩
set_option maxRecDepth 100000 in
set_option maxHeartbeats 2000000 in
theorem valNamed_any (hT : RT w0 rb srcV tokV TL xs) (hK : Kinds TL) {f : Nat} (Hexpr : RC w0 rb srcV tokV TL xs (pF f (.operands 1)) 56 #[])  :
    RC w0 rb srcV tokV TL xs (fun s => want 28 s fun s1 => nameK s1 fun n s2 => want 50 s2 fun s3 => andT (pF f (.operands 1) s3) fun a s4 => want 47 s4 fun s5 => mk1 31 s 0 n a s5) 37 #[] := by
  intro U W s ns hS hne
  show Calls Tryz.prog 37 #[.pointer (some ⟨rb, 0, none⟩)] W _
  dsimp only at hne ⊢
  have hrW := hS.lt
  have B1 : Bx (∀ W1, RSs w0 rb srcV tokV TL xs U W1 (s) (ns) → _) := ⟨fun W1 h => wantS hT hK h 28 (by decide) ⟨#[118, 97, 108]⟩ (by decide)⟩
  by_cases h1 : kd (s) = 28
  · rw [want_pos h1] at hne ⊢
    have B2 : Bx (∀ W1, RSs w0 rb srcV tokV TL xs U W1 (tl (s)) (ns) → _) := ⟨fun W1 h => nameS hT hK h⟩
    by_cases h2 : kd (tl (s)) = 1
    · rw [nameK_pos h2] at hne ⊢
      have B3 : Bx (∀ W1, RSs w0 rb srcV tokV TL xs U W1 (tl (tl (s))) (ns) → _) := ⟨fun W1 h => wantS hT hK h 50 (by decide) ⟨#[61]⟩ (by decide)⟩
      by_cases h3 : kd (tl (tl (s))) = 50
      · rw [want_pos h3] at hne ⊢
        have B4 : Bx (∀ W1, RSs w0 rb srcV tokV TL xs U W1 (tl (tl (tl (s)))) (ns) → pF f (.operands 1) (tl (tl (tl (s)))) ≠ .out → Calls Tryz.prog 56 #[.pointer (some ⟨rb, 0, none⟩)] W1 (Post1 w0 rb srcV tokV TL xs U W1 (tl (tl (tl (s)))) (ns) (pF f (.operands 1) (tl (tl (tl (s))))))) := ⟨fun W1 h hn => Hexpr U W1 (tl (tl (tl (s)))) (ns) h hn⟩
        match r4 : pF f (.operands 1) (tl (tl (tl (s)))) with
        | .out => rw [r4] at hne; exact absurd rfl hne
        | .err s' =>
          rw [r4] at B4
          show Calls _ _ _ _ (Post1 w0 rb srcV tokV TL xs U W s ns (.err s'))
          go_enter Tryz.func37, Tryz.ntmps37
          go_wp2_with (first
            | (go_at_call 34; refine Calls.mono (B1.out _ hS) ?_; rintro e W1 (⟨_, rfl, q1, l1, k1⟩ | ⟨h, _⟩); rotate_left 1; exact absurd h1 h; clear B1)
            | (go_at_call 35; refine Calls.mono (B2.out _ q1) ?_; rintro e W2 (⟨_, rfl, q2, l2, k2⟩ | ⟨h, _⟩); rotate_left 1; exact absurd h2 h; clear B2)
            | (go_at_call 34; refine Calls.mono (B3.out _ (q2.ext (below1 _ _))) ?_; rintro e W3 (⟨_, rfl, q3, l3, k3⟩ | ⟨h, _⟩); rotate_left 1; exact absurd h3 h; clear B3)
            | (go_at_call 56; refine Calls.mono (B4.out _ q3 (by simp)) ?_; rintro e W4 ⟨rfl, b4⟩; unfold faultP))
          exact ⟨rfl, rfl, b4⟩
        | .ok ts4 s4 =>
          rw [r4] at B4 hne
          simp only [andT] at hne ⊢
          have B5 : Bx (∀ W1, RSs w0 rb srcV tokV TL xs U W1 (s4) (ns ++ flats ts4 (ns).length) → _) := ⟨fun W1 h => wantS hT hK h 47 (by decide) ⟨#[59]⟩ (by decide)⟩
          by_cases h5 : kd (s4) = 47
          · rw [want_pos h5] at hne ⊢
            have HD : Bx (∀ W1, RSs w0 rb srcV tokV TL xs U W1 (tl s4) (ns ++ flats ts4 (ns).length) → KeepR rb W W1 → ∀ v4 : Nat, v4 = ((ns).length + sizes ts4 - 1 : Nat) → ts4.length = 1 → (tl s4).length + sizes ts4 + 1 ≤ s.length → ∀ kv, Calls Tryz.prog 27 #[.pointer (some ⟨rb, 0, none⟩), .agg #[.int .i64 31, .int .i64 (hd s).place, kv, .string ⟨((hd (tl s)).name).toArray⟩, .int .i64 0], .slice (some ⟨W1.heap.size, 0, none⟩) 1 1] (W1.alloc (.cells #[.int .i64 ((v4 : Nat) : Int)] 3)) fun e W' => ∃ r : Int, e = .returned (.int .i64 r) ∧ Post1 w0 rb srcV tokV TL xs U W s ns (.ok [.mk 31 (hd s).place 0 ((hd (tl s)).name) ts4] (tl s4)) (.returned (.int .i64 r)) W') := ⟨fun W1 h hk v4 g4 e4 hsz kv => by
              have hI := ints_new (rb := rb) (W := W1) (o := #[.int .i64 ((v4 : Nat) : Int)]) (ys := ends ts4 ns.length) (n := 1) (by rw [ends_one e4]; rfl) (by decide) (by decide) h.lt (by rw [ends_one e4, g4]; rfl)
              exact addS hT ts4 (h.ext (below1 _ _)) (hk.trans (KeepR.alloc h.lt _)) hsz ⟨W, hS⟩ 31 (hd s).place 0 ((hd (tl s)).name) kv (some ⟨W1.heap.size, 0, none⟩) 1 1 e4.symm hI h.new⟩
            show Calls _ _ _ _ (Post1 w0 rb srcV tokV TL xs U W s ns (.ok [.mk 31 (hd s).place 0 ((hd (tl s)).name) ts4] (tl s4)))
            go_enter Tryz.func37, Tryz.ntmps37
            go_wp2_with (first
              | (go_at_call 34; refine Calls.mono (B1.out _ hS) ?_; rintro e W1 (⟨_, rfl, q1, l1, k1⟩ | ⟨h, _⟩); rotate_left 1; exact absurd h1 h; clear B1)
              | (go_at_call 35; refine Calls.mono (B2.out _ q1) ?_; rintro e W2 (⟨_, rfl, q2, l2, k2⟩ | ⟨h, _⟩); rotate_left 1; exact absurd h2 h; clear B2)
              | (go_at_call 34; refine Calls.mono (B3.out _ (q2.ext (below1 _ _))) ?_; rintro e W3 (⟨_, rfl, q3, l3, k3⟩ | ⟨h, _⟩); rotate_left 1; exact absurd h3 h; clear B3)
              | (go_at_call 56; refine Calls.mono (B4.out _ q3 (by simp)) ?_; rintro e W4 ⟨n4, l4, he, q4, k4⟩; obtain ⟨v4, hv⟩ : ∃ r : Nat, r = ((ns).length + sizes ts4 - 1) := ⟨_, rfl⟩; rw [← hv] at he; subst he; have V4 : Bx _ := ⟨hv⟩; clear hv B4)
              | (go_at_call 34; refine Calls.mono (B5.out _ q4) ?_; rintro e W5 (⟨_, rfl, q5, l5, k5⟩ | ⟨h, _⟩); rotate_left 1; exact absurd h5 h; clear B5; obtain ⟨x0, x1, x2, x3, x4, xlt⟩ := box5 (box_keep q2 (k3.trans (k4.trans k5))))
              | (go_at_call 27; refine Calls.mono (HD.out _ q5 (k1.trans (k2.trans ((KeepR.alloc q2.lt _).trans (k3.trans (k4.trans k5))))) v4 V4.out n4 (by omega) _) ?_; rintro e W9 ⟨r9, rfl, hp⟩))
            go_ret
            exact hp
          · rw [want_neg h5]
            go_enter Tryz.func37, Tryz.ntmps37
            go_wp2_with (first
              | (go_at_call 34; refine Calls.mono (B1.out _ hS) ?_; rintro e W1 (⟨_, rfl, q1, l1, k1⟩ | ⟨h, _⟩); rotate_left 1; exact absurd h1 h; clear B1)
              | (go_at_call 35; refine Calls.mono (B2.out _ q1) ?_; rintro e W2 (⟨_, rfl, q2, l2, k2⟩ | ⟨h, _⟩); rotate_left 1; exact absurd h2 h; clear B2)
              | (go_at_call 34; refine Calls.mono (B3.out _ (q2.ext (below1 _ _))) ?_; rintro e W3 (⟨_, rfl, q3, l3, k3⟩ | ⟨h, _⟩); rotate_left 1; exact absurd h3 h; clear B3)
              | (go_at_call 56; refine Calls.mono (B4.out _ q3 (by simp)) ?_; rintro e W4 ⟨n4, l4, he, q4, k4⟩; obtain ⟨v4, hv⟩ : ∃ r : Nat, r = ((ns).length + sizes ts4 - 1) := ⟨_, rfl⟩; rw [← hv] at he; subst he; have V4 : Bx _ := ⟨hv⟩; clear hv B4)
              | (go_at_call 34; refine Calls.mono (B5.out _ q4) ?_; rintro e W5 (⟨h, _⟩ | ⟨_, rfl, b5⟩); exact absurd h h5; unfold faultP))
            exact ⟨rfl, rfl, b5⟩
      · rw [want_neg h3]
        go_enter Tryz.func37, Tryz.ntmps37
        go_wp2_with (first
          | (go_at_call 34; refine Calls.mono (B1.out _ hS) ?_; rintro e W1 (⟨_, rfl, q1, l1, k1⟩ | ⟨h, _⟩); rotate_left 1; exact absurd h1 h; clear B1)
          | (go_at_call 35; refine Calls.mono (B2.out _ q1) ?_; rintro e W2 (⟨_, rfl, q2, l2, k2⟩ | ⟨h, _⟩); rotate_left 1; exact absurd h2 h; clear B2)
          | (go_at_call 34; refine Calls.mono (B3.out _ (q2.ext (below1 _ _))) ?_; rintro e W3 (⟨h, _⟩ | ⟨_, rfl, b3⟩); exact absurd h h3; unfold faultP))
        exact ⟨rfl, rfl, b3⟩
    · rw [nameK_neg h2]
      go_enter Tryz.func37, Tryz.ntmps37
      go_wp2_with (first
        | (go_at_call 34; refine Calls.mono (B1.out _ hS) ?_; rintro e W1 (⟨_, rfl, q1, l1, k1⟩ | ⟨h, _⟩); rotate_left 1; exact absurd h1 h; clear B1)
        | (go_at_call 35; refine Calls.mono (B2.out _ q1) ?_; rintro e W2 (⟨h, _⟩ | ⟨_, rfl, b2⟩); exact absurd h h2; unfold faultP))
      exact ⟨rfl, rfl, b2⟩
  · rw [want_neg h1]
    go_enter Tryz.func37, Tryz.ntmps37
    go_wp2_with (first
      | (go_at_call 34; refine Calls.mono (B1.out _ hS) ?_; rintro e W1 (⟨h, _⟩ | ⟨_, rfl, b1⟩); exact absurd h h1; unfold faultP))
    exact ⟨rfl, rfl, b1⟩
end Go.Proofs.YtblhklbpcalglaaGreatDoor
