import Derived.Test.YtecodpdfckjalaaGreatDoorYRBx0
set_option linter.unusedVariables false
set_option linter.unusedSimpArgs false
set_option maxHeartbeats 4000000
set_option maxRecDepth 100000
namespace Go.Proofs.YtecodpdfckjalaaGreatDoor
open Go.RowKit
variable {w0 : World} {rb : Nat} {ae aa : Value} {TL : List Tok} {xs : List UInt8}
theorem sW (hT : RT w0 rb ae aa TL xs) (hK : aR TL) {f : Nat} (Htyp : RC w0 rb ae aa TL xs (pF f .typ) 87 #[])  :
  RC w0 rb ae aa TL xs (fun s => want 27 s fun s1 => dJ s1 fun n s2 => want 50 s2 fun s3 => aC (pF f .typ s3) fun a s4 => want 47 s4 fun s5 => mk1 45 s 0 n a s5) 67 #[] := by
 intro U W s ns hS hne
 show Calls Tryz.prog 67 #[.pointer (some ⟨rb, 0, none⟩)] W _
 dsimp only at hne ⊢
 have hrW := hS.lt
 have B1 : Bx (∀ W1, RSs w0 rb ae aa TL xs U W1 (s) (ns) -> _) := ⟨fun W1 h => bF hT hK h 27 (by decide) ⟨#[116, 121, 112, 101]⟩ (by decide)⟩
 by_cases h1 : kd (s) = 27
 ·rw [aG h1] at hne ⊢
  have B2 : Bx (∀ W1, RSs w0 rb ae aa TL xs U W1 (tl (s)) (ns) -> _) := ⟨fun W1 h => lV hT hK h⟩
  by_cases h2 : kd (tl (s)) = 1
  ·rw [gZ h2] at hne ⊢
   have B3 : Bx (∀ W1, RSs w0 rb ae aa TL xs U W1 (tl (tl (s))) (ns) -> _) := ⟨fun W1 h => bF hT hK h 50 (by decide) ⟨#[61]⟩ (by decide)⟩
   by_cases h3 : kd (tl (tl (s))) = 50
   ·rw [aG h3] at hne ⊢
    have B4 : Bx (∀ W1, RSs w0 rb ae aa TL xs U W1 (tl (tl (tl (s)))) (ns) -> pF f .typ (tl (tl (tl (s)))) ≠ .out -> Calls Tryz.prog 87 #[.pointer (some ⟨rb, 0, none⟩)] W1 (aj w0 rb ae aa TL xs U W1 (tl (tl (tl (s)))) (ns) (pF f .typ (tl (tl (tl (s))))))) := ⟨fun W1 h hn => Htyp U W1 (tl (tl (tl (s)))) (ns) h hn⟩
    match r4 : pF f .typ (tl (tl (tl (s)))) with
    | .out => rw [r4] at hne; exact absurd rfl hne
    | .err s' =>
     rw [r4] at B4
     show Calls _ _ _ _ (aj w0 rb ae aa TL xs U W s ns (.err s'))
     go_enter Tryz.func67, Tryz.ntmps67
     go_wp2_with (first
      | (go_at_call 85; refine Calls.mono (B1.out _ hS) ?_; rintro e W1 (⟨_, rfl, q1, l1, k1⟩ | ⟨h, _⟩); rotate_left 1; exact absurd h1 h; clear B1)
      | (go_at_call 86; refine Calls.mono (B2.out _ q1) ?_; rintro e W2 (⟨_, rfl, q2, l2, k2⟩ | ⟨h, _⟩); rotate_left 1; exact absurd h2 h; clear B2)
      | (go_at_call 85; refine Calls.mono (B3.out _ (q2.ext (ah _ _))) ?_; rintro e W3 (⟨_, rfl, q3, l3, k3⟩ | ⟨h, _⟩); rotate_left 1; exact absurd h3 h; clear B3)
      | (go_at_call 87; refine Calls.mono (B4.out _ q3 (by simp)) ?_; rintro e W4 ⟨rfl, b4⟩; unfold ak))
     exact ⟨rfl, rfl, b4⟩
    | .ok ts4 s4 =>
     rw [r4] at B4 hne
     simp only [aC] at hne ⊢
     have B5 : Bx (∀ W1, RSs w0 rb ae aa TL xs U W1 (s4) (ns ++ ag ts4 (ns).length) -> _) := ⟨fun W1 h => bF hT hK h 47 (by decide) ⟨#[59]⟩ (by decide)⟩
     by_cases h5 : kd (s4) = 47
     ·rw [aG h5] at hne ⊢
      have HD : Bx (∀ W1, RSs w0 rb ae aa TL xs U W1 (tl s4) (ns ++ ag ts4 (ns).length) -> af rb W W1 -> ∀ v4 : Nat, v4 = ((ns).length + sizes ts4 - 1 : Nat) -> ts4.length = 1 -> (tl s4).length + sizes ts4 + 1 <= s.length -> ∀ kv, Calls Tryz.prog 70 #[.pointer (some ⟨rb, 0, none⟩), .agg #[.int .i64 45, .int .i64 (hd s).place, kv, .string ⟨((hd (tl s)).name).toArray⟩, .int .i64 0], .slice (some ⟨W1.heap.size, 0, none⟩) 1 1] (W1.alloc (.cells #[.int .i64 ((v4 : Nat) : Int)] 3)) fun e W' => ∃ r : Int, e = .returned (.int .i64 r) /\ aj w0 rb ae aa TL xs U W s ns (.ok [.mk 45 (hd s).place 0 ((hd (tl s)).name) ts4] (tl s4)) (.returned (.int .i64 r)) W') := ⟨fun W1 h hk v4 g4 e4 hsz kv => by
       have hI := dz (rb := rb) (W := W1) (o := #[.int .i64 ((v4 : Nat) : Int)]) (ys := ends ts4 ns.length) (n := 1) (by rw [aK e4]; rfl) (by decide) (by decide) h.lt (by rw [aK e4, g4]; rfl)
       exact fG hT ts4 (h.ext (ah _ _)) (hk.trans (af.alloc h.lt _)) hsz ⟨W, hS⟩ 45 (hd s).place 0 ((hd (tl s)).name) kv (some ⟨W1.heap.size, 0, none⟩) 1 1 e4.symm hI h.new⟩
      show Calls _ _ _ _ (aj w0 rb ae aa TL xs U W s ns (.ok [.mk 45 (hd s).place 0 ((hd (tl s)).name) ts4] (tl s4)))
      go_enter Tryz.func67, Tryz.ntmps67
      go_wp2_with (first
       | (go_at_call 85; refine Calls.mono (B1.out _ hS) ?_; rintro e W1 (⟨_, rfl, q1, l1, k1⟩ | ⟨h, _⟩); rotate_left 1; exact absurd h1 h; clear B1)
       | (go_at_call 86; refine Calls.mono (B2.out _ q1) ?_; rintro e W2 (⟨_, rfl, q2, l2, k2⟩ | ⟨h, _⟩); rotate_left 1; exact absurd h2 h; clear B2)
       | (go_at_call 85; refine Calls.mono (B3.out _ (q2.ext (ah _ _))) ?_; rintro e W3 (⟨_, rfl, q3, l3, k3⟩ | ⟨h, _⟩); rotate_left 1; exact absurd h3 h; clear B3)
       | (go_at_call 87; refine Calls.mono (B4.out _ q3 (by simp)) ?_; rintro e W4 ⟨n4, l4, he, q4, k4⟩; obtain ⟨v4, hv⟩ : ∃ r : Nat, r = ((ns).length + sizes ts4 - 1) := ⟨_, rfl⟩; rw [← hv] at he; subst he; have V4 : Bx _ := ⟨hv⟩; clear hv B4)
       | (go_at_call 85; refine Calls.mono (B5.out _ q4) ?_; rintro e W5 (⟨_, rfl, q5, l5, k5⟩ | ⟨h, _⟩); rotate_left 1; exact absurd h5 h; clear B5; obtain ⟨x0, x1, x2, x3, x4, xlt⟩ := dw (jI q2 (k3.trans (k4.trans k5))))
       | (go_at_call 70; refine Calls.mono (HD.out _ q5 (k1.trans (k2.trans ((af.alloc q2.lt _).trans (k3.trans (k4.trans k5))))) v4 V4.out n4 (by omega) _) ?_; rintro e W9 ⟨r9, rfl, hp⟩))
      go_ret
      exact hp
     ·rw [aL h5]
      go_enter Tryz.func67, Tryz.ntmps67
      go_wp2_with (first
       | (go_at_call 85; refine Calls.mono (B1.out _ hS) ?_; rintro e W1 (⟨_, rfl, q1, l1, k1⟩ | ⟨h, _⟩); rotate_left 1; exact absurd h1 h; clear B1)
       | (go_at_call 86; refine Calls.mono (B2.out _ q1) ?_; rintro e W2 (⟨_, rfl, q2, l2, k2⟩ | ⟨h, _⟩); rotate_left 1; exact absurd h2 h; clear B2)
       | (go_at_call 85; refine Calls.mono (B3.out _ (q2.ext (ah _ _))) ?_; rintro e W3 (⟨_, rfl, q3, l3, k3⟩ | ⟨h, _⟩); rotate_left 1; exact absurd h3 h; clear B3)
       | (go_at_call 87; refine Calls.mono (B4.out _ q3 (by simp)) ?_; rintro e W4 ⟨n4, l4, he, q4, k4⟩; obtain ⟨v4, hv⟩ : ∃ r : Nat, r = ((ns).length + sizes ts4 - 1) := ⟨_, rfl⟩; rw [← hv] at he; subst he; have V4 : Bx _ := ⟨hv⟩; clear hv B4)
       | (go_at_call 85; refine Calls.mono (B5.out _ q4) ?_; rintro e W5 (⟨h, _⟩ | ⟨_, rfl, b5⟩); exact absurd h h5; unfold ak))
      exact ⟨rfl, rfl, b5⟩
   ·rw [aL h3]
    go_enter Tryz.func67, Tryz.ntmps67
    go_wp2_with (first
     | (go_at_call 85; refine Calls.mono (B1.out _ hS) ?_; rintro e W1 (⟨_, rfl, q1, l1, k1⟩ | ⟨h, _⟩); rotate_left 1; exact absurd h1 h; clear B1)
     | (go_at_call 86; refine Calls.mono (B2.out _ q1) ?_; rintro e W2 (⟨_, rfl, q2, l2, k2⟩ | ⟨h, _⟩); rotate_left 1; exact absurd h2 h; clear B2)
     | (go_at_call 85; refine Calls.mono (B3.out _ (q2.ext (ah _ _))) ?_; rintro e W3 (⟨h, _⟩ | ⟨_, rfl, b3⟩); exact absurd h h3; unfold ak))
    exact ⟨rfl, rfl, b3⟩
  ·rw [jh h2]
   go_enter Tryz.func67, Tryz.ntmps67
   go_wp2_with (first
    | (go_at_call 85; refine Calls.mono (B1.out _ hS) ?_; rintro e W1 (⟨_, rfl, q1, l1, k1⟩ | ⟨h, _⟩); rotate_left 1; exact absurd h1 h; clear B1)
    | (go_at_call 86; refine Calls.mono (B2.out _ q1) ?_; rintro e W2 (⟨h, _⟩ | ⟨_, rfl, b2⟩); exact absurd h h2; unfold ak))
   exact ⟨rfl, rfl, b2⟩
 ·rw [aL h1]
  go_enter Tryz.func67, Tryz.ntmps67
  go_wp2_with (first
   | (go_at_call 85; refine Calls.mono (B1.out _ hS) ?_; rintro e W1 (⟨h, _⟩ | ⟨_, rfl, b1⟩); exact absurd h h1; unfold ak))
  exact ⟨rfl, rfl, b1⟩
theorem vF (hT : RT w0 rb ae aa TL xs) (hK : aR TL) {f : Nat} (Hexpr : RC w0 rb ae aa TL xs (pF f (.operands 1)) 109 #[])  :
  RC w0 rb ae aa TL xs (fun s => want 28 s fun s1 => dJ s1 fun n s2 => want 50 s2 fun s3 => aC (pF f (.operands 1) s3) fun a s4 => want 47 s4 fun s5 => mk1 31 s 0 n a s5) 88 #[] := by
 intro U W s ns hS hne
 show Calls Tryz.prog 88 #[.pointer (some ⟨rb, 0, none⟩)] W _
 dsimp only at hne ⊢
 have hrW := hS.lt
 have B1 : Bx (∀ W1, RSs w0 rb ae aa TL xs U W1 (s) (ns) -> _) := ⟨fun W1 h => bF hT hK h 28 (by decide) ⟨#[118, 97, 108]⟩ (by decide)⟩
 by_cases h1 : kd (s) = 28
 ·rw [aG h1] at hne ⊢
  have B2 : Bx (∀ W1, RSs w0 rb ae aa TL xs U W1 (tl (s)) (ns) -> _) := ⟨fun W1 h => lV hT hK h⟩
  by_cases h2 : kd (tl (s)) = 1
  ·rw [gZ h2] at hne ⊢
   have B3 : Bx (∀ W1, RSs w0 rb ae aa TL xs U W1 (tl (tl (s))) (ns) -> _) := ⟨fun W1 h => bF hT hK h 50 (by decide) ⟨#[61]⟩ (by decide)⟩
   by_cases h3 : kd (tl (tl (s))) = 50
   ·rw [aG h3] at hne ⊢
    have B4 : Bx (∀ W1, RSs w0 rb ae aa TL xs U W1 (tl (tl (tl (s)))) (ns) -> pF f (.operands 1) (tl (tl (tl (s)))) ≠ .out -> Calls Tryz.prog 109 #[.pointer (some ⟨rb, 0, none⟩)] W1 (aj w0 rb ae aa TL xs U W1 (tl (tl (tl (s)))) (ns) (pF f (.operands 1) (tl (tl (tl (s))))))) := ⟨fun W1 h hn => Hexpr U W1 (tl (tl (tl (s)))) (ns) h hn⟩
    match r4 : pF f (.operands 1) (tl (tl (tl (s)))) with
    | .out => rw [r4] at hne; exact absurd rfl hne
    | .err s' =>
     rw [r4] at B4
     show Calls _ _ _ _ (aj w0 rb ae aa TL xs U W s ns (.err s'))
     go_enter Tryz.func88, Tryz.ntmps88
     go_wp2_with (first
      | (go_at_call 85; refine Calls.mono (B1.out _ hS) ?_; rintro e W1 (⟨_, rfl, q1, l1, k1⟩ | ⟨h, _⟩); rotate_left 1; exact absurd h1 h; clear B1)
      | (go_at_call 86; refine Calls.mono (B2.out _ q1) ?_; rintro e W2 (⟨_, rfl, q2, l2, k2⟩ | ⟨h, _⟩); rotate_left 1; exact absurd h2 h; clear B2)
      | (go_at_call 85; refine Calls.mono (B3.out _ (q2.ext (ah _ _))) ?_; rintro e W3 (⟨_, rfl, q3, l3, k3⟩ | ⟨h, _⟩); rotate_left 1; exact absurd h3 h; clear B3)
      | (go_at_call 109; refine Calls.mono (B4.out _ q3 (by simp)) ?_; rintro e W4 ⟨rfl, b4⟩; unfold ak))
     exact ⟨rfl, rfl, b4⟩
    | .ok ts4 s4 =>
     rw [r4] at B4 hne
     simp only [aC] at hne ⊢
     have B5 : Bx (∀ W1, RSs w0 rb ae aa TL xs U W1 (s4) (ns ++ ag ts4 (ns).length) -> _) := ⟨fun W1 h => bF hT hK h 47 (by decide) ⟨#[59]⟩ (by decide)⟩
     by_cases h5 : kd (s4) = 47
     ·rw [aG h5] at hne ⊢
      have HD : Bx (∀ W1, RSs w0 rb ae aa TL xs U W1 (tl s4) (ns ++ ag ts4 (ns).length) -> af rb W W1 -> ∀ v4 : Nat, v4 = ((ns).length + sizes ts4 - 1 : Nat) -> ts4.length = 1 -> (tl s4).length + sizes ts4 + 1 <= s.length -> ∀ kv, Calls Tryz.prog 70 #[.pointer (some ⟨rb, 0, none⟩), .agg #[.int .i64 31, .int .i64 (hd s).place, kv, .string ⟨((hd (tl s)).name).toArray⟩, .int .i64 0], .slice (some ⟨W1.heap.size, 0, none⟩) 1 1] (W1.alloc (.cells #[.int .i64 ((v4 : Nat) : Int)] 3)) fun e W' => ∃ r : Int, e = .returned (.int .i64 r) /\ aj w0 rb ae aa TL xs U W s ns (.ok [.mk 31 (hd s).place 0 ((hd (tl s)).name) ts4] (tl s4)) (.returned (.int .i64 r)) W') := ⟨fun W1 h hk v4 g4 e4 hsz kv => by
       have hI := dz (rb := rb) (W := W1) (o := #[.int .i64 ((v4 : Nat) : Int)]) (ys := ends ts4 ns.length) (n := 1) (by rw [aK e4]; rfl) (by decide) (by decide) h.lt (by rw [aK e4, g4]; rfl)
       exact fG hT ts4 (h.ext (ah _ _)) (hk.trans (af.alloc h.lt _)) hsz ⟨W, hS⟩ 31 (hd s).place 0 ((hd (tl s)).name) kv (some ⟨W1.heap.size, 0, none⟩) 1 1 e4.symm hI h.new⟩
      show Calls _ _ _ _ (aj w0 rb ae aa TL xs U W s ns (.ok [.mk 31 (hd s).place 0 ((hd (tl s)).name) ts4] (tl s4)))
      go_enter Tryz.func88, Tryz.ntmps88
      go_wp2_with (first
       | (go_at_call 85; refine Calls.mono (B1.out _ hS) ?_; rintro e W1 (⟨_, rfl, q1, l1, k1⟩ | ⟨h, _⟩); rotate_left 1; exact absurd h1 h; clear B1)
       | (go_at_call 86; refine Calls.mono (B2.out _ q1) ?_; rintro e W2 (⟨_, rfl, q2, l2, k2⟩ | ⟨h, _⟩); rotate_left 1; exact absurd h2 h; clear B2)
       | (go_at_call 85; refine Calls.mono (B3.out _ (q2.ext (ah _ _))) ?_; rintro e W3 (⟨_, rfl, q3, l3, k3⟩ | ⟨h, _⟩); rotate_left 1; exact absurd h3 h; clear B3)
       | (go_at_call 109; refine Calls.mono (B4.out _ q3 (by simp)) ?_; rintro e W4 ⟨n4, l4, he, q4, k4⟩; obtain ⟨v4, hv⟩ : ∃ r : Nat, r = ((ns).length + sizes ts4 - 1) := ⟨_, rfl⟩; rw [← hv] at he; subst he; have V4 : Bx _ := ⟨hv⟩; clear hv B4)
       | (go_at_call 85; refine Calls.mono (B5.out _ q4) ?_; rintro e W5 (⟨_, rfl, q5, l5, k5⟩ | ⟨h, _⟩); rotate_left 1; exact absurd h5 h; clear B5; obtain ⟨x0, x1, x2, x3, x4, xlt⟩ := dw (jI q2 (k3.trans (k4.trans k5))))
       | (go_at_call 70; refine Calls.mono (HD.out _ q5 (k1.trans (k2.trans ((af.alloc q2.lt _).trans (k3.trans (k4.trans k5))))) v4 V4.out n4 (by omega) _) ?_; rintro e W9 ⟨r9, rfl, hp⟩))
      go_ret
      exact hp
     ·rw [aL h5]
      go_enter Tryz.func88, Tryz.ntmps88
      go_wp2_with (first
       | (go_at_call 85; refine Calls.mono (B1.out _ hS) ?_; rintro e W1 (⟨_, rfl, q1, l1, k1⟩ | ⟨h, _⟩); rotate_left 1; exact absurd h1 h; clear B1)
       | (go_at_call 86; refine Calls.mono (B2.out _ q1) ?_; rintro e W2 (⟨_, rfl, q2, l2, k2⟩ | ⟨h, _⟩); rotate_left 1; exact absurd h2 h; clear B2)
       | (go_at_call 85; refine Calls.mono (B3.out _ (q2.ext (ah _ _))) ?_; rintro e W3 (⟨_, rfl, q3, l3, k3⟩ | ⟨h, _⟩); rotate_left 1; exact absurd h3 h; clear B3)
       | (go_at_call 109; refine Calls.mono (B4.out _ q3 (by simp)) ?_; rintro e W4 ⟨n4, l4, he, q4, k4⟩; obtain ⟨v4, hv⟩ : ∃ r : Nat, r = ((ns).length + sizes ts4 - 1) := ⟨_, rfl⟩; rw [← hv] at he; subst he; have V4 : Bx _ := ⟨hv⟩; clear hv B4)
       | (go_at_call 85; refine Calls.mono (B5.out _ q4) ?_; rintro e W5 (⟨h, _⟩ | ⟨_, rfl, b5⟩); exact absurd h h5; unfold ak))
      exact ⟨rfl, rfl, b5⟩
   ·rw [aL h3]
    go_enter Tryz.func88, Tryz.ntmps88
    go_wp2_with (first
     | (go_at_call 85; refine Calls.mono (B1.out _ hS) ?_; rintro e W1 (⟨_, rfl, q1, l1, k1⟩ | ⟨h, _⟩); rotate_left 1; exact absurd h1 h; clear B1)
     | (go_at_call 86; refine Calls.mono (B2.out _ q1) ?_; rintro e W2 (⟨_, rfl, q2, l2, k2⟩ | ⟨h, _⟩); rotate_left 1; exact absurd h2 h; clear B2)
     | (go_at_call 85; refine Calls.mono (B3.out _ (q2.ext (ah _ _))) ?_; rintro e W3 (⟨h, _⟩ | ⟨_, rfl, b3⟩); exact absurd h h3; unfold ak))
    exact ⟨rfl, rfl, b3⟩
  ·rw [jh h2]
   go_enter Tryz.func88, Tryz.ntmps88
   go_wp2_with (first
    | (go_at_call 85; refine Calls.mono (B1.out _ hS) ?_; rintro e W1 (⟨_, rfl, q1, l1, k1⟩ | ⟨h, _⟩); rotate_left 1; exact absurd h1 h; clear B1)
    | (go_at_call 86; refine Calls.mono (B2.out _ q1) ?_; rintro e W2 (⟨h, _⟩ | ⟨_, rfl, b2⟩); exact absurd h h2; unfold ak))
   exact ⟨rfl, rfl, b2⟩
 ·rw [aL h1]
  go_enter Tryz.func88, Tryz.ntmps88
  go_wp2_with (first
   | (go_at_call 85; refine Calls.mono (B1.out _ hS) ?_; rintro e W1 (⟨h, _⟩ | ⟨_, rfl, b1⟩); exact absurd h h1; unfold ak))
  exact ⟨rfl, rfl, b1⟩
end Go.Proofs.YtecodpdfckjalaaGreatDoor
