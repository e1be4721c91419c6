import Derived.Test.YtecodpdfckjalaaGreatDoorYRBx0
set_option linter.unusedVariables false
set_option linter.unusedSimpArgs false
set_option maxHeartbeats 4000000
set_option maxRecDepth 100000
namespace Go.Proofs.YtecodpdfckjalaaGreatDoor
open Go.RowKit
variable {w0 : World} {rb : Nat} {ae aa : Value} {TL : List Tok} {xs : List UInt8}
theorem Cw (hT : RT w0 rb ae aa TL xs) (hK : aR TL) {f : Nat} (Htyp : RC w0 rb ae aa TL xs (pF f .typ) 87 #[])  :
  RC w0 rb ae aa TL xs (fun s => dJ s fun n s1 => want 48 s1 fun s2 => aC (pF f .typ s2) fun a s3 => mk1 42 s 0 n a s3) 152 #[] := by
 intro U W s ns hS hne
 show Calls Tryz.prog 152 #[.pointer (some ⟨rb, 0, none⟩)] W _
 dsimp only at hne ⊢
 have hrW := hS.lt
 have B1 : Bx (∀ W1, RSs w0 rb ae aa TL xs U W1 (s) (ns) -> _) := ⟨fun W1 h => eP hT h⟩
 have hf1 := dC
 have B2 : Bx (∀ W1, RSs w0 rb ae aa TL xs U W1 (s) (ns) -> _) := ⟨fun W1 h => lV hT hK h⟩
 by_cases h2 : kd (s) = 1
 ·rw [gZ h2] at hne ⊢
  have B3 : Bx (∀ W1, RSs w0 rb ae aa TL xs U W1 (tl (s)) (ns) -> _) := ⟨fun W1 h => bF hT hK h 48 (by decide) ⟨#[58]⟩ (by decide)⟩
  by_cases h3 : kd (tl (s)) = 48
  ·rw [aG h3] at hne ⊢
   have B4 : Bx (∀ W1, RSs w0 rb ae aa TL xs U W1 (tl (tl (s))) (ns) -> pF f .typ (tl (tl (s))) ≠ .out -> Calls Tryz.prog 87 #[.pointer (some ⟨rb, 0, none⟩)] W1 (aj w0 rb ae aa TL xs U W1 (tl (tl (s))) (ns) (pF f .typ (tl (tl (s)))))) := ⟨fun W1 h hn => Htyp U W1 (tl (tl (s))) (ns) h hn⟩
   match r4 : pF f .typ (tl (tl (s))) with
   | .out => rw [r4] at hne; exact absurd rfl hne
   | .err s' =>
    rw [r4] at B4
    show Calls _ _ _ _ (aj w0 rb ae aa TL xs U W s ns (.err s'))
    go_enter Tryz.func152, Tryz.ntmps152
    go_wp2_with (first
     | (go_at_call 84; refine Calls.mono (B1.out _ hS) ?_; rintro e W1 ⟨t1, rfl, b1⟩; have q1 := hS.ext b1; have k1 := af.ext hS.lt b1; clear B1)
     | (go_at_call 86; refine Calls.mono (B2.out _ q1) ?_; rintro e W2 (⟨_, rfl, q2, l2, k2⟩ | ⟨h, _⟩); rotate_left 1; exact absurd h2 h; clear B2)
     | (go_at_call 85; refine Calls.mono (B3.out _ (q2.ext (ah _ _))) ?_; rintro e W3 (⟨_, rfl, q3, l3, k3⟩ | ⟨h, _⟩); rotate_left 1; exact absurd h3 h; clear B3; obtain ⟨y0, y1, y2, y3, y4, ylt⟩ := dw (jI q2 k3)))
    refine wp_region_any (by kernel_rfl) ?_
    try (change wpAny _ _ _ _ _ _ _ (World.drew _))
    refine wpAny_take (i := 0) (v := ?_) rfl (by kernel_rfl) (by kernel_rfl) (by kernel_rfl) (fun _ _ _ h => h) (Or.inl ⟨by rfl, ?_⟩) ?_
    case refine_2 => intro w; go_simp; try rfl
    refine wpAny_take (i := 2) (v := ?_) rfl (by kernel_rfl) (by kernel_rfl) (by kernel_rfl) (fun _ _ _ h => h) (Or.inl ⟨by rfl, ?_⟩) ?_
    case refine_2 => intro w; go_simp; try rfl
    refine wpAny_ready (rs := [1, 3]) (by kernel_rfl) (by simp) ?_
    refine AllReady.cons rfl (fun K hK => ?_) (AllReady.cons rfl (fun K hK => ?_) AllReady.nil)
    ·go_simp
     refine hK _ _ ?_
     clear hK K
     refine wpAny_ready (rs := [3]) (by kernel_rfl) (by simp) ?_
     refine AllReady.cons rfl (fun K hK => ?_) AllReady.nil
     go_simp
     go_wp2_with (go_at_call 87; refine Calls.mono (B4.out _ (q3.ext ((Below.refl _ _).drew)) (by simp)) ?_; rintro e W4 ⟨rfl, b4⟩; unfold ak)
     exact ⟨rfl, rfl, b4⟩
    ·go_simp
     go_wp2_with (go_at_call 87; refine Calls.mono (B4.out _ (q3.ext ((Below.refl _ _).drew)) (by simp)) ?_; rintro e W4 ⟨rfl, b4⟩; unfold ak)
     exact ⟨rfl, rfl, b4⟩
   | .ok ts4 s4 =>
    rw [r4] at B4 hne
    simp only [aC] at hne ⊢
    have HD : Bx (∀ W1, RSs w0 rb ae aa TL xs U W1 (s4) (ns ++ ag ts4 (ns).length) -> af rb W W1 -> ∀ v4 : Nat, v4 = ((ns).length + sizes ts4 - 1 : Nat) -> ts4.length = 1 -> (s4).length + sizes ts4 + 1 <= s.length -> ∀ kv, Calls Tryz.prog 70 #[.pointer (some ⟨rb, 0, none⟩), .agg #[.int .i64 42, .int .i64 (hd s).place, kv, .string ⟨((hd s).name).toArray⟩, .int .i64 0], .slice (some ⟨W1.heap.size, 0, none⟩) 1 1] (W1.alloc (.cells #[.int .i64 ((v4 : Nat) : Int)] 3)) fun e W' => ∃ r : Int, e = .returned (.int .i64 r) /\ aj w0 rb ae aa TL xs U W s ns (.ok [.mk 42 (hd s).place 0 ((hd s).name) ts4] (s4)) (.returned (.int .i64 r)) W') := ⟨fun W1 h hk v4 g4 e4 hsz kv => by
     have hI := dz (rb := rb) (W := W1) (o := #[.int .i64 ((v4 : Nat) : Int)]) (ys := ends ts4 ns.length) (n := 1) (by rw [aK e4]; rfl) (by decide) (by decide) h.lt (by rw [aK e4, g4]; rfl)
     exact fG hT ts4 (h.ext (ah _ _)) (hk.trans (af.alloc h.lt _)) hsz ⟨W, hS⟩ 42 (hd s).place 0 ((hd s).name) kv (some ⟨W1.heap.size, 0, none⟩) 1 1 e4.symm hI h.new⟩
    show Calls _ _ _ _ (aj w0 rb ae aa TL xs U W s ns (.ok [.mk 42 (hd s).place 0 ((hd s).name) ts4] (s4)))
    go_enter Tryz.func152, Tryz.ntmps152
    go_wp2_with (first
     | (go_at_call 84; refine Calls.mono (B1.out _ hS) ?_; rintro e W1 ⟨t1, rfl, b1⟩; have q1 := hS.ext b1; have k1 := af.ext hS.lt b1; clear B1)
     | (go_at_call 86; refine Calls.mono (B2.out _ q1) ?_; rintro e W2 (⟨_, rfl, q2, l2, k2⟩ | ⟨h, _⟩); rotate_left 1; exact absurd h2 h; clear B2)
     | (go_at_call 85; refine Calls.mono (B3.out _ (q2.ext (ah _ _))) ?_; rintro e W3 (⟨_, rfl, q3, l3, k3⟩ | ⟨h, _⟩); rotate_left 1; exact absurd h3 h; clear B3; obtain ⟨y0, y1, y2, y3, y4, ylt⟩ := dw (jI q2 k3)))
    go_region_with (first
     | (go_at_call 87; refine Calls.mono (B4.out _ (q3.ext ((Below.refl _ _).drew)) (by simp)) ?_; rintro e W4 ⟨n4, l4, he, q4, k4⟩; obtain ⟨v4, hv⟩ : ∃ r : Nat, r = ((ns).length + sizes ts4 - 1) := ⟨_, rfl⟩; rw [← hv] at he; subst he; have V4 : Bx _ := ⟨hv⟩; clear hv B4; obtain ⟨x0, x1, x2, x3, x4, xlt⟩ := dw (jI q2 (k3.trans ((af.ext q3.lt ((Below.refl _ _).drew)).trans k4))))
     | (go_at_call 70; refine Calls.mono (HD.out _ q4 (k1.trans (k2.trans ((af.alloc q2.lt _).trans (k3.trans ((af.ext q3.lt ((Below.refl _ _).drew)).trans k4))))) v4 V4.out n4 (by omega) _) ?_; rintro e W9 ⟨r9, rfl, hp⟩))
    all_goals
     go_wp2
     go_ret
     exact hp
  ·rw [aL h3]
   go_enter Tryz.func152, Tryz.ntmps152
   go_wp2_with (first
    | (go_at_call 84; refine Calls.mono (B1.out _ hS) ?_; rintro e W1 ⟨t1, rfl, b1⟩; have q1 := hS.ext b1; have k1 := af.ext hS.lt b1; clear B1)
    | (go_at_call 86; refine Calls.mono (B2.out _ q1) ?_; rintro e W2 (⟨_, rfl, q2, l2, k2⟩ | ⟨h, _⟩); rotate_left 1; exact absurd h2 h; clear B2)
    | (go_at_call 85; refine Calls.mono (B3.out _ (q2.ext (ah _ _))) ?_; rintro e W3 (⟨h, _⟩ | ⟨_, rfl, b3⟩); exact absurd h h3; unfold ak))
   exact ⟨rfl, rfl, b3⟩
 ·rw [jh h2]
  go_enter Tryz.func152, Tryz.ntmps152
  go_wp2_with (first
   | (go_at_call 84; refine Calls.mono (B1.out _ hS) ?_; rintro e W1 ⟨t1, rfl, b1⟩; have q1 := hS.ext b1; have k1 := af.ext hS.lt b1; clear B1)
   | (go_at_call 86; refine Calls.mono (B2.out _ q1) ?_; rintro e W2 (⟨h, _⟩ | ⟨_, rfl, b2⟩); exact absurd h h2; unfold ak))
  exact ⟨rfl, rfl, b2⟩
end Go.Proofs.YtecodpdfckjalaaGreatDoor
