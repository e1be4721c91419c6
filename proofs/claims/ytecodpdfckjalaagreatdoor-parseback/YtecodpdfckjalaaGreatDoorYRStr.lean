import Derived.Test.YtecodpdfckjalaaGreatDoorYRBx0
set_option linter.unusedVariables false
set_option linter.unusedSimpArgs false
set_option maxHeartbeats 4000000
set_option maxRecDepth 100000
namespace Go.Proofs.YtecodpdfckjalaaGreatDoor
open Go.RowKit
variable {w0 : World} {rb : Nat} {ae aa : Value} {TL : List Tok} {xs : List UInt8}
theorem Cv (hT : RT w0 rb ae aa TL xs) (hK : aR TL) {f : Nat} (Hexpr : RC w0 rb ae aa TL xs (pF f (.operands 1)) 109 #[])  :
  RC w0 rb ae aa TL xs (fun s => want 11 s fun s1 => aC (pF f (.operands 1) s1) fun a s2 => want 47 s2 fun s3 => mk1 39 s 0 [] a s3) 93 #[] := by
 intro U W s ns hS hne
 show Calls Tryz.prog 93 #[.pointer (some ⟨rb, 0, none⟩)] W _
 dsimp only at hne ⊢
 have hrW := hS.lt
 have B1 : Bx (∀ W1, RSs w0 rb ae aa TL xs U W1 (s) (ns) -> _) := ⟨fun W1 h => bF hT hK h 11 (by decide) ⟨#[98, 101, 103, 105, 110]⟩ (by decide)⟩
 by_cases h1 : kd (s) = 11
 ·rw [aG h1] at hne ⊢
  have B2 : Bx (∀ W1, RSs w0 rb ae aa TL xs U W1 (tl (s)) (ns) -> pF f (.operands 1) (tl (s)) ≠ .out -> Calls Tryz.prog 109 #[.pointer (some ⟨rb, 0, none⟩)] W1 (aj w0 rb ae aa TL xs U W1 (tl (s)) (ns) (pF f (.operands 1) (tl (s))))) := ⟨fun W1 h hn => Hexpr U W1 (tl (s)) (ns) h hn⟩
  match r2 : pF f (.operands 1) (tl (s)) with
  | .out => rw [r2] at hne; exact absurd rfl hne
  | .err s' =>
   rw [r2] at B2
   show Calls _ _ _ _ (aj w0 rb ae aa TL xs U W s ns (.err s'))
   go_enter Tryz.func93, Tryz.ntmps93
   go_wp2_with (first
    | (go_at_call 85; refine Calls.mono (B1.out _ hS) ?_; rintro e W1 (⟨_, rfl, q1, l1, k1⟩ | ⟨h, _⟩); rotate_left 1; exact absurd h1 h; clear B1)
    | (go_at_call 109; refine Calls.mono (B2.out _ q1 (by simp)) ?_; rintro e W2 ⟨rfl, b2⟩; unfold ak))
   exact ⟨rfl, rfl, b2⟩
  | .ok ts2 s2 =>
   rw [r2] at B2 hne
   simp only [aC] at hne ⊢
   have B3 : Bx (∀ W1, RSs w0 rb ae aa TL xs U W1 (s2) (ns ++ ag ts2 (ns).length) -> _) := ⟨fun W1 h => bF hT hK h 47 (by decide) ⟨#[59]⟩ (by decide)⟩
   by_cases h3 : kd (s2) = 47
   ·rw [aG h3] at hne ⊢
    have HD : Bx (∀ W1, RSs w0 rb ae aa TL xs U W1 (tl s2) (ns ++ ag ts2 (ns).length) -> af rb W W1 -> ∀ v2 : Nat, v2 = ((ns).length + sizes ts2 - 1 : Nat) -> ts2.length = 1 -> (tl s2).length + sizes ts2 + 1 <= s.length -> ∀ kv, Calls Tryz.prog 70 #[.pointer (some ⟨rb, 0, none⟩), .agg #[.int .i64 39, .int .i64 (hd s).place, kv, .string ⟨([]).toArray⟩, .int .i64 0], .slice (some ⟨W1.heap.size, 0, none⟩) 1 1] (W1.alloc (.cells #[.int .i64 ((v2 : Nat) : Int)] 3)) fun e W' => ∃ r : Int, e = .returned (.int .i64 r) /\ aj w0 rb ae aa TL xs U W s ns (.ok [.mk 39 (hd s).place 0 ([]) ts2] (tl s2)) (.returned (.int .i64 r)) W') := ⟨fun W1 h hk v2 g2 e2 hsz kv => by
     have hI := dz (rb := rb) (W := W1) (o := #[.int .i64 ((v2 : Nat) : Int)]) (ys := ends ts2 ns.length) (n := 1) (by rw [aK e2]; rfl) (by decide) (by decide) h.lt (by rw [aK e2, g2]; rfl)
     exact fG hT ts2 (h.ext (ah _ _)) (hk.trans (af.alloc h.lt _)) hsz ⟨W, hS⟩ 39 (hd s).place 0 ([]) kv (some ⟨W1.heap.size, 0, none⟩) 1 1 e2.symm hI h.new⟩
    show Calls _ _ _ _ (aj w0 rb ae aa TL xs U W s ns (.ok [.mk 39 (hd s).place 0 ([]) ts2] (tl s2)))
    go_enter Tryz.func93, Tryz.ntmps93
    go_wp2_with (first
     | (go_at_call 85; refine Calls.mono (B1.out _ hS) ?_; rintro e W1 (⟨_, rfl, q1, l1, k1⟩ | ⟨h, _⟩); rotate_left 1; exact absurd h1 h; clear B1)
     | (go_at_call 109; refine Calls.mono (B2.out _ q1 (by simp)) ?_; rintro e W2 ⟨n2, l2, he, q2, k2⟩; obtain ⟨v2, hv⟩ : ∃ r : Nat, r = ((ns).length + sizes ts2 - 1) := ⟨_, rfl⟩; rw [← hv] at he; subst he; have V2 : Bx _ := ⟨hv⟩; clear hv B2)
     | (go_at_call 85; refine Calls.mono (B3.out _ q2) ?_; rintro e W3 (⟨_, rfl, q3, l3, k3⟩ | ⟨h, _⟩); rotate_left 1; exact absurd h3 h; clear B3)
     | (go_at_call 70; refine Calls.mono (HD.out _ q3 (k1.trans (k2.trans k3)) v2 V2.out n2 (by omega) _) ?_; rintro e W9 ⟨r9, rfl, hp⟩))
    go_ret
    exact hp
   ·rw [aL h3]
    go_enter Tryz.func93, Tryz.ntmps93
    go_wp2_with (first
     | (go_at_call 85; refine Calls.mono (B1.out _ hS) ?_; rintro e W1 (⟨_, rfl, q1, l1, k1⟩ | ⟨h, _⟩); rotate_left 1; exact absurd h1 h; clear B1)
     | (go_at_call 109; refine Calls.mono (B2.out _ q1 (by simp)) ?_; rintro e W2 ⟨n2, l2, he, q2, k2⟩; obtain ⟨v2, hv⟩ : ∃ r : Nat, r = ((ns).length + sizes ts2 - 1) := ⟨_, rfl⟩; rw [← hv] at he; subst he; have V2 : Bx _ := ⟨hv⟩; clear hv B2)
     | (go_at_call 85; refine Calls.mono (B3.out _ q2) ?_; rintro e W3 (⟨h, _⟩ | ⟨_, rfl, b3⟩); exact absurd h h3; unfold ak))
    exact ⟨rfl, rfl, b3⟩
 ·rw [aL h1]
  go_enter Tryz.func93, Tryz.ntmps93
  go_wp2_with (first
   | (go_at_call 85; refine Calls.mono (B1.out _ hS) ?_; rintro e W1 (⟨h, _⟩ | ⟨_, rfl, b1⟩); exact absurd h h1; unfold ak))
  exact ⟨rfl, rfl, b1⟩
theorem D8 (hT : RT w0 rb ae aa TL xs) (hK : aR TL) {f : Nat} (Hexpr : RC w0 rb ae aa TL xs (pF f (.operands 1)) 109 #[]) (Hblock : RC w0 rb ae aa TL xs (pF f .block) 95 #[])  :
  RC w0 rb ae aa TL xs (fun s => want 30 s fun s1 => aC (pF f (.operands 1) s1) fun a s2 => aC (pF f .block s2) fun b s3 => mk1 37 s 0 [] (a ++ b) s3) 91 #[] := by
 intro U W s ns hS hne
 show Calls Tryz.prog 91 #[.pointer (some ⟨rb, 0, none⟩)] W _
 dsimp only at hne ⊢
 have hrW := hS.lt
 have B1 : Bx (∀ W1, RSs w0 rb ae aa TL xs U W1 (s) (ns) -> _) := ⟨fun W1 h => bF hT hK h 30 (by decide) ⟨#[119, 104, 105, 108, 101]⟩ (by decide)⟩
 by_cases h1 : kd (s) = 30
 ·rw [aG h1] at hne ⊢
  have B2 : Bx (∀ W1, RSs w0 rb ae aa TL xs U W1 (tl (s)) (ns) -> pF f (.operands 1) (tl (s)) ≠ .out -> Calls Tryz.prog 109 #[.pointer (some ⟨rb, 0, none⟩)] W1 (aj w0 rb ae aa TL xs U W1 (tl (s)) (ns) (pF f (.operands 1) (tl (s))))) := ⟨fun W1 h hn => Hexpr U W1 (tl (s)) (ns) h hn⟩
  match r2 : pF f (.operands 1) (tl (s)) with
  | .out => rw [r2] at hne; exact absurd rfl hne
  | .err s' =>
   rw [r2] at B2
   show Calls _ _ _ _ (aj w0 rb ae aa TL xs U W s ns (.err s'))
   go_enter Tryz.func91, Tryz.ntmps91
   go_wp2_with (first
    | (go_at_call 85; refine Calls.mono (B1.out _ hS) ?_; rintro e W1 (⟨_, rfl, q1, l1, k1⟩ | ⟨h, _⟩); rotate_left 1; exact absurd h1 h; clear B1)
    | (go_at_call 109; refine Calls.mono (B2.out _ q1 (by simp)) ?_; rintro e W2 ⟨rfl, b2⟩; unfold ak))
   exact ⟨rfl, rfl, b2⟩
  | .ok ts2 s2 =>
   rw [r2] at B2 hne
   simp only [aC] at hne ⊢
   have B3 : Bx (∀ W1, RSs w0 rb ae aa TL xs U W1 (s2) (ns ++ ag ts2 (ns).length) -> pF f .block (s2) ≠ .out -> Calls Tryz.prog 95 #[.pointer (some ⟨rb, 0, none⟩)] W1 (aj w0 rb ae aa TL xs U W1 (s2) (ns ++ ag ts2 (ns).length) (pF f .block (s2)))) := ⟨fun W1 h hn => Hblock U W1 (s2) (ns ++ ag ts2 (ns).length) h hn⟩
   match r3 : pF f .block (s2) with
   | .out => rw [r3] at hne; exact absurd rfl hne
   | .err s' =>
    rw [r3] at B3
    show Calls _ _ _ _ (aj w0 rb ae aa TL xs U W s ns (.err s'))
    go_enter Tryz.func91, Tryz.ntmps91
    go_wp2_with (first
     | (go_at_call 85; refine Calls.mono (B1.out _ hS) ?_; rintro e W1 (⟨_, rfl, q1, l1, k1⟩ | ⟨h, _⟩); rotate_left 1; exact absurd h1 h; clear B1)
     | (go_at_call 109; refine Calls.mono (B2.out _ q1 (by simp)) ?_; rintro e W2 ⟨n2, l2, he, q2, k2⟩; obtain ⟨v2, hv⟩ : ∃ r : Nat, r = ((ns).length + sizes ts2 - 1) := ⟨_, rfl⟩; rw [← hv] at he; subst he; have V2 : Bx _ := ⟨hv⟩; clear hv B2)
     | (go_at_call 95; refine Calls.mono (B3.out _ q2 (by simp)) ?_; rintro e W3 ⟨rfl, b3⟩; unfold ak))
    exact ⟨rfl, rfl, b3⟩
   | .ok ts3 s3 =>
    rw [r3] at B3 hne
    simp only [aC] at hne ⊢
    have HD : Bx (∀ W1, RSs w0 rb ae aa TL xs U W1 (s3) ((ns ++ ag ts2 (ns).length) ++ ag ts3 ((ns ++ ag ts2 (ns).length)).length) -> af rb W W1 -> ∀ v2 : Nat, v2 = ((ns).length + sizes ts2 - 1 : Nat) -> ∀ v3 : Nat, v3 = ((ns ++ ag ts2 (ns).length).length + sizes ts3 - 1 : Nat) -> ts2.length = 1 -> ts3.length = 1 -> (s3).length + sizes (ts2 ++ ts3) + 1 <= s.length -> ∀ kv, Calls Tryz.prog 70 #[.pointer (some ⟨rb, 0, none⟩), .agg #[.int .i64 37, .int .i64 (hd s).place, kv, .string ⟨([]).toArray⟩, .int .i64 0], .slice (some ⟨W1.heap.size, 0, none⟩) 2 2] (W1.alloc (.cells #[.int .i64 ((v2 : Nat) : Int), .int .i64 ((v3 : Nat) : Int)] 3)) fun e W' => ∃ r : Int, e = .returned (.int .i64 r) /\ aj w0 rb ae aa TL xs U W s ns (.ok [.mk 37 (hd s).place 0 ([]) (ts2 ++ ts3)] (s3)) (.returned (.int .i64 r)) W') := ⟨fun W1 h hk v2 g2 v3 g3 e2 e3 hsz kv => by
     have en : ends (ts2 ++ ts3) ns.length = [(((ns).length + sizes ts2 - 1 : Nat) : Int), (((ns ++ ag ts2 (ns).length).length + sizes ts3 - 1 : Nat) : Int)] := by rw [bD, aK e2, aK e3, dV]; rfl
     rw [← g2, ← g3] at en
     have hI := dz (rb := rb) (W := W1) (o := #[.int .i64 ((v2 : Nat) : Int), .int .i64 ((v3 : Nat) : Int)]) (ys := ends (ts2 ++ ts3) ns.length) (n := 2) (by rw [en]; rfl) (by decide) (by decide) h.lt (by rw [en]; rfl)
     have h2 := h.ext (ah W1 (.cells #[.int .i64 ((v2 : Nat) : Int), .int .i64 ((v3 : Nat) : Int)] 3))
     rw [bP] at h2
     exact fG hT (ts2 ++ ts3) h2 (hk.trans (af.alloc h.lt _)) hsz ⟨W, hS⟩ 37 (hd s).place 0 ([]) kv (some ⟨W1.heap.size, 0, none⟩) 2 2 (by simp [e2, e3]) hI h.new⟩
    show Calls _ _ _ _ (aj w0 rb ae aa TL xs U W s ns (.ok [.mk 37 (hd s).place 0 ([]) (ts2 ++ ts3)] (s3)))
    go_enter Tryz.func91, Tryz.ntmps91
    go_wp2_with (first
     | (go_at_call 85; refine Calls.mono (B1.out _ hS) ?_; rintro e W1 (⟨_, rfl, q1, l1, k1⟩ | ⟨h, _⟩); rotate_left 1; exact absurd h1 h; clear B1)
     | (go_at_call 109; refine Calls.mono (B2.out _ q1 (by simp)) ?_; rintro e W2 ⟨n2, l2, he, q2, k2⟩; obtain ⟨v2, hv⟩ : ∃ r : Nat, r = ((ns).length + sizes ts2 - 1) := ⟨_, rfl⟩; rw [← hv] at he; subst he; have V2 : Bx _ := ⟨hv⟩; clear hv B2)
     | (go_at_call 95; refine Calls.mono (B3.out _ q2 (by simp)) ?_; rintro e W3 ⟨n3, l3, he, q3, k3⟩; obtain ⟨v3, hv⟩ : ∃ r : Nat, r = ((ns ++ ag ts2 (ns).length).length + sizes ts3 - 1) := ⟨_, rfl⟩; rw [← hv] at he; subst he; have V3 : Bx _ := ⟨hv⟩; clear hv B3)
     | (go_at_call 70; refine Calls.mono (HD.out _ q3 (k1.trans (k2.trans k3)) v2 V2.out v3 V3.out n2 n3 (by simp only [aI]; omega) _) ?_; rintro e W9 ⟨r9, rfl, hp⟩))
    go_ret
    exact hp
 ·rw [aL h1]
  go_enter Tryz.func91, Tryz.ntmps91
  go_wp2_with (first
   | (go_at_call 85; refine Calls.mono (B1.out _ hS) ?_; rintro e W1 (⟨h, _⟩ | ⟨_, rfl, b1⟩); exact absurd h h1; unfold ak))
  exact ⟨rfl, rfl, b1⟩
theorem yU (hT : RT w0 rb ae aa TL xs) (hK : aR TL) {f : Nat} (Hexpr : RC w0 rb ae aa TL xs (pF f (.operands 1)) 109 #[])  :
  RC w0 rb ae aa TL xs (fun s => want 20 s fun s1 => want 40 s1 fun s2 => aC (pF f (.operands 1) s2) fun a s3 => want 41 s3 fun s4 => mk1 18 s 0 [] a s4) 149 #[] := by
 intro U W s ns hS hne
 show Calls Tryz.prog 149 #[.pointer (some ⟨rb, 0, none⟩)] W _
 dsimp only at hne ⊢
 have hrW := hS.lt
 have B1 : Bx (∀ W1, RSs w0 rb ae aa TL xs U W1 (s) (ns) -> _) := ⟨fun W1 h => bF hT hK h 20 (by decide) ⟨#[108, 101, 110]⟩ (by decide)⟩
 by_cases h1 : kd (s) = 20
 ·rw [aG h1] at hne ⊢
  have B2 : Bx (∀ W1, RSs w0 rb ae aa TL xs U W1 (tl (s)) (ns) -> _) := ⟨fun W1 h => bF hT hK h 40 (by decide) ⟨#[40]⟩ (by decide)⟩
  by_cases h2 : kd (tl (s)) = 40
  ·rw [aG h2] at hne ⊢
   have B3 : Bx (∀ W1, RSs w0 rb ae aa TL xs U W1 (tl (tl (s))) (ns) -> pF f (.operands 1) (tl (tl (s))) ≠ .out -> Calls Tryz.prog 109 #[.pointer (some ⟨rb, 0, none⟩)] W1 (aj w0 rb ae aa TL xs U W1 (tl (tl (s))) (ns) (pF f (.operands 1) (tl (tl (s)))))) := ⟨fun W1 h hn => Hexpr U W1 (tl (tl (s))) (ns) h hn⟩
   match r3 : pF f (.operands 1) (tl (tl (s))) with
   | .out => rw [r3] at hne; exact absurd rfl hne
   | .err s' =>
    rw [r3] at B3
    show Calls _ _ _ _ (aj w0 rb ae aa TL xs U W s ns (.err s'))
    go_enter Tryz.func149, Tryz.ntmps149
    go_wp2_with (first
     | (go_at_call 85; refine Calls.mono (B1.out _ hS) ?_; rintro e W1 (⟨_, rfl, q1, l1, k1⟩ | ⟨h, _⟩); rotate_left 1; exact absurd h1 h; clear B1)
     | (go_at_call 85; refine Calls.mono (B2.out _ q1) ?_; rintro e W2 (⟨_, rfl, q2, l2, k2⟩ | ⟨h, _⟩); rotate_left 1; exact absurd h2 h; clear B2)
     | (go_at_call 109; refine Calls.mono (B3.out _ q2 (by simp)) ?_; rintro e W3 ⟨rfl, b3⟩; unfold ak))
    exact ⟨rfl, rfl, b3⟩
   | .ok ts3 s3 =>
    rw [r3] at B3 hne
    simp only [aC] at hne ⊢
    have B4 : Bx (∀ W1, RSs w0 rb ae aa TL xs U W1 (s3) (ns ++ ag ts3 (ns).length) -> _) := ⟨fun W1 h => bF hT hK h 41 (by decide) ⟨#[41]⟩ (by decide)⟩
    by_cases h4 : kd (s3) = 41
    ·rw [aG h4] at hne ⊢
     have HD : Bx (∀ W1, RSs w0 rb ae aa TL xs U W1 (tl s3) (ns ++ ag ts3 (ns).length) -> af rb W W1 -> ∀ v3 : Nat, v3 = ((ns).length + sizes ts3 - 1 : Nat) -> ts3.length = 1 -> (tl s3).length + sizes ts3 + 1 <= s.length -> ∀ kv, Calls Tryz.prog 70 #[.pointer (some ⟨rb, 0, none⟩), .agg #[.int .i64 18, .int .i64 (hd s).place, kv, .string ⟨([]).toArray⟩, .int .i64 0], .slice (some ⟨W1.heap.size, 0, none⟩) 1 1] (W1.alloc (.cells #[.int .i64 ((v3 : Nat) : Int)] 3)) fun e W' => ∃ r : Int, e = .returned (.int .i64 r) /\ aj w0 rb ae aa TL xs U W s ns (.ok [.mk 18 (hd s).place 0 ([]) ts3] (tl s3)) (.returned (.int .i64 r)) W') := ⟨fun W1 h hk v3 g3 e3 hsz kv => by
      have hI := dz (rb := rb) (W := W1) (o := #[.int .i64 ((v3 : Nat) : Int)]) (ys := ends ts3 ns.length) (n := 1) (by rw [aK e3]; rfl) (by decide) (by decide) h.lt (by rw [aK e3, g3]; rfl)
      exact fG hT ts3 (h.ext (ah _ _)) (hk.trans (af.alloc h.lt _)) hsz ⟨W, hS⟩ 18 (hd s).place 0 ([]) kv (some ⟨W1.heap.size, 0, none⟩) 1 1 e3.symm hI h.new⟩
     show Calls _ _ _ _ (aj w0 rb ae aa TL xs U W s ns (.ok [.mk 18 (hd s).place 0 ([]) ts3] (tl s3)))
     go_enter Tryz.func149, Tryz.ntmps149
     go_wp2_with (first
      | (go_at_call 85; refine Calls.mono (B1.out _ hS) ?_; rintro e W1 (⟨_, rfl, q1, l1, k1⟩ | ⟨h, _⟩); rotate_left 1; exact absurd h1 h; clear B1)
      | (go_at_call 85; refine Calls.mono (B2.out _ q1) ?_; rintro e W2 (⟨_, rfl, q2, l2, k2⟩ | ⟨h, _⟩); rotate_left 1; exact absurd h2 h; clear B2)
      | (go_at_call 109; refine Calls.mono (B3.out _ q2 (by simp)) ?_; rintro e W3 ⟨n3, l3, he, q3, k3⟩; obtain ⟨v3, hv⟩ : ∃ r : Nat, r = ((ns).length + sizes ts3 - 1) := ⟨_, rfl⟩; rw [← hv] at he; subst he; have V3 : Bx _ := ⟨hv⟩; clear hv B3)
      | (go_at_call 85; refine Calls.mono (B4.out _ q3) ?_; rintro e W4 (⟨_, rfl, q4, l4, k4⟩ | ⟨h, _⟩); rotate_left 1; exact absurd h4 h; clear B4)
      | (go_at_call 70; refine Calls.mono (HD.out _ q4 (k1.trans (k2.trans (k3.trans k4))) v3 V3.out n3 (by omega) _) ?_; rintro e W9 ⟨r9, rfl, hp⟩))
     go_ret
     exact hp
    ·rw [aL h4]
     go_enter Tryz.func149, Tryz.ntmps149
     go_wp2_with (first
      | (go_at_call 85; refine Calls.mono (B1.out _ hS) ?_; rintro e W1 (⟨_, rfl, q1, l1, k1⟩ | ⟨h, _⟩); rotate_left 1; exact absurd h1 h; clear B1)
      | (go_at_call 85; refine Calls.mono (B2.out _ q1) ?_; rintro e W2 (⟨_, rfl, q2, l2, k2⟩ | ⟨h, _⟩); rotate_left 1; exact absurd h2 h; clear B2)
      | (go_at_call 109; refine Calls.mono (B3.out _ q2 (by simp)) ?_; rintro e W3 ⟨n3, l3, he, q3, k3⟩; obtain ⟨v3, hv⟩ : ∃ r : Nat, r = ((ns).length + sizes ts3 - 1) := ⟨_, rfl⟩; rw [← hv] at he; subst he; have V3 : Bx _ := ⟨hv⟩; clear hv B3)
      | (go_at_call 85; refine Calls.mono (B4.out _ q3) ?_; rintro e W4 (⟨h, _⟩ | ⟨_, rfl, b4⟩); exact absurd h h4; unfold ak))
     exact ⟨rfl, rfl, b4⟩
  ·rw [aL h2]
   go_enter Tryz.func149, Tryz.ntmps149
   go_wp2_with (first
    | (go_at_call 85; refine Calls.mono (B1.out _ hS) ?_; rintro e W1 (⟨_, rfl, q1, l1, k1⟩ | ⟨h, _⟩); rotate_left 1; exact absurd h1 h; clear B1)
    | (go_at_call 85; refine Calls.mono (B2.out _ q1) ?_; rintro e W2 (⟨h, _⟩ | ⟨_, rfl, b2⟩); exact absurd h h2; unfold ak))
   exact ⟨rfl, rfl, b2⟩
 ·rw [aL h1]
  go_enter Tryz.func149, Tryz.ntmps149
  go_wp2_with (first
   | (go_at_call 85; refine Calls.mono (B1.out _ hS) ?_; rintro e W1 (⟨h, _⟩ | ⟨_, rfl, b1⟩); exact absurd h h1; unfold ak))
  exact ⟨rfl, rfl, b1⟩
theorem D9 (hT : RT w0 rb ae aa TL xs) (hK : aR TL) {f : Nat} (Hexpr : RC w0 rb ae aa TL xs (pF f (.operands 1)) 109 #[])  :
  RC w0 rb ae aa TL xs (fun s => want 17 s fun s1 => want 40 s1 fun s2 => aC (pF f (.operands 1) s2) fun a s3 => want 46 s3 fun s4 => aC (pF f (.operands 1) s4) fun b s5 => want 41 s5 fun s6 => mk1 17 s 0 [] (a ++ b) s6) 148 #[] := by
 intro U W s ns hS hne
 show Calls Tryz.prog 148 #[.pointer (some ⟨rb, 0, none⟩)] W _
 dsimp only at hne ⊢
 have hrW := hS.lt
 have B1 : Bx (∀ W1, RSs w0 rb ae aa TL xs U W1 (s) (ns) -> _) := ⟨fun W1 h => bF hT hK h 17 (by decide) ⟨#[102, 105, 108, 108]⟩ (by decide)⟩
 by_cases h1 : kd (s) = 17
 ·rw [aG h1] at hne ⊢
  have B2 : Bx (∀ W1, RSs w0 rb ae aa TL xs U W1 (tl (s)) (ns) -> _) := ⟨fun W1 h => bF hT hK h 40 (by decide) ⟨#[40]⟩ (by decide)⟩
  by_cases h2 : kd (tl (s)) = 40
  ·rw [aG h2] at hne ⊢
   have B3 : Bx (∀ W1, RSs w0 rb ae aa TL xs U W1 (tl (tl (s))) (ns) -> pF f (.operands 1) (tl (tl (s))) ≠ .out -> Calls Tryz.prog 109 #[.pointer (some ⟨rb, 0, none⟩)] W1 (aj w0 rb ae aa TL xs U W1 (tl (tl (s))) (ns) (pF f (.operands 1) (tl (tl (s)))))) := ⟨fun W1 h hn => Hexpr U W1 (tl (tl (s))) (ns) h hn⟩
   match r3 : pF f (.operands 1) (tl (tl (s))) with
   | .out => rw [r3] at hne; exact absurd rfl hne
   | .err s' =>
    rw [r3] at B3
    show Calls _ _ _ _ (aj w0 rb ae aa TL xs U W s ns (.err s'))
    go_enter Tryz.func148, Tryz.ntmps148
    go_wp2_with (first
     | (go_at_call 85; refine Calls.mono (B1.out _ hS) ?_; rintro e W1 (⟨_, rfl, q1, l1, k1⟩ | ⟨h, _⟩); rotate_left 1; exact absurd h1 h; clear B1)
     | (go_at_call 85; refine Calls.mono (B2.out _ q1) ?_; rintro e W2 (⟨_, rfl, q2, l2, k2⟩ | ⟨h, _⟩); rotate_left 1; exact absurd h2 h; clear B2)
     | (go_at_call 109; refine Calls.mono (B3.out _ q2 (by simp)) ?_; rintro e W3 ⟨rfl, b3⟩; unfold ak))
    exact ⟨rfl, rfl, b3⟩
   | .ok ts3 s3 =>
    rw [r3] at B3 hne
    simp only [aC] at hne ⊢
    have B4 : Bx (∀ W1, RSs w0 rb ae aa TL xs U W1 (s3) (ns ++ ag ts3 (ns).length) -> _) := ⟨fun W1 h => bF hT hK h 46 (by decide) ⟨#[44]⟩ (by decide)⟩
    by_cases h4 : kd (s3) = 46
    ·rw [aG h4] at hne ⊢
     have B5 : Bx (∀ W1, RSs w0 rb ae aa TL xs U W1 (tl s3) (ns ++ ag ts3 (ns).length) -> pF f (.operands 1) (tl s3) ≠ .out -> Calls Tryz.prog 109 #[.pointer (some ⟨rb, 0, none⟩)] W1 (aj w0 rb ae aa TL xs U W1 (tl s3) (ns ++ ag ts3 (ns).length) (pF f (.operands 1) (tl s3)))) := ⟨fun W1 h hn => Hexpr U W1 (tl s3) (ns ++ ag ts3 (ns).length) h hn⟩
     match r5 : pF f (.operands 1) (tl s3) with
     | .out => rw [r5] at hne; exact absurd rfl hne
     | .err s' =>
      rw [r5] at B5
      show Calls _ _ _ _ (aj w0 rb ae aa TL xs U W s ns (.err s'))
      go_enter Tryz.func148, Tryz.ntmps148
      go_wp2_with (first
       | (go_at_call 85; refine Calls.mono (B1.out _ hS) ?_; rintro e W1 (⟨_, rfl, q1, l1, k1⟩ | ⟨h, _⟩); rotate_left 1; exact absurd h1 h; clear B1)
       | (go_at_call 85; refine Calls.mono (B2.out _ q1) ?_; rintro e W2 (⟨_, rfl, q2, l2, k2⟩ | ⟨h, _⟩); rotate_left 1; exact absurd h2 h; clear B2)
       | (go_at_call 109; refine Calls.mono (B3.out _ q2 (by simp)) ?_; rintro e W3 ⟨n3, l3, he, q3, k3⟩; obtain ⟨v3, hv⟩ : ∃ r : Nat, r = ((ns).length + sizes ts3 - 1) := ⟨_, rfl⟩; rw [← hv] at he; subst he; have V3 : Bx _ := ⟨hv⟩; clear hv B3)
       | (go_at_call 85; refine Calls.mono (B4.out _ q3) ?_; rintro e W4 (⟨_, rfl, q4, l4, k4⟩ | ⟨h, _⟩); rotate_left 1; exact absurd h4 h; clear B4)
       | (go_at_call 109; refine Calls.mono (B5.out _ q4 (by simp)) ?_; rintro e W5 ⟨rfl, b5⟩; unfold ak))
      exact ⟨rfl, rfl, b5⟩
     | .ok ts5 s5 =>
      rw [r5] at B5 hne
      simp only [aC] at hne ⊢
      have B6 : Bx (∀ W1, RSs w0 rb ae aa TL xs U W1 (s5) ((ns ++ ag ts3 (ns).length) ++ ag ts5 ((ns ++ ag ts3 (ns).length)).length) -> _) := ⟨fun W1 h => bF hT hK h 41 (by decide) ⟨#[41]⟩ (by decide)⟩
      by_cases h6 : kd (s5) = 41
      ·rw [aG h6] at hne ⊢
       have HD : Bx (∀ W1, RSs w0 rb ae aa TL xs U W1 (tl s5) ((ns ++ ag ts3 (ns).length) ++ ag ts5 ((ns ++ ag ts3 (ns).length)).length) -> af rb W W1 -> ∀ v3 : Nat, v3 = ((ns).length + sizes ts3 - 1 : Nat) -> ∀ v5 : Nat, v5 = ((ns ++ ag ts3 (ns).length).length + sizes ts5 - 1 : Nat) -> ts3.length = 1 -> ts5.length = 1 -> (tl s5).length + sizes (ts3 ++ ts5) + 1 <= s.length -> ∀ kv, Calls Tryz.prog 70 #[.pointer (some ⟨rb, 0, none⟩), .agg #[.int .i64 17, .int .i64 (hd s).place, kv, .string ⟨([]).toArray⟩, .int .i64 0], .slice (some ⟨W1.heap.size, 0, none⟩) 2 2] (W1.alloc (.cells #[.int .i64 ((v3 : Nat) : Int), .int .i64 ((v5 : Nat) : Int)] 3)) fun e W' => ∃ r : Int, e = .returned (.int .i64 r) /\ aj w0 rb ae aa TL xs U W s ns (.ok [.mk 17 (hd s).place 0 ([]) (ts3 ++ ts5)] (tl s5)) (.returned (.int .i64 r)) W') := ⟨fun W1 h hk v3 g3 v5 g5 e3 e5 hsz kv => by
        have en : ends (ts3 ++ ts5) ns.length = [(((ns).length + sizes ts3 - 1 : Nat) : Int), (((ns ++ ag ts3 (ns).length).length + sizes ts5 - 1 : Nat) : Int)] := by rw [bD, aK e3, aK e5, dV]; rfl
        rw [← g3, ← g5] at en
        have hI := dz (rb := rb) (W := W1) (o := #[.int .i64 ((v3 : Nat) : Int), .int .i64 ((v5 : Nat) : Int)]) (ys := ends (ts3 ++ ts5) ns.length) (n := 2) (by rw [en]; rfl) (by decide) (by decide) h.lt (by rw [en]; rfl)
        have h2 := h.ext (ah W1 (.cells #[.int .i64 ((v3 : Nat) : Int), .int .i64 ((v5 : Nat) : Int)] 3))
        rw [bP] at h2
        exact fG hT (ts3 ++ ts5) h2 (hk.trans (af.alloc h.lt _)) hsz ⟨W, hS⟩ 17 (hd s).place 0 ([]) kv (some ⟨W1.heap.size, 0, none⟩) 2 2 (by simp [e3, e5]) hI h.new⟩
       show Calls _ _ _ _ (aj w0 rb ae aa TL xs U W s ns (.ok [.mk 17 (hd s).place 0 ([]) (ts3 ++ ts5)] (tl s5)))
       go_enter Tryz.func148, Tryz.ntmps148
       go_wp2_with (first
        | (go_at_call 85; refine Calls.mono (B1.out _ hS) ?_; rintro e W1 (⟨_, rfl, q1, l1, k1⟩ | ⟨h, _⟩); rotate_left 1; exact absurd h1 h; clear B1)
        | (go_at_call 85; refine Calls.mono (B2.out _ q1) ?_; rintro e W2 (⟨_, rfl, q2, l2, k2⟩ | ⟨h, _⟩); rotate_left 1; exact absurd h2 h; clear B2)
        | (go_at_call 109; refine Calls.mono (B3.out _ q2 (by simp)) ?_; rintro e W3 ⟨n3, l3, he, q3, k3⟩; obtain ⟨v3, hv⟩ : ∃ r : Nat, r = ((ns).length + sizes ts3 - 1) := ⟨_, rfl⟩; rw [← hv] at he; subst he; have V3 : Bx _ := ⟨hv⟩; clear hv B3)
        | (go_at_call 85; refine Calls.mono (B4.out _ q3) ?_; rintro e W4 (⟨_, rfl, q4, l4, k4⟩ | ⟨h, _⟩); rotate_left 1; exact absurd h4 h; clear B4)
        | (go_at_call 109; refine Calls.mono (B5.out _ q4 (by simp)) ?_; rintro e W5 ⟨n5, l5, he, q5, k5⟩; obtain ⟨v5, hv⟩ : ∃ r : Nat, r = ((ns ++ ag ts3 (ns).length).length + sizes ts5 - 1) := ⟨_, rfl⟩; rw [← hv] at he; subst he; have V5 : Bx _ := ⟨hv⟩; clear hv B5)
        | (go_at_call 85; refine Calls.mono (B6.out _ q5) ?_; rintro e W6 (⟨_, rfl, q6, l6, k6⟩ | ⟨h, _⟩); rotate_left 1; exact absurd h6 h; clear B6)
        | (go_at_call 70; refine Calls.mono (HD.out _ q6 (k1.trans (k2.trans (k3.trans (k4.trans (k5.trans k6))))) v3 V3.out v5 V5.out n3 n5 (by simp only [aI]; omega) _) ?_; rintro e W9 ⟨r9, rfl, hp⟩))
       go_ret
       exact hp
      ·rw [aL h6]
       go_enter Tryz.func148, Tryz.ntmps148
       go_wp2_with (first
        | (go_at_call 85; refine Calls.mono (B1.out _ hS) ?_; rintro e W1 (⟨_, rfl, q1, l1, k1⟩ | ⟨h, _⟩); rotate_left 1; exact absurd h1 h; clear B1)
        | (go_at_call 85; refine Calls.mono (B2.out _ q1) ?_; rintro e W2 (⟨_, rfl, q2, l2, k2⟩ | ⟨h, _⟩); rotate_left 1; exact absurd h2 h; clear B2)
        | (go_at_call 109; refine Calls.mono (B3.out _ q2 (by simp)) ?_; rintro e W3 ⟨n3, l3, he, q3, k3⟩; obtain ⟨v3, hv⟩ : ∃ r : Nat, r = ((ns).length + sizes ts3 - 1) := ⟨_, rfl⟩; rw [← hv] at he; subst he; have V3 : Bx _ := ⟨hv⟩; clear hv B3)
        | (go_at_call 85; refine Calls.mono (B4.out _ q3) ?_; rintro e W4 (⟨_, rfl, q4, l4, k4⟩ | ⟨h, _⟩); rotate_left 1; exact absurd h4 h; clear B4)
        | (go_at_call 109; refine Calls.mono (B5.out _ q4 (by simp)) ?_; rintro e W5 ⟨n5, l5, he, q5, k5⟩; obtain ⟨v5, hv⟩ : ∃ r : Nat, r = ((ns ++ ag ts3 (ns).length).length + sizes ts5 - 1) := ⟨_, rfl⟩; rw [← hv] at he; subst he; have V5 : Bx _ := ⟨hv⟩; clear hv B5)
        | (go_at_call 85; refine Calls.mono (B6.out _ q5) ?_; rintro e W6 (⟨h, _⟩ | ⟨_, rfl, b6⟩); exact absurd h h6; unfold ak))
       exact ⟨rfl, rfl, b6⟩
    ·rw [aL h4]
     go_enter Tryz.func148, Tryz.ntmps148
     go_wp2_with (first
      | (go_at_call 85; refine Calls.mono (B1.out _ hS) ?_; rintro e W1 (⟨_, rfl, q1, l1, k1⟩ | ⟨h, _⟩); rotate_left 1; exact absurd h1 h; clear B1)
      | (go_at_call 85; refine Calls.mono (B2.out _ q1) ?_; rintro e W2 (⟨_, rfl, q2, l2, k2⟩ | ⟨h, _⟩); rotate_left 1; exact absurd h2 h; clear B2)
      | (go_at_call 109; refine Calls.mono (B3.out _ q2 (by simp)) ?_; rintro e W3 ⟨n3, l3, he, q3, k3⟩; obtain ⟨v3, hv⟩ : ∃ r : Nat, r = ((ns).length + sizes ts3 - 1) := ⟨_, rfl⟩; rw [← hv] at he; subst he; have V3 : Bx _ := ⟨hv⟩; clear hv B3)
      | (go_at_call 85; refine Calls.mono (B4.out _ q3) ?_; rintro e W4 (⟨h, _⟩ | ⟨_, rfl, b4⟩); exact absurd h h4; unfold ak))
     exact ⟨rfl, rfl, b4⟩
  ·rw [aL h2]
   go_enter Tryz.func148, Tryz.ntmps148
   go_wp2_with (first
    | (go_at_call 85; refine Calls.mono (B1.out _ hS) ?_; rintro e W1 (⟨_, rfl, q1, l1, k1⟩ | ⟨h, _⟩); rotate_left 1; exact absurd h1 h; clear B1)
    | (go_at_call 85; refine Calls.mono (B2.out _ q1) ?_; rintro e W2 (⟨h, _⟩ | ⟨_, rfl, b2⟩); exact absurd h h2; unfold ak))
   exact ⟨rfl, rfl, b2⟩
 ·rw [aL h1]
  go_enter Tryz.func148, Tryz.ntmps148
  go_wp2_with (first
   | (go_at_call 85; refine Calls.mono (B1.out _ hS) ?_; rintro e W1 (⟨h, _⟩ | ⟨_, rfl, b1⟩); exact absurd h h1; unfold ak))
  exact ⟨rfl, rfl, b1⟩
end Go.Proofs.YtecodpdfckjalaaGreatDoor
