import Derived.Test.YtecodpdfckjalaaGreatDoorYRPtd
import Derived.Test.YtecodpdfckjalaaGreatDoorYRBx0
set_option linter.unusedVariables false
set_option linter.unusedSimpArgs false
set_option maxHeartbeats 4000000
set_option maxRecDepth 100000
namespace Go.Proofs.YtecodpdfckjalaaGreatDoor
open Go.RowKit
variable {w0 : World} {rb : Nat} {ae aa : Value} {TL : List Tok} {xs : List UInt8} {U : Nat -> Prop}
def LC (d : Nat) (w0 : World) (rb : Nat) (ae aa : Value) (TL : List Tok) (xs : List UInt8) (S : List ai -> Res) (F : Nat) (vs : Array Value) : Prop :=
 ∀ U W s ns, RSs w0 rb ae aa TL xs U W s ns -> S s ≠ .out -> Calls Tryz.prog F (#[.pointer (some ⟨rb, 0, none⟩)] ++ vs) W (gF d w0 rb ae aa TL xs U W s ns (S s))
theorem RSs.uv0 {W : World} {s : List ai} {ns : List Nd} (h : RSs w0 rb ae aa TL xs U W s ns) : RSs w0 rb ae aa TL xs (Uv U (.slice none 0 0)) W s ns := h.jD fun y hy => by
 rcases hy with hy | hy
 ·exact hy
 ·simp [Value.ownBlock] at hy
theorem yE (hT : RT w0 rb ae aa TL xs) (hK : aR TL) {f : Nat} (HP : ∀ f', f' < f -> LC 0 w0 rb ae aa TL xs (pF f' (.parted .typ)) 122 #[.func (.func 87) #[.pointer (some ⟨rb, 0, none⟩)] #[]]) :
  LC 1 w0 rb ae aa TL xs (pF f (.listed .typ)) 123 #[.func (.func 87) #[.pointer (some ⟨rb, 0, none⟩)] #[]] := by
 intro U W s ns hS hne
 show Calls Tryz.prog 123 #[.pointer (some ⟨rb, 0, none⟩), .func (.func 87) #[.pointer (some ⟨rb, 0, none⟩)] #[]] W _
 match f, HP, hne with
 | 0, _, hne => exact absurd rfl hne
 | f + 1, HP, hne =>
 have e0 : pF (f + 1) (.listed .typ) s = want 40 s fun s1 => if kd s1 = 41 then .ok [] (tl s1) else aC (pF f (.parted .typ) s1) fun a s2 => want 41 s2 fun s3 => .ok a s3 := rfl
 rw [e0] at hne ⊢
 have B1 : Bx (∀ W1, RSs w0 rb ae aa TL xs U W1 s ns -> _) := ⟨fun W1 h => bF hT hK h 40 (by decide) ⟨#[40]⟩ (by decide)⟩
 by_cases h1 : kd s = 40
 ·rw [aG h1] at hne ⊢
  have B2 : Bx (∀ W1, RSs w0 rb ae aa TL xs U W1 (tl s) ns -> _) := ⟨fun W1 h => iP hT hK h 41 (by decide) ⟨#[41]⟩ (by decide)⟩
  by_cases h2 : kd (tl s) = 41
  ·rw [if_pos h2]
   have HE : Bx (∀ W1 W2, (tl s).length + 1 = s.length -> af rb W W1 -> RSs w0 rb ae aa TL xs U W2 (tl (tl s)) ns -> (tl (tl s)).length + 1 = (tl s).length -> af rb W1 W2 -> gF 1 w0 rb ae aa TL xs U W s ns (.ok [] (tl (tl s))) (.returned (.slice none 0 0)) W2) := ⟨fun W1 W2 l1 k1 q2 l2 k2 => by
    refine ⟨by simp [sizes]; omega, none, 0, rfl, ?_, World.ownsRow_nil _ _ _ _, k1.trans k2, fun y hy => by simp [Value.ownBlock] at hy⟩
    have e : ns ++ ag [] ns.length = ns := by simp [ag]
    rw [e]
    exact q2.uv0⟩
   clear hne HP
   go_enter Tryz.func123, Tryz.ntmps123
   go_wp2_with (first
    | (go_at_call 85; refine Calls.mono (B1.out _ hS) ?_; rintro e W1 (⟨_, rfl, q1, l1, k1⟩ | ⟨h, _⟩); rotate_left 1; exact absurd h1 h; clear B1)
    | (go_at_call 102; refine Calls.mono (B2.out _ q1) ?_; rintro e W2 (⟨_, rfl, q2, l2, k2⟩ | ⟨h, _⟩); rotate_left 1; exact absurd h2 h; clear B2))
   go_ret
   exact HE.out _ _ l1 k1 q2 l2 k2
  ·rw [if_neg h2] at hne ⊢
   have B3 : Bx (∀ W1, RSs w0 rb ae aa TL xs U W1 (tl s) ns -> pF f (.parted .typ) (tl s) ≠ .out -> Calls Tryz.prog 122 #[.pointer (some ⟨rb, 0, none⟩), .func (.func 87) #[.pointer (some ⟨rb, 0, none⟩)] #[]] W1 (gF 0 w0 rb ae aa TL xs U W1 (tl s) ns (pF f (.parted .typ) (tl s)))) := ⟨fun W1 h hn => HP f (by omega) U W1 (tl s) ns h hn⟩
   match r3 : pF f (.parted .typ) (tl s) with
   | .out => rw [r3] at hne; exact absurd rfl hne
   | .err s' =>
    rw [r3] at B3
    clear hne HP
    go_enter Tryz.func123, Tryz.ntmps123
    go_wp2_with (first
     | (go_at_call 85; refine Calls.mono (B1.out _ hS) ?_; rintro e W1 (⟨_, rfl, q1, l1, k1⟩ | ⟨h, _⟩); rotate_left 1; exact absurd h1 h; clear B1)
     | (go_at_call 102; refine Calls.mono (B2.out _ q1) ?_; rintro e W2 (⟨h, _⟩ | ⟨_, rfl, q2, k2⟩); exact absurd h h2; clear B2)
     | (go_at_call 122; refine Calls.mono (B3.out _ q2 (by simp)) ?_; rintro e W3 ⟨rfl, b3⟩; unfold ak))
    exact ⟨rfl, rfl, b3⟩
   | .ok ts s' =>
    rw [r3] at B3
    simp only [aC]
    have B4 : Bx (∀ U' W1 ns', RSs w0 rb ae aa TL xs U' W1 s' ns' -> _) := ⟨fun U' W1 ns' h => bF (U := U') hT hK h 41 (by decide) ⟨#[41]⟩ (by decide)⟩
    by_cases h4 : kd s' = 41
    ·rw [aG h4]
     have HE : Bx (∀ W1 W2 W3 W4 a c, (tl s).length + 1 = s.length -> af rb W W1 -> af rb W1 W2 -> s'.length + sizes ts + 0 <= (tl s).length -> RSs w0 rb ae aa TL xs (Uv U (.slice a ts.length c)) W3 s' (ns ++ ag ts ns.length) -> aQ W3 rb (.slice a ts.length c) (ends ts ns.length) -> af rb W2 W3 -> (∀ y, (Value.slice a ts.length c).ownBlock = some y -> W2.heap.size <= y) -> RSs w0 rb ae aa TL xs (Uv U (.slice a ts.length c)) W4 (tl s') (ns ++ ag ts ns.length) -> (tl s').length + 1 = s'.length -> af rb W3 W4 -> gF 1 w0 rb ae aa TL xs U W s ns (.ok ts (tl s')) (.returned (.slice a ts.length c)) W4) := ⟨fun W1 W2 W3 W4 a c l1 k1 k2 l3 q3 r3 k3 n3 q4 l4 k4 => by
      refine ⟨by omega, a, c, rfl, q4, q3.ints r3 k4, k1.trans (k2.trans (k3.trans k4)), fun y hy => ?_⟩
      have := n3 y hy
      have := k1.size
      have := k2.size
      omega⟩
     clear hne HP
     go_enter Tryz.func123, Tryz.ntmps123
     go_wp2_with (first
      | (go_at_call 85; refine Calls.mono (B1.out _ hS) ?_; rintro e W1 (⟨_, rfl, q1, l1, k1⟩ | ⟨h, _⟩); rotate_left 1; exact absurd h1 h; clear B1)
      | (go_at_call 102; refine Calls.mono (B2.out _ q1) ?_; rintro e W2 (⟨h, _⟩ | ⟨_, rfl, q2, k2⟩); exact absurd h h2; clear B2)
      | (go_at_call 122; refine Calls.mono (B3.out _ q2 (by simp)) ?_; rintro e W3 ⟨l3, a3, c3, rfl, q3, r3, k3, n3⟩; clear B3)
      | (go_at_call 85; refine Calls.mono (B4.out _ _ _ q3) ?_; rintro e W4 (⟨_, rfl, q4, l4, k4⟩ | ⟨h, _⟩); rotate_left 1; exact absurd h4 h; clear B4))
     go_ret
     exact HE.out _ _ _ _ _ _ l1 k1 k2 l3 q3 r3 k3 n3 q4 l4 k4
    ·rw [aL h4]
     clear hne HP
     go_enter Tryz.func123, Tryz.ntmps123
     go_wp2_with (first
      | (go_at_call 85; refine Calls.mono (B1.out _ hS) ?_; rintro e W1 (⟨_, rfl, q1, l1, k1⟩ | ⟨h, _⟩); rotate_left 1; exact absurd h1 h; clear B1)
      | (go_at_call 102; refine Calls.mono (B2.out _ q1) ?_; rintro e W2 (⟨h, _⟩ | ⟨_, rfl, q2, k2⟩); exact absurd h h2; clear B2)
      | (go_at_call 122; refine Calls.mono (B3.out _ q2 (by simp)) ?_; rintro e W3 ⟨l3, a3, c3, rfl, q3, r3, k3, n3⟩; clear B3)
      | (go_at_call 85; refine Calls.mono (B4.out _ _ _ q3) ?_; rintro e W4 (⟨h, _⟩ | ⟨_, rfl, b4⟩); exact absurd h h4; unfold ak))
     exact ⟨rfl, rfl, b4⟩
 ·rw [aL h1]
  clear hne HP
  go_enter Tryz.func123, Tryz.ntmps123
  go_wp2_with (first
   | (go_at_call 85; refine Calls.mono (B1.out _ hS) ?_; rintro e W1 (⟨h, _⟩ | ⟨_, rfl, b1⟩); exact absurd h h1; unfold ak))
  exact ⟨rfl, rfl, b1⟩
theorem wT (hT : RT w0 rb ae aa TL xs) (hK : aR TL) {f : Nat} (HP : ∀ f', f' < f -> LC 0 w0 rb ae aa TL xs (pF f' (.parted .expr)) 122 #[.func (.func 109) #[.pointer (some ⟨rb, 0, none⟩)] #[]]) :
  LC 1 w0 rb ae aa TL xs (pF f (.listed .expr)) 123 #[.func (.func 109) #[.pointer (some ⟨rb, 0, none⟩)] #[]] := by
 intro U W s ns hS hne
 show Calls Tryz.prog 123 #[.pointer (some ⟨rb, 0, none⟩), .func (.func 109) #[.pointer (some ⟨rb, 0, none⟩)] #[]] W _
 match f, HP, hne with
 | 0, _, hne => exact absurd rfl hne
 | f + 1, HP, hne =>
 have e0 : pF (f + 1) (.listed .expr) s = want 40 s fun s1 => if kd s1 = 41 then .ok [] (tl s1) else aC (pF f (.parted .expr) s1) fun a s2 => want 41 s2 fun s3 => .ok a s3 := rfl
 rw [e0] at hne ⊢
 have B1 : Bx (∀ W1, RSs w0 rb ae aa TL xs U W1 s ns -> _) := ⟨fun W1 h => bF hT hK h 40 (by decide) ⟨#[40]⟩ (by decide)⟩
 by_cases h1 : kd s = 40
 ·rw [aG h1] at hne ⊢
  have B2 : Bx (∀ W1, RSs w0 rb ae aa TL xs U W1 (tl s) ns -> _) := ⟨fun W1 h => iP hT hK h 41 (by decide) ⟨#[41]⟩ (by decide)⟩
  by_cases h2 : kd (tl s) = 41
  ·rw [if_pos h2]
   have HE : Bx (∀ W1 W2, (tl s).length + 1 = s.length -> af rb W W1 -> RSs w0 rb ae aa TL xs U W2 (tl (tl s)) ns -> (tl (tl s)).length + 1 = (tl s).length -> af rb W1 W2 -> gF 1 w0 rb ae aa TL xs U W s ns (.ok [] (tl (tl s))) (.returned (.slice none 0 0)) W2) := ⟨fun W1 W2 l1 k1 q2 l2 k2 => by
    refine ⟨by simp [sizes]; omega, none, 0, rfl, ?_, World.ownsRow_nil _ _ _ _, k1.trans k2, fun y hy => by simp [Value.ownBlock] at hy⟩
    have e : ns ++ ag [] ns.length = ns := by simp [ag]
    rw [e]
    exact q2.uv0⟩
   clear hne HP
   go_enter Tryz.func123, Tryz.ntmps123
   go_wp2_with (first
    | (go_at_call 85; refine Calls.mono (B1.out _ hS) ?_; rintro e W1 (⟨_, rfl, q1, l1, k1⟩ | ⟨h, _⟩); rotate_left 1; exact absurd h1 h; clear B1)
    | (go_at_call 102; refine Calls.mono (B2.out _ q1) ?_; rintro e W2 (⟨_, rfl, q2, l2, k2⟩ | ⟨h, _⟩); rotate_left 1; exact absurd h2 h; clear B2))
   go_ret
   exact HE.out _ _ l1 k1 q2 l2 k2
  ·rw [if_neg h2] at hne ⊢
   have B3 : Bx (∀ W1, RSs w0 rb ae aa TL xs U W1 (tl s) ns -> pF f (.parted .expr) (tl s) ≠ .out -> Calls Tryz.prog 122 #[.pointer (some ⟨rb, 0, none⟩), .func (.func 109) #[.pointer (some ⟨rb, 0, none⟩)] #[]] W1 (gF 0 w0 rb ae aa TL xs U W1 (tl s) ns (pF f (.parted .expr) (tl s)))) := ⟨fun W1 h hn => HP f (by omega) U W1 (tl s) ns h hn⟩
   match r3 : pF f (.parted .expr) (tl s) with
   | .out => rw [r3] at hne; exact absurd rfl hne
   | .err s' =>
    rw [r3] at B3
    clear hne HP
    go_enter Tryz.func123, Tryz.ntmps123
    go_wp2_with (first
     | (go_at_call 85; refine Calls.mono (B1.out _ hS) ?_; rintro e W1 (⟨_, rfl, q1, l1, k1⟩ | ⟨h, _⟩); rotate_left 1; exact absurd h1 h; clear B1)
     | (go_at_call 102; refine Calls.mono (B2.out _ q1) ?_; rintro e W2 (⟨h, _⟩ | ⟨_, rfl, q2, k2⟩); exact absurd h h2; clear B2)
     | (go_at_call 122; refine Calls.mono (B3.out _ q2 (by simp)) ?_; rintro e W3 ⟨rfl, b3⟩; unfold ak))
    exact ⟨rfl, rfl, b3⟩
   | .ok ts s' =>
    rw [r3] at B3
    simp only [aC]
    have B4 : Bx (∀ U' W1 ns', RSs w0 rb ae aa TL xs U' W1 s' ns' -> _) := ⟨fun U' W1 ns' h => bF (U := U') hT hK h 41 (by decide) ⟨#[41]⟩ (by decide)⟩
    by_cases h4 : kd s' = 41
    ·rw [aG h4]
     have HE : Bx (∀ W1 W2 W3 W4 a c, (tl s).length + 1 = s.length -> af rb W W1 -> af rb W1 W2 -> s'.length + sizes ts + 0 <= (tl s).length -> RSs w0 rb ae aa TL xs (Uv U (.slice a ts.length c)) W3 s' (ns ++ ag ts ns.length) -> aQ W3 rb (.slice a ts.length c) (ends ts ns.length) -> af rb W2 W3 -> (∀ y, (Value.slice a ts.length c).ownBlock = some y -> W2.heap.size <= y) -> RSs w0 rb ae aa TL xs (Uv U (.slice a ts.length c)) W4 (tl s') (ns ++ ag ts ns.length) -> (tl s').length + 1 = s'.length -> af rb W3 W4 -> gF 1 w0 rb ae aa TL xs U W s ns (.ok ts (tl s')) (.returned (.slice a ts.length c)) W4) := ⟨fun W1 W2 W3 W4 a c l1 k1 k2 l3 q3 r3 k3 n3 q4 l4 k4 => by
      refine ⟨by omega, a, c, rfl, q4, q3.ints r3 k4, k1.trans (k2.trans (k3.trans k4)), fun y hy => ?_⟩
      have := n3 y hy
      have := k1.size
      have := k2.size
      omega⟩
     clear hne HP
     go_enter Tryz.func123, Tryz.ntmps123
     go_wp2_with (first
      | (go_at_call 85; refine Calls.mono (B1.out _ hS) ?_; rintro e W1 (⟨_, rfl, q1, l1, k1⟩ | ⟨h, _⟩); rotate_left 1; exact absurd h1 h; clear B1)
      | (go_at_call 102; refine Calls.mono (B2.out _ q1) ?_; rintro e W2 (⟨h, _⟩ | ⟨_, rfl, q2, k2⟩); exact absurd h h2; clear B2)
      | (go_at_call 122; refine Calls.mono (B3.out _ q2 (by simp)) ?_; rintro e W3 ⟨l3, a3, c3, rfl, q3, r3, k3, n3⟩; clear B3)
      | (go_at_call 85; refine Calls.mono (B4.out _ _ _ q3) ?_; rintro e W4 (⟨_, rfl, q4, l4, k4⟩ | ⟨h, _⟩); rotate_left 1; exact absurd h4 h; clear B4))
     go_ret
     exact HE.out _ _ _ _ _ _ l1 k1 k2 l3 q3 r3 k3 n3 q4 l4 k4
    ·rw [aL h4]
     clear hne HP
     go_enter Tryz.func123, Tryz.ntmps123
     go_wp2_with (first
      | (go_at_call 85; refine Calls.mono (B1.out _ hS) ?_; rintro e W1 (⟨_, rfl, q1, l1, k1⟩ | ⟨h, _⟩); rotate_left 1; exact absurd h1 h; clear B1)
      | (go_at_call 102; refine Calls.mono (B2.out _ q1) ?_; rintro e W2 (⟨h, _⟩ | ⟨_, rfl, q2, k2⟩); exact absurd h h2; clear B2)
      | (go_at_call 122; refine Calls.mono (B3.out _ q2 (by simp)) ?_; rintro e W3 ⟨l3, a3, c3, rfl, q3, r3, k3, n3⟩; clear B3)
      | (go_at_call 85; refine Calls.mono (B4.out _ _ _ q3) ?_; rintro e W4 (⟨h, _⟩ | ⟨_, rfl, b4⟩); exact absurd h h4; unfold ak))
     exact ⟨rfl, rfl, b4⟩
 ·rw [aL h1]
  clear hne HP
  go_enter Tryz.func123, Tryz.ntmps123
  go_wp2_with (first
   | (go_at_call 85; refine Calls.mono (B1.out _ hS) ?_; rintro e W1 (⟨h, _⟩ | ⟨_, rfl, b1⟩); exact absurd h h1; unfold ak))
  exact ⟨rfl, rfl, b1⟩
theorem uZ (hT : RT w0 rb ae aa TL xs) (hK : aR TL) {f : Nat} (HP : ∀ f', f' < f -> LC 0 w0 rb ae aa TL xs (pF f' (.parted .param)) 122 #[.func (.func 152) #[.pointer (some ⟨rb, 0, none⟩)] #[]]) :
  LC 1 w0 rb ae aa TL xs (pF f (.listed .param)) 123 #[.func (.func 152) #[.pointer (some ⟨rb, 0, none⟩)] #[]] := by
 intro U W s ns hS hne
 show Calls Tryz.prog 123 #[.pointer (some ⟨rb, 0, none⟩), .func (.func 152) #[.pointer (some ⟨rb, 0, none⟩)] #[]] W _
 match f, HP, hne with
 | 0, _, hne => exact absurd rfl hne
 | f + 1, HP, hne =>
 have e0 : pF (f + 1) (.listed .param) s = want 40 s fun s1 => if kd s1 = 41 then .ok [] (tl s1) else aC (pF f (.parted .param) s1) fun a s2 => want 41 s2 fun s3 => .ok a s3 := rfl
 rw [e0] at hne ⊢
 have B1 : Bx (∀ W1, RSs w0 rb ae aa TL xs U W1 s ns -> _) := ⟨fun W1 h => bF hT hK h 40 (by decide) ⟨#[40]⟩ (by decide)⟩
 by_cases h1 : kd s = 40
 ·rw [aG h1] at hne ⊢
  have B2 : Bx (∀ W1, RSs w0 rb ae aa TL xs U W1 (tl s) ns -> _) := ⟨fun W1 h => iP hT hK h 41 (by decide) ⟨#[41]⟩ (by decide)⟩
  by_cases h2 : kd (tl s) = 41
  ·rw [if_pos h2]
   have HE : Bx (∀ W1 W2, (tl s).length + 1 = s.length -> af rb W W1 -> RSs w0 rb ae aa TL xs U W2 (tl (tl s)) ns -> (tl (tl s)).length + 1 = (tl s).length -> af rb W1 W2 -> gF 1 w0 rb ae aa TL xs U W s ns (.ok [] (tl (tl s))) (.returned (.slice none 0 0)) W2) := ⟨fun W1 W2 l1 k1 q2 l2 k2 => by
    refine ⟨by simp [sizes]; omega, none, 0, rfl, ?_, World.ownsRow_nil _ _ _ _, k1.trans k2, fun y hy => by simp [Value.ownBlock] at hy⟩
    have e : ns ++ ag [] ns.length = ns := by simp [ag]
    rw [e]
    exact q2.uv0⟩
   clear hne HP
   go_enter Tryz.func123, Tryz.ntmps123
   go_wp2_with (first
    | (go_at_call 85; refine Calls.mono (B1.out _ hS) ?_; rintro e W1 (⟨_, rfl, q1, l1, k1⟩ | ⟨h, _⟩); rotate_left 1; exact absurd h1 h; clear B1)
    | (go_at_call 102; refine Calls.mono (B2.out _ q1) ?_; rintro e W2 (⟨_, rfl, q2, l2, k2⟩ | ⟨h, _⟩); rotate_left 1; exact absurd h2 h; clear B2))
   go_ret
   exact HE.out _ _ l1 k1 q2 l2 k2
  ·rw [if_neg h2] at hne ⊢
   have B3 : Bx (∀ W1, RSs w0 rb ae aa TL xs U W1 (tl s) ns -> pF f (.parted .param) (tl s) ≠ .out -> Calls Tryz.prog 122 #[.pointer (some ⟨rb, 0, none⟩), .func (.func 152) #[.pointer (some ⟨rb, 0, none⟩)] #[]] W1 (gF 0 w0 rb ae aa TL xs U W1 (tl s) ns (pF f (.parted .param) (tl s)))) := ⟨fun W1 h hn => HP f (by omega) U W1 (tl s) ns h hn⟩
   match r3 : pF f (.parted .param) (tl s) with
   | .out => rw [r3] at hne; exact absurd rfl hne
   | .err s' =>
    rw [r3] at B3
    clear hne HP
    go_enter Tryz.func123, Tryz.ntmps123
    go_wp2_with (first
     | (go_at_call 85; refine Calls.mono (B1.out _ hS) ?_; rintro e W1 (⟨_, rfl, q1, l1, k1⟩ | ⟨h, _⟩); rotate_left 1; exact absurd h1 h; clear B1)
     | (go_at_call 102; refine Calls.mono (B2.out _ q1) ?_; rintro e W2 (⟨h, _⟩ | ⟨_, rfl, q2, k2⟩); exact absurd h h2; clear B2)
     | (go_at_call 122; refine Calls.mono (B3.out _ q2 (by simp)) ?_; rintro e W3 ⟨rfl, b3⟩; unfold ak))
    exact ⟨rfl, rfl, b3⟩
   | .ok ts s' =>
    rw [r3] at B3
    simp only [aC]
    have B4 : Bx (∀ U' W1 ns', RSs w0 rb ae aa TL xs U' W1 s' ns' -> _) := ⟨fun U' W1 ns' h => bF (U := U') hT hK h 41 (by decide) ⟨#[41]⟩ (by decide)⟩
    by_cases h4 : kd s' = 41
    ·rw [aG h4]
     have HE : Bx (∀ W1 W2 W3 W4 a c, (tl s).length + 1 = s.length -> af rb W W1 -> af rb W1 W2 -> s'.length + sizes ts + 0 <= (tl s).length -> RSs w0 rb ae aa TL xs (Uv U (.slice a ts.length c)) W3 s' (ns ++ ag ts ns.length) -> aQ W3 rb (.slice a ts.length c) (ends ts ns.length) -> af rb W2 W3 -> (∀ y, (Value.slice a ts.length c).ownBlock = some y -> W2.heap.size <= y) -> RSs w0 rb ae aa TL xs (Uv U (.slice a ts.length c)) W4 (tl s') (ns ++ ag ts ns.length) -> (tl s').length + 1 = s'.length -> af rb W3 W4 -> gF 1 w0 rb ae aa TL xs U W s ns (.ok ts (tl s')) (.returned (.slice a ts.length c)) W4) := ⟨fun W1 W2 W3 W4 a c l1 k1 k2 l3 q3 r3 k3 n3 q4 l4 k4 => by
      refine ⟨by omega, a, c, rfl, q4, q3.ints r3 k4, k1.trans (k2.trans (k3.trans k4)), fun y hy => ?_⟩
      have := n3 y hy
      have := k1.size
      have := k2.size
      omega⟩
     clear hne HP
     go_enter Tryz.func123, Tryz.ntmps123
     go_wp2_with (first
      | (go_at_call 85; refine Calls.mono (B1.out _ hS) ?_; rintro e W1 (⟨_, rfl, q1, l1, k1⟩ | ⟨h, _⟩); rotate_left 1; exact absurd h1 h; clear B1)
      | (go_at_call 102; refine Calls.mono (B2.out _ q1) ?_; rintro e W2 (⟨h, _⟩ | ⟨_, rfl, q2, k2⟩); exact absurd h h2; clear B2)
      | (go_at_call 122; refine Calls.mono (B3.out _ q2 (by simp)) ?_; rintro e W3 ⟨l3, a3, c3, rfl, q3, r3, k3, n3⟩; clear B3)
      | (go_at_call 85; refine Calls.mono (B4.out _ _ _ q3) ?_; rintro e W4 (⟨_, rfl, q4, l4, k4⟩ | ⟨h, _⟩); rotate_left 1; exact absurd h4 h; clear B4))
     go_ret
     exact HE.out _ _ _ _ _ _ l1 k1 k2 l3 q3 r3 k3 n3 q4 l4 k4
    ·rw [aL h4]
     clear hne HP
     go_enter Tryz.func123, Tryz.ntmps123
     go_wp2_with (first
      | (go_at_call 85; refine Calls.mono (B1.out _ hS) ?_; rintro e W1 (⟨_, rfl, q1, l1, k1⟩ | ⟨h, _⟩); rotate_left 1; exact absurd h1 h; clear B1)
      | (go_at_call 102; refine Calls.mono (B2.out _ q1) ?_; rintro e W2 (⟨h, _⟩ | ⟨_, rfl, q2, k2⟩); exact absurd h h2; clear B2)
      | (go_at_call 122; refine Calls.mono (B3.out _ q2 (by simp)) ?_; rintro e W3 ⟨l3, a3, c3, rfl, q3, r3, k3, n3⟩; clear B3)
      | (go_at_call 85; refine Calls.mono (B4.out _ _ _ q3) ?_; rintro e W4 (⟨h, _⟩ | ⟨_, rfl, b4⟩); exact absurd h h4; unfold ak))
     exact ⟨rfl, rfl, b4⟩
 ·rw [aL h1]
  clear hne HP
  go_enter Tryz.func123, Tryz.ntmps123
  go_wp2_with (first
   | (go_at_call 85; refine Calls.mono (B1.out _ hS) ?_; rintro e W1 (⟨h, _⟩ | ⟨_, rfl, b1⟩); exact absurd h h1; unfold ak))
  exact ⟨rfl, rfl, b1⟩
end Go.Proofs.YtecodpdfckjalaaGreatDoor
namespace Go.Proofs.YtecodpdfckjalaaGreatDoor
open Go.RowKit
variable {w0 : World} {rb : Nat} {ae aa : Value} {TL : List Tok} {xs : List UInt8} {U : Nat -> Prop}
theorem nz (hK : aR TL) (hT : RT w0 rb ae aa TL xs) {W : World} {s : List ai} {ns : List Nd} (h : RSs w0 rb ae aa TL xs U W s ns) : ∃ i : Nat, i <= 65537 /\ rb < W.heap.size /\ W.cell? ⟨rb, 2, none⟩ = some (.int .i64 i) /\ W.frozen? ⟨rb, 2, none⟩ = false /\
  (kd s ≠ 0 -> RSs w0 rb ae aa TL xs U (W.setCell ⟨rb, 2, none⟩ (.int .i64 ((i : Int) + 1))) (tl s) ns /\ (tl s).length + 1 = s.length /\ af rb W (W.setCell ⟨rb, 2, none⟩ (.int .i64 ((i : Int) + 1)))) := by
 obtain ⟨i, rfl, hi, hS, hni, hU⟩ := h
 obtain ⟨nv, hr, _⟩ := hS.rd
 obtain ⟨c0, c1, c2, c3, hlt⟩ := gT hr
 have hsm := hT.small
 refine ⟨i, by omega, hlt, c2, by simp [World.frozen?, hr, rdO], fun hk => ?_⟩
 obtain ⟨q1, q2⟩ := hS.step
 rw [iK hi] at hk
 exact ⟨⟨i + 1, by rw [ow hi], adv hK hi hk, q1, by omega, fun g hg => by have := hU g hg; simp; omega⟩, by rw [fQ hi]; rfl, q2⟩
theorem RSs.nA {W : World} {s : List ai} {ns : List Nd} (h : RSs w0 rb ae aa TL xs U W s ns) {x : Nat} (hx : rb < x) (ho : cZ W rb ≠ some x) {c : Array Value} {fr : Nat × Nat} (hty : W.heap[x]? = some (.cells c 44 fr)) (k : Nat) (v : Value) :
  RSs w0 rb ae aa TL xs U (W.setCell ⟨x, k, none⟩ v) s ns /\ ∀ W0, af rb W0 W -> W0.heap.size <= x -> af rb W0 (W.setCell ⟨x, k, none⟩ v) := by
 have same : ∀ y, y ≠ x -> (W.setCell ⟨x, k, none⟩ v).heap[y]? = W.heap[y]? := fun y hy => heap_setCell_other W ⟨x, k, none⟩ y _ hy
 obtain ⟨i, rfl, hi, hS, hni, hU⟩ := h
 obtain ⟨nv, h1, h2⟩ := hS.rd
 have h1' : (W.setCell ⟨x, k, none⟩ v).heap[rb]? = some (rdO ae aa i nv) := by rw [same rb (by omega)]; exact h1
 obtain ⟨ks, k1, k2, k3⟩ := h2.ex
 refine ⟨⟨i, rfl, hi, ⟨⟨nv, h1', ⟨ks, k1, ?_, fun j hj hj' => ⟨?_, (k3 j hj hj').2⟩⟩⟩, ?_⟩, hni, fun g hg => by have := hU g hg; simp; omega⟩, fun W0 hk hz => ?_⟩
 ·obtain ⟨q1, q2⟩ := k2
  refine ⟨q1, ?_⟩
  rcases q2 with q2 | ⟨gg, cp, cur, hv2, hg2, hh, hr2⟩
  ·exact .inl q2
  ·refine .inr ⟨gg, cp, cur, hv2, hg2, ?_, hr2⟩
   rw [same gg (fun e => ho (by rw [fO h1, hv2, ← e]; rfl))]
   exact hh
 ·obtain ⟨q1, q2⟩ := (k3 j hj hj').1
  refine ⟨q1, ?_⟩
  rcases q2 with q2 | ⟨gg, cp, cur, hv2, hg2, hh, hr2⟩
  ·exact .inl q2
  ·refine .inr ⟨gg, cp, cur, hv2, hg2, ?_, hr2⟩
   rw [same gg (fun e => ?_)]
   ·exact hh
   ·subst e
    rw [hh] at hty
    simp only [Option.some.injEq, Obj.cells.injEq] at hty
    exact absurd hty.2.1 (by decide)
 ·exact Below.setCell (p := ⟨x, k, none⟩) hS.bel (by show rb <= x; omega) _
 ·have hkz := hk.size
  refine ⟨by simp; omega, fun y hy hyr hyo => ?_, ?_⟩
  ·rw [same y (by omega)]
   exact hk.same y hy hyr hyo
  ·rw [fO h1', ← fO h1]
   exact hk.own
end Go.Proofs.YtecodpdfckjalaaGreatDoor
