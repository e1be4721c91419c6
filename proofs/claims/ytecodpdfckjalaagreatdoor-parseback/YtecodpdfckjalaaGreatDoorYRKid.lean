import Derived.Test.YtecodpdfckjalaaGreatDoorYRBx0
import Derived.Test.YtecodpdfckjalaaGreatDoorYRSim
set_option linter.unusedVariables false
set_option linter.unusedSimpArgs false
set_option maxHeartbeats 4000000
set_option maxRecDepth 100000
namespace Go.Proofs.YtecodpdfckjalaaGreatDoor
open Go.RowKit
variable {w0 : World} {rb : Nat} {ae aa : Value} {TL : List Tok} {xs : List UInt8} {U : Nat -> Prop}
def ja (w0 : World) (rb : Nat) (ae aa : Value) (TL : List Tok) (xs : List UInt8) (U : Nat -> Prop) (W : World) (s : List ai) (ns : List Nd) (kid : List Tr) (res : Res) (e : Ending) (W' : World) : Prop :=
 match res with
 | .ok ts s' => ts.length = 1 /\ s'.length + sizes ts <= s.length + sizes kid /\ e = .returned (.int .i64 ((ns.length + sizes ts - 1 : Nat) : Int)) /\ RSs w0 rb ae aa TL xs U W' s' (ns ++ ag ts ns.length) /\ af rb W W'
 | .err s' => e = ak (hd s').place /\ Below rb w0 W'
 | .out => False
theorem F6 (hT : RT w0 rb ae aa TL xs) {W0 W : World} {s0 s : List ai} {ns : List Nd} (kid a : List Tr) (h : RSs w0 rb ae aa TL xs U W s (ns ++ ag (kid ++ a) ns.length)) (hk0 : af rb W0 W) (hsz : s.length + sizes a + 1 <= s0.length) (h0 : ∃ W1, RSs w0 rb ae aa TL xs U W1 s0 (ns ++ ag kid ns.length)) (kind : Int) (p : Nat) (num : Int) (nm : List UInt8) (kv : Value) (ka : Option Addr) (n kc : Nat) (hn : n = (kid ++ a).length) (hI : aQ W rb (.slice ka n kc) (ends (kid ++ a) ns.length)) (hkU : ∀ g, ka = some ⟨g, 0, none⟩ -> ¬ U g) :
  Calls Tryz.prog 70 #[.pointer (some ⟨rb, 0, none⟩), .agg #[.int .i64 kind, .int .i64 p, kv, .string ⟨nm.toArray⟩, .int .i64 num], .slice ka n kc] W fun e W' => ∃ r : Int, e = .returned (.int .i64 r) /\ ja w0 rb ae aa TL xs U W0 s0 ns kid (.ok [.mk kind p num nm (kid ++ a)] s) (.returned (.int .i64 r)) W' := by
 obtain ⟨i, rfl, hi, hS, hni, hU⟩ := h
 obtain ⟨W1, i0, rfl, hi0, _, hni0, _⟩ := h0
 have hsm := hT.small
 have hel : ∀ (a : List Tr) (o : Nat), (ends a o).length = a.length := fun a => by
  induction a with
  | nil => intro o; rfl
  | cons t r ih => intro o; simp [ends, ih]
 have hn2 : n = (ends (kid ++ a) ns.length).length := by rw [hel]; exact hn
 subst hn2
 refine (uX hS kind p num ⟨nm.toArray⟩ kv ka kc (ends (kid ++ a) ns.length) hI hkU (by omega)).mono ?_
 rintro e W' ⟨rfl, q, k⟩
 have hs1 : sizes [Tr.mk kind p num nm (kid ++ a)] = sizes kid + sizes a + 1 := by simp [sizes, Tr.size, aI]
 have hf1 : ag [Tr.mk kind p num nm (kid ++ a)] ns.length = ag (kid ++ a) ns.length ++ [⟨kind, (p : Int), ends (kid ++ a) ns.length, ⟨nm.toArray⟩, num⟩] := by simp [ag, flat]
 refine ⟨_, rfl, rfl, by rw [hs1]; omega, ?_, ⟨i, rfl, hi, ?_, ?_, fun g hg => by have := hU g hg; have := k.size; omega⟩, hk0.trans k⟩
 ·rw [List.length_append, dU, hs1, aI]
  congr 2
 ·rw [hf1, ← List.append_assoc]
  exact q
 ·rw [hf1, List.length_append, List.length_append, dU, aI]
  simp only [List.length_append, dU] at hni hni0
  rw [aI] at hni
  unfold pts at hsz
  simp only [List.length_map, List.length_drop] at hsz
  simp
  omega
theorem Ce (hT : RT w0 rb ae aa TL xs) (hK : aR TL) {W : World} {s : List ai} {ns : List Nd} {kid : List Tr} (hk1 : kid.length = 1) (hS : RSs w0 rb ae aa TL xs U W s (ns ++ ag kid ns.length)) (v : Nat) (hv : v = ns.length + sizes kid - 1) :
  Calls Tryz.prog 145 #[.pointer (some ⟨rb, 0, none⟩), .int .i64 (v : Int)] W (ja w0 rb ae aa TL xs U W s ns kid (want 49 s fun s1 => gN s1 fun n s2 => .ok [.mk 25 (hd s).place n [] kid] s2)) := by
 have hrW := hS.lt
 have B1 : Bx (∀ W1, RSs w0 rb ae aa TL xs U W1 s (ns ++ ag kid ns.length) -> _) := ⟨fun W1 h => bF hT hK h 49 (by decide) ⟨#[46]⟩ (by decide)⟩
 have B2 : Bx (∀ W1, RSs w0 rb ae aa TL xs U W1 (tl s) (ns ++ ag kid ns.length) -> _) := ⟨fun W1 h => AP hT hK h⟩
 by_cases h1 : kd s = 49
 ·rw [aG h1]
  by_cases h2 : kd (tl s) = 2
  ·rw [wQ h2]
   have HD : Bx (∀ W1, RSs w0 rb ae aa TL xs U W1 (tl (tl s)) (ns ++ ag kid ns.length) -> af rb W W1 -> (tl (tl s)).length + 1 + 1 = s.length -> ∀ H : Nat, W1.heap.size = H -> ∀ kv, Calls Tryz.prog 70 #[.pointer (some ⟨rb, 0, none⟩), .agg #[.int .i64 25, .int .i64 (hd s).place, kv, .string ⟨#[]⟩, .int .i64 (hd (tl s)).num], .slice (some ⟨H, 0, none⟩) 1 1] (W1.alloc (.cells #[.int .i64 (v : Int)] 3)) fun e W' => ∃ r : Int, e = .returned (.int .i64 r) /\ ja w0 rb ae aa TL xs U W s ns kid (.ok [.mk 25 (hd s).place (hd (tl s)).num [] kid] (tl (tl s))) (.returned (.int .i64 r)) W') := ⟨fun W1 h hk hl H hH kv => by
    subst hH
    have hI := dz (rb := rb) (W := W1) (o := #[.int .i64 (v : Int)]) (ys := ends kid ns.length) (n := 1) (by rw [aK hk1]; rfl) (by decide) (by decide) h.lt (by rw [aK hk1, hv]; rfl)
    have h2 := F6 hT kid [] (s0 := s) (by rw [List.append_nil]; exact h.ext (ah W1 (.cells #[.int .i64 (v : Int)] 3))) (hk.trans (af.alloc h.lt _)) (by simp only [sizes]; omega) ⟨W, hS⟩ 25 (hd s).place (hd (tl s)).num [] kv (some ⟨W1.heap.size, 0, none⟩) 1 1 (by rw [List.append_nil]; exact hk1.symm) (by rw [List.append_nil]; exact hI) h.new
    rw [List.append_nil] at h2
    exact h2⟩
   show Calls _ _ _ _ (ja w0 rb ae aa TL xs U W s ns kid (.ok [.mk 25 (hd s).place (hd (tl s)).num [] kid] (tl (tl s))))
   clear hv hk1
   go_enter Tryz.func145, Tryz.ntmps145
   go_wp2_with (first
    | (go_at_call 85; refine Calls.mono (B1.out _ hS) ?_; rintro e W1 (⟨_, rfl, q1, l1, k1⟩ | ⟨h, _⟩); rotate_left 1; exact absurd h1 h; clear B1)
    | (go_at_call 151; refine Calls.mono (B2.out _ q1) ?_; rintro e W2 (⟨_, rfl, q2, l2, k2⟩ | ⟨h, _⟩); rotate_left 1; exact absurd h2 h; clear B2; have k3 := k1.trans k2)
    | (go_at_call 70; go_loud (refine Calls.mono (HD.out _ (q2.ext (ah _ _)) (k3.trans (af.alloc q2.lt _)) (by omega) (W2.heap.size + 1) (by simp) _) ?_; rintro e W9 ⟨r9, rfl, hp⟩)))
   go_ret
   exact hp
  ·rw [DU h2]
   go_enter Tryz.func145, Tryz.ntmps145
   go_wp2_with (first
    | (go_at_call 85; refine Calls.mono (B1.out _ hS) ?_; rintro e W1 (⟨_, rfl, q1, l1, k1⟩ | ⟨h, _⟩); rotate_left 1; exact absurd h1 h; clear B1)
    | (go_at_call 151; refine Calls.mono (B2.out _ q1) ?_; rintro e W2 (⟨h, _⟩ | ⟨_, rfl, b2⟩); exact absurd h h2; unfold ak))
   exact ⟨rfl, rfl, b2⟩
 ·rw [aL h1]
  go_enter Tryz.func145, Tryz.ntmps145
  go_wp2_with (first
   | (go_at_call 85; refine Calls.mono (B1.out _ hS) ?_; rintro e W1 (⟨h, _⟩ | ⟨_, rfl, b1⟩); exact absurd h h1; unfold ak))
  exact ⟨rfl, rfl, b1⟩
theorem Cf (hT : RT w0 rb ae aa TL xs) (hK : aR TL) {f : Nat} (HE : RC w0 rb ae aa TL xs (pF f (.operands 1)) 109 #[]) {W : World} {s : List ai} {ns : List Nd} {kid : List Tr} (hk1 : kid.length = 1) (hS : RSs w0 rb ae aa TL xs U W s (ns ++ ag kid ns.length)) (v : Nat) (hv : v = ns.length + sizes kid - 1) (hne : (want 42 s fun s1 => aC (pF f (.operands 1) s1) fun b s2 => want 43 s2 fun s3 => .ok [.mk 24 (hd s).place 0 [] (kid ++ b)] s3) ≠ .out) :
  Calls Tryz.prog 144 #[.pointer (some ⟨rb, 0, none⟩), .int .i64 (v : Int)] W (ja w0 rb ae aa TL xs U W s ns kid (want 42 s fun s1 => aC (pF f (.operands 1) s1) fun b s2 => want 43 s2 fun s3 => .ok [.mk 24 (hd s).place 0 [] (kid ++ b)] s3)) := by
 have hrW := hS.lt
 have B1 : Bx (∀ W1, RSs w0 rb ae aa TL xs U W1 s (ns ++ ag kid ns.length) -> _) := ⟨fun W1 h => bF hT hK h 42 (by decide) ⟨#[91]⟩ (by decide)⟩
 by_cases h1 : kd s = 42
 ·rw [aG h1] at hne ⊢
  have B2 : Bx (∀ W1, RSs w0 rb ae aa TL xs U W1 (tl s) (ns ++ ag kid ns.length) -> pF f (.operands 1) (tl s) ≠ .out -> Calls Tryz.prog 109 #[.pointer (some ⟨rb, 0, none⟩)] W1 (aj w0 rb ae aa TL xs U W1 (tl s) (ns ++ ag kid ns.length) (pF f (.operands 1) (tl s)))) := ⟨fun W1 h hn => HE U W1 (tl s) (ns ++ ag kid ns.length) h hn⟩
  match r2 : pF f (.operands 1) (tl s) with
  | .out => rw [r2] at hne; exact absurd rfl hne
  | .err s' =>
   rw [r2] at B2
   show Calls _ _ _ _ (ja w0 rb ae aa TL xs U W s ns kid (.err s'))
   go_enter Tryz.func144, Tryz.ntmps144
   go_wp2_with (first
    | (go_at_call 85; refine Calls.mono (B1.out _ hS) ?_; rintro e W1 (⟨_, rfl, q1, l1, k1⟩ | ⟨h, _⟩); rotate_left 1; exact absurd h1 h; clear B1)
    | (go_at_call 109; refine Calls.mono (B2.out _ (q1.ext (ah _ _)) (by simp)) ?_; rintro e W2 ⟨rfl, b2⟩; unfold ak))
   exact ⟨rfl, rfl, b2⟩
  | .ok ts2 s2 =>
   rw [r2] at B2 hne
   simp only [aC] at hne ⊢
   have B3 : Bx (∀ W1, RSs w0 rb ae aa TL xs U W1 s2 ((ns ++ ag kid ns.length) ++ ag ts2 (ns ++ ag kid ns.length).length) -> _) := ⟨fun W1 h => bF hT hK h 43 (by decide) ⟨#[93]⟩ (by decide)⟩
   by_cases h3 : kd s2 = 43
   ·rw [aG h3]
    have HD : Bx (∀ W1, RSs w0 rb ae aa TL xs U W1 (tl s2) ((ns ++ ag kid ns.length) ++ ag ts2 (ns ++ ag kid ns.length).length) -> af rb W W1 -> ∀ v2 : Nat, v2 = ((ns ++ ag kid ns.length).length + sizes ts2 - 1) -> ts2.length = 1 -> (tl s2).length + sizes ts2 + 1 <= s.length -> ∀ kv, Calls Tryz.prog 70 #[.pointer (some ⟨rb, 0, none⟩), .agg #[.int .i64 24, .int .i64 (hd s).place, kv, .string ⟨#[]⟩, .int .i64 0], .slice (some ⟨W1.heap.size, 0, none⟩) 2 2] (W1.alloc (.cells #[.int .i64 (v : Int), .int .i64 (v2 : Int)] 3)) fun e W' => ∃ r : Int, e = .returned (.int .i64 r) /\ ja w0 rb ae aa TL xs U W s ns kid (.ok [.mk 24 (hd s).place 0 [] (kid ++ ts2)] (tl s2)) (.returned (.int .i64 r)) W') := ⟨fun W1 h hk v2 hv2 e2 hl kv => by
     have en : ends (kid ++ ts2) ns.length = [(v : Int), (v2 : Int)] := by rw [bD, aK hk1, aK e2, hv, hv2, dV]; rfl
     have hI := dz (rb := rb) (W := W1) (o := #[.int .i64 (v : Int), .int .i64 (v2 : Int)]) (ys := ends (kid ++ ts2) ns.length) (n := 2) (by rw [en]; rfl) (by decide) (by decide) h.lt (by rw [en]; rfl)
     have h2 := h.ext (ah W1 (.cells #[.int .i64 (v : Int), .int .i64 (v2 : Int)] 3))
     rw [bP] at h2
     exact F6 hT kid ts2 h2 (hk.trans (af.alloc h.lt _)) hl ⟨W, hS⟩ 24 (hd s).place 0 [] kv (some ⟨W1.heap.size, 0, none⟩) 2 2 (by simp [hk1, e2]) hI h.new⟩
    show Calls _ _ _ _ (ja w0 rb ae aa TL xs U W s ns kid (.ok [.mk 24 (hd s).place 0 [] (kid ++ ts2)] (tl s2)))
    clear hv hk1
    go_enter Tryz.func144, Tryz.ntmps144
    go_wp2_with (first
     | (go_at_call 85; refine Calls.mono (B1.out _ hS) ?_; rintro e W1 (⟨_, rfl, q1, l1, k1⟩ | ⟨h, _⟩); rotate_left 1; exact absurd h1 h; clear B1)
     | (go_at_call 109; refine Calls.mono (B2.out _ (q1.ext (ah _ _)) (by simp)) ?_; rintro e W2 ⟨n2, l2, he, q2, k2⟩; obtain ⟨v2, hv2⟩ : ∃ r : Nat, r = ((ns ++ ag kid ns.length).length + sizes ts2 - 1) := ⟨_, rfl⟩; rw [← hv2] at he; subst he; have V2 : Bx _ := ⟨hv2⟩; clear hv2 B2)
     | (go_at_call 85; refine Calls.mono (B3.out _ q2) ?_; rintro e W3 (⟨_, rfl, q3, l3, k3⟩ | ⟨h, _⟩); rotate_left 1; exact absurd h3 h; clear B3; obtain ⟨x0, x1, x2, x3, x4, xlt⟩ := dw (jI q1 (k2.trans k3)); have k4 := k1.trans ((af.alloc q1.lt _).trans (k2.trans k3)); clear k2 k3)
     | (go_at_call 70; go_loud (refine Calls.mono (HD.out _ q3 k4 v2 V2.out n2 (by omega) _) ?_; rintro e W9 ⟨r9, rfl, hp⟩)))
    go_ret
    exact hp
   ·rw [aL h3]
    go_enter Tryz.func144, Tryz.ntmps144
    go_wp2_with (first
     | (go_at_call 85; refine Calls.mono (B1.out _ hS) ?_; rintro e W1 (⟨_, rfl, q1, l1, k1⟩ | ⟨h, _⟩); rotate_left 1; exact absurd h1 h; clear B1)
     | (go_at_call 109; refine Calls.mono (B2.out _ (q1.ext (ah _ _)) (by simp)) ?_; rintro e W2 ⟨n2, l2, he, q2, k2⟩; obtain ⟨v2, hv2⟩ : ∃ r : Nat, r = ((ns ++ ag kid ns.length).length + sizes ts2 - 1) := ⟨_, rfl⟩; rw [← hv2] at he; subst he; clear hv2 B2)
     | (go_at_call 85; refine Calls.mono (B3.out _ q2) ?_; rintro e W3 (⟨h, _⟩ | ⟨_, rfl, b3⟩); exact absurd h h3; unfold ak))
    exact ⟨rfl, rfl, b3⟩
 ·rw [aL h1]
  go_enter Tryz.func144, Tryz.ntmps144
  go_wp2_with (first
   | (go_at_call 85; refine Calls.mono (B1.out _ hS) ?_; rintro e W1 (⟨h, _⟩ | ⟨_, rfl, b1⟩); exact absurd h h1; unfold ak))
  exact ⟨rfl, rfl, b1⟩
end Go.Proofs.YtecodpdfckjalaaGreatDoor
namespace Go.Proofs.YtecodpdfckjalaaGreatDoor
open Go.RowKit
variable {w0 : World} {rb : Nat} {ae aa : Value} {TL : List Tok} {xs : List UInt8} {U : Nat -> Prop}
theorem RSs.DZ {W w1 : World} {s : List ai} {ns : List Nd} {v : Value} {ys : List Int} (h : RSs w0 rb ae aa TL xs (Uv U v) W s ns) (hv : aQ W rb v ys) (hg : W.grownBy w1 v.ownBlock) (g n cap : Nat) (hat : v.ownBlock = some g ∨ g = W.heap.size) (hlt : g < w1.heap.size) :
  RSs w0 rb ae aa TL xs (Uv U (.slice (some ⟨g, 0, none⟩) n cap)) w1 s ns /\ ∀ W0, af rb W0 W -> (∀ y, v.ownBlock = some y -> W0.heap.size <= y) -> af rb W0 w1 /\ W0.heap.size <= g := by
 have hr := h.lt
 have hz := hg.size
 have hvl : ∀ y, v.ownBlock = some y -> rb + 1 <= y /\ y < W.heap.size := fun y hy => by
  obtain ⟨cur, hh⟩ := kR hv hy
  exact ⟨(hv.lt y hy).1, aY hh⟩
 have same : ∀ x, x < W.heap.size -> v.ownBlock ≠ some x -> w1.heap[x]? = W.heap[x]? := fun x hx hne => by
  rw [hg.block x hx (fun e => hne e.symm)]
 obtain ⟨i, rfl, hi, hS, hni, hU⟩ := h
 obtain ⟨nv, h1, h2⟩ := hS.rd
 have h1' : w1.heap[rb]? = some (rdO ae aa i nv) := by
  rw [same rb hr (fun e => by have := hvl rb e; omega)]
  exact h1
 obtain ⟨ks, k1, k2, k3⟩ := h2.ex
 refine ⟨⟨i, rfl, hi, ⟨⟨nv, h1', ⟨ks, k1, ?_, fun j hj hj' => ⟨?_, ?_⟩⟩⟩, ?_⟩, hni, ?_⟩, fun W0 hk hfr => ?_⟩
 ·obtain ⟨q1, q2⟩ := k2
  refine ⟨q1, ?_⟩
  rcases q2 with q2 | ⟨gg, cp, cur, hv2, hg2, hh, hr2⟩
  ·exact .inl q2
  ·refine .inr ⟨gg, cp, cur, hv2, hg2, ?_, hr2⟩
   rw [same gg (aY hh) (fun e => ?_)]
   ·exact hh
   ·obtain ⟨c2, hh2⟩ := kR hv e
    rw [hh] at hh2
    simp only [Option.some.injEq, Obj.cells.injEq] at hh2
    exact absurd hh2.2.1 (by decide)
 ·obtain ⟨⟨q1, q2⟩, q3⟩ := k3 j hj hj'
  refine ⟨q1, ?_⟩
  rcases q2 with q2 | ⟨gg, cp, cur, hv2, hg2, hh, hr2⟩
  ·exact .inl q2
  ·refine .inr ⟨gg, cp, cur, hv2, hg2, ?_, hr2⟩
   rw [same gg (aY hh) (fun e => ?_)]
   ·exact hh
   ·simp only [Value.slice.injEq] at hv2
    exact q3 gg hv2.1 (.inr e)
 ·obtain ⟨⟨q1, q2⟩, q3⟩ := k3 j hj hj'
  intro y hy hyU
  rcases hyU with hyU | hyU
  ·exact q3 y hy (.inl hyU)
  ·simp [Value.ownBlock] at hyU
   subst hyU
   rcases hat with e | e
   ·exact q3 g hy (.inr e)
   ·rcases q2 with ⟨q2, _⟩ | ⟨gg, cp, cur, hv2, hg2, hh, hr2⟩
    ·simp only [Value.slice.injEq] at q2
     rw [q2.1] at hy
     cases hy
    ·simp only [Value.slice.injEq] at hv2
     rw [hv2.1] at hy
     simp at hy
     subst hy
     have := aY hh
     omega
 ·exact Below.grown hS.bel hg (by omega) (fun x hx => by have := hvl x hx; omega)
 ·intro y hy
  rcases hy with hy | hy
  ·have := hU y (.inl hy)
   omega
  ·simp [Value.ownBlock] at hy
   subst hy
   exact hlt
 ·have hkz := hk.size
  refine ⟨⟨by omega, fun x hx hxr ho => ?_, ?_⟩, ?_⟩
  ·rw [same x (by omega) (fun e => by have := hfr x e; omega)]
   exact hk.same x hx hxr ho
  ·rw [fO h1', ← fO h1]
   exact hk.own
  ·rcases hat with e | e
   ·exact hfr g e
   ·omega
theorem wU (W : World) {R n c m c2 : Nat} {a : Option Addr} (ys1 ys2 : List Int) (h1 : aQ W rb (.slice (some ⟨R, 0, none⟩) n c) ys1) (hn : n = ys1.length) (h2 : aQ W rb (.slice a m c2) ys2) (hm : m = ys2.length) (hs : n + m <= 200000) (hr : rb < W.heap.size) :
  ∃ g cp W3, (∀ ty, (Builtin.append_ #[39, 39] ty #[.slice (some ⟨R, 0, none⟩) n c, .slice a m c2]).run Tryz.prog W = .ok (.slice (some ⟨g, 0, none⟩) (n + m) cp) W3) /\ aQ W3 rb (.slice (some ⟨g, 0, none⟩) (n + m) cp) (ys1 ++ ys2) /\ W.grownBy W3 (some R) /\ (some R = some g ∨ g = W.heap.size) /\ g < W3.heap.size := by
 obtain ⟨i0, hi0, hz0, hz1, hz2⟩ := info_parts gu
 subst hn hm
 by_cases h0 : 0 < ys2.length
 ·obtain ⟨q1, q2⟩ := h2
  rcases q2 with ⟨q2, q3⟩ | ⟨b, cap, cur, hv, hb, hg, hc, hmx, hsz, ht⟩
  ·simp only [Value.slice.injEq] at q2
   omega
  ·simp only [Value.slice.injEq] at hv
   obtain ⟨rfl, _, rfl⟩ := hv
   obtain ⟨g, cp, W3, r1, r2, r3, r4, r5⟩ := run_append_lies (P := Tryz.prog) W 39 3 (rb + 1) 3 i0 (.int .i64 0) 1 8 Tryz.underlying39 hi0 hz0 hz1 hz2 rfl (by decide) _ _ _ h1 ⟨b, 0, none⟩ ys2.length c2 (bM ys2) (by simp [bM]) (by
    intro j u hu
    have hj : j < ys2.length := by
     rcases Nat.lt_or_ge j ys2.length with e | e
     ·exact e
     ·rw [List.getElem?_eq_none (by simp [bM]; exact e)] at hu; cases hu
    have ha : (⟨b, 0, none⟩ : Addr).add j = ⟨b, j, none⟩ := by unfold Addr.add; split <;> simp_all
    rw [ha, ← hu, ← ht, List.getElem?_take, if_pos (by omega)]
    simp [World.cell?, hg]) (by
    intro u hu
    unfold bM at hu
    rw [List.mem_map] at hu
    obtain ⟨x, _, rfl⟩ := hu
    rfl) h0 (by unfold maxLen; omega) (by omega) (by omega) W.heap.size rfl
   refine ⟨g, cp, W3, fun ty => r1, ?_, r3, ?_, r5⟩
   ·unfold aQ
    rw [List.length_append, bM, List.map_append]
    exact r2
   ·rcases r4 with e | e
    ·left; simpa [Value.ownBlock] using e
    ·exact .inr e
 ·have hx : ys2 = [] := List.eq_nil_of_length_eq_zero (by omega)
  subst hx
  have hR : R < W.heap.size := by
   obtain ⟨_, q2⟩ := h1
   rcases q2 with ⟨q2, _⟩ | ⟨b, cap, cur, hv, hb, hg, hc, hmx, hsz, ht⟩
   ·cases q2
   ·simp only [Value.slice.injEq, Option.some.injEq, Addr.mk.injEq] at hv
    rw [hv.1.1]
    exact aY hg
  refine ⟨R, c, W, fun ty => ?_, by simpa using h1, ⟨rfl, rfl, rfl, Nat.le_refl _, fun _ _ _ => rfl⟩, .inl rfl, hR⟩
  have hu : (Tryz.prog.underlying 39) = some (.slice 3) := Tryz.underlying39
  have hcp : ys1.length <= c := by
   obtain ⟨_, q2⟩ := h1
   rcases q2 with ⟨q2, _⟩ | ⟨b, cap, cur, hv, hb, hg, hc, hmx, hsz, ht⟩
   ·cases q2
   ·simp only [Value.slice.injEq, Option.some.injEq, Addr.mk.injEq] at hv
    omega
  cases a with
  | none => simp [Builtin.append_, run_underlying hu, sizeOf, typeInfo, hi0, Builtin.lenOf, Builtin.firstCells, storeCells, hcp]
  | some a => simp [Builtin.append_, run_underlying hu, sizeOf, typeInfo, hi0, Builtin.lenOf, Builtin.firstCells, storeCells, loadCells, loadCellsFrom, hcp]
theorem mi {P : Program} {w w' : World} {ops : Array Oper} {rest : List Oper} {o : Oper} {a : Act} {Q : Exit -> Act -> World -> Prop} (hgd : o.guard = none) (s x : Operand) (t : TypeId)
  (ho : o.op = .call { callee := .builtin .append, args := #[s, x], argTypes := #[t, t] }) {v u r : Value} (hs : a.eval s = v) (hx : a.eval x = u) (hr : ∀ ty, (Builtin.append_ #[t, t] ty #[v, u]).run P w = .ok r w')
  (h : wpList P ops Q rest (a.put o.dst r) w') : wpList P ops Q (o :: rest) a w := by
 refine wpList_plain hgd fun K hK => ?_
 unfold Oper.wp
 simp [execOp, ho, resolve, invoke, builtin, hs, hx, hr, Result.andThen]
 exact hK _ _ h
end Go.Proofs.YtecodpdfckjalaaGreatDoor
namespace Go.Proofs.YtecodpdfckjalaaGreatDoor
open Go.RowKit
variable {w0 : World} {rb : Nat} {ae aa : Value} {TL : List Tok} {xs : List UInt8} {U : Nat -> Prop}
theorem joined {W W2 W4 : World} {s2 s4 : List ai} {ns : List Nd} {a b : List Tr} {av : Option Addr} {c : Nat} (h0 : rb < W.heap.size) (q2 : RSs w0 rb ae aa TL xs U W2 s2 (ns ++ ag a ns.length)) (k2 : af rb W W2) (ha : a.length = 1) (v : Nat) (hv : v = ns.length + sizes a - 1) (k4 : af rb (W2.alloc (.cells #[.int .i64 (v : Int)] 3)) W4) (q4 : RSs w0 rb ae aa TL xs (Uv (Uv U (.slice (some ⟨W2.heap.size, 0, none⟩) 1 1)) (.slice av b.length c)) W4 s4 ((ns ++ ag a ns.length) ++ ag b (ns ++ ag a ns.length).length)) (r4 : aQ W4 rb (.slice av b.length c) (ends b (ns ++ ag a ns.length).length)) (hb : b.length <= 100000) :
  ∃ m gb cp W5, m = 1 + b.length /\ (∀ ty, (Builtin.append_ #[39, 39] ty #[(.slice (some ⟨W2.heap.size, 0, none⟩) 1 1), .slice av b.length c]).run Tryz.prog W4 = .ok (.slice (some ⟨gb, 0, none⟩) m cp) W5) /\ RSs w0 rb ae aa TL xs (Uv U (.slice (some ⟨gb, 0, none⟩) m cp)) W5 s4 (ns ++ ag (a ++ b) ns.length) /\ af rb W W5 /\ aQ W5 rb (.slice (some ⟨gb, 0, none⟩) m cp) (ends (a ++ b) ns.length) /\ W.heap.size <= gb := by
 have hz2 := k2.size
 have hr2 := q2.lt
 have wV := row_one (rb := rb) (W := W2) (v := v) hr2
 have q2' := q2.jd (.cells #[.int .i64 (v : Int)] 3)
 have row4 := q2'.ints wV k4
 obtain ⟨gb, cp, W5, run, I5, gr, hat, hlt⟩ := wU W4 [(v : Int)] (ends b (ns ++ ag a ns.length).length) row4 rfl r4 (by rw [cz]) (by omega) q4.lt
 have hk4 : af rb W W4 := k2.trans ((af.alloc hr2 _).trans k4)
 obtain ⟨p1, p2⟩ := (q4.jD (V := Uv U (.slice (some ⟨W2.heap.size, 0, none⟩) 1 1)) (fun y hy => .inl hy)).DZ row4 gr gb (1 + b.length) cp hat hlt
 obtain ⟨p3, p4⟩ := p2 W hk4 (fun y hy => by simp [Value.ownBlock] at hy; omega)
 have en : ends (a ++ b) ns.length = [(v : Int)] ++ ends b (ns ++ ag a ns.length).length := by rw [bD, aK ha, hv, dV]
 refine ⟨_, gb, cp, W5, rfl, run, ?_, p3, ?_, p4⟩
 ·rw [bP] at p1
  exact p1
 ·rw [en]
  exact I5
theorem sV (hT : RT w0 rb ae aa TL xs) (hK : aR TL) {f : Nat} (HT : RC w0 rb ae aa TL xs (pF f .typ) 87 #[]) (HP : LC 0 w0 rb ae aa TL xs (pF f (.parted .typ)) 122 #[.func (.func 87) #[.pointer (some ⟨rb, 0, none⟩)] #[]]) {W : World} {s : List ai} {ns : List Nd} (hS : RSs w0 rb ae aa TL xs U W s ns) (hne : (want 40 s fun s1 => aC (pF f .typ s1) fun a s2 => want 46 s2 fun s3 => aC (pF f (.parted .typ) s3) fun b s4 => want 41 s4 fun s5 => mk1 5 s 0 [] (a ++ b) s5) ≠ .out) :
  Calls Tryz.prog 107 #[.pointer (some ⟨rb, 0, none⟩)] W (aj w0 rb ae aa TL xs U W s ns (want 40 s fun s1 => aC (pF f .typ s1) fun a s2 => want 46 s2 fun s3 => aC (pF f (.parted .typ) s3) fun b s4 => want 41 s4 fun s5 => mk1 5 s 0 [] (a ++ b) s5)) := by
 have hrW := hS.lt
 have hsl : s.length <= 65537 := by
  obtain ⟨i, rfl, hi, _⟩ := hS
  have := hT.small
  unfold pts
  simp
  omega
 have B1 : Bx (∀ W1, RSs w0 rb ae aa TL xs U W1 s ns -> _) := ⟨fun W1 h => bF hT hK h 40 (by decide) ⟨#[40]⟩ (by decide)⟩
 by_cases h1 : kd s = 40
 ·rw [aG h1] at hne ⊢
  have B2 : Bx (∀ W1, RSs w0 rb ae aa TL xs U W1 (tl s) ns -> pF f .typ (tl s) ≠ .out -> Calls Tryz.prog 87 #[.pointer (some ⟨rb, 0, none⟩)] W1 (aj w0 rb ae aa TL xs U W1 (tl s) ns (pF f .typ (tl s)))) := ⟨fun W1 h hn => HT U W1 (tl s) ns h hn⟩
  match r2 : pF f .typ (tl s) with
  | .out => rw [r2] at hne; exact absurd rfl hne
  | .err s2 =>
   rw [r2] at B2
   show Calls _ _ _ _ (aj w0 rb ae aa TL xs U W s ns (.err s2))
   clear hne HP HT
   go_enter Tryz.func107, Tryz.ntmps107
   go_wp2_with (first
    | (go_at_call 85; refine Calls.mono (B1.out _ hS) ?_; rintro e W1 (⟨_, rfl, q1, l1, k1⟩ | ⟨h, _⟩); rotate_left 1; exact absurd h1 h; clear B1)
    | (go_at_call 87; refine Calls.mono (B2.out _ q1 (by simp)) ?_; rintro e W2 ⟨rfl, b⟩; unfold ak))
   exact ⟨rfl, rfl, b⟩
  | .ok a s2 =>
   rw [r2] at B2 hne
   simp only [aC] at hne ⊢
   have B3 : Bx (∀ U' W1 ns', RSs w0 rb ae aa TL xs U' W1 s2 ns' -> _) := ⟨fun U' W1 ns' h => bF (U := U') hT hK h 46 (by decide) ⟨#[44]⟩ (by decide)⟩
   by_cases h3 : kd s2 = 46
   ·rw [aG h3] at hne ⊢
    have B4 : Bx (∀ U' W1, RSs w0 rb ae aa TL xs U' W1 (tl s2) (ns ++ ag a ns.length) -> pF f (.parted .typ) (tl s2) ≠ .out -> Calls Tryz.prog 122 #[.pointer (some ⟨rb, 0, none⟩), .func (.func 87) #[.pointer (some ⟨rb, 0, none⟩)] #[]] W1 (gF 0 w0 rb ae aa TL xs U' W1 (tl s2) (ns ++ ag a ns.length) (pF f (.parted .typ) (tl s2)))) := ⟨fun U' W1 h hn => HP U' W1 (tl s2) (ns ++ ag a ns.length) h hn⟩
    match r4 : pF f (.parted .typ) (tl s2) with
    | .out => rw [r4] at hne; exact absurd rfl hne
    | .err s4 =>
     rw [r4] at B4
     show Calls _ _ _ _ (aj w0 rb ae aa TL xs U W s ns (.err s4))
     clear hne HP HT
     go_enter Tryz.func107, Tryz.ntmps107
     go_wp2_with (first
      | (go_at_call 85; refine Calls.mono (B1.out _ hS) ?_; rintro e W1 (⟨_, rfl, q1, l1, k1⟩ | ⟨h, _⟩); rotate_left 1; exact absurd h1 h; clear B1)
      | (go_at_call 87; refine Calls.mono (B2.out _ q1 (by simp)) ?_; rintro e W2 ⟨n2, l2, he, q2, k2⟩; obtain ⟨v, hv⟩ : ∃ r : Nat, r = (ns.length + sizes a - 1) := ⟨_, rfl⟩; rw [← hv] at he; subst he; have V : Bx _ := ⟨hv⟩; have q2' := q2.jd (.cells #[.int .i64 (v : Int)] 3); have Q2 : Bx _ := ⟨q2'⟩; have N2 : Bx _ := ⟨n2⟩; clear hv B2 q2' n2)
      | (go_at_call 85; refine Calls.mono (B3.out _ _ _ Q2.out) ?_; rintro e W3 (⟨_, rfl, q3, l3, k3⟩ | ⟨h, _⟩); rotate_left 1; exact absurd h3 h; clear B3 Q2)
      | (go_at_call 122; refine Calls.mono (B4.out _ _ q3 (by simp)) ?_; rintro e W4 ⟨rfl, b⟩; unfold ak))
     exact ⟨rfl, rfl, b⟩
    | .ok ts s4 =>
     rw [r4] at B4 hne
     have hge := dR ts
     have HJ : Bx (∀ W2 W4 v av c u, RSs w0 rb ae aa TL xs U W2 s2 (ns ++ ag a ns.length) -> af rb W W2 -> a.length = 1 -> v = ns.length + sizes a - 1 -> af rb (W2.alloc (.cells #[.int .i64 ((v : Nat) : Int)] 3)) W4 -> RSs w0 rb ae aa TL xs (Uv (Uv U (.slice (some ⟨W2.heap.size, 0, none⟩) 1 1)) (.slice av ts.length c)) W4 s4 ((ns ++ ag a ns.length) ++ ag ts (ns ++ ag a ns.length).length) -> aQ W4 rb (.slice av ts.length c) (ends ts (ns ++ ag a ns.length).length) -> ts.length <= 100000 -> _) := ⟨fun W2 W4 v av c (u : Unit) q2 k2 n2 hv k4 q4 r4 hl => joined (W := W) hrW q2 k2 n2 v hv k4 q4 r4 hl⟩
     simp only [] at hne ⊢
     have B5 : Bx (∀ U' W1 ns', RSs w0 rb ae aa TL xs U' W1 s4 ns' -> _) := ⟨fun U' W1 ns' h => bF (U := U') hT hK h 41 (by decide) ⟨#[41]⟩ (by decide)⟩
     by_cases h5 : kd s4 = 41
     ·rw [aG h5]
      have HD : Bx (∀ W5 W6 gb m c, RSs w0 rb ae aa TL xs (Uv U (.slice (some ⟨gb, 0, none⟩) m c)) W5 s4 (ns ++ ag (a ++ ts) ns.length) -> af rb W W5 -> m = 1 + ts.length -> aQ W5 rb (.slice (some ⟨gb, 0, none⟩) m c) (ends (a ++ ts) ns.length) -> W.heap.size <= gb -> RSs w0 rb ae aa TL xs (Uv U (.slice (some ⟨gb, 0, none⟩) m c)) W6 (tl s4) (ns ++ ag (a ++ ts) ns.length) -> af rb W5 W6 -> (tl s4).length + (sizes a + sizes ts) + 1 <= s.length -> ∀ kv, a.length = 1 -> Calls Tryz.prog 70 #[.pointer (some ⟨rb, 0, none⟩), .agg #[.int .i64 5, .int .i64 (hd s).place, kv, .string ⟨#[]⟩, .int .i64 0], .slice (some ⟨gb, 0, none⟩) m c] W6 fun e W' => ∃ r : Int, e = .returned (.int .i64 r) /\ aj w0 rb ae aa TL xs U W s ns (.ok [.mk 5 (hd s).place 0 [] (a ++ ts)] (tl s4)) (.returned (.int .i64 r)) W') := ⟨fun W5 W6 gb m c g1 g2 hm g3 g4 q6 k6 hl kv ha => fG hT (a ++ ts) (q6.jD (fun y hy => .inl hy)) (g2.trans k6) (by rw [aI]; omega) ⟨W, hS⟩ 5 (hd s).place 0 [] kv (some ⟨gb, 0, none⟩) m c (by simp [ha, hm]) (g1.ints g3 k6) (hS.nC (n := m) (c := c) (fun y hy => by simp [Value.ownBlock] at hy; omega))⟩
      show Calls _ _ _ _ (aj w0 rb ae aa TL xs U W s ns (.ok [.mk 5 (hd s).place 0 [] (a ++ ts)] (tl s4)))
      clear hne HP HT
      go_enter Tryz.func107, Tryz.ntmps107
      go_wp2_with (first
       | (go_at_call 85; refine Calls.mono (B1.out _ hS) ?_; rintro e W1 (⟨_, rfl, q1, l1, k1⟩ | ⟨h, _⟩); rotate_left 1; exact absurd h1 h; clear B1)
       | (go_at_call 87; refine Calls.mono (B2.out _ q1 (by simp)) ?_; rintro e W2 ⟨n2, l2, he, q2, k2⟩; obtain ⟨v, hv⟩ : ∃ r : Nat, r = (ns.length + sizes a - 1) := ⟨_, rfl⟩; rw [← hv] at he; subst he; have V : Bx _ := ⟨hv⟩; have q2' := q2.jd (.cells #[.int .i64 (v : Int)] 3); have Q2 : Bx _ := ⟨q2'⟩; have N2 : Bx _ := ⟨n2⟩; clear hv B2 q2' n2)
       | (go_at_call 85; refine Calls.mono (B3.out _ _ _ Q2.out) ?_; rintro e W3 (⟨_, rfl, q3, l3, k3⟩ | ⟨h, _⟩); rotate_left 1; exact absurd h3 h; clear B3 Q2)
       | (go_at_call 122; refine Calls.mono (B4.out _ _ q3 (by simp)) ?_; rintro e W4 ⟨l4, a4, c4, rfl, q4, r4, k4, n4⟩; clear B4; obtain ⟨m, gb, cp, W5, hm, run, g1, g2, g3, g4⟩ := HJ.out _ _ _ _ _ () q2 (k1.trans k2) N2.out V.out (k3.trans k4) q4 r4 (by omega); have G1 : Bx _ := ⟨g1⟩; have G2 : Bx _ := ⟨g2⟩; have G3 : Bx _ := ⟨g3⟩; have G4 : Bx _ := ⟨g4⟩; have HM : Bx _ := ⟨hm⟩; clear g1 g2 g3 g4 hm q4 r4 n4 k3 k4 q2 k2 q3)
       | (at_builtin; refine mi rfl (.tmp 12) (.tmp 16) 39 rfl rfl rfl run ?_; clear run)
       | (go_at_call 85; refine Calls.mono (B5.out _ _ _ G1.out) ?_; rintro e W6 (⟨_, rfl, q6, l6, k6⟩ | ⟨h, _⟩); rotate_left 1; exact absurd h5 h; clear B5; have Q6 : Bx _ := ⟨q6⟩; have K6 : Bx _ := ⟨k6⟩; clear q6 k6)
       | (go_at_call 70; go_loud (refine Calls.mono (HD.out _ _ _ _ _ G1.out G2.out HM.out G3.out G4.out Q6.out K6.out (by omega) _ N2.out) ?_; rintro e W9 ⟨r9, rfl, hp⟩)))
      go_ret
      exact hp
     ·rw [aL h5]
      show Calls _ _ _ _ (aj w0 rb ae aa TL xs U W s ns (.err s4))
      clear hne HP HT
      go_enter Tryz.func107, Tryz.ntmps107
      go_wp2_with (first
       | (go_at_call 85; refine Calls.mono (B1.out _ hS) ?_; rintro e W1 (⟨_, rfl, q1, l1, k1⟩ | ⟨h, _⟩); rotate_left 1; exact absurd h1 h; clear B1)
       | (go_at_call 87; refine Calls.mono (B2.out _ q1 (by simp)) ?_; rintro e W2 ⟨n2, l2, he, q2, k2⟩; obtain ⟨v, hv⟩ : ∃ r : Nat, r = (ns.length + sizes a - 1) := ⟨_, rfl⟩; rw [← hv] at he; subst he; have V : Bx _ := ⟨hv⟩; have q2' := q2.jd (.cells #[.int .i64 (v : Int)] 3); have Q2 : Bx _ := ⟨q2'⟩; have N2 : Bx _ := ⟨n2⟩; clear hv B2 q2' n2)
       | (go_at_call 85; refine Calls.mono (B3.out _ _ _ Q2.out) ?_; rintro e W3 (⟨_, rfl, q3, l3, k3⟩ | ⟨h, _⟩); rotate_left 1; exact absurd h3 h; clear B3 Q2)
       | (go_at_call 122; refine Calls.mono (B4.out _ _ q3 (by simp)) ?_; rintro e W4 ⟨l4, a4, c4, rfl, q4, r4, k4, n4⟩; clear B4; obtain ⟨m, gb, cp, W5, hm, run, g1, g2, g3, g4⟩ := HJ.out _ _ _ _ _ () q2 (k1.trans k2) N2.out V.out (k3.trans k4) q4 r4 (by omega); have G1 : Bx _ := ⟨g1⟩; have G2 : Bx _ := ⟨g2⟩; have G3 : Bx _ := ⟨g3⟩; have G4 : Bx _ := ⟨g4⟩; have HM : Bx _ := ⟨hm⟩; clear g1 g2 g3 g4 hm q4 r4 n4 k3 k4 q2 k2 q3)
       | (at_builtin; refine mi rfl (.tmp 12) (.tmp 16) 39 rfl rfl rfl run ?_; clear run)
       | (go_at_call 85; refine Calls.mono (B5.out _ _ _ G1.out) ?_; rintro e W6 (⟨h, _⟩ | ⟨_, rfl, b⟩); exact absurd h h5; unfold ak))
      exact ⟨rfl, rfl, b⟩
   ·rw [aL h3]
    show Calls _ _ _ _ (aj w0 rb ae aa TL xs U W s ns (.err s2))
    clear hne HP HT
    go_enter Tryz.func107, Tryz.ntmps107
    go_wp2_with (first
     | (go_at_call 85; refine Calls.mono (B1.out _ hS) ?_; rintro e W1 (⟨_, rfl, q1, l1, k1⟩ | ⟨h, _⟩); rotate_left 1; exact absurd h1 h; clear B1)
     | (go_at_call 87; refine Calls.mono (B2.out _ q1 (by simp)) ?_; rintro e W2 ⟨n2, l2, he, q2, k2⟩; obtain ⟨v, hv⟩ : ∃ r : Nat, r = (ns.length + sizes a - 1) := ⟨_, rfl⟩; rw [← hv] at he; subst he; have V : Bx _ := ⟨hv⟩; have q2' := q2.jd (.cells #[.int .i64 (v : Int)] 3); have Q2 : Bx _ := ⟨q2'⟩; have N2 : Bx _ := ⟨n2⟩; clear hv B2 q2' n2)
     | (go_at_call 85; refine Calls.mono (B3.out _ _ _ Q2.out) ?_; rintro e W3 (⟨h, _⟩ | ⟨_, rfl, b⟩); exact absurd h h3; unfold ak))
    exact ⟨rfl, rfl, b⟩
 ·rw [aL h1]
  show Calls _ _ _ _ (aj w0 rb ae aa TL xs U W s ns (.err s))
  clear hne HP HT
  go_enter Tryz.func107, Tryz.ntmps107
  go_wp2_with (first
   | (go_at_call 85; refine Calls.mono (B1.out _ hS) ?_; rintro e W1 (⟨h, _⟩ | ⟨_, rfl, b⟩); exact absurd h h1; unfold ak))
  exact ⟨rfl, rfl, b⟩
end Go.Proofs.YtecodpdfckjalaaGreatDoor
namespace Go.Proofs.YtecodpdfckjalaaGreatDoor
open Go.RowKit
variable {w0 : World} {rb : Nat} {ae aa : Value} {TL : List Tok} {xs : List UInt8} {U : Nat -> Prop}
def uf (w0 : World) (rb : Nat) (ae aa : Value) (TL : List Tok) (xs : List UInt8) (U : Nat -> Prop) (W0 : World) (s : List ai) (ns : List Nd) (acc : List Tr) (res : Res) (e : Ending) (W' : World) : Prop :=
 match res with
 | .ok b s' => s'.length + sizes b <= s.length /\ b.length <= 1 /\ ∃ a n c, n = acc.length + b.length /\ e = .returned (.tuple #[.slice a n c, .int .i64 (b.length : Int)]) /\ RSs w0 rb ae aa TL xs (Uv U (.slice a n c)) W' s' (ns ++ ag (acc ++ b) ns.length) /\ aQ W' rb (.slice a n c) (ends (acc ++ b) ns.length) /\ af rb W0 W' /\ ∀ y, (Value.slice a n c).ownBlock = some y -> W0.heap.size <= y
 | .err s' => e = ak (hd s').place /\ Below rb w0 W'
 | .out => False
theorem mq (hT : RT w0 rb ae aa TL xs) (hK : aR TL) {f : Nat} (HT : ∀ f', f' < f -> RC w0 rb ae aa TL xs (pF f' .typ) 87 #[]) (U : Nat -> Prop) (W0 W : World) (s : List ai) (ns : List Nd) (acc : List Tr) (a : Option Addr) (n c : Nat) (hn : n = acc.length) (hS : RSs w0 rb ae aa TL xs (Uv U (.slice a n c)) W s (ns ++ ag acc ns.length)) (hI : aQ W rb (.slice a n c) (ends acc ns.length)) (hk0 : af rb W0 W) (hnew : ∀ y, (Value.slice a n c).ownBlock = some y -> W0.heap.size <= y) (hac : acc.length <= 100000) (hne : pF f .result s ≠ .out) :
  Calls Tryz.prog 124 #[.pointer (some ⟨rb, 0, none⟩), (.slice a n c)] W (uf w0 rb ae aa TL xs U W0 s ns acc (pF f .result s)) := by
 match f, HT, hne with
 | 0, _, hne => exact absurd rfl hne
 | f + 1, HT, hne =>
 obtain ⟨i0, hi, hz0, hz1, hz2⟩ := info_parts gu
 have e0 : pF (f + 1) .result s = if kd s = 48 then pF f .typ (tl s) else .ok [] s := rfl
 rw [e0] at hne ⊢
 have B1 : Bx (∀ W1, RSs w0 rb ae aa TL xs (Uv U (.slice a n c)) W1 s (ns ++ ag acc ns.length) -> _) := ⟨fun W1 h => iP hT hK h 48 (by decide) ⟨#[58]⟩ (by decide)⟩
 by_cases h1 : kd s = 48
 ·rw [if_pos h1] at hne ⊢
  have B2 : Bx (∀ W1, RSs w0 rb ae aa TL xs (Uv U (.slice a n c)) W1 (tl s) (ns ++ ag acc ns.length) -> pF f .typ (tl s) ≠ .out -> Calls Tryz.prog 87 #[.pointer (some ⟨rb, 0, none⟩)] W1 (aj w0 rb ae aa TL xs (Uv U (.slice a n c)) W1 (tl s) (ns ++ ag acc ns.length) (pF f .typ (tl s)))) := ⟨fun W1 h hn => HT f (by omega) _ W1 (tl s) (ns ++ ag acc ns.length) h hn⟩
  match r2 : pF f .typ (tl s) with
  | .out => rw [r2] at hne; exact absurd rfl hne
  | .err s' =>
   rw [r2] at B2
   clear hne HT hnew hn
   go_enter Tryz.func124, Tryz.ntmps124
   go_wp2_with (first
    | (go_at_call 102; refine Calls.mono (B1.out _ hS) ?_; rintro e W1 (⟨_, rfl, q1, l1, k1⟩ | ⟨h, _⟩); rotate_left 1; exact absurd h1 h; clear B1)
    | (go_at_call 87; refine Calls.mono (B2.out _ q1 (by simp)) ?_; rintro e W2 ⟨rfl, b⟩; unfold ak))
   exact ⟨rfl, rfl, b⟩
  | .ok ts s' =>
   rw [r2] at B2
   have HN : Bx (∀ W1 W2, af rb W W1 -> af rb W1 W2 -> RSs w0 rb ae aa TL xs (Uv U (.slice a n c)) W2 s' ((ns ++ ag acc ns.length) ++ ag ts (ns ++ ag acc ns.length).length) -> ts.length = 1 -> (tl s).length + 1 = s.length -> s'.length + sizes ts <= (tl s).length -> ∀ v : Nat, v = ((ns ++ ag acc ns.length).length + sizes ts - 1) ->
     aQ W2 rb (.slice a n c) (ends acc ns.length) /\ ∀ g2 cp w4, (W2.alloc (.cells #[.int .i64 (v : Int)] 3)).grownBy w4 (Value.slice a n c).ownBlock -> ((Value.slice a n c).ownBlock = some g2 ∨ g2 = W2.heap.size + 1) -> g2 < w4.heap.size -> w4.ownsRow (rb + 1) 3 1 (.slice (some ⟨g2, 0, none⟩) (n + 1) cp) (n + 1) (bM (ends acc ns.length) ++ [.int .i64 (v : Int)]) -> uf w0 rb ae aa TL xs U W0 s ns acc (.ok ts s') (.returned (.tuple #[.slice (some ⟨g2, 0, none⟩) (n + 1) cp, .int .i64 1])) w4) := ⟨fun W1 W2 k1 k2 q2 n2 l1 l2 v hv => by
    have hrow := hS.ints hI (k1.trans k2)
    refine ⟨hrow, fun g2 cp w4 hg hat hl4 hown => ?_⟩
    obtain ⟨p1, p2⟩ := q2.grown hrow hg g2 (n + 1) cp hat hl4
    obtain ⟨p3, p4⟩ := p2 W0 (hk0.trans (k1.trans k2)) hnew
    have hends : ends (acc ++ ts) ns.length = ends acc ns.length ++ [(v : Int)] := by rw [bD, aK n2, hv, dV]
    refine ⟨by omega, by omega, some ⟨g2, 0, none⟩, n + 1, cp, by omega, by rw [n2]; rfl, ?_, ?_, p3, fun y hy => ?_⟩
    ·rw [bP] at p1
     exact p1
    ·unfold aQ
     rw [hends, List.length_append, cz, bM, List.map_append]
     subst hn
     exact hown
    ·simp [Value.ownBlock] at hy
     subst hy
     exact p4⟩
   have hnb : n <= 100000 := by omega
   have HA : Bx (∀ W2, aQ W2 rb (.slice a n c) (ends acc ns.length) -> W2.ownsRow (rb + 1) 3 1 (.slice a n c) n (bM (ends acc ns.length))) := ⟨fun W2 h => by
    unfold aQ at h
    rw [cz, ← hn] at h
    exact h⟩
   clear hne HT hnew hn
   go_enter Tryz.func124, Tryz.ntmps124
   go_wp2_with (first
    | (go_at_call 102; refine Calls.mono (B1.out _ hS) ?_; rintro e W1 (⟨_, rfl, q1, l1, k1⟩ | ⟨h, _⟩); rotate_left 1; exact absurd h1 h; clear B1)
    | (go_at_call 87; refine Calls.mono (B2.out _ q1 (by simp)) ?_; rintro e W2 ⟨n2, l2, he, q2, k2⟩; obtain ⟨v, hv⟩ : ∃ r : Nat, r = ((ns ++ ag acc ns.length).length + sizes ts - 1) := ⟨_, rfl⟩; rw [← hv] at he; subst he; obtain ⟨hrow, hnx⟩ := HN.out W1 W2 k1 k2 q2 n2 l1 l2 v hv; have NX : Bx _ := ⟨hnx⟩; have RW : Bx _ := ⟨hrow⟩; have hr3 := q2.lt; clear HN hnx hrow hv q2 q1 B2)
    | (at_builtin; refine wpList_append_lies _ rfl (.tmp 10) (.tmp 13) 39 rfl (rb + 1) 3 i0 (.int .i64 0) 1 8 Tryz.underlying39 hi hz0 hz1 hz2 rfl (by decide) (.slice a n c) n (bM (ends acc ns.length)) rfl (bO (HA.out _ RW.out) (ah W2 (.cells #[.int .i64 (v : Int)] 3))) ⟨W2.heap.size, 0, none⟩ 1 1 [.int .i64 (v : Int)] rfl rfl (dD _ _ rfl _) (eF _) (by decide) (by unfold maxLen; omega) (by omega) (by simp; omega) (W2.heap.size + 1) (by simp) ?_; intro g2 cp w4 hown hgrow hat hlt4; have LN := NX.out g2 cp w4 hgrow hat hlt4 hown; have LNB : Bx _ := ⟨LN⟩; clear hgrow hat hown LN))
   refine bodyPost_ret (v := .tuple #[.slice (some ⟨g2, 0, none⟩) (n + 1) cp, .int .i64 1]) (by simp [results, Tryz.results124, go_sem]) rfl ?_
   exact LNB.out
 ·rw [if_neg h1]
  have HE : Bx (∀ W1, RSs w0 rb ae aa TL xs (Uv U (.slice a n c)) W1 s (ns ++ ag acc ns.length) -> af rb W W1 -> uf w0 rb ae aa TL xs U W0 s ns acc (.ok [] s) (.returned (.tuple #[(.slice a n c), .int .i64 0])) W1) := ⟨fun W1 q1 k1 => by
   refine ⟨by simp [sizes], by simp, a, n, c, by simp [hn], rfl, ?_, ?_, hk0.trans k1, hnew⟩
   ·rw [List.append_nil]
    exact q1
   ·rw [List.append_nil]
    exact hS.ints hI k1⟩
  clear hne HT hnew hn
  go_enter Tryz.func124, Tryz.ntmps124
  go_wp2_with (first
   | (go_at_call 102; refine Calls.mono (B1.out _ hS) ?_; rintro e W1 (⟨h, _⟩ | ⟨_, rfl, q1, k1⟩); exact absurd h h1; clear B1))
  refine bodyPost_ret (v := .tuple #[.slice a n c, .int .i64 0]) (by simp [results, Tryz.results124, go_sem]) rfl ?_
  exact HE.out _ q1 k1
end Go.Proofs.YtecodpdfckjalaaGreatDoor
namespace Go.Proofs.YtecodpdfckjalaaGreatDoor
open Go.RowKit
variable {w0 : World} {rb : Nat} {ae aa : Value} {TL : List Tok} {xs : List UInt8} {U : Nat -> Prop}
theorem D5 {W W1 W3 : World} {s1 s3 : List ai} {ns n1 : List Nd} {k p num : Int} {nm : ByteArray} {v : Value} {ys : List Int} (z : Int) (q1 : RSs w0 rb ae aa TL xs U W1 s1 n1) (k1 : af rb W W1) (k3 : af rb (W1.alloc (bf k p nm num)) W3) (q3 : RSs w0 rb ae aa TL xs (Uv U v) W3 s3 ns) (r3 : aQ W3 rb v ys) (n3 : ∀ y, v.ownBlock = some y -> (W1.alloc (bf k p nm num)).heap.size <= y) :
  RSs w0 rb ae aa TL xs (Uv U v) (W3.setCell ⟨W1.heap.size, 4, none⟩ (.int .i64 z)) s3 ns /\ af rb W (W3.setCell ⟨W1.heap.size, 4, none⟩ (.int .i64 z)) /\ aQ (W3.setCell ⟨W1.heap.size, 4, none⟩ (.int .i64 z)) rb v ys /\ (∀ y, v.ownBlock = some y -> W.heap.size <= y) /\ (W3.setCell ⟨W1.heap.size, 4, none⟩ (.int .i64 z)).heap[W1.heap.size]? = some (bf k p nm z) /\ W1.heap.size < W3.heap.size /\ W3.cell? ⟨W1.heap.size, 4, none⟩ = some (.int .i64 num) /\ W3.frozen? ⟨W1.heap.size, 4, none⟩ = false /\ cZ (W3.setCell ⟨W1.heap.size, 4, none⟩ (.int .i64 z)) rb ≠ some W1.heap.size /\ rb < W1.heap.size := by
 have hz := k1.size
 have hr1 := q1.lt
 obtain ⟨hb, hown, hrx⟩ := bJ (o := bf k p nm num) q1 (Below.refl _ _)
 obtain ⟨hb3, ho3⟩ := bI k3 hb hrx hown
 obtain ⟨p1, p2⟩ := q3.nA hrx ho3 hb3 4 (.int .i64 z)
 have k5 : af rb W W3 := k1.trans ((af.alloc hr1 _).trans k3)
 refine ⟨p1, p2 W k5 hz, jK r3 (fun y hy => by have := n3 y hy; simp at this; omega), fun y hy => by have := n3 y hy; simp at this; omega, kS hb3, aY hb3, by simp [World.cell?, hb3, bf], by simp [World.frozen?, hb3, bf], ?_, hrx⟩
 have hrh : (W3.setCell ⟨W1.heap.size, 4, none⟩ (.int .i64 z)).heap[rb]? = W3.heap[rb]? := heap_setCell_other W3 ⟨W1.heap.size, 4, none⟩ rb _ (by show rb ≠ W1.heap.size; omega)
 unfold cZ
 rw [hrh]
 exact ho3
theorem u7 (hT : RT w0 rb ae aa TL xs) (hK : aR TL) {f : Nat} (HT : ∀ f', f' < f -> RC w0 rb ae aa TL xs (pF f' .typ) 87 #[]) (HL : LC 1 w0 rb ae aa TL xs (pF f (.listed .typ)) 123 #[.func (.func 87) #[.pointer (some ⟨rb, 0, none⟩)] #[]]) {W : World} {s : List ai} {ns : List Nd} (hS : RSs w0 rb ae aa TL xs U W s ns) (hne : (want 23 s fun s1 => aC (pF f (.listed .typ) s1) fun a s2 => aC (pF f .result s2) fun b s3 => mk1 7 s b.length [] (a ++ b) s3) ≠ .out) :
  Calls Tryz.prog 108 #[.pointer (some ⟨rb, 0, none⟩)] W (aj w0 rb ae aa TL xs U W s ns (want 23 s fun s1 => aC (pF f (.listed .typ) s1) fun a s2 => aC (pF f .result s2) fun b s3 => mk1 7 s b.length [] (a ++ b) s3)) := by
 have hrW := hS.lt
 have hsl : s.length <= 65537 := by
  obtain ⟨i, rfl, hi, _⟩ := hS
  have := hT.small
  unfold pts
  simp
  omega
 have B1 : Bx (∀ W1, RSs w0 rb ae aa TL xs U W1 s ns -> _) := ⟨fun W1 h => bF hT hK h 23 (by decide) ⟨#[112, 114, 111, 103]⟩ (by decide)⟩
 by_cases h1 : kd s = 23
 ·rw [aG h1] at hne ⊢
  have B2 : Bx (∀ W1, RSs w0 rb ae aa TL xs U W1 (tl s) ns -> pF f (.listed .typ) (tl s) ≠ .out -> Calls Tryz.prog 123 #[.pointer (some ⟨rb, 0, none⟩), .func (.func 87) #[.pointer (some ⟨rb, 0, none⟩)] #[]] W1 (gF 1 w0 rb ae aa TL xs U W1 (tl s) ns (pF f (.listed .typ) (tl s)))) := ⟨fun W1 h hn => HL U W1 (tl s) ns h hn⟩
  match r2 : pF f (.listed .typ) (tl s) with
  | .out => rw [r2] at hne; exact absurd rfl hne
  | .err s2 =>
   rw [r2] at B2
   show Calls _ _ _ _ (aj w0 rb ae aa TL xs U W s ns (.err s2))
   clear hne HL HT
   go_enter Tryz.func108, Tryz.ntmps108
   go_wp2_with (first
    | (go_at_call 85; refine Calls.mono (B1.out _ hS) ?_; rintro e W1 (⟨_, rfl, q1, l1, k1⟩ | ⟨h, _⟩); rotate_left 1; exact absurd h1 h; clear B1)
    | (go_at_call 123; refine Calls.mono (B2.out _ (q1.ext (ah _ _)) (by simp)) ?_; rintro e W2 ⟨rfl, b⟩; unfold ak))
   exact ⟨rfl, rfl, b⟩
  | .ok a s2 =>
   rw [r2] at B2 hne
   simp only [aC] at hne ⊢
   have hge := dR a
   have B3 : Bx (∀ W0 W2 av c, RSs w0 rb ae aa TL xs (Uv U (.slice av a.length c)) W2 s2 (ns ++ ag a ns.length) -> aQ W2 rb (.slice av a.length c) (ends a ns.length) -> af rb W0 W2 -> (∀ y, (Value.slice av a.length c).ownBlock = some y -> W0.heap.size <= y) -> a.length <= 100000 -> pF f .result s2 ≠ .out -> Calls Tryz.prog 124 #[.pointer (some ⟨rb, 0, none⟩), .slice av a.length c] W2 (uf w0 rb ae aa TL xs U W0 s2 ns a (pF f .result s2))) := ⟨fun W0 W2 av c q r k n hl hn => mq hT hK HT U W0 W2 s2 ns a av a.length c rfl q r k n hl hn⟩
   match r3 : pF f .result s2 with
   | .out => rw [r3] at hne; exact absurd rfl hne
   | .err s3 =>
    rw [r3] at B3
    show Calls _ _ _ _ (aj w0 rb ae aa TL xs U W s ns (.err s3))
    clear hne HL HT
    go_enter Tryz.func108, Tryz.ntmps108
    go_wp2_with (first
     | (go_at_call 85; refine Calls.mono (B1.out _ hS) ?_; rintro e W1 (⟨_, rfl, q1, l1, k1⟩ | ⟨h, _⟩); rotate_left 1; exact absurd h1 h; clear B1)
     | (go_at_call 123; refine Calls.mono (B2.out _ (q1.ext (ah _ _)) (by simp)) ?_; rintro e W2 ⟨l2, a2, c2, rfl, q2, r2, k2, n2⟩; have B3' := B3.out _ _ _ _ q2 r2 k2 n2 (by omega); have B4 : Bx _ := ⟨B3'⟩; clear B2 B3 B3' q2 r2 n2 k2)
     | (go_at_call 124; refine Calls.mono (B4.out (by simp)) ?_; rintro e W3 ⟨rfl, b⟩; unfold ak))
    exact ⟨rfl, rfl, b⟩
   | .ok b s3 =>
    rw [r3] at B3
    have HD : Bx (∀ W4 av m c z, RSs w0 rb ae aa TL xs (Uv U (.slice av m c)) W4 s3 (ns ++ ag (a ++ b) ns.length) -> af rb W W4 -> m = a.length + b.length -> z = (b.length : Int) -> aQ W4 rb (.slice av m c) (ends (a ++ b) ns.length) -> (∀ y, (Value.slice av m c).ownBlock = some y -> W.heap.size <= y) -> s3.length + (sizes a + sizes b) + 1 <= s.length -> ∀ kv, Calls Tryz.prog 70 #[.pointer (some ⟨rb, 0, none⟩), .agg #[.int .i64 7, .int .i64 (hd s).place, kv, .string ⟨#[]⟩, .int .i64 z], .slice av m c] W4 fun e W' => ∃ r : Int, e = .returned (.int .i64 r) /\ aj w0 rb ae aa TL xs U W s ns (.ok [.mk 7 (hd s).place b.length [] (a ++ b)] s3) (.returned (.int .i64 r)) W') := ⟨fun W4 av m c z g1 g2 hm hz g3 g4 hl kv => by
     subst hz
     exact fG hT (a ++ b) (g1.jD (fun y hy => .inl hy)) g2 (by rw [aI]; omega) ⟨W, hS⟩ 7 (hd s).place b.length [] kv av m c (by simp [hm]) g3 (hS.nC g4)⟩
    show Calls _ _ _ _ (aj w0 rb ae aa TL xs U W s ns (.ok [.mk 7 (hd s).place b.length [] (a ++ b)] s3))
    clear hne HL HT
    go_enter Tryz.func108, Tryz.ntmps108
    go_wp2_with (first
     | (go_at_call 85; refine Calls.mono (B1.out _ hS) ?_; rintro e W1 (⟨_, rfl, q1, l1, k1⟩ | ⟨h, _⟩); rotate_left 1; exact absurd h1 h; clear B1)
     | (go_at_call 123; refine Calls.mono (B2.out _ (q1.ext (ah _ _)) (by simp)) ?_; rintro e W2 ⟨l2, a2, c2, rfl, q2, r2, k2, n2⟩; have B3' := B3.out _ _ _ _ q2 r2 k2 n2 (by omega); have B4 : Bx _ := ⟨B3'⟩; clear B2 B3 B3' q2 r2 n2 k2)
     | (go_at_call 124; refine Calls.mono (B4.out (by simp)) ?_; rintro e W3 ⟨l3, n1, a3, m3, c3, hm3, he, q3, r3, k3, n3⟩; obtain ⟨z, hz⟩ : ∃ r : Int, r = (b.length : Int) := ⟨_, rfl⟩; rw [← hz] at he; subst he; obtain ⟨g1, g2, g3, g4, g5, g6, g7, g8, g9, g10⟩ := D5 z q1 k1 k3 q3 r3 n3; obtain ⟨y0, y1, y2, y3, y4, ylt⟩ := dw g5; have G1 : Bx _ := ⟨g1⟩; have G2 : Bx _ := ⟨g2⟩; have G3 : Bx _ := ⟨g3⟩; have G4 : Bx _ := ⟨g4⟩; have HM : Bx _ := ⟨hm3⟩; have HZ : Bx _ := ⟨hz⟩; clear g1 g2 g3 g4 g5 g9 hm3 hz n1 q3 r3 k3 n3 B4)
     | (go_at_call 70; go_loud (refine Calls.mono (HD.out _ _ _ _ _ G1.out G2.out HM.out HZ.out G3.out G4.out (by omega) _) ?_; rintro e W9 ⟨r9, rfl, hp⟩)))
    go_ret
    exact hp
 ·rw [aL h1]
  show Calls _ _ _ _ (aj w0 rb ae aa TL xs U W s ns (.err s))
  clear hne HL HT
  go_enter Tryz.func108, Tryz.ntmps108
  go_wp2_with (first
   | (go_at_call 85; refine Calls.mono (B1.out _ hS) ?_; rintro e W1 (⟨h, _⟩ | ⟨_, rfl, b⟩); exact absurd h h1; unfold ak))
  exact ⟨rfl, rfl, b⟩
end Go.Proofs.YtecodpdfckjalaaGreatDoor
