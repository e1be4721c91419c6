import Derived.Test.YtblhklbpcalglaaGreatDoorCRName2
import Derived.Test.YtblhklbpcalglaaGreatDoorCRTy2
namespace Go.Proofs.YtblhklbpcalglaaGreatDoor
open Go.RowKit
set_option linter.unusedVariables false
set_option linter.unusedSimpArgs false
variable {w0 : World} {rb : Nat} {srcV tokV : Value} {TL : List Tok} {xs : List UInt8} {U : Nat → Prop}
def PostK (w0 : World) (rb : Nat) (srcV tokV : Value) (TL : List Tok) (xs : List UInt8) (U : Nat → Prop) (W : World) (s : List PTok) (ns : List Nd) (kid : List Tr) (res : Res) (e : Ending) (W' : World) : Prop :=
  match res with
  | .ok ts s' => ts.length = 1 ∧ s'.length + sizes ts ≤ s.length + sizes kid ∧ e = .returned (.int .i64 ((ns.length + sizes ts - 1 : Nat) : Int)) ∧ RSs w0 rb srcV tokV TL xs U W' s' (ns ++ flats ts ns.length) ∧ KeepR rb W W'
  | .err s' => e = faultP (hd s').place ∧ Below rb w0 W'
  | .out => False
theorem addK (hT : RT w0 rb srcV tokV TL xs) {W0 W : World} {s0 s : List PTok} {ns : List Nd} (kid a : List Tr) (h : RSs w0 rb srcV tokV TL xs U W s (ns ++ flats (kid ++ a) ns.length)) (hk0 : KeepR rb W0 W) (hsz : s.length + sizes a + 1 ≤ s0.length) (h0 : ∃ W1, RSs w0 rb srcV tokV TL xs U W1 s0 (ns ++ flats kid ns.length)) (kind : Int) (p : Nat) (num : Int) (nm : List UInt8) (kv : Value) (ka : Option Addr) (n kc : Nat) (hn : n = (kid ++ a).length) (hI : IntsO W rb (.slice ka n kc) (ends (kid ++ a) ns.length)) (hkU : ∀ g, ka = some ⟨g, 0, none⟩ → ¬ U g) :
    Calls Tryz.prog 27 #[.pointer (some ⟨rb, 0, none⟩), .agg #[.int .i64 kind, .int .i64 p, kv, .string ⟨nm.toArray⟩, .int .i64 num], .slice ka n kc] W fun e W' => ∃ r : Int, e = .returned (.int .i64 r) ∧ PostK w0 rb srcV tokV TL xs U W0 s0 ns kid (.ok [.mk kind p num nm (kid ++ a)] s) (.returned (.int .i64 r)) W' := by
  obtain ⟨i, rfl, hi, hS, hni, hU⟩ := h
  obtain ⟨W1, i0, rfl, hi0, _, hni0, _⟩ := h0
  have hsm := hT.small
  have hel : ∀ (a : List Tr) (o : Nat), (ends a o).length = a.length := fun a => by
    induction a with
    | nil => intro o; rfl
    | cons t r ih => intro o; simp [ends, ih]
  have hn2 : n = (ends (kid ++ a) ns.length).length := by rw [hel]; exact hn
  subst hn2
  refine (add_any hS kind p num ⟨nm.toArray⟩ kv ka kc (ends (kid ++ a) ns.length) hI hkU (by omega)).mono ?_
  rintro e W' ⟨rfl, q, k⟩
  have hs1 : sizes [Tr.mk kind p num nm (kid ++ a)] = sizes kid + sizes a + 1 := by simp [sizes, Tr.size, sizes_append]
  have hf1 : flats [Tr.mk kind p num nm (kid ++ a)] ns.length = flats (kid ++ a) ns.length ++ [⟨kind, (p : Int), ends (kid ++ a) ns.length, ⟨nm.toArray⟩, num⟩] := by simp [flats, flat]
  refine ⟨_, rfl, rfl, by rw [hs1]; omega, ?_, ⟨i, rfl, hi, ?_, ?_, fun g hg => by have := hU g hg; have := k.size; omega⟩, hk0.trans k⟩
  · rw [List.length_append, flats_len, hs1, sizes_append]
    congr 2
  · rw [hf1, ← List.append_assoc]
    exact q
  · rw [hf1, List.length_append, List.length_append, flats_len, sizes_append]
    simp only [List.length_append, flats_len] at hni hni0
    rw [sizes_append] at hni
    unfold pts at hsz
    simp only [List.length_map, List.length_drop] at hsz
    simp
    omega
set_option maxRecDepth 100000 in
set_option maxHeartbeats 400000 in
theorem field_any (hT : RT w0 rb srcV tokV TL xs) (hK : Kinds TL) {W : World} {s : List PTok} {ns : List Nd} {kid : List Tr} (hk1 : kid.length = 1) (hS : RSs w0 rb srcV tokV TL xs U W s (ns ++ flats kid ns.length)) (v : Nat) (hv : v = ns.length + sizes kid - 1) :
    Calls Tryz.prog 85 #[.pointer (some ⟨rb, 0, none⟩), .int .i64 (v : Int)] W (PostK w0 rb srcV tokV TL xs U W s ns kid (want 49 s fun s1 => numK s1 fun n s2 => .ok [.mk 25 (hd s).place n [] kid] s2)) := by
  have hrW := hS.lt
  have B1 : Bx (∀ W1, RSs w0 rb srcV tokV TL xs U W1 s (ns ++ flats kid ns.length) → _) := ⟨fun W1 h => wantS hT hK h 49 (by decide) ⟨#[46]⟩ (by decide)⟩
  have B2 : Bx (∀ W1, RSs w0 rb srcV tokV TL xs U W1 (tl s) (ns ++ flats kid ns.length) → _) := ⟨fun W1 h => numberS hT hK h⟩
  by_cases h1 : kd s = 49
  · rw [want_pos h1]
    by_cases h2 : kd (tl s) = 2
    · rw [numK_pos h2]
      have HD : Bx (∀ W1, RSs w0 rb srcV tokV TL xs U W1 (tl (tl s)) (ns ++ flats kid ns.length) → KeepR rb W W1 → (tl (tl s)).length + 1 + 1 = s.length → ∀ H : Nat, W1.heap.size = H → ∀ kv, Calls Tryz.prog 27 #[.pointer (some ⟨rb, 0, none⟩), .agg #[.int .i64 25, .int .i64 (hd s).place, kv, .string ⟨#[]⟩, .int .i64 (hd (tl s)).num], .slice (some ⟨H, 0, none⟩) 1 1] (W1.alloc (.cells #[.int .i64 (v : Int)] 3)) fun e W' => ∃ r : Int, e = .returned (.int .i64 r) ∧ PostK w0 rb srcV tokV TL xs U W s ns kid (.ok [.mk 25 (hd s).place (hd (tl s)).num [] kid] (tl (tl s))) (.returned (.int .i64 r)) W') := ⟨fun W1 h hk hl H hH kv => by
        subst hH
        have hI := ints_new (rb := rb) (W := W1) (o := #[.int .i64 (v : Int)]) (ys := ends kid ns.length) (n := 1) (by rw [ends_one hk1]; rfl) (by decide) (by decide) h.lt (by rw [ends_one hk1, hv]; rfl)
        have h2 := addK hT kid [] (s0 := s) (by rw [List.append_nil]; exact h.ext (below1 W1 (.cells #[.int .i64 (v : Int)] 3))) (hk.trans (KeepR.alloc h.lt _)) (by simp only [sizes]; omega) ⟨W, hS⟩ 25 (hd s).place (hd (tl s)).num [] kv (some ⟨W1.heap.size, 0, none⟩) 1 1 (by rw [List.append_nil]; exact hk1.symm) (by rw [List.append_nil]; exact hI) h.new
        rw [List.append_nil] at h2
        exact h2⟩
      show Calls _ _ _ _ (PostK w0 rb srcV tokV TL xs U W s ns kid (.ok [.mk 25 (hd s).place (hd (tl s)).num [] kid] (tl (tl s))))
      clear hv hk1
      go_enter Tryz.func85, Tryz.ntmps85
      go_wp2_with (first
        | (go_at_call 34; refine Calls.mono (B1.out _ hS) ?_; rintro e W1 (⟨_, rfl, q1, l1, k1⟩ | ⟨h, _⟩); rotate_left 1; exact absurd h1 h; clear B1)
        | (go_at_call 92; refine Calls.mono (B2.out _ q1) ?_; rintro e W2 (⟨_, rfl, q2, l2, k2⟩ | ⟨h, _⟩); rotate_left 1; exact absurd h2 h; clear B2; have k3 := k1.trans k2)
        | (go_at_call 27; go_loud (refine Calls.mono (HD.out _ (q2.ext (below1 _ _)) (k3.trans (KeepR.alloc q2.lt _)) (by omega) (W2.heap.size + 1) (by simp) _) ?_; rintro e W9 ⟨r9, rfl, hp⟩)))
      go_ret
      exact hp
    · rw [numK_neg h2]
      go_enter Tryz.func85, Tryz.ntmps85
      go_wp2_with (first
        | (go_at_call 34; refine Calls.mono (B1.out _ hS) ?_; rintro e W1 (⟨_, rfl, q1, l1, k1⟩ | ⟨h, _⟩); rotate_left 1; exact absurd h1 h; clear B1)
        | (go_at_call 92; refine Calls.mono (B2.out _ q1) ?_; rintro e W2 (⟨h, _⟩ | ⟨_, rfl, b2⟩); exact absurd h h2; unfold faultP))
      exact ⟨rfl, rfl, b2⟩
  · rw [want_neg h1]
    go_enter Tryz.func85, Tryz.ntmps85
    go_wp2_with (first
      | (go_at_call 34; refine Calls.mono (B1.out _ hS) ?_; rintro e W1 (⟨h, _⟩ | ⟨_, rfl, b1⟩); exact absurd h h1; unfold faultP))
    exact ⟨rfl, rfl, b1⟩
set_option maxRecDepth 100000 in
set_option maxHeartbeats 400000 in
theorem index_any (hT : RT w0 rb srcV tokV TL xs) (hK : Kinds TL) {f : Nat} (HE : RC w0 rb srcV tokV TL xs (pF f (.operands 1)) 56 #[]) {W : World} {s : List PTok} {ns : List Nd} {kid : List Tr} (hk1 : kid.length = 1) (hS : RSs w0 rb srcV tokV TL xs U W s (ns ++ flats kid ns.length)) (v : Nat) (hv : v = ns.length + sizes kid - 1) (hne : (want 42 s fun s1 => andT (pF f (.operands 1) s1) fun b s2 => want 43 s2 fun s3 => .ok [.mk 24 (hd s).place 0 [] (kid ++ b)] s3) ≠ .out) :
    Calls Tryz.prog 84 #[.pointer (some ⟨rb, 0, none⟩), .int .i64 (v : Int)] W (PostK w0 rb srcV tokV TL xs U W s ns kid (want 42 s fun s1 => andT (pF f (.operands 1) s1) fun b s2 => want 43 s2 fun s3 => .ok [.mk 24 (hd s).place 0 [] (kid ++ b)] s3)) := by
  have hrW := hS.lt
  have B1 : Bx (∀ W1, RSs w0 rb srcV tokV TL xs U W1 s (ns ++ flats kid ns.length) → _) := ⟨fun W1 h => wantS hT hK h 42 (by decide) ⟨#[91]⟩ (by decide)⟩
  by_cases h1 : kd s = 42
  · rw [want_pos h1] at hne ⊢
    have B2 : Bx (∀ W1, RSs w0 rb srcV tokV TL xs U W1 (tl s) (ns ++ flats kid ns.length) → pF f (.operands 1) (tl s) ≠ .out → Calls Tryz.prog 56 #[.pointer (some ⟨rb, 0, none⟩)] W1 (Post1 w0 rb srcV tokV TL xs U W1 (tl s) (ns ++ flats kid ns.length) (pF f (.operands 1) (tl s)))) := ⟨fun W1 h hn => HE U W1 (tl s) (ns ++ flats kid ns.length) h hn⟩
    match r2 : pF f (.operands 1) (tl s) with
    | .out => rw [r2] at hne; exact absurd rfl hne
    | .err s' =>
      rw [r2] at B2
      show Calls _ _ _ _ (PostK w0 rb srcV tokV TL xs U W s ns kid (.err s'))
      go_enter Tryz.func84, Tryz.ntmps84
      go_wp2_with (first
        | (go_at_call 34; refine Calls.mono (B1.out _ hS) ?_; rintro e W1 (⟨_, rfl, q1, l1, k1⟩ | ⟨h, _⟩); rotate_left 1; exact absurd h1 h; clear B1)
        | (go_at_call 56; refine Calls.mono (B2.out _ (q1.ext (below1 _ _)) (by simp)) ?_; rintro e W2 ⟨rfl, b2⟩; unfold faultP))
      exact ⟨rfl, rfl, b2⟩
    | .ok ts2 s2 =>
      rw [r2] at B2 hne
      simp only [andT] at hne ⊢
      have B3 : Bx (∀ W1, RSs w0 rb srcV tokV TL xs U W1 s2 ((ns ++ flats kid ns.length) ++ flats ts2 (ns ++ flats kid ns.length).length) → _) := ⟨fun W1 h => wantS hT hK h 43 (by decide) ⟨#[93]⟩ (by decide)⟩
      by_cases h3 : kd s2 = 43
      · rw [want_pos h3]
        have HD : Bx (∀ W1, RSs w0 rb srcV tokV TL xs U W1 (tl s2) ((ns ++ flats kid ns.length) ++ flats ts2 (ns ++ flats kid ns.length).length) → KeepR rb W W1 → ∀ v2 : Nat, v2 = ((ns ++ flats kid ns.length).length + sizes ts2 - 1) → ts2.length = 1 → (tl s2).length + sizes ts2 + 1 ≤ s.length → ∀ kv, Calls Tryz.prog 27 #[.pointer (some ⟨rb, 0, none⟩), .agg #[.int .i64 24, .int .i64 (hd s).place, kv, .string ⟨#[]⟩, .int .i64 0], .slice (some ⟨W1.heap.size, 0, none⟩) 2 2] (W1.alloc (.cells #[.int .i64 (v : Int), .int .i64 (v2 : Int)] 3)) fun e W' => ∃ r : Int, e = .returned (.int .i64 r) ∧ PostK w0 rb srcV tokV TL xs U W s ns kid (.ok [.mk 24 (hd s).place 0 [] (kid ++ ts2)] (tl s2)) (.returned (.int .i64 r)) W') := ⟨fun W1 h hk v2 hv2 e2 hl kv => by
          have en : ends (kid ++ ts2) ns.length = [(v : Int), (v2 : Int)] := by rw [ends_append, ends_one hk1, ends_one e2, hv, hv2, two_len]; rfl
          have hI := ints_new (rb := rb) (W := W1) (o := #[.int .i64 (v : Int), .int .i64 (v2 : Int)]) (ys := ends (kid ++ ts2) ns.length) (n := 2) (by rw [en]; rfl) (by decide) (by decide) h.lt (by rw [en]; rfl)
          have h2 := h.ext (below1 W1 (.cells #[.int .i64 (v : Int), .int .i64 (v2 : Int)] 3))
          rw [two_lists] at h2
          exact addK hT kid ts2 h2 (hk.trans (KeepR.alloc h.lt _)) hl ⟨W, hS⟩ 24 (hd s).place 0 [] kv (some ⟨W1.heap.size, 0, none⟩) 2 2 (by simp [hk1, e2]) hI h.new⟩
        show Calls _ _ _ _ (PostK w0 rb srcV tokV TL xs U W s ns kid (.ok [.mk 24 (hd s).place 0 [] (kid ++ ts2)] (tl s2)))
        clear hv hk1
        go_enter Tryz.func84, Tryz.ntmps84
        go_wp2_with (first
          | (go_at_call 34; refine Calls.mono (B1.out _ hS) ?_; rintro e W1 (⟨_, rfl, q1, l1, k1⟩ | ⟨h, _⟩); rotate_left 1; exact absurd h1 h; clear B1)
          | (go_at_call 56; refine Calls.mono (B2.out _ (q1.ext (below1 _ _)) (by simp)) ?_; rintro e W2 ⟨n2, l2, he, q2, k2⟩; obtain ⟨v2, hv2⟩ : ∃ r : Nat, r = ((ns ++ flats kid ns.length).length + sizes ts2 - 1) := ⟨_, rfl⟩; rw [← hv2] at he; subst he; have V2 : Bx _ := ⟨hv2⟩; clear hv2 B2)
          | (go_at_call 34; refine Calls.mono (B3.out _ q2) ?_; rintro e W3 (⟨_, rfl, q3, l3, k3⟩ | ⟨h, _⟩); rotate_left 1; exact absurd h3 h; clear B3; obtain ⟨x0, x1, x2, x3, x4, xlt⟩ := box5 (box_keep q1 (k2.trans k3)); have k4 := k1.trans ((KeepR.alloc q1.lt _).trans (k2.trans k3)); clear k2 k3)
          | (go_at_call 27; go_loud (refine Calls.mono (HD.out _ q3 k4 v2 V2.out n2 (by omega) _) ?_; rintro e W9 ⟨r9, rfl, hp⟩)))
        go_ret
        exact hp
      · rw [want_neg h3]
        go_enter Tryz.func84, Tryz.ntmps84
        go_wp2_with (first
          | (go_at_call 34; refine Calls.mono (B1.out _ hS) ?_; rintro e W1 (⟨_, rfl, q1, l1, k1⟩ | ⟨h, _⟩); rotate_left 1; exact absurd h1 h; clear B1)
          | (go_at_call 56; refine Calls.mono (B2.out _ (q1.ext (below1 _ _)) (by simp)) ?_; rintro e W2 ⟨n2, l2, he, q2, k2⟩; obtain ⟨v2, hv2⟩ : ∃ r : Nat, r = ((ns ++ flats kid ns.length).length + sizes ts2 - 1) := ⟨_, rfl⟩; rw [← hv2] at he; subst he; clear hv2 B2)
          | (go_at_call 34; refine Calls.mono (B3.out _ q2) ?_; rintro e W3 (⟨h, _⟩ | ⟨_, rfl, b3⟩); exact absurd h h3; unfold faultP))
        exact ⟨rfl, rfl, b3⟩
  · rw [want_neg h1]
    go_enter Tryz.func84, Tryz.ntmps84
    go_wp2_with (first
      | (go_at_call 34; refine Calls.mono (B1.out _ hS) ?_; rintro e W1 (⟨h, _⟩ | ⟨_, rfl, b1⟩); exact absurd h h1; unfold faultP))
    exact ⟨rfl, rfl, b1⟩
end Go.Proofs.YtblhklbpcalglaaGreatDoor
namespace Go.Proofs.YtblhklbpcalglaaGreatDoor
open Go.RowKit
set_option linter.unusedVariables false
set_option linter.unusedSimpArgs false
variable {w0 : World} {rb : Nat} {srcV tokV : Value} {TL : List Tok} {xs : List UInt8} {U : Nat → Prop}
theorem RSs.grown0 {W w1 : World} {s : List PTok} {ns : List Nd} {v : Value} {ys : List Int} (h : RSs w0 rb srcV tokV TL xs (Uv U v) W s ns) (hv : IntsO W rb v ys) (hg : W.grownBy w1 v.ownBlock) (g n cap : Nat) (hat : v.ownBlock = some g ∨ g = W.heap.size) (hlt : g < w1.heap.size) :
    RSs w0 rb srcV tokV TL xs (Uv U (.slice (some ⟨g, 0, none⟩) n cap)) w1 s ns ∧ ∀ W0, KeepR rb W0 W → (∀ y, v.ownBlock = some y → W0.heap.size ≤ y) → KeepR rb W0 w1 ∧ W0.heap.size ≤ g := by
  have hr := h.lt
  have hz := hg.size
  have hvl : ∀ y, v.ownBlock = some y → rb + 1 ≤ y ∧ y < W.heap.size := fun y hy => by
    obtain ⟨cur, hh⟩ := owns_own hv hy
    exact ⟨(hv.lt y hy).1, heapLt hh⟩
  have same : ∀ x, x < W.heap.size → v.ownBlock ≠ some x → w1.heap[x]? = W.heap[x]? := fun x hx hne => by
    rw [hg.block x hx (fun e => hne e.symm)]
  obtain ⟨i, rfl, hi, hS, hni, hU⟩ := h
  obtain ⟨nv, h1, h2⟩ := hS.rd
  have h1' : w1.heap[rb]? = some (rdO srcV tokV i nv) := by
    rw [same rb hr (fun e => by have := hvl rb e; omega)]
    exact h1
  obtain ⟨ks, k1, k2, k3⟩ := h2.ex
  refine ⟨⟨i, rfl, hi, ⟨⟨nv, h1', ⟨ks, k1, ?_, fun j hj hj' => ⟨?_, ?_⟩⟩⟩, ?_⟩, hni, ?_⟩, fun W0 hk hfr => ?_⟩
  · obtain ⟨q1, q2⟩ := k2
    refine ⟨q1, ?_⟩
    rcases q2 with q2 | ⟨gg, cp, cur, hv2, hg2, hh, hr2⟩
    · exact .inl q2
    · refine .inr ⟨gg, cp, cur, hv2, hg2, ?_, hr2⟩
      rw [same gg (heapLt hh) (fun e => ?_)]
      · exact hh
      · obtain ⟨c2, hh2⟩ := owns_own hv e
        rw [hh] at hh2
        simp only [Option.some.injEq, Obj.cells.injEq] at hh2
        exact absurd hh2.2.1 (by decide)
  · obtain ⟨⟨q1, q2⟩, q3⟩ := k3 j hj hj'
    refine ⟨q1, ?_⟩
    rcases q2 with q2 | ⟨gg, cp, cur, hv2, hg2, hh, hr2⟩
    · exact .inl q2
    · refine .inr ⟨gg, cp, cur, hv2, hg2, ?_, hr2⟩
      rw [same gg (heapLt hh) (fun e => ?_)]
      · exact hh
      · simp only [Value.slice.injEq] at hv2
        exact q3 gg hv2.1 (.inr e)
  · obtain ⟨⟨q1, q2⟩, q3⟩ := k3 j hj hj'
    intro y hy hyU
    rcases hyU with hyU | hyU
    · exact q3 y hy (.inl hyU)
    · simp [Value.ownBlock] at hyU
      subst hyU
      rcases hat with e | e
      · exact q3 g hy (.inr e)
      · rcases q2 with ⟨q2, _⟩ | ⟨gg, cp, cur, hv2, hg2, hh, hr2⟩
        · simp only [Value.slice.injEq] at q2
          rw [q2.1] at hy
          cases hy
        · simp only [Value.slice.injEq] at hv2
          rw [hv2.1] at hy
          simp at hy
          subst hy
          have := heapLt hh
          omega
  · exact Below.grown hS.bel hg (by omega) (fun x hx => by have := hvl x hx; omega)
  · intro y hy
    rcases hy with hy | hy
    · have := hU y (.inl hy)
      omega
    · simp [Value.ownBlock] at hy
      subst hy
      exact hlt
  · have hkz := hk.size
    refine ⟨⟨by omega, fun x hx hxr ho => ?_, ?_⟩, ?_⟩
    · rw [same x (by omega) (fun e => by have := hfr x e; omega)]
      exact hk.same x hx hxr ho
    · rw [ownN_rd h1', ← ownN_rd h1]
      exact hk.own
    · rcases hat with e | e
      · exact hfr g e
      · omega
theorem app_rows (W : World) {R n c m c2 : Nat} {a : Option Addr} (ys1 ys2 : List Int) (h1 : IntsO W rb (.slice (some ⟨R, 0, none⟩) n c) ys1) (hn : n = ys1.length) (h2 : IntsO W rb (.slice a m c2) ys2) (hm : m = ys2.length) (hs : n + m ≤ 200000) (hr : rb < W.heap.size) :
    ∃ g cp W3, (∀ ty, (Builtin.append_ #[36, 36] ty #[.slice (some ⟨R, 0, none⟩) n c, .slice a m c2]).run Tryz.prog W = .ok (.slice (some ⟨g, 0, none⟩) (n + m) cp) W3) ∧ IntsO W3 rb (.slice (some ⟨g, 0, none⟩) (n + m) cp) (ys1 ++ ys2) ∧ W.grownBy W3 (some R) ∧ (some R = some g ∨ g = W.heap.size) ∧ g < W3.heap.size := by
  obtain ⟨i0, hi0, hz0, hz1, hz2⟩ := info_parts infoInt
  subst hn hm
  by_cases h0 : 0 < ys2.length
  · obtain ⟨q1, q2⟩ := h2
    rcases q2 with ⟨q2, q3⟩ | ⟨b, cap, cur, hv, hb, hg, hc, hmx, hsz, ht⟩
    · simp only [Value.slice.injEq] at q2
      omega
    · simp only [Value.slice.injEq] at hv
      obtain ⟨rfl, _, rfl⟩ := hv
      obtain ⟨g, cp, W3, r1, r2, r3, r4, r5⟩ := run_append_lies (P := Tryz.prog) W 36 3 (rb + 1) 3 i0 (.int .i64 0) 1 8 Tryz.underlying36 hi0 hz0 hz1 hz2 rfl (by decide) _ _ _ h1 ⟨b, 0, none⟩ ys2.length c2 (intsC ys2) (by simp [intsC]) (by
        intro j u hu
        have hj : j < ys2.length := by
          rcases Nat.lt_or_ge j ys2.length with e | e
          · exact e
          · rw [List.getElem?_eq_none (by simp [intsC]; exact e)] at hu; cases hu
        have ha : (⟨b, 0, none⟩ : Addr).add j = ⟨b, j, none⟩ := by unfold Addr.add; split <;> simp_all
        rw [ha, ← hu, ← ht, List.getElem?_take, if_pos (by omega)]
        simp [World.cell?, hg]) (by
        intro u hu
        unfold intsC at hu
        rw [List.mem_map] at hu
        obtain ⟨x, _, rfl⟩ := hu
        rfl) h0 (by unfold maxLen; omega) (by omega) (by omega) W.heap.size rfl
      refine ⟨g, cp, W3, fun ty => r1, ?_, r3, ?_, r5⟩
      · unfold IntsO
        rw [List.length_append, intsC, List.map_append]
        exact r2
      · rcases r4 with e | e
        · left; simpa [Value.ownBlock] using e
        · exact .inr e
  · have hx : ys2 = [] := List.eq_nil_of_length_eq_zero (by omega)
    subst hx
    have hR : R < W.heap.size := by
      obtain ⟨_, q2⟩ := h1
      rcases q2 with ⟨q2, _⟩ | ⟨b, cap, cur, hv, hb, hg, hc, hmx, hsz, ht⟩
      · cases q2
      · simp only [Value.slice.injEq, Option.some.injEq, Addr.mk.injEq] at hv
        rw [hv.1.1]
        exact heapLt hg
    refine ⟨R, c, W, fun ty => ?_, by simpa using h1, ⟨rfl, rfl, rfl, Nat.le_refl _, fun _ _ _ => rfl⟩, .inl rfl, hR⟩
    have hu : (Tryz.prog.underlying 36) = some (.slice 3) := Tryz.underlying36
    have hcp : ys1.length ≤ c := by
      obtain ⟨_, q2⟩ := h1
      rcases q2 with ⟨q2, _⟩ | ⟨b, cap, cur, hv, hb, hg, hc, hmx, hsz, ht⟩
      · cases q2
      · simp only [Value.slice.injEq, Option.some.injEq, Addr.mk.injEq] at hv
        omega
    cases a with
    | none => simp [Builtin.append_, run_underlying hu, sizeOf, typeInfo, hi0, Builtin.lenOf, Builtin.firstCells, storeCells, hcp]
    | some a => simp [Builtin.append_, run_underlying hu, sizeOf, typeInfo, hi0, Builtin.lenOf, Builtin.firstCells, storeCells, loadCells, loadCellsFrom, hcp]
theorem wpList_app {P : Program} {w w' : World} {ops : Array Oper} {rest : List Oper} {o : Oper} {a : Act} {Q : Exit → Act → World → Prop} (hgd : o.guard = none) (s x : Operand) (t : TypeId)
    (ho : o.op = .call { callee := .builtin .append, args := #[s, x], argTypes := #[t, t] }) {v u r : Value} (hs : a.eval s = v) (hx : a.eval x = u) (hr : ∀ ty, (Builtin.append_ #[t, t] ty #[v, u]).run P w = .ok r w')
    (h : wpList P ops Q rest (a.put o.dst r) w') : wpList P ops Q (o :: rest) a w := by
  refine wpList_plain hgd fun K hK => ?_
  unfold Oper.wp
  simp [execOp, ho, resolve, invoke, builtin, hs, hx, hr, Result.andThen]
  exact hK _ _ h
end Go.Proofs.YtblhklbpcalglaaGreatDoor
