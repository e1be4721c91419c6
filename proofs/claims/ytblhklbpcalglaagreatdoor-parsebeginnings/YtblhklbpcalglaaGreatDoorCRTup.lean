import Derived.Test.YtblhklbpcalglaaGreatDoorCRKid
namespace Go.Proofs.YtblhklbpcalglaaGreatDoor
open Go.RowKit
set_option linter.unusedVariables false
set_option linter.unusedSimpArgs false
variable {w0 : World} {rb : Nat} {srcV tokV : Value} {TL : List Tok} {xs : List UInt8} {U : Nat → Prop}
theorem joined {W W2 W4 : World} {s2 s4 : List PTok} {ns : List Nd} {a b : List Tr} {av : Option Addr} {c : Nat} (h0 : rb < W.heap.size) (q2 : RSs w0 rb srcV tokV TL xs U W2 s2 (ns ++ flats a ns.length)) (k2 : KeepR rb W W2) (ha : a.length = 1) (v : Nat) (hv : v = ns.length + sizes a - 1) (k4 : KeepR rb (W2.alloc (.cells #[.int .i64 (v : Int)] 3)) W4) (q4 : RSs w0 rb srcV tokV TL xs (Uv (Uv U (.slice (some ⟨W2.heap.size, 0, none⟩) 1 1)) (.slice av b.length c)) W4 s4 ((ns ++ flats a ns.length) ++ flats b (ns ++ flats a ns.length).length)) (r4 : IntsO W4 rb (.slice av b.length c) (ends b (ns ++ flats a ns.length).length)) (hb : b.length ≤ 100000) :
    ∃ m gb cp W5, m = 1 + b.length ∧ (∀ ty, (Builtin.append_ #[36, 36] ty #[(.slice (some ⟨W2.heap.size, 0, none⟩) 1 1), .slice av b.length c]).run Tryz.prog W4 = .ok (.slice (some ⟨gb, 0, none⟩) m cp) W5) ∧ RSs w0 rb srcV tokV TL xs (Uv U (.slice (some ⟨gb, 0, none⟩) m cp)) W5 s4 (ns ++ flats (a ++ b) ns.length) ∧ KeepR rb W W5 ∧ IntsO W5 rb (.slice (some ⟨gb, 0, none⟩) m cp) (ends (a ++ b) ns.length) ∧ W.heap.size ≤ gb := by
  have hz2 := k2.size
  have hr2 := q2.lt
  have row2 := row_one (rb := rb) (W := W2) (v := v) hr2
  have q2' := q2.row1 (.cells #[.int .i64 (v : Int)] 3)
  have row4 := q2'.ints row2 k4
  obtain ⟨gb, cp, W5, run, I5, gr, hat, hlt⟩ := app_rows W4 [(v : Int)] (ends b (ns ++ flats a ns.length).length) row4 rfl r4 (by rw [ends_len]) (by omega) q4.lt
  have hk4 : KeepR rb W W4 := k2.trans ((KeepR.alloc hr2 _).trans k4)
  obtain ⟨p1, p2⟩ := (q4.anyU (V := Uv U (.slice (some ⟨W2.heap.size, 0, none⟩) 1 1)) (fun y hy => .inl hy)).grown0 row4 gr gb (1 + b.length) cp hat hlt
  obtain ⟨p3, p4⟩ := p2 W hk4 (fun y hy => by simp [Value.ownBlock] at hy; omega)
  have en : ends (a ++ b) ns.length = [(v : Int)] ++ ends b (ns ++ flats a ns.length).length := by rw [ends_append, ends_one ha, hv, two_len]
  refine ⟨_, gb, cp, W5, rfl, run, ?_, p3, ?_, p4⟩
  · rw [two_lists] at p1
    exact p1
  · rw [en]
    exact I5
set_option maxRecDepth 100000 in
set_option maxHeartbeats 4000000 in
theorem tupleType_any (hT : RT w0 rb srcV tokV TL xs) (hK : Kinds TL) {f : Nat} (HT : RC w0 rb srcV tokV TL xs (pF f .typ) 36 #[]) (HP : LC 0 w0 rb srcV tokV TL xs (pF f (.parted .typ)) 64 #[.func (.func 36) #[.pointer (some ⟨rb, 0, none⟩)] #[]]) {W : World} {s : List PTok} {ns : List Nd} (hS : RSs w0 rb srcV tokV TL xs U W s ns) (hne : (want 40 s fun s1 => andT (pF f .typ s1) fun a s2 => want 46 s2 fun s3 => andT (pF f (.parted .typ) s3) fun b s4 => want 41 s4 fun s5 => mk1 5 s 0 [] (a ++ b) s5) ≠ .out) :
    Calls Tryz.prog 54 #[.pointer (some ⟨rb, 0, none⟩)] W (Post1 w0 rb srcV tokV TL xs U W s ns (want 40 s fun s1 => andT (pF f .typ s1) fun a s2 => want 46 s2 fun s3 => andT (pF f (.parted .typ) s3) fun b s4 => want 41 s4 fun s5 => mk1 5 s 0 [] (a ++ b) s5)) := by
  have hrW := hS.lt
  have hsl : s.length ≤ 65537 := by
    obtain ⟨i, rfl, hi, _⟩ := hS
    have := hT.small
    unfold pts
    simp
    omega
  have B1 : Bx (∀ W1, RSs w0 rb srcV tokV TL xs U W1 s ns → _) := ⟨fun W1 h => wantS hT hK h 40 (by decide) ⟨#[40]⟩ (by decide)⟩
  by_cases h1 : kd s = 40
  · rw [want_pos h1] at hne ⊢
    have B2 : Bx (∀ W1, RSs w0 rb srcV tokV TL xs U W1 (tl s) ns → pF f .typ (tl s) ≠ .out → Calls Tryz.prog 36 #[.pointer (some ⟨rb, 0, none⟩)] W1 (Post1 w0 rb srcV tokV TL xs U W1 (tl s) ns (pF f .typ (tl s)))) := ⟨fun W1 h hn => HT U W1 (tl s) ns h hn⟩
    match r2 : pF f .typ (tl s) with
    | .out => rw [r2] at hne; exact absurd rfl hne
    | .err s2 =>
      rw [r2] at B2
      show Calls _ _ _ _ (Post1 w0 rb srcV tokV TL xs U W s ns (.err s2))
      clear hne HP HT
      go_enter Tryz.func54, Tryz.ntmps54
      go_wp2_with (first
        | (go_at_call 34; refine Calls.mono (B1.out _ hS) ?_; rintro e W1 (⟨_, rfl, q1, l1, k1⟩ | ⟨h, _⟩); rotate_left 1; exact absurd h1 h; clear B1)
        | (go_at_call 36; refine Calls.mono (B2.out _ q1 (by simp)) ?_; rintro e W2 ⟨rfl, b⟩; unfold faultP))
      exact ⟨rfl, rfl, b⟩
    | .ok a s2 =>
      rw [r2] at B2 hne
      simp only [andT] at hne ⊢
      have B3 : Bx (∀ U' W1 ns', RSs w0 rb srcV tokV TL xs U' W1 s2 ns' → _) := ⟨fun U' W1 ns' h => wantS (U := U') hT hK h 46 (by decide) ⟨#[44]⟩ (by decide)⟩
      by_cases h3 : kd s2 = 46
      · rw [want_pos h3] at hne ⊢
        have B4 : Bx (∀ U' W1, RSs w0 rb srcV tokV TL xs U' W1 (tl s2) (ns ++ flats a ns.length) → pF f (.parted .typ) (tl s2) ≠ .out → Calls Tryz.prog 64 #[.pointer (some ⟨rb, 0, none⟩), .func (.func 36) #[.pointer (some ⟨rb, 0, none⟩)] #[]] W1 (PostL 0 w0 rb srcV tokV TL xs U' W1 (tl s2) (ns ++ flats a ns.length) (pF f (.parted .typ) (tl s2)))) := ⟨fun U' W1 h hn => HP U' W1 (tl s2) (ns ++ flats a ns.length) h hn⟩
        match r4 : pF f (.parted .typ) (tl s2) with
        | .out => rw [r4] at hne; exact absurd rfl hne
        | .err s4 =>
          rw [r4] at B4
          show Calls _ _ _ _ (Post1 w0 rb srcV tokV TL xs U W s ns (.err s4))
          clear hne HP HT
          go_enter Tryz.func54, Tryz.ntmps54
          go_wp2_with (first
            | (go_at_call 34; refine Calls.mono (B1.out _ hS) ?_; rintro e W1 (⟨_, rfl, q1, l1, k1⟩ | ⟨h, _⟩); rotate_left 1; exact absurd h1 h; clear B1)
            | (go_at_call 36; refine Calls.mono (B2.out _ q1 (by simp)) ?_; rintro e W2 ⟨n2, l2, he, q2, k2⟩; obtain ⟨v, hv⟩ : ∃ r : Nat, r = (ns.length + sizes a - 1) := ⟨_, rfl⟩; rw [← hv] at he; subst he; have V : Bx _ := ⟨hv⟩; have q2' := q2.row1 (.cells #[.int .i64 (v : Int)] 3); have Q2 : Bx _ := ⟨q2'⟩; have N2 : Bx _ := ⟨n2⟩; clear hv B2 q2' n2)
            | (go_at_call 34; refine Calls.mono (B3.out _ _ _ Q2.out) ?_; rintro e W3 (⟨_, rfl, q3, l3, k3⟩ | ⟨h, _⟩); rotate_left 1; exact absurd h3 h; clear B3 Q2)
            | (go_at_call 64; refine Calls.mono (B4.out _ _ q3 (by simp)) ?_; rintro e W4 ⟨rfl, b⟩; unfold faultP))
          exact ⟨rfl, rfl, b⟩
        | .ok ts s4 =>
          rw [r4] at B4 hne
          have hge := sizes_ge ts
          have HJ : Bx (∀ W2 W4 v av c u, RSs w0 rb srcV tokV TL xs U W2 s2 (ns ++ flats a ns.length) → KeepR rb W W2 → a.length = 1 → v = ns.length + sizes a - 1 → KeepR rb (W2.alloc (.cells #[.int .i64 ((v : Nat) : Int)] 3)) W4 → RSs w0 rb srcV tokV TL xs (Uv (Uv U (.slice (some ⟨W2.heap.size, 0, none⟩) 1 1)) (.slice av ts.length c)) W4 s4 ((ns ++ flats a ns.length) ++ flats ts (ns ++ flats a ns.length).length) → IntsO W4 rb (.slice av ts.length c) (ends ts (ns ++ flats a ns.length).length) → ts.length ≤ 100000 → _) := ⟨fun W2 W4 v av c (u : Unit) q2 k2 n2 hv k4 q4 r4 hl => joined (W := W) hrW q2 k2 n2 v hv k4 q4 r4 hl⟩
          simp only [] at hne ⊢
          have B5 : Bx (∀ U' W1 ns', RSs w0 rb srcV tokV TL xs U' W1 s4 ns' → _) := ⟨fun U' W1 ns' h => wantS (U := U') hT hK h 41 (by decide) ⟨#[41]⟩ (by decide)⟩
          by_cases h5 : kd s4 = 41
          · rw [want_pos h5]
            have HD : Bx (∀ W5 W6 gb m c, RSs w0 rb srcV tokV TL xs (Uv U (.slice (some ⟨gb, 0, none⟩) m c)) W5 s4 (ns ++ flats (a ++ ts) ns.length) → KeepR rb W W5 → m = 1 + ts.length → IntsO W5 rb (.slice (some ⟨gb, 0, none⟩) m c) (ends (a ++ ts) ns.length) → W.heap.size ≤ gb → RSs w0 rb srcV tokV TL xs (Uv U (.slice (some ⟨gb, 0, none⟩) m c)) W6 (tl s4) (ns ++ flats (a ++ ts) ns.length) → KeepR rb W5 W6 → (tl s4).length + (sizes a + sizes ts) + 1 ≤ s.length → ∀ kv, a.length = 1 → Calls Tryz.prog 27 #[.pointer (some ⟨rb, 0, none⟩), .agg #[.int .i64 5, .int .i64 (hd s).place, kv, .string ⟨#[]⟩, .int .i64 0], .slice (some ⟨gb, 0, none⟩) m c] W6 fun e W' => ∃ r : Int, e = .returned (.int .i64 r) ∧ Post1 w0 rb srcV tokV TL xs U W s ns (.ok [.mk 5 (hd s).place 0 [] (a ++ ts)] (tl s4)) (.returned (.int .i64 r)) W') := ⟨fun W5 W6 gb m c g1 g2 hm g3 g4 q6 k6 hl kv ha => addS hT (a ++ ts) (q6.anyU (fun y hy => .inl hy)) (g2.trans k6) (by rw [sizes_append]; omega) ⟨W, hS⟩ 5 (hd s).place 0 [] kv (some ⟨gb, 0, none⟩) m c (by simp [ha, hm]) (g1.ints g3 k6) (hS.isnew (n := m) (c := c) (fun y hy => by simp [Value.ownBlock] at hy; omega))⟩
            show Calls _ _ _ _ (Post1 w0 rb srcV tokV TL xs U W s ns (.ok [.mk 5 (hd s).place 0 [] (a ++ ts)] (tl s4)))
            clear hne HP HT
            go_enter Tryz.func54, Tryz.ntmps54
            go_wp2_with (first
              | (go_at_call 34; refine Calls.mono (B1.out _ hS) ?_; rintro e W1 (⟨_, rfl, q1, l1, k1⟩ | ⟨h, _⟩); rotate_left 1; exact absurd h1 h; clear B1)
              | (go_at_call 36; refine Calls.mono (B2.out _ q1 (by simp)) ?_; rintro e W2 ⟨n2, l2, he, q2, k2⟩; obtain ⟨v, hv⟩ : ∃ r : Nat, r = (ns.length + sizes a - 1) := ⟨_, rfl⟩; rw [← hv] at he; subst he; have V : Bx _ := ⟨hv⟩; have q2' := q2.row1 (.cells #[.int .i64 (v : Int)] 3); have Q2 : Bx _ := ⟨q2'⟩; have N2 : Bx _ := ⟨n2⟩; clear hv B2 q2' n2)
              | (go_at_call 34; refine Calls.mono (B3.out _ _ _ Q2.out) ?_; rintro e W3 (⟨_, rfl, q3, l3, k3⟩ | ⟨h, _⟩); rotate_left 1; exact absurd h3 h; clear B3 Q2)
              | (go_at_call 64; refine Calls.mono (B4.out _ _ q3 (by simp)) ?_; rintro e W4 ⟨l4, a4, c4, rfl, q4, r4, k4, n4⟩; clear B4; obtain ⟨m, gb, cp, W5, hm, run, g1, g2, g3, g4⟩ := HJ.out _ _ _ _ _ () q2 (k1.trans k2) N2.out V.out (k3.trans k4) q4 r4 (by omega); have G1 : Bx _ := ⟨g1⟩; have G2 : Bx _ := ⟨g2⟩; have G3 : Bx _ := ⟨g3⟩; have G4 : Bx _ := ⟨g4⟩; have HM : Bx _ := ⟨hm⟩; clear g1 g2 g3 g4 hm q4 r4 n4 k3 k4 q2 k2 q3)
              | (at_builtin; refine wpList_app rfl (.tmp 12) (.tmp 16) 36 rfl rfl rfl run ?_; clear run)
              | (go_at_call 34; refine Calls.mono (B5.out _ _ _ G1.out) ?_; rintro e W6 (⟨_, rfl, q6, l6, k6⟩ | ⟨h, _⟩); rotate_left 1; exact absurd h5 h; clear B5; have Q6 : Bx _ := ⟨q6⟩; have K6 : Bx _ := ⟨k6⟩; clear q6 k6)
              | (go_at_call 27; go_loud (refine Calls.mono (HD.out _ _ _ _ _ G1.out G2.out HM.out G3.out G4.out Q6.out K6.out (by omega) _ N2.out) ?_; rintro e W9 ⟨r9, rfl, hp⟩)))
            go_ret
            exact hp
          · rw [want_neg h5]
            show Calls _ _ _ _ (Post1 w0 rb srcV tokV TL xs U W s ns (.err s4))
            clear hne HP HT
            go_enter Tryz.func54, Tryz.ntmps54
            go_wp2_with (first
              | (go_at_call 34; refine Calls.mono (B1.out _ hS) ?_; rintro e W1 (⟨_, rfl, q1, l1, k1⟩ | ⟨h, _⟩); rotate_left 1; exact absurd h1 h; clear B1)
              | (go_at_call 36; refine Calls.mono (B2.out _ q1 (by simp)) ?_; rintro e W2 ⟨n2, l2, he, q2, k2⟩; obtain ⟨v, hv⟩ : ∃ r : Nat, r = (ns.length + sizes a - 1) := ⟨_, rfl⟩; rw [← hv] at he; subst he; have V : Bx _ := ⟨hv⟩; have q2' := q2.row1 (.cells #[.int .i64 (v : Int)] 3); have Q2 : Bx _ := ⟨q2'⟩; have N2 : Bx _ := ⟨n2⟩; clear hv B2 q2' n2)
              | (go_at_call 34; refine Calls.mono (B3.out _ _ _ Q2.out) ?_; rintro e W3 (⟨_, rfl, q3, l3, k3⟩ | ⟨h, _⟩); rotate_left 1; exact absurd h3 h; clear B3 Q2)
              | (go_at_call 64; refine Calls.mono (B4.out _ _ q3 (by simp)) ?_; rintro e W4 ⟨l4, a4, c4, rfl, q4, r4, k4, n4⟩; clear B4; obtain ⟨m, gb, cp, W5, hm, run, g1, g2, g3, g4⟩ := HJ.out _ _ _ _ _ () q2 (k1.trans k2) N2.out V.out (k3.trans k4) q4 r4 (by omega); have G1 : Bx _ := ⟨g1⟩; have G2 : Bx _ := ⟨g2⟩; have G3 : Bx _ := ⟨g3⟩; have G4 : Bx _ := ⟨g4⟩; have HM : Bx _ := ⟨hm⟩; clear g1 g2 g3 g4 hm q4 r4 n4 k3 k4 q2 k2 q3)
              | (at_builtin; refine wpList_app rfl (.tmp 12) (.tmp 16) 36 rfl rfl rfl run ?_; clear run)
              | (go_at_call 34; refine Calls.mono (B5.out _ _ _ G1.out) ?_; rintro e W6 (⟨h, _⟩ | ⟨_, rfl, b⟩); exact absurd h h5; unfold faultP))
            exact ⟨rfl, rfl, b⟩
      · rw [want_neg h3]
        show Calls _ _ _ _ (Post1 w0 rb srcV tokV TL xs U W s ns (.err s2))
        clear hne HP HT
        go_enter Tryz.func54, Tryz.ntmps54
        go_wp2_with (first
          | (go_at_call 34; refine Calls.mono (B1.out _ hS) ?_; rintro e W1 (⟨_, rfl, q1, l1, k1⟩ | ⟨h, _⟩); rotate_left 1; exact absurd h1 h; clear B1)
          | (go_at_call 36; refine Calls.mono (B2.out _ q1 (by simp)) ?_; rintro e W2 ⟨n2, l2, he, q2, k2⟩; obtain ⟨v, hv⟩ : ∃ r : Nat, r = (ns.length + sizes a - 1) := ⟨_, rfl⟩; rw [← hv] at he; subst he; have V : Bx _ := ⟨hv⟩; have q2' := q2.row1 (.cells #[.int .i64 (v : Int)] 3); have Q2 : Bx _ := ⟨q2'⟩; have N2 : Bx _ := ⟨n2⟩; clear hv B2 q2' n2)
          | (go_at_call 34; refine Calls.mono (B3.out _ _ _ Q2.out) ?_; rintro e W3 (⟨h, _⟩ | ⟨_, rfl, b⟩); exact absurd h h3; unfold faultP))
        exact ⟨rfl, rfl, b⟩
  · rw [want_neg h1]
    show Calls _ _ _ _ (Post1 w0 rb srcV tokV TL xs U W s ns (.err s))
    clear hne HP HT
    go_enter Tryz.func54, Tryz.ntmps54
    go_wp2_with (first
      | (go_at_call 34; refine Calls.mono (B1.out _ hS) ?_; rintro e W1 (⟨h, _⟩ | ⟨_, rfl, b⟩); exact absurd h h1; unfold faultP))
    exact ⟨rfl, rfl, b⟩
end Go.Proofs.YtblhklbpcalglaaGreatDoor
namespace Go.Proofs.YtblhklbpcalglaaGreatDoor
open Go.RowKit
set_option linter.unusedVariables false
set_option linter.unusedSimpArgs false
variable {w0 : World} {rb : Nat} {srcV tokV : Value} {TL : List Tok} {xs : List UInt8} {U : Nat → Prop}
def PostR (w0 : World) (rb : Nat) (srcV tokV : Value) (TL : List Tok) (xs : List UInt8) (U : Nat → Prop) (W0 : World) (s : List PTok) (ns : List Nd) (acc : List Tr) (res : Res) (e : Ending) (W' : World) : Prop :=
  match res with
  | .ok b s' => s'.length + sizes b ≤ s.length ∧ b.length ≤ 1 ∧ ∃ a n c, n = acc.length + b.length ∧ e = .returned (.tuple #[.slice a n c, .int .i64 (b.length : Int)]) ∧ RSs w0 rb srcV tokV TL xs (Uv U (.slice a n c)) W' s' (ns ++ flats (acc ++ b) ns.length) ∧ IntsO W' rb (.slice a n c) (ends (acc ++ b) ns.length) ∧ KeepR rb W0 W' ∧ ∀ y, (Value.slice a n c).ownBlock = some y → W0.heap.size ≤ y
  | .err s' => e = faultP (hd s').place ∧ Below rb w0 W'
  | .out => False
set_option maxRecDepth 100000 in
set_option maxHeartbeats 4000000 in
theorem result_any (hT : RT w0 rb srcV tokV TL xs) (hK : Kinds TL) {f : Nat} (HT : ∀ f', f' < f → RC w0 rb srcV tokV TL xs (pF f' .typ) 36 #[]) (U : Nat → Prop) (W0 W : World) (s : List PTok) (ns : List Nd) (acc : List Tr) (a : Option Addr) (n c : Nat) (hn : n = acc.length) (hS : RSs w0 rb srcV tokV TL xs (Uv U (.slice a n c)) W s (ns ++ flats acc ns.length)) (hI : IntsO W rb (.slice a n c) (ends acc ns.length)) (hk0 : KeepR rb W0 W) (hnew : ∀ y, (Value.slice a n c).ownBlock = some y → W0.heap.size ≤ y) (hac : acc.length ≤ 100000) (hne : pF f .result s ≠ .out) :
    Calls Tryz.prog 66 #[.pointer (some ⟨rb, 0, none⟩), (.slice a n c)] W (PostR w0 rb srcV tokV TL xs U W0 s ns acc (pF f .result s)) := by
  match f, HT, hne with
  | 0, _, hne => exact absurd rfl hne
  | f + 1, HT, hne =>
  obtain ⟨i0, hi, hz0, hz1, hz2⟩ := info_parts infoInt
  have e0 : pF (f + 1) .result s = if kd s = 48 then pF f .typ (tl s) else .ok [] s := rfl
  rw [e0] at hne ⊢
  have B1 : Bx (∀ W1, RSs w0 rb srcV tokV TL xs (Uv U (.slice a n c)) W1 s (ns ++ flats acc ns.length) → _) := ⟨fun W1 h => skipS hT hK h 48 (by decide) ⟨#[58]⟩ (by decide)⟩
  by_cases h1 : kd s = 48
  · rw [if_pos h1] at hne ⊢
    have B2 : Bx (∀ W1, RSs w0 rb srcV tokV TL xs (Uv U (.slice a n c)) W1 (tl s) (ns ++ flats acc ns.length) → pF f .typ (tl s) ≠ .out → Calls Tryz.prog 36 #[.pointer (some ⟨rb, 0, none⟩)] W1 (Post1 w0 rb srcV tokV TL xs (Uv U (.slice a n c)) W1 (tl s) (ns ++ flats acc ns.length) (pF f .typ (tl s)))) := ⟨fun W1 h hn => HT f (by omega) _ W1 (tl s) (ns ++ flats acc ns.length) h hn⟩
    match r2 : pF f .typ (tl s) with
    | .out => rw [r2] at hne; exact absurd rfl hne
    | .err s' =>
      rw [r2] at B2
      clear hne HT hnew hn
      go_enter Tryz.func66, Tryz.ntmps66
      go_wp2_with (first
        | (go_at_call 49; refine Calls.mono (B1.out _ hS) ?_; rintro e W1 (⟨_, rfl, q1, l1, k1⟩ | ⟨h, _⟩); rotate_left 1; exact absurd h1 h; clear B1)
        | (go_at_call 36; refine Calls.mono (B2.out _ q1 (by simp)) ?_; rintro e W2 ⟨rfl, b⟩; unfold faultP))
      exact ⟨rfl, rfl, b⟩
    | .ok ts s' =>
      rw [r2] at B2
      have HN : Bx (∀ W1 W2, KeepR rb W W1 → KeepR rb W1 W2 → RSs w0 rb srcV tokV TL xs (Uv U (.slice a n c)) W2 s' ((ns ++ flats acc ns.length) ++ flats ts (ns ++ flats acc ns.length).length) → ts.length = 1 → (tl s).length + 1 = s.length → s'.length + sizes ts ≤ (tl s).length → ∀ v : Nat, v = ((ns ++ flats acc ns.length).length + sizes ts - 1) →
          IntsO W2 rb (.slice a n c) (ends acc ns.length) ∧ ∀ g2 cp w4, (W2.alloc (.cells #[.int .i64 (v : Int)] 3)).grownBy w4 (Value.slice a n c).ownBlock → ((Value.slice a n c).ownBlock = some g2 ∨ g2 = W2.heap.size + 1) → g2 < w4.heap.size → w4.ownsRow (rb + 1) 3 1 (.slice (some ⟨g2, 0, none⟩) (n + 1) cp) (n + 1) (intsC (ends acc ns.length) ++ [.int .i64 (v : Int)]) → PostR w0 rb srcV tokV TL xs U W0 s ns acc (.ok ts s') (.returned (.tuple #[.slice (some ⟨g2, 0, none⟩) (n + 1) cp, .int .i64 1])) w4) := ⟨fun W1 W2 k1 k2 q2 n2 l1 l2 v hv => by
        have hrow := hS.ints hI (k1.trans k2)
        refine ⟨hrow, fun g2 cp w4 hg hat hl4 hown => ?_⟩
        obtain ⟨p1, p2⟩ := q2.grown hrow hg g2 (n + 1) cp hat hl4
        obtain ⟨p3, p4⟩ := p2 W0 (hk0.trans (k1.trans k2)) hnew
        have hends : ends (acc ++ ts) ns.length = ends acc ns.length ++ [(v : Int)] := by rw [ends_append, ends_one n2, hv, two_len]
        refine ⟨by omega, by omega, some ⟨g2, 0, none⟩, n + 1, cp, by omega, by rw [n2]; rfl, ?_, ?_, p3, fun y hy => ?_⟩
        · rw [two_lists] at p1
          exact p1
        · unfold IntsO
          rw [hends, List.length_append, ends_len, intsC, List.map_append]
          subst hn
          exact hown
        · simp [Value.ownBlock] at hy
          subst hy
          exact p4⟩
      have hnb : n ≤ 100000 := by omega
      have HA : Bx (∀ W2, IntsO W2 rb (.slice a n c) (ends acc ns.length) → W2.ownsRow (rb + 1) 3 1 (.slice a n c) n (intsC (ends acc ns.length))) := ⟨fun W2 h => by
        unfold IntsO at h
        rw [ends_len, ← hn] at h
        exact h⟩
      clear hne HT hnew hn
      go_enter Tryz.func66, Tryz.ntmps66
      go_wp2_with (first
        | (go_at_call 49; refine Calls.mono (B1.out _ hS) ?_; rintro e W1 (⟨_, rfl, q1, l1, k1⟩ | ⟨h, _⟩); rotate_left 1; exact absurd h1 h; clear B1)
        | (go_at_call 36; refine Calls.mono (B2.out _ q1 (by simp)) ?_; rintro e W2 ⟨n2, l2, he, q2, k2⟩; obtain ⟨v, hv⟩ : ∃ r : Nat, r = ((ns ++ flats acc ns.length).length + sizes ts - 1) := ⟨_, rfl⟩; rw [← hv] at he; subst he; obtain ⟨hrow, hnx⟩ := HN.out W1 W2 k1 k2 q2 n2 l1 l2 v hv; have NX : Bx _ := ⟨hnx⟩; have RW : Bx _ := ⟨hrow⟩; have hr3 := q2.lt; clear HN hnx hrow hv q2 q1 B2)
        | (at_builtin; refine wpList_append_lies _ rfl (.tmp 10) (.tmp 13) 36 rfl (rb + 1) 3 i0 (.int .i64 0) 1 8 Tryz.underlying36 hi hz0 hz1 hz2 rfl (by decide) (.slice a n c) n (intsC (ends acc ns.length)) rfl (owns_bel (HA.out _ RW.out) (below1 W2 (.cells #[.int .i64 (v : Int)] 3))) ⟨W2.heap.size, 0, none⟩ 1 1 [.int .i64 (v : Int)] rfl rfl (int_news _ _ rfl _) (int_one _) (by decide) (by unfold maxLen; omega) (by omega) (by simp; omega) (W2.heap.size + 1) (by simp) ?_; intro g2 cp w4 hown hgrow hat hlt4; have LN := NX.out g2 cp w4 hgrow hat hlt4 hown; have LNB : Bx _ := ⟨LN⟩; clear hgrow hat hown LN))
      refine bodyPost_ret (v := .tuple #[.slice (some ⟨g2, 0, none⟩) (n + 1) cp, .int .i64 1]) (by simp [results, Tryz.results66, go_sem]) rfl ?_
      exact LNB.out
  · rw [if_neg h1]
    have HE : Bx (∀ W1, RSs w0 rb srcV tokV TL xs (Uv U (.slice a n c)) W1 s (ns ++ flats acc ns.length) → KeepR rb W W1 → PostR w0 rb srcV tokV TL xs U W0 s ns acc (.ok [] s) (.returned (.tuple #[(.slice a n c), .int .i64 0])) W1) := ⟨fun W1 q1 k1 => by
      refine ⟨by simp [sizes], by simp, a, n, c, by simp [hn], rfl, ?_, ?_, hk0.trans k1, hnew⟩
      · rw [List.append_nil]
        exact q1
      · rw [List.append_nil]
        exact hS.ints hI k1⟩
    clear hne HT hnew hn
    go_enter Tryz.func66, Tryz.ntmps66
    go_wp2_with (first
      | (go_at_call 49; refine Calls.mono (B1.out _ hS) ?_; rintro e W1 (⟨h, _⟩ | ⟨_, rfl, q1, k1⟩); exact absurd h h1; clear B1))
    refine bodyPost_ret (v := .tuple #[.slice a n c, .int .i64 0]) (by simp [results, Tryz.results66, go_sem]) rfl ?_
    exact HE.out _ q1 k1
end Go.Proofs.YtblhklbpcalglaaGreatDoor
namespace Go.Proofs.YtblhklbpcalglaaGreatDoor
open Go.RowKit
set_option linter.unusedVariables false
set_option linter.unusedSimpArgs false
variable {w0 : World} {rb : Nat} {srcV tokV : Value} {TL : List Tok} {xs : List UInt8} {U : Nat → Prop}
theorem poke_num {W W1 W3 : World} {s1 s3 : List PTok} {ns n1 : List Nd} {k p num : Int} {nm : ByteArray} {v : Value} {ys : List Int} (z : Int) (q1 : RSs w0 rb srcV tokV TL xs U W1 s1 n1) (k1 : KeepR rb W W1) (k3 : KeepR rb (W1.alloc (boxO k p nm num)) W3) (q3 : RSs w0 rb srcV tokV TL xs (Uv U v) W3 s3 ns) (r3 : IntsO W3 rb v ys) (n3 : ∀ y, v.ownBlock = some y → (W1.alloc (boxO k p nm num)).heap.size ≤ y) :
    RSs w0 rb srcV tokV TL xs (Uv U v) (W3.setCell ⟨W1.heap.size, 4, none⟩ (.int .i64 z)) s3 ns ∧ KeepR rb W (W3.setCell ⟨W1.heap.size, 4, none⟩ (.int .i64 z)) ∧ IntsO (W3.setCell ⟨W1.heap.size, 4, none⟩ (.int .i64 z)) rb v ys ∧ (∀ y, v.ownBlock = some y → W.heap.size ≤ y) ∧ (W3.setCell ⟨W1.heap.size, 4, none⟩ (.int .i64 z)).heap[W1.heap.size]? = some (boxO k p nm z) ∧ W1.heap.size < W3.heap.size ∧ W3.cell? ⟨W1.heap.size, 4, none⟩ = some (.int .i64 num) ∧ W3.frozen? ⟨W1.heap.size, 4, none⟩ = false ∧ ownN (W3.setCell ⟨W1.heap.size, 4, none⟩ (.int .i64 z)) rb ≠ some W1.heap.size ∧ rb < W1.heap.size := by
  have hz := k1.size
  have hr1 := q1.lt
  obtain ⟨hb, hown, hrx⟩ := box_at (o := boxO k p nm num) q1 (Below.refl _ _)
  obtain ⟨hb3, ho3⟩ := keep_own k3 hb hrx hown
  obtain ⟨p1, p2⟩ := q3.poke hrx ho3 hb3 4 (.int .i64 z)
  have k5 : KeepR rb W W3 := k1.trans ((KeepR.alloc hr1 _).trans k3)
  refine ⟨p1, p2 W k5 hz, ints_poke r3 (fun y hy => by have := n3 y hy; simp at this; omega), fun y hy => by have := n3 y hy; simp at this; omega, poke_box hb3, heapLt hb3, by simp [World.cell?, hb3, boxO], by simp [World.frozen?, hb3, boxO], ?_, hrx⟩
  have hrh : (W3.setCell ⟨W1.heap.size, 4, none⟩ (.int .i64 z)).heap[rb]? = W3.heap[rb]? := heap_setCell_other W3 ⟨W1.heap.size, 4, none⟩ rb _ (by show rb ≠ W1.heap.size; omega)
  unfold ownN
  rw [hrh]
  exact ho3
set_option maxRecDepth 100000 in
set_option maxHeartbeats 4000000 in
theorem progType_any (hT : RT w0 rb srcV tokV TL xs) (hK : Kinds TL) {f : Nat} (HT : ∀ f', f' < f → RC w0 rb srcV tokV TL xs (pF f' .typ) 36 #[]) (HL : LC 1 w0 rb srcV tokV TL xs (pF f (.listed .typ)) 65 #[.func (.func 36) #[.pointer (some ⟨rb, 0, none⟩)] #[]]) {W : World} {s : List PTok} {ns : List Nd} (hS : RSs w0 rb srcV tokV TL xs U W s ns) (hne : (want 23 s fun s1 => andT (pF f (.listed .typ) s1) fun a s2 => andT (pF f .result s2) fun b s3 => mk1 7 s b.length [] (a ++ b) s3) ≠ .out) :
    Calls Tryz.prog 55 #[.pointer (some ⟨rb, 0, none⟩)] W (Post1 w0 rb srcV tokV TL xs U W s ns (want 23 s fun s1 => andT (pF f (.listed .typ) s1) fun a s2 => andT (pF f .result s2) fun b s3 => mk1 7 s b.length [] (a ++ b) s3)) := by
  have hrW := hS.lt
  have hsl : s.length ≤ 65537 := by
    obtain ⟨i, rfl, hi, _⟩ := hS
    have := hT.small
    unfold pts
    simp
    omega
  have B1 : Bx (∀ W1, RSs w0 rb srcV tokV TL xs U W1 s ns → _) := ⟨fun W1 h => wantS hT hK h 23 (by decide) ⟨#[112, 114, 111, 103]⟩ (by decide)⟩
  by_cases h1 : kd s = 23
  · rw [want_pos h1] at hne ⊢
    have B2 : Bx (∀ W1, RSs w0 rb srcV tokV TL xs U W1 (tl s) ns → pF f (.listed .typ) (tl s) ≠ .out → Calls Tryz.prog 65 #[.pointer (some ⟨rb, 0, none⟩), .func (.func 36) #[.pointer (some ⟨rb, 0, none⟩)] #[]] W1 (PostL 1 w0 rb srcV tokV TL xs U W1 (tl s) ns (pF f (.listed .typ) (tl s)))) := ⟨fun W1 h hn => HL U W1 (tl s) ns h hn⟩
    match r2 : pF f (.listed .typ) (tl s) with
    | .out => rw [r2] at hne; exact absurd rfl hne
    | .err s2 =>
      rw [r2] at B2
      show Calls _ _ _ _ (Post1 w0 rb srcV tokV TL xs U W s ns (.err s2))
      clear hne HL HT
      go_enter Tryz.func55, Tryz.ntmps55
      go_wp2_with (first
        | (go_at_call 34; refine Calls.mono (B1.out _ hS) ?_; rintro e W1 (⟨_, rfl, q1, l1, k1⟩ | ⟨h, _⟩); rotate_left 1; exact absurd h1 h; clear B1)
        | (go_at_call 65; refine Calls.mono (B2.out _ (q1.ext (below1 _ _)) (by simp)) ?_; rintro e W2 ⟨rfl, b⟩; unfold faultP))
      exact ⟨rfl, rfl, b⟩
    | .ok a s2 =>
      rw [r2] at B2 hne
      simp only [andT] at hne ⊢
      have hge := sizes_ge a
      have B3 : Bx (∀ W0 W2 av c, RSs w0 rb srcV tokV TL xs (Uv U (.slice av a.length c)) W2 s2 (ns ++ flats a ns.length) → IntsO W2 rb (.slice av a.length c) (ends a ns.length) → KeepR rb W0 W2 → (∀ y, (Value.slice av a.length c).ownBlock = some y → W0.heap.size ≤ y) → a.length ≤ 100000 → pF f .result s2 ≠ .out → Calls Tryz.prog 66 #[.pointer (some ⟨rb, 0, none⟩), .slice av a.length c] W2 (PostR w0 rb srcV tokV TL xs U W0 s2 ns a (pF f .result s2))) := ⟨fun W0 W2 av c q r k n hl hn => result_any hT hK HT U W0 W2 s2 ns a av a.length c rfl q r k n hl hn⟩
      match r3 : pF f .result s2 with
      | .out => rw [r3] at hne; exact absurd rfl hne
      | .err s3 =>
        rw [r3] at B3
        show Calls _ _ _ _ (Post1 w0 rb srcV tokV TL xs U W s ns (.err s3))
        clear hne HL HT
        go_enter Tryz.func55, Tryz.ntmps55
        go_wp2_with (first
          | (go_at_call 34; refine Calls.mono (B1.out _ hS) ?_; rintro e W1 (⟨_, rfl, q1, l1, k1⟩ | ⟨h, _⟩); rotate_left 1; exact absurd h1 h; clear B1)
          | (go_at_call 65; refine Calls.mono (B2.out _ (q1.ext (below1 _ _)) (by simp)) ?_; rintro e W2 ⟨l2, a2, c2, rfl, q2, r2, k2, n2⟩; have B3' := B3.out _ _ _ _ q2 r2 k2 n2 (by omega); have B4 : Bx _ := ⟨B3'⟩; clear B2 B3 B3' q2 r2 n2 k2)
          | (go_at_call 66; refine Calls.mono (B4.out (by simp)) ?_; rintro e W3 ⟨rfl, b⟩; unfold faultP))
        exact ⟨rfl, rfl, b⟩
      | .ok b s3 =>
        rw [r3] at B3
        have HD : Bx (∀ W4 av m c z, RSs w0 rb srcV tokV TL xs (Uv U (.slice av m c)) W4 s3 (ns ++ flats (a ++ b) ns.length) → KeepR rb W W4 → m = a.length + b.length → z = (b.length : Int) → IntsO W4 rb (.slice av m c) (ends (a ++ b) ns.length) → (∀ y, (Value.slice av m c).ownBlock = some y → W.heap.size ≤ y) → s3.length + (sizes a + sizes b) + 1 ≤ s.length → ∀ kv, Calls Tryz.prog 27 #[.pointer (some ⟨rb, 0, none⟩), .agg #[.int .i64 7, .int .i64 (hd s).place, kv, .string ⟨#[]⟩, .int .i64 z], .slice av m c] W4 fun e W' => ∃ r : Int, e = .returned (.int .i64 r) ∧ Post1 w0 rb srcV tokV TL xs U W s ns (.ok [.mk 7 (hd s).place b.length [] (a ++ b)] s3) (.returned (.int .i64 r)) W') := ⟨fun W4 av m c z g1 g2 hm hz g3 g4 hl kv => by
          subst hz
          exact addS hT (a ++ b) (g1.anyU (fun y hy => .inl hy)) g2 (by rw [sizes_append]; omega) ⟨W, hS⟩ 7 (hd s).place b.length [] kv av m c (by simp [hm]) g3 (hS.isnew g4)⟩
        show Calls _ _ _ _ (Post1 w0 rb srcV tokV TL xs U W s ns (.ok [.mk 7 (hd s).place b.length [] (a ++ b)] s3))
        clear hne HL HT
        go_enter Tryz.func55, Tryz.ntmps55
        go_wp2_with (first
          | (go_at_call 34; refine Calls.mono (B1.out _ hS) ?_; rintro e W1 (⟨_, rfl, q1, l1, k1⟩ | ⟨h, _⟩); rotate_left 1; exact absurd h1 h; clear B1)
          | (go_at_call 65; refine Calls.mono (B2.out _ (q1.ext (below1 _ _)) (by simp)) ?_; rintro e W2 ⟨l2, a2, c2, rfl, q2, r2, k2, n2⟩; have B3' := B3.out _ _ _ _ q2 r2 k2 n2 (by omega); have B4 : Bx _ := ⟨B3'⟩; clear B2 B3 B3' q2 r2 n2 k2)
          | (go_at_call 66; refine Calls.mono (B4.out (by simp)) ?_; rintro e W3 ⟨l3, n1, a3, m3, c3, hm3, he, q3, r3, k3, n3⟩; obtain ⟨z, hz⟩ : ∃ r : Int, r = (b.length : Int) := ⟨_, rfl⟩; rw [← hz] at he; subst he; obtain ⟨g1, g2, g3, g4, g5, g6, g7, g8, g9, g10⟩ := poke_num z q1 k1 k3 q3 r3 n3; obtain ⟨y0, y1, y2, y3, y4, ylt⟩ := box5 g5; have G1 : Bx _ := ⟨g1⟩; have G2 : Bx _ := ⟨g2⟩; have G3 : Bx _ := ⟨g3⟩; have G4 : Bx _ := ⟨g4⟩; have HM : Bx _ := ⟨hm3⟩; have HZ : Bx _ := ⟨hz⟩; clear g1 g2 g3 g4 g5 g9 hm3 hz n1 q3 r3 k3 n3 B4)
          | (go_at_call 27; go_loud (refine Calls.mono (HD.out _ _ _ _ _ G1.out G2.out HM.out HZ.out G3.out G4.out (by omega) _) ?_; rintro e W9 ⟨r9, rfl, hp⟩)))
        go_ret
        exact hp
  · rw [want_neg h1]
    show Calls _ _ _ _ (Post1 w0 rb srcV tokV TL xs U W s ns (.err s))
    clear hne HL HT
    go_enter Tryz.func55, Tryz.ntmps55
    go_wp2_with (first
      | (go_at_call 34; refine Calls.mono (B1.out _ hS) ?_; rintro e W1 (⟨h, _⟩ | ⟨_, rfl, b⟩); exact absurd h h1; unfold faultP))
    exact ⟨rfl, rfl, b⟩
end Go.Proofs.YtblhklbpcalglaaGreatDoor
