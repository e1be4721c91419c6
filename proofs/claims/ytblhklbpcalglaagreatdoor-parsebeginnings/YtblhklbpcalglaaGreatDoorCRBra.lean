import Derived.Test.YtblhklbpcalglaaGreatDoorCRTy2
namespace Go.Proofs.YtblhklbpcalglaaGreatDoor
open Go.RowKit
set_option linter.unusedVariables false
set_option linter.unusedSimpArgs false
variable {w0 : World} {rb : Nat} {srcV tokV : Value} {TL : List Tok} {xs : List UInt8} {U : Nat → Prop}
theorem row_add {W W4 W5 : World} {s4 s5 : List PTok} {ns : List Nd} {e c : List Tr} {av : Option Addr} {m cc : Nat} (hS : ∃ s, RSs w0 rb srcV tokV TL xs U W s ns) (hm : m = e.length) (g1 : RSs w0 rb srcV tokV TL xs (Uv U (.slice av m cc)) W4 s4 (ns ++ flats e ns.length)) (g2 : KeepR rb W W4) (g3 : IntsO W4 rb (.slice av m cc) (ends e ns.length)) (g4 : ∀ y, (Value.slice av m cc).ownBlock = some y → W.heap.size ≤ y) (q5 : RSs w0 rb srcV tokV TL xs (Uv U (.slice av m cc)) W5 s5 ((ns ++ flats e ns.length) ++ flats c (ns ++ flats e ns.length).length)) (k5 : KeepR rb W4 W5) (n5 : c.length = 1) (v : Nat) (hv : v = (ns ++ flats e ns.length).length + sizes c - 1) :
    W5.ownsRow (rb + 1) 3 1 (.slice av m cc) m (intsC (ends e ns.length)) ∧ rb < W5.heap.size ∧ ∀ g2 cp w7, (W5.alloc (.cells #[.int .i64 (v : Int)] 3)).grownBy w7 (Value.slice av m cc).ownBlock → ((Value.slice av m cc).ownBlock = some g2 ∨ g2 = W5.heap.size + 1) → g2 < w7.heap.size → w7.ownsRow (rb + 1) 3 1 (.slice (some ⟨g2, 0, none⟩) (m + 1) cp) (m + 1) (intsC (ends e ns.length) ++ [.int .i64 (v : Int)]) → RSs w0 rb srcV tokV TL xs U w7 s5 (ns ++ flats (e ++ c) ns.length) ∧ KeepR rb W w7 ∧ IntsO w7 rb (.slice (some ⟨g2, 0, none⟩) (m + 1) cp) (ends (e ++ c) ns.length) ∧ (∀ g, (some ⟨g2, 0, none⟩ : Option Addr) = some ⟨g, 0, none⟩ → ¬ U g) := by
  have hrow := g1.ints g3 k5
  refine ⟨by unfold IntsO at hrow; rw [ends_len, ← hm] at hrow; exact hrow, q5.lt, fun g2' cp w7 hg hat hl7 hown7 => ?_⟩
  obtain ⟨p1, p2⟩ := q5.grown hrow hg g2' (m + 1) cp hat hl7
  obtain ⟨p3, p4⟩ := p2 W (g2.trans k5) g4
  have hends : ends (e ++ c) ns.length = ends e ns.length ++ [(v : Int)] := by rw [ends_append, ends_one n5, hv, two_len]
  refine ⟨?_, p3, ?_, ?_⟩
  · rw [two_lists] at p1
    exact p1.anyU (fun y hy => .inl hy)
  · unfold IntsO
    rw [hends, List.length_append, ends_len, intsC, List.map_append]
    subst hm
    exact hown7
  · intro g hg' hU
    simp only [Option.some.injEq, Addr.mk.injEq] at hg'
    obtain ⟨s, _, _, _, _, _, hUb⟩ := hS
    have := hUb g hU
    omega
theorem row_two {W W3 W4 : World} {s3 : List PTok} {ns : List Nd} {a b : List Tr} (q3 : RSs w0 rb srcV tokV TL xs U W3 s3 (ns ++ flats (a ++ b) ns.length)) (k3 : KeepR rb W W3) (na : a.length = 1) (nb : b.length = 1) (v2 v3 : Nat) (h2 : v2 = ns.length + sizes a - 1) (h3 : v3 = (ns ++ flats a ns.length).length + sizes b - 1) (k4 : KeepR rb (W3.alloc (.cells #[.int .i64 (v2 : Int), .int .i64 (v3 : Int)] 3)) W4) :
    KeepR rb W W4 ∧ IntsO W4 rb (.slice (some ⟨W3.heap.size, 0, none⟩) 2 2) (ends (a ++ b) ns.length) ∧ ∀ y, (Value.slice (some ⟨W3.heap.size, 0, none⟩) 2 2).ownBlock = some y → W.heap.size ≤ y := by
  have en : ends (a ++ b) ns.length = [(v2 : Int), (v3 : Int)] := by rw [ends_append, ends_one na, ends_one nb, h2, h3, two_len]; rfl
  have hI := ints_new (rb := rb) (W := W3) (o := #[.int .i64 (v2 : Int), .int .i64 (v3 : Int)]) (ys := ends (a ++ b) ns.length) (n := 2) (by rw [en]; rfl) (by decide) (by decide) q3.lt (by rw [en]; rfl)
  have hz := k3.size
  exact ⟨k3.trans ((KeepR.alloc q3.lt _).trans k4), (q3.ext (below1 W3 (.cells #[.int .i64 (v2 : Int), .int .i64 (v3 : Int)] 3))).ints hI k4, fun y hy => by simp [Value.ownBlock] at hy; omega⟩
theorem RSs.row2 {W : World} {s : List PTok} {ns : List Nd} (h : RSs w0 rb srcV tokV TL xs U W s ns) (o : Obj) : RSs w0 rb srcV tokV TL xs (Uv U (.slice (some ⟨W.heap.size, 0, none⟩) 2 2)) (W.alloc o) s ns := h.row1 o
set_option maxRecDepth 100000 in
set_option maxHeartbeats 4000000 in
theorem branch_any (hT : RT w0 rb srcV tokV TL xs) (hK : Kinds TL) {f : Nat} {O : List PTok → Res} (HE : RC w0 rb srcV tokV TL xs (pF f (.operands 1)) 56 #[]) (HB : RC w0 rb srcV tokV TL xs (pF f .block) 44 #[]) (HO : RC w0 rb srcV tokV TL xs O 57 #[]) {W : World} {s : List PTok} {ns : List Nd} (hS : RSs w0 rb srcV tokV TL xs U W s ns) (hne : (want 18 s fun s1 => andT (pF f (.operands 1) s1) fun a s2 => andT (pF f .block s2) fun b s3 => if kd s3 = 15 then want 15 s3 fun s4 => andT (O s4) fun c s5 => mk1 36 s 0 [] (a ++ (b ++ c)) s5 else mk1 36 s 0 [] (a ++ b) s3) ≠ .out) :
    Calls Tryz.prog 39 #[.pointer (some ⟨rb, 0, none⟩)] W (Post1 w0 rb srcV tokV TL xs U W s ns (want 18 s fun s1 => andT (pF f (.operands 1) s1) fun a s2 => andT (pF f .block s2) fun b s3 => if kd s3 = 15 then want 15 s3 fun s4 => andT (O s4) fun c s5 => mk1 36 s 0 [] (a ++ (b ++ c)) s5 else mk1 36 s 0 [] (a ++ b) s3)) := by
  have hrW := hS.lt
  obtain ⟨i0, hi, hz0, hz1, hz2⟩ := info_parts infoInt
  have HS : Bx (∃ s, RSs w0 rb srcV tokV TL xs U W s ns) := ⟨⟨s, hS⟩⟩
  have B1 : Bx (∀ W1, RSs w0 rb srcV tokV TL xs U W1 s ns → _) := ⟨fun W1 h => wantS hT hK h 18 (by decide) ⟨#[105, 102]⟩ (by decide)⟩
  by_cases h1 : kd s = 18
  · rw [want_pos h1] at hne ⊢
    have B2 : Bx (∀ W1, RSs w0 rb srcV tokV TL xs U W1 (tl s) ns → pF f (.operands 1) (tl s) ≠ .out → Calls Tryz.prog 56 #[.pointer (some ⟨rb, 0, none⟩)] W1 (Post1 w0 rb srcV tokV TL xs U W1 (tl s) ns (pF f (.operands 1) (tl s)))) := ⟨fun W1 h hn => HE U W1 (tl s) ns h hn⟩
    match r2 : pF f (.operands 1) (tl s) with
    | .out => rw [r2] at hne; exact absurd rfl hne
    | .err s2 =>
      rw [r2] at B2
      show Calls _ _ _ _ (Post1 w0 rb srcV tokV TL xs U W s ns (.err s2))
      clear hne HE HB HO
      go_enter Tryz.func39, Tryz.ntmps39
      go_wp2_with (first
        | (go_at_call 34; refine Calls.mono (B1.out _ hS) ?_; rintro e W1 (⟨_, rfl, q1, l1, k1⟩ | ⟨h, _⟩); rotate_left 1; exact absurd h1 h; clear B1)
        | (go_at_call 56; refine Calls.mono (B2.out _ q1 (by simp)) ?_; rintro e W2 ⟨rfl, b⟩; unfold faultP))
      exact ⟨rfl, rfl, b⟩
    | .ok a s2 =>
      rw [r2] at B2 hne
      simp only [andT] at hne ⊢
      have B3 : Bx (∀ W1, RSs w0 rb srcV tokV TL xs U W1 s2 (ns ++ flats a ns.length) → pF f .block s2 ≠ .out → Calls Tryz.prog 44 #[.pointer (some ⟨rb, 0, none⟩)] W1 (Post1 w0 rb srcV tokV TL xs U W1 s2 (ns ++ flats a ns.length) (pF f .block s2))) := ⟨fun W1 h hn => HB U W1 s2 (ns ++ flats a ns.length) h hn⟩
      match r3 : pF f .block s2 with
      | .out => rw [r3] at hne; exact absurd rfl hne
      | .err s3 =>
        rw [r3] at B3
        show Calls _ _ _ _ (Post1 w0 rb srcV tokV TL xs U W s ns (.err s3))
        clear hne HE HB HO
        go_enter Tryz.func39, Tryz.ntmps39
        go_wp2_with (first
          | (go_at_call 34; refine Calls.mono (B1.out _ hS) ?_; rintro e W1 (⟨_, rfl, q1, l1, k1⟩ | ⟨h, _⟩); rotate_left 1; exact absurd h1 h; clear B1)
          | (go_at_call 56; refine Calls.mono (B2.out _ q1 (by simp)) ?_; rintro e W2 ⟨n2, l2, he, q2, k2⟩; obtain ⟨v2, hv⟩ : ∃ r : Nat, r = (ns.length + sizes a - 1) := ⟨_, rfl⟩; rw [← hv] at he; subst he; have V2 : Bx _ := ⟨hv⟩; have N2 : Bx _ := ⟨n2⟩; clear hv B2 n2)
          | (go_at_call 44; refine Calls.mono (B3.out _ q2 (by simp)) ?_; rintro e W3 ⟨rfl, b⟩; unfold faultP))
        exact ⟨rfl, rfl, b⟩
      | .ok b s3 =>
        rw [r3] at B3 hne
        simp only [] at hne ⊢
        have B4 : Bx (∀ U' W1, RSs w0 rb srcV tokV TL xs U' W1 s3 (ns ++ flats (a ++ b) ns.length) → _) := ⟨fun U' W1 h => skipS (U := U') hT hK h 15 (by decide) ⟨#[101, 108, 115, 101]⟩ (by decide)⟩
        by_cases h4 : kd s3 = 15
        · rw [if_pos h4, want_pos h4] at hne ⊢
          have B5 : Bx (∀ U' W1, RSs w0 rb srcV tokV TL xs U' W1 (tl s3) (ns ++ flats (a ++ b) ns.length) → O (tl s3) ≠ .out → Calls Tryz.prog 57 #[.pointer (some ⟨rb, 0, none⟩)] W1 (Post1 w0 rb srcV tokV TL xs U' W1 (tl s3) (ns ++ flats (a ++ b) ns.length) (O (tl s3)))) := ⟨fun U' W1 h hn => HO U' W1 (tl s3) (ns ++ flats (a ++ b) ns.length) h hn⟩
          match r5 : O (tl s3) with
          | .out => rw [r5] at hne; exact absurd rfl hne
          | .err s5 =>
            rw [r5] at B5
            show Calls _ _ _ _ (Post1 w0 rb srcV tokV TL xs U W s ns (.err s5))
            clear hne HE HB HO
            go_enter Tryz.func39, Tryz.ntmps39
            go_wp2_with (first
              | (go_at_call 34; refine Calls.mono (B1.out _ hS) ?_; rintro e W1 (⟨_, rfl, q1, l1, k1⟩ | ⟨h, _⟩); rotate_left 1; exact absurd h1 h; clear B1)
              | (go_at_call 56; refine Calls.mono (B2.out _ q1 (by simp)) ?_; rintro e W2 ⟨n2, l2, he, q2, k2⟩; obtain ⟨v2, hv⟩ : ∃ r : Nat, r = (ns.length + sizes a - 1) := ⟨_, rfl⟩; rw [← hv] at he; subst he; have V2 : Bx _ := ⟨hv⟩; have N2 : Bx _ := ⟨n2⟩; clear hv B2 n2)
              | (go_at_call 44; refine Calls.mono (B3.out _ q2 (by simp)) ?_; rintro e W3 ⟨n3, l3, he, q3, k3⟩; obtain ⟨v3, hv⟩ : ∃ r : Nat, r = ((ns ++ flats a ns.length).length + sizes b - 1) := ⟨_, rfl⟩; rw [← hv] at he; subst he; rw [two_lists] at q3; have V3 : Bx _ := ⟨hv⟩; have N3 : Bx _ := ⟨n3⟩; have q3' := q3.row2 (.cells #[.int .i64 (v2 : Int), .int .i64 (v3 : Int)] 3); have Q3 : Bx _ := ⟨q3'⟩; clear hv B3 n3 q3')
              | (go_at_call 49; refine Calls.mono (B4.out _ _ Q3.out) ?_; rintro e W4 (⟨_, rfl, q4, l4, k4⟩ | ⟨h, _⟩); rotate_left 1; exact absurd h4 h; obtain ⟨g2, g3, g4⟩ := row_two q3 (k1.trans (k2.trans k3)) N2.out N3.out v2 v3 V2.out V3.out k4; have Q4 : Bx _ := ⟨q4⟩; have G2 : Bx _ := ⟨g2⟩; have G3 : Bx _ := ⟨g3⟩; have G4 : Bx _ := ⟨g4⟩; clear g2 g3 g4 q4 B4 Q3 q3 k3 k4)
              | (go_at_call 57; refine Calls.mono (B5.out _ _ Q4.out (by simp)) ?_; rintro e W5 ⟨rfl, b⟩; unfold faultP))
            exact ⟨rfl, rfl, b⟩
          | .ok c s5 =>
            rw [r5] at B5
            have HD : Bx (∀ (w7 : World) (gb cp : Nat), RSs w0 rb srcV tokV TL xs U w7 s5 (ns ++ flats ((a ++ b) ++ c) ns.length) → KeepR rb W w7 → IntsO w7 rb (.slice (some ⟨gb, 0, none⟩) (2 + 1) cp) (ends ((a ++ b) ++ c) ns.length) → (∀ g, (some ⟨gb, 0, none⟩ : Option Addr) = some ⟨g, 0, none⟩ → ¬ U g) → a.length = 1 → b.length = 1 → c.length = 1 → s5.length + (sizes a + sizes b + sizes c) + 1 ≤ s.length → ∀ kv, Calls Tryz.prog 27 #[.pointer (some ⟨rb, 0, none⟩), .agg #[.int .i64 36, .int .i64 (hd s).place, kv, .string ⟨#[]⟩, .int .i64 0], .slice (some ⟨gb, 0, none⟩) 3 cp] w7 fun e W' => ∃ r : Int, e = .returned (.int .i64 r) ∧ Post1 w0 rb srcV tokV TL xs U W s ns (.ok [.mk 36 (hd s).place 0 [] (a ++ (b ++ c))] s5) (.returned (.int .i64 r)) W') := ⟨fun w7 gb cp q k r n ha hb hc hl kv => by
              rw [List.append_assoc] at q r
              exact addS hT (a ++ (b ++ c)) q k (by rw [sizes_append, sizes_append]; omega) ⟨W, hS⟩ 36 (hd s).place 0 [] kv (some ⟨gb, 0, none⟩) 3 cp (by simp [ha, hb, hc]) r n⟩
            show Calls _ _ _ _ (Post1 w0 rb srcV tokV TL xs U W s ns (.ok [.mk 36 (hd s).place 0 [] (a ++ (b ++ c))] s5))
            clear hne HE HB HO
            go_enter Tryz.func39, Tryz.ntmps39
            go_wp2_with (first
              | (go_at_call 34; refine Calls.mono (B1.out _ hS) ?_; rintro e W1 (⟨_, rfl, q1, l1, k1⟩ | ⟨h, _⟩); rotate_left 1; exact absurd h1 h; clear B1)
              | (go_at_call 56; refine Calls.mono (B2.out _ q1 (by simp)) ?_; rintro e W2 ⟨n2, l2, he, q2, k2⟩; obtain ⟨v2, hv⟩ : ∃ r : Nat, r = (ns.length + sizes a - 1) := ⟨_, rfl⟩; rw [← hv] at he; subst he; have V2 : Bx _ := ⟨hv⟩; have N2 : Bx _ := ⟨n2⟩; clear hv B2 n2)
              | (go_at_call 44; refine Calls.mono (B3.out _ q2 (by simp)) ?_; rintro e W3 ⟨n3, l3, he, q3, k3⟩; obtain ⟨v3, hv⟩ : ∃ r : Nat, r = ((ns ++ flats a ns.length).length + sizes b - 1) := ⟨_, rfl⟩; rw [← hv] at he; subst he; rw [two_lists] at q3; have V3 : Bx _ := ⟨hv⟩; have N3 : Bx _ := ⟨n3⟩; have q3' := q3.row2 (.cells #[.int .i64 (v2 : Int), .int .i64 (v3 : Int)] 3); have Q3 : Bx _ := ⟨q3'⟩; clear hv B3 n3 q3')
              | (go_at_call 49; refine Calls.mono (B4.out _ _ Q3.out) ?_; rintro e W4 (⟨_, rfl, q4, l4, k4⟩ | ⟨h, _⟩); rotate_left 1; exact absurd h4 h; obtain ⟨g2, g3, g4⟩ := row_two q3 (k1.trans (k2.trans k3)) N2.out N3.out v2 v3 V2.out V3.out k4; have Q4 : Bx _ := ⟨q4⟩; have G2 : Bx _ := ⟨g2⟩; have G3 : Bx _ := ⟨g3⟩; have G4 : Bx _ := ⟨g4⟩; clear g2 g3 g4 q4 B4 Q3 q3 k3 k4)
              | (go_at_call 57; refine Calls.mono (B5.out _ _ Q4.out (by simp)) ?_; rintro e W5 ⟨n5, l5, he, q5, k5⟩; obtain ⟨v5, hv⟩ : ∃ r : Nat, r = ((ns ++ flats (a ++ b) ns.length).length + sizes c - 1) := ⟨_, rfl⟩; rw [← hv] at he; subst he; obtain ⟨e1, e3, e4⟩ := row_add HS.out (by rw [List.length_append, N2.out, N3.out]) Q4.out G2.out G3.out G4.out q5 k5 n5 v5 hv; have E1 : Bx _ := ⟨e1⟩; have E4 : Bx _ := ⟨e4⟩; have N5 : Bx _ := ⟨n5⟩; clear e1 e4 n5 hv q5 k5 B5)
              | (at_builtin; refine wpList_append_lies _ rfl (.tmp 14) (.tmp 17) 36 rfl (rb + 1) 3 i0 (.int .i64 0) 1 8 Tryz.underlying36 hi hz0 hz1 hz2 rfl (by decide) (.slice (some ⟨W3.heap.size, 0, none⟩) 2 2) 2 (intsC (ends (a ++ b) ns.length)) rfl (owns_bel E1.out (below1 W5 (.cells #[.int .i64 (v5 : Int)] 3))) ⟨W5.heap.size, 0, none⟩ 1 1 [.int .i64 (v5 : Int)] rfl rfl (int_news _ _ rfl _) (int_one _) (by decide) (by unfold maxLen; omega) (by omega) (by simp; omega) (W5.heap.size + 1) (by simp) ?_; intro gb cp w7 hown hgrow hat hlt7; have F0 := E4.out gb cp w7 hgrow hat hlt7 hown; have F1 : Bx _ := ⟨F0⟩; clear hown hgrow hat F0 E1 E4)
              | (go_at_call 27; go_loud (refine Calls.mono (HD.out _ _ _ F1.out.1 F1.out.2.1 F1.out.2.2.1 F1.out.2.2.2 N2.out N3.out N5.out (by omega) _) ?_; rintro e W9 ⟨r9, rfl, hp⟩)))
            go_ret
            exact hp
        · rw [if_neg h4]
          have HD : Bx (∀ W3 W4 : World, RSs w0 rb srcV tokV TL xs (Uv U (.slice (some ⟨W3.heap.size, 0, none⟩) 2 2)) W4 s3 (ns ++ flats (a ++ b) ns.length) → KeepR rb W W4 → IntsO W4 rb (.slice (some ⟨W3.heap.size, 0, none⟩) 2 2) (ends (a ++ b) ns.length) → (∀ y, (Value.slice (some ⟨W3.heap.size, 0, none⟩) 2 2).ownBlock = some y → W.heap.size ≤ y) → a.length = 1 → b.length = 1 → s3.length + (sizes a + sizes b) + 1 ≤ s.length → ∀ kv, Calls Tryz.prog 27 #[.pointer (some ⟨rb, 0, none⟩), .agg #[.int .i64 36, .int .i64 (hd s).place, kv, .string ⟨#[]⟩, .int .i64 0], (.slice (some ⟨W3.heap.size, 0, none⟩) 2 2)] W4 fun e W' => ∃ r : Int, e = .returned (.int .i64 r) ∧ Post1 w0 rb srcV tokV TL xs U W s ns (.ok [.mk 36 (hd s).place 0 [] (a ++ b)] s3) (.returned (.int .i64 r)) W') := ⟨fun W3 W4 q k r n ha hb hl kv => addS hT (a ++ b) (q.anyU (fun y hy => .inl hy)) k (by rw [sizes_append]; omega) ⟨W, hS⟩ 36 (hd s).place 0 [] kv (some ⟨W3.heap.size, 0, none⟩) 2 2 (by simp [ha, hb]) r (hS.isnew n)⟩
          show Calls _ _ _ _ (Post1 w0 rb srcV tokV TL xs U W s ns (.ok [.mk 36 (hd s).place 0 [] (a ++ b)] s3))
          clear hne HE HB HO
          go_enter Tryz.func39, Tryz.ntmps39
          go_wp2_with (first
            | (go_at_call 34; refine Calls.mono (B1.out _ hS) ?_; rintro e W1 (⟨_, rfl, q1, l1, k1⟩ | ⟨h, _⟩); rotate_left 1; exact absurd h1 h; clear B1)
            | (go_at_call 56; refine Calls.mono (B2.out _ q1 (by simp)) ?_; rintro e W2 ⟨n2, l2, he, q2, k2⟩; obtain ⟨v2, hv⟩ : ∃ r : Nat, r = (ns.length + sizes a - 1) := ⟨_, rfl⟩; rw [← hv] at he; subst he; have V2 : Bx _ := ⟨hv⟩; have N2 : Bx _ := ⟨n2⟩; clear hv B2 n2)
            | (go_at_call 44; refine Calls.mono (B3.out _ q2 (by simp)) ?_; rintro e W3 ⟨n3, l3, he, q3, k3⟩; obtain ⟨v3, hv⟩ : ∃ r : Nat, r = ((ns ++ flats a ns.length).length + sizes b - 1) := ⟨_, rfl⟩; rw [← hv] at he; subst he; rw [two_lists] at q3; have V3 : Bx _ := ⟨hv⟩; have N3 : Bx _ := ⟨n3⟩; have q3' := q3.row2 (.cells #[.int .i64 (v2 : Int), .int .i64 (v3 : Int)] 3); have Q3 : Bx _ := ⟨q3'⟩; clear hv B3 n3 q3')
            | (go_at_call 49; refine Calls.mono (B4.out _ _ Q3.out) ?_; rintro e W4 (⟨h, _⟩ | ⟨_, rfl, q4, k4⟩); exact absurd h h4; obtain ⟨g2, g3, g4⟩ := row_two q3 (k1.trans (k2.trans k3)) N2.out N3.out v2 v3 V2.out V3.out k4; have Q4 : Bx _ := ⟨q4⟩; have G2 : Bx _ := ⟨g2⟩; have G3 : Bx _ := ⟨g3⟩; have G4 : Bx _ := ⟨g4⟩; clear g2 g3 g4 q4 B4 Q3 q3 k3 k4)
            | (go_at_call 27; go_loud (refine Calls.mono (HD.out _ _ Q4.out G2.out G3.out G4.out N2.out N3.out (by omega) _) ?_; rintro e W9 ⟨r9, rfl, hp⟩)))
          go_ret
          exact hp
  · rw [want_neg h1]
    show Calls _ _ _ _ (Post1 w0 rb srcV tokV TL xs U W s ns (.err s))
    clear hne HE HB HO
    go_enter Tryz.func39, Tryz.ntmps39
    go_wp2_with (first
      | (go_at_call 34; refine Calls.mono (B1.out _ hS) ?_; rintro e W1 (⟨h, _⟩ | ⟨_, rfl, b⟩); exact absurd h h1; unfold faultP))
    exact ⟨rfl, rfl, b⟩
end Go.Proofs.YtblhklbpcalglaaGreatDoor
