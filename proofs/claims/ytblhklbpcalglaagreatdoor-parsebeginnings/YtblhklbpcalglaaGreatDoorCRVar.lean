import Derived.Test.YtblhklbpcalglaaGreatDoorCRPrg
namespace Go.Proofs.YtblhklbpcalglaaGreatDoor
open Go.RowKit
set_option linter.unusedVariables false
set_option linter.unusedSimpArgs false
variable {w0 : World} {rb : Nat} {srcV tokV : Value} {TL : List Tok} {xs : List UInt8} {U : Nat → Prop}
theorem var_at {W W2 W4 W5 : World} {s2 s4 : List PTok} {ns : List Nd} {a : List Tr} {k p num : Int} {nm : ByteArray} (q2 : RSs w0 rb srcV tokV TL xs U W2 s2 ns) (kW : KeepR rb W W2) (k4 : KeepR rb (W2.alloc (boxO k p nm num)) W4) (q4 : RSs w0 rb srcV tokV TL xs U W4 s4 (ns ++ flats a ns.length)) (n4 : a.length = 1) (v : Nat) (hv : v = ns.length + sizes a - 1) (k5 : KeepR rb (W4.alloc (.cells #[.int .i64 (v : Int)] 3)) W5) :
    KeepR rb W W5 ∧ IntsO W5 rb (.slice (some ⟨W4.heap.size, 0, none⟩) 1 1) (ends a ns.length) ∧ (∀ y, (Value.slice (some ⟨W4.heap.size, 0, none⟩) 1 1).ownBlock = some y → W.heap.size ≤ y ∧ y ≠ W2.heap.size) ∧ W5.heap[W2.heap.size]? = some (boxO k p nm num) ∧ ownN W5 rb ≠ some W2.heap.size ∧ rb < W2.heap.size := by
  obtain ⟨hb, hown, hrx⟩ := box_at (o := (boxO k p nm num)) q2 (Below.refl _ _)
  have ka : KeepR rb W4 W5 := (KeepR.alloc q4.lt _).trans k5
  obtain ⟨hb5, ho5⟩ := keep_own (k4.trans ka) hb hrx hown
  have hz := kW.size
  have hz4 := k4.size
  simp at hz4
  have r4 := (q4.row1 (.cells #[.int .i64 (v : Int)] 3)).ints (row_one (rb := rb) (W := W4) (v := v) q4.lt) k5
  refine ⟨kW.trans ((KeepR.alloc q2.lt _).trans (k4.trans ka)), ?_, fun y hy => ?_, hb5, ho5, hrx⟩
  · rw [ends_one n4, ← hv]
    exact r4
  · simp [Value.ownBlock] at hy
    omega
theorem KeepR.undrew {W W' : World} (h : KeepR rb W W') : KeepR rb W.drew W' := ⟨h.size, h.same, h.own⟩
set_option maxRecDepth 100000 in
set_option maxHeartbeats 4000000 in
theorem varNamed_any (hT : RT w0 rb srcV tokV TL xs) (hK : Kinds TL) {f : Nat} (HT : RC w0 rb srcV tokV TL xs (pF f .typ) 36 #[]) (HE : RC w0 rb srcV tokV TL xs (pF f (.operands 1)) 56 #[]) {W : World} {s : List PTok} {ns : List Nd} (hS : RSs w0 rb srcV tokV TL xs U W s ns) (hne : (want 29 s fun s1 => nameK s1 fun n s2 => want 48 s2 fun s3 => andT (pF f .typ s3) fun a s4 => if kd s4 = 50 then want 50 s4 fun s5 => andT (pF f (.operands 1) s5) fun b s6 => want 47 s6 fun s7 => mk1 32 s 0 n (a ++ b) s7 else want 47 s4 fun s5 => mk1 32 s 0 n a s5) ≠ .out) :
    Calls Tryz.prog 38 #[.pointer (some ⟨rb, 0, none⟩)] W (Post1 w0 rb srcV tokV TL xs U W s ns (want 29 s fun s1 => nameK s1 fun n s2 => want 48 s2 fun s3 => andT (pF f .typ s3) fun a s4 => if kd s4 = 50 then want 50 s4 fun s5 => andT (pF f (.operands 1) s5) fun b s6 => want 47 s6 fun s7 => mk1 32 s 0 n (a ++ b) s7 else want 47 s4 fun s5 => mk1 32 s 0 n a s5)) := by
  have hrW := hS.lt
  obtain ⟨i0, hi, hz0, hz1, hz2⟩ := info_parts infoInt
  have HS : Bx (∃ s, RSs w0 rb srcV tokV TL xs U W s ns) := ⟨⟨s, hS⟩⟩
  have B1 : Bx (∀ W1, RSs w0 rb srcV tokV TL xs U W1 s ns → _) := ⟨fun W1 h => wantS hT hK h 29 (by decide) ⟨#[118, 97, 114]⟩ (by decide)⟩
  by_cases h1 : kd s = 29
  · rw [want_pos h1] at hne ⊢
    have B2 : Bx (∀ W1, RSs w0 rb srcV tokV TL xs U W1 (tl s) ns → _) := ⟨fun W1 h => nameS hT hK h⟩
    by_cases h2 : kd (tl s) = 1
    · rw [nameK_pos h2] at hne ⊢
      have B3 : Bx (∀ W1, RSs w0 rb srcV tokV TL xs U W1 (tl (tl s)) ns → _) := ⟨fun W1 h => wantS hT hK h 48 (by decide) ⟨#[58]⟩ (by decide)⟩
      by_cases h3 : kd (tl (tl s)) = 48
      · rw [want_pos h3] at hne ⊢
        have B4 : Bx (∀ W1, RSs w0 rb srcV tokV TL xs U W1 (tl (tl (tl s))) ns → pF f .typ (tl (tl (tl s))) ≠ .out → Calls Tryz.prog 36 #[.pointer (some ⟨rb, 0, none⟩)] W1 (Post1 w0 rb srcV tokV TL xs U W1 (tl (tl (tl s))) ns (pF f .typ (tl (tl (tl s)))))) := ⟨fun W1 h hn => HT U W1 (tl (tl (tl s))) ns h hn⟩
        match r4 : pF f .typ (tl (tl (tl s))) with
        | .out => rw [r4] at hne; exact absurd rfl hne
        | .err s4 =>
          rw [r4] at B4
          show Calls _ _ _ _ (Post1 w0 rb srcV tokV TL xs U W s ns (.err s4))
          generalize (⟨(hd (tl s)).name.toArray⟩ : ByteArray) = nmB at *
          clear hne HE HT
          go_enter Tryz.func38, Tryz.ntmps38
          go_wp2_with (first
            | (go_at_call 34; refine Calls.mono (B1.out _ hS) ?_; rintro e W1 (⟨_, rfl, q1, l1, k1⟩ | ⟨h, _⟩); rotate_left 1; exact absurd h1 h; clear B1)
            | (go_at_call 35; refine Calls.mono (B2.out _ q1) ?_; rintro e W2 (⟨_, rfl, q2, l2, k2⟩ | ⟨h, _⟩); rotate_left 1; exact absurd h2 h; clear B2)
            | (go_at_call 34; refine Calls.mono (B3.out _ (q2.ext (below1 _ _))) ?_; rintro e W3 (⟨_, rfl, q3, l3, k3⟩ | ⟨h, _⟩); rotate_left 1; exact absurd h3 h; clear B3)
            | (go_at_call 36; refine Calls.mono (B4.out _ q3 (by simp)) ?_; rintro e W4 ⟨rfl, b⟩; unfold faultP))
          exact ⟨rfl, rfl, b⟩
        | .ok a s4 =>
          rw [r4] at B4 hne
          simp only [andT] at hne ⊢
          have B5 : Bx (∀ U' W1, RSs w0 rb srcV tokV TL xs U' W1 s4 (ns ++ flats a ns.length) → _) := ⟨fun U' W1 h => skipS (U := U') hT hK h 50 (by decide) ⟨#[61]⟩ (by decide)⟩
          by_cases h5 : kd s4 = 50
          · rw [if_pos h5, want_pos h5] at hne ⊢
            have B6 : Bx (∀ U' W1, RSs w0 rb srcV tokV TL xs U' W1 (tl s4) (ns ++ flats a ns.length) → pF f (.operands 1) (tl s4) ≠ .out → Calls Tryz.prog 56 #[.pointer (some ⟨rb, 0, none⟩)] W1 (Post1 w0 rb srcV tokV TL xs U' W1 (tl s4) (ns ++ flats a ns.length) (pF f (.operands 1) (tl s4)))) := ⟨fun U' W1 h hn => HE U' W1 (tl s4) (ns ++ flats a ns.length) h hn⟩
            match r6 : pF f (.operands 1) (tl s4) with
            | .out => rw [r6] at hne; exact absurd rfl hne
            | .err s6 =>
              rw [r6] at B6
              show Calls _ _ _ _ (Post1 w0 rb srcV tokV TL xs U W s ns (.err s6))
              generalize (⟨(hd (tl s)).name.toArray⟩ : ByteArray) = nmB at *
              clear hne HE HT
              go_enter Tryz.func38, Tryz.ntmps38
              go_wp2_with (first
                | (go_at_call 34; refine Calls.mono (B1.out _ hS) ?_; rintro e W1 (⟨_, rfl, q1, l1, k1⟩ | ⟨h, _⟩); rotate_left 1; exact absurd h1 h; clear B1)
                | (go_at_call 35; refine Calls.mono (B2.out _ q1) ?_; rintro e W2 (⟨_, rfl, q2, l2, k2⟩ | ⟨h, _⟩); rotate_left 1; exact absurd h2 h; clear B2)
                | (go_at_call 34; refine Calls.mono (B3.out _ (q2.ext (below1 _ _))) ?_; rintro e W3 (⟨_, rfl, q3, l3, k3⟩ | ⟨h, _⟩); rotate_left 1; exact absurd h3 h; clear B3)
                | (go_at_call 36; refine Calls.mono (B4.out _ q3 (by simp)) ?_; rintro e W4 ⟨n4, l4, he, q4, k4⟩; obtain ⟨v, hv⟩ : ∃ r : Nat, r = (ns.length + sizes a - 1) := ⟨_, rfl⟩; rw [← hv] at he; subst he; have V : Bx _ := ⟨hv⟩; have q4' := q4.row1 (.cells #[.int .i64 (v : Int)] 3); have Q4 : Bx _ := ⟨q4'⟩; have N4 : Bx _ := ⟨n4⟩; clear hv B4 q4' n4)
                | (go_at_call 49; refine Calls.mono (B5.out _ _ Q4.out) ?_; rintro e W5 (⟨_, rfl, q5, l5, k5⟩ | ⟨h, _⟩); rotate_left 1; exact absurd h5 h; obtain ⟨g2, g3, g4, g5, g6, hrx⟩ := var_at (k := 32) (p := (hd s).place) (nm := nmB) (num := 0) q2 (k1.trans k2) (k3.trans k4) q4 N4.out v V.out k5; have Q5 : Bx _ := ⟨q5⟩; have G2 : Bx _ := ⟨g2⟩; have G3 : Bx _ := ⟨g3⟩; have G4 : Bx _ := ⟨g4⟩; have G5 : Bx _ := ⟨g5⟩; have G6 : Bx _ := ⟨g6⟩; clear g2 g3 g4 g5 g6 B5 Q4 q4 q5)
                | (go_at_call 56; refine Calls.mono (B6.out _ _ Q5.out (by simp)) ?_; rintro e W6 ⟨rfl, b⟩; unfold faultP))
              exact ⟨rfl, rfl, b⟩
            | .ok b s6 =>
              rw [r6] at B6 hne
              simp only [] at hne ⊢
              have B7 : Bx (∀ W1, RSs w0 rb srcV tokV TL xs U W1 s6 (ns ++ flats (a ++ b) ns.length) → _) := ⟨fun W1 h => wantS hT hK h 47 (by decide) ⟨#[59]⟩ (by decide)⟩
              by_cases h7 : kd s6 = 47
              · rw [want_pos h7]
                have HD : Bx (∀ w7 W8 gb c, RSs w0 rb srcV tokV TL xs U w7 s6 (ns ++ flats (a ++ b) ns.length) → KeepR rb W w7 → IntsO w7 rb (.slice (some ⟨gb, 0, none⟩) (1 + 1) c) (ends (a ++ b) ns.length) → (∀ g, (some ⟨gb, 0, none⟩ : Option Addr) = some ⟨g, 0, none⟩ → ¬ U g) → RSs w0 rb srcV tokV TL xs U W8 (tl s6) (ns ++ flats (a ++ b) ns.length) → KeepR rb w7 W8 → a.length = 1 → b.length = 1 → (tl s6).length + (sizes a + sizes b) + 1 ≤ s.length → ∀ kv, Calls Tryz.prog 27 #[.pointer (some ⟨rb, 0, none⟩), .agg #[.int .i64 32, .int .i64 (hd s).place, kv, .string ⟨(hd (tl s)).name.toArray⟩, .int .i64 0], .slice (some ⟨gb, 0, none⟩) 2 c] W8 fun e W' => ∃ r : Int, e = .returned (.int .i64 r) ∧ Post1 w0 rb srcV tokV TL xs U W s ns (.ok [.mk 32 (hd s).place 0 (hd (tl s)).name (a ++ b)] (tl s6)) (.returned (.int .i64 r)) W') := ⟨fun w7 W8 gb c g1 g2 g3 g4 q8 k8 ha hb hl kv => addS hT (a ++ b) q8 (g2.trans k8) (by rw [sizes_append]; omega) ⟨W, hS⟩ 32 (hd s).place 0 (hd (tl s)).name kv (some ⟨gb, 0, none⟩) 2 c (by simp [ha, hb]) (g1.ints g3 k8) g4⟩
                show Calls _ _ _ _ (Post1 w0 rb srcV tokV TL xs U W s ns (.ok [.mk 32 (hd s).place 0 (hd (tl s)).name (a ++ b)] (tl s6)))
                generalize (⟨(hd (tl s)).name.toArray⟩ : ByteArray) = nmB at *
                clear hne HE HT
                go_enter Tryz.func38, Tryz.ntmps38
                go_wp2_with (first
                  | (go_at_call 34; refine Calls.mono (B1.out _ hS) ?_; rintro e W1 (⟨_, rfl, q1, l1, k1⟩ | ⟨h, _⟩); rotate_left 1; exact absurd h1 h; clear B1)
                  | (go_at_call 35; refine Calls.mono (B2.out _ q1) ?_; rintro e W2 (⟨_, rfl, q2, l2, k2⟩ | ⟨h, _⟩); rotate_left 1; exact absurd h2 h; clear B2)
                  | (go_at_call 34; refine Calls.mono (B3.out _ (q2.ext (below1 _ _))) ?_; rintro e W3 (⟨_, rfl, q3, l3, k3⟩ | ⟨h, _⟩); rotate_left 1; exact absurd h3 h; clear B3)
                  | (go_at_call 36; refine Calls.mono (B4.out _ q3 (by simp)) ?_; rintro e W4 ⟨n4, l4, he, q4, k4⟩; obtain ⟨v, hv⟩ : ∃ r : Nat, r = (ns.length + sizes a - 1) := ⟨_, rfl⟩; rw [← hv] at he; subst he; have V : Bx _ := ⟨hv⟩; have q4' := q4.row1 (.cells #[.int .i64 (v : Int)] 3); have Q4 : Bx _ := ⟨q4'⟩; have N4 : Bx _ := ⟨n4⟩; clear hv B4 q4' n4)
                  | (go_at_call 49; refine Calls.mono (B5.out _ _ Q4.out) ?_; rintro e W5 (⟨_, rfl, q5, l5, k5⟩ | ⟨h, _⟩); rotate_left 1; exact absurd h5 h; obtain ⟨g2, g3, g4, g5, g6, hrx⟩ := var_at (k := 32) (p := (hd s).place) (nm := nmB) (num := 0) q2 (k1.trans k2) (k3.trans k4) q4 N4.out v V.out k5; have Q5 : Bx _ := ⟨q5⟩; have G2 : Bx _ := ⟨g2⟩; have G3 : Bx _ := ⟨g3⟩; have G4 : Bx _ := ⟨g4⟩; have G5 : Bx _ := ⟨g5⟩; have G6 : Bx _ := ⟨g6⟩; clear g2 g3 g4 g5 g6 B5 Q4 q4 q5)
                  | (go_at_call 56; refine Calls.mono (B6.out _ _ Q5.out (by simp)) ?_; rintro e W6 ⟨n6, l6, he, q6, k6⟩; obtain ⟨v6, hv⟩ : ∃ r : Nat, r = ((ns ++ flats a ns.length).length + sizes b - 1) := ⟨_, rfl⟩; rw [← hv] at he; subst he; obtain ⟨e1, e2, e3, e4⟩ := row_more HS.out N4.out.symm Q5.out G2.out G3.out G4.out G5.out G6.out hrx q6 k6.undrew n6 v6 hv; have E1 : Bx _ := ⟨e1⟩; have E4 : Bx _ := ⟨e4⟩; have N6 : Bx _ := ⟨n6⟩; clear e1 e2 e4 n6 hv q6 k6 B6)
                  | (at_builtin; refine wpList_append_lies _ rfl (.tmp 17) (.tmp 20) 36 rfl (rb + 1) 3 i0 (.int .i64 0) 1 8 Tryz.underlying36 hi hz0 hz1 hz2 rfl (by decide) (.slice (some ⟨W4.heap.size, 0, none⟩) 1 1) 1 (intsC (ends a ns.length)) rfl (owns_bel E1.out (below1 W6 (.cells #[.int .i64 (v6 : Int)] 3))) ⟨W6.heap.size, 0, none⟩ 1 1 [.int .i64 (v6 : Int)] rfl rfl (int_news _ _ rfl _) (int_one _) (by decide) (by unfold maxLen; omega) (by omega) (by simp; omega) (W6.heap.size + 1) (by simp) ?_; intro gb cp w7 hown hgrow hat hlt7; have F0 := E4.out gb cp w7 hgrow hat hlt7 hown; have F1 : Bx _ := ⟨F0⟩; clear hown hgrow hat F0 E1 E4)
                  | (go_at_call 34; refine Calls.mono (B7.out _ F1.out.1) ?_; rintro e W8 (⟨_, rfl, q8, l8, k8⟩ | ⟨h, _⟩); rotate_left 1; exact absurd h7 h; obtain ⟨y0, y1, y2, y3, y4, ylt⟩ := box5 (keep_own k8 F1.out.2.2.2.2.1 hrx F1.out.2.2.2.2.2).1; have Q8 : Bx _ := ⟨q8⟩; have K8 : Bx _ := ⟨k8⟩; clear B7 q8 k8)
                  | (go_at_call 27; go_loud (refine Calls.mono (HD.out _ _ _ _ F1.out.1 F1.out.2.1 F1.out.2.2.1 F1.out.2.2.2.1 Q8.out K8.out N4.out N6.out (by omega) _) ?_; rintro e W9 ⟨r9, rfl, hp⟩)))
                go_ret
                exact hp
              · rw [want_neg h7]
                show Calls _ _ _ _ (Post1 w0 rb srcV tokV TL xs U W s ns (.err s6))
                generalize (⟨(hd (tl s)).name.toArray⟩ : ByteArray) = nmB at *
                clear hne HE HT
                go_enter Tryz.func38, Tryz.ntmps38
                go_wp2_with (first
                  | (go_at_call 34; refine Calls.mono (B1.out _ hS) ?_; rintro e W1 (⟨_, rfl, q1, l1, k1⟩ | ⟨h, _⟩); rotate_left 1; exact absurd h1 h; clear B1)
                  | (go_at_call 35; refine Calls.mono (B2.out _ q1) ?_; rintro e W2 (⟨_, rfl, q2, l2, k2⟩ | ⟨h, _⟩); rotate_left 1; exact absurd h2 h; clear B2)
                  | (go_at_call 34; refine Calls.mono (B3.out _ (q2.ext (below1 _ _))) ?_; rintro e W3 (⟨_, rfl, q3, l3, k3⟩ | ⟨h, _⟩); rotate_left 1; exact absurd h3 h; clear B3)
                  | (go_at_call 36; refine Calls.mono (B4.out _ q3 (by simp)) ?_; rintro e W4 ⟨n4, l4, he, q4, k4⟩; obtain ⟨v, hv⟩ : ∃ r : Nat, r = (ns.length + sizes a - 1) := ⟨_, rfl⟩; rw [← hv] at he; subst he; have V : Bx _ := ⟨hv⟩; have q4' := q4.row1 (.cells #[.int .i64 (v : Int)] 3); have Q4 : Bx _ := ⟨q4'⟩; have N4 : Bx _ := ⟨n4⟩; clear hv B4 q4' n4)
                  | (go_at_call 49; refine Calls.mono (B5.out _ _ Q4.out) ?_; rintro e W5 (⟨_, rfl, q5, l5, k5⟩ | ⟨h, _⟩); rotate_left 1; exact absurd h5 h; obtain ⟨g2, g3, g4, g5, g6, hrx⟩ := var_at (k := 32) (p := (hd s).place) (nm := nmB) (num := 0) q2 (k1.trans k2) (k3.trans k4) q4 N4.out v V.out k5; have Q5 : Bx _ := ⟨q5⟩; have G2 : Bx _ := ⟨g2⟩; have G3 : Bx _ := ⟨g3⟩; have G4 : Bx _ := ⟨g4⟩; have G5 : Bx _ := ⟨g5⟩; have G6 : Bx _ := ⟨g6⟩; clear g2 g3 g4 g5 g6 B5 Q4 q4 q5)
                  | (go_at_call 56; refine Calls.mono (B6.out _ _ Q5.out (by simp)) ?_; rintro e W6 ⟨n6, l6, he, q6, k6⟩; obtain ⟨v6, hv⟩ : ∃ r : Nat, r = ((ns ++ flats a ns.length).length + sizes b - 1) := ⟨_, rfl⟩; rw [← hv] at he; subst he; obtain ⟨e1, e2, e3, e4⟩ := row_more HS.out N4.out.symm Q5.out G2.out G3.out G4.out G5.out G6.out hrx q6 k6.undrew n6 v6 hv; have E1 : Bx _ := ⟨e1⟩; have E4 : Bx _ := ⟨e4⟩; have N6 : Bx _ := ⟨n6⟩; clear e1 e2 e4 n6 hv q6 k6 B6)
                  | (at_builtin; refine wpList_append_lies _ rfl (.tmp 17) (.tmp 20) 36 rfl (rb + 1) 3 i0 (.int .i64 0) 1 8 Tryz.underlying36 hi hz0 hz1 hz2 rfl (by decide) (.slice (some ⟨W4.heap.size, 0, none⟩) 1 1) 1 (intsC (ends a ns.length)) rfl (owns_bel E1.out (below1 W6 (.cells #[.int .i64 (v6 : Int)] 3))) ⟨W6.heap.size, 0, none⟩ 1 1 [.int .i64 (v6 : Int)] rfl rfl (int_news _ _ rfl _) (int_one _) (by decide) (by unfold maxLen; omega) (by omega) (by simp; omega) (W6.heap.size + 1) (by simp) ?_; intro gb cp w7 hown hgrow hat hlt7; have F0 := E4.out gb cp w7 hgrow hat hlt7 hown; have F1 : Bx _ := ⟨F0⟩; clear hown hgrow hat F0 E1 E4)
                  | (go_at_call 34; refine Calls.mono (B7.out _ F1.out.1) ?_; rintro e Wx (⟨h, _⟩ | ⟨_, rfl, b⟩); exact absurd h h7; unfold faultP))
                exact ⟨rfl, rfl, b⟩
          · rw [if_neg h5]
            have B7 : Bx (∀ U' W1, RSs w0 rb srcV tokV TL xs U' W1 s4 (ns ++ flats a ns.length) → _) := ⟨fun U' W1 h => wantS (U := U') hT hK h 47 (by decide) ⟨#[59]⟩ (by decide)⟩
            by_cases h7 : kd s4 = 47
            · rw [want_pos h7]
              have HD : Bx (∀ (W4 W5 W8 : World) (X : Nat), RSs w0 rb srcV tokV TL xs (Uv U (.slice (some ⟨W4.heap.size, 0, none⟩) 1 1)) W5 s4 (ns ++ flats a ns.length) → KeepR rb W W5 → IntsO W5 rb (.slice (some ⟨W4.heap.size, 0, none⟩) 1 1) (ends a ns.length) → (∀ y, (Value.slice (some ⟨W4.heap.size, 0, none⟩) 1 1).ownBlock = some y → W.heap.size ≤ y ∧ y ≠ X) → RSs w0 rb srcV tokV TL xs (Uv U (.slice (some ⟨W4.heap.size, 0, none⟩) 1 1)) W8 (tl s4) (ns ++ flats a ns.length) → KeepR rb W5 W8 → a.length = 1 → (tl s4).length + sizes a + 1 ≤ s.length → ∀ kv, Calls Tryz.prog 27 #[.pointer (some ⟨rb, 0, none⟩), .agg #[.int .i64 32, .int .i64 (hd s).place, kv, .string ⟨(hd (tl s)).name.toArray⟩, .int .i64 0], (.slice (some ⟨W4.heap.size, 0, none⟩) 1 1)] W8 fun e W' => ∃ r : Int, e = .returned (.int .i64 r) ∧ Post1 w0 rb srcV tokV TL xs U W s ns (.ok [.mk 32 (hd s).place 0 (hd (tl s)).name a] (tl s4)) (.returned (.int .i64 r)) W') := ⟨fun W4 W5 W8 X g1 g2 g3 g4 q8 k8 ha hl kv => addS hT a (q8.anyU (fun y hy => .inl hy)) (g2.trans k8) hl ⟨W, hS⟩ 32 (hd s).place 0 (hd (tl s)).name kv (some ⟨W4.heap.size, 0, none⟩) 1 1 ha.symm (g1.ints g3 k8) (hS.isnew (n := 1) (c := 1) (fun y hy => (g4 y hy).1))⟩
              show Calls _ _ _ _ (Post1 w0 rb srcV tokV TL xs U W s ns (.ok [.mk 32 (hd s).place 0 (hd (tl s)).name a] (tl s4)))
              generalize (⟨(hd (tl s)).name.toArray⟩ : ByteArray) = nmB at *
              clear hne HE HT
              go_enter Tryz.func38, Tryz.ntmps38
              go_wp2_with (first
                | (go_at_call 34; refine Calls.mono (B1.out _ hS) ?_; rintro e W1 (⟨_, rfl, q1, l1, k1⟩ | ⟨h, _⟩); rotate_left 1; exact absurd h1 h; clear B1)
                | (go_at_call 35; refine Calls.mono (B2.out _ q1) ?_; rintro e W2 (⟨_, rfl, q2, l2, k2⟩ | ⟨h, _⟩); rotate_left 1; exact absurd h2 h; clear B2)
                | (go_at_call 34; refine Calls.mono (B3.out _ (q2.ext (below1 _ _))) ?_; rintro e W3 (⟨_, rfl, q3, l3, k3⟩ | ⟨h, _⟩); rotate_left 1; exact absurd h3 h; clear B3)
                | (go_at_call 36; refine Calls.mono (B4.out _ q3 (by simp)) ?_; rintro e W4 ⟨n4, l4, he, q4, k4⟩; obtain ⟨v, hv⟩ : ∃ r : Nat, r = (ns.length + sizes a - 1) := ⟨_, rfl⟩; rw [← hv] at he; subst he; have V : Bx _ := ⟨hv⟩; have q4' := q4.row1 (.cells #[.int .i64 (v : Int)] 3); have Q4 : Bx _ := ⟨q4'⟩; have N4 : Bx _ := ⟨n4⟩; clear hv B4 q4' n4)
                | (go_at_call 49; refine Calls.mono (B5.out _ _ Q4.out) ?_; rintro e W5 (⟨h, _⟩ | ⟨_, rfl, q5, k5⟩); exact absurd h h5; obtain ⟨g2, g3, g4, g5, g6, hrx⟩ := var_at (k := 32) (p := (hd s).place) (nm := nmB) (num := 0) q2 (k1.trans k2) (k3.trans k4) q4 N4.out v V.out k5; have Q5 : Bx _ := ⟨q5⟩; have G2 : Bx _ := ⟨g2⟩; have G3 : Bx _ := ⟨g3⟩; have G4 : Bx _ := ⟨g4⟩; have G5 : Bx _ := ⟨g5⟩; have G6 : Bx _ := ⟨g6⟩; clear g2 g3 g4 g5 g6 B5 Q4 q4 q5)
                | (go_at_call 34; refine Calls.mono (B7.out _ _ Q5.out) ?_; rintro e W8 (⟨_, rfl, q8, l8, k8⟩ | ⟨h, _⟩); rotate_left 1; exact absurd h7 h; obtain ⟨y0, y1, y2, y3, y4, ylt⟩ := box5 (keep_own k8 G5.out hrx G6.out).1; have Q8 : Bx _ := ⟨q8⟩; have K8 : Bx _ := ⟨k8⟩; clear B7 q8 k8)
                | (go_at_call 27; go_loud (refine Calls.mono (HD.out _ _ _ _ Q5.out G2.out G3.out G4.out Q8.out K8.out N4.out (by omega) _) ?_; rintro e W9 ⟨r9, rfl, hp⟩)))
              go_ret
              exact hp
            · rw [want_neg h7]
              show Calls _ _ _ _ (Post1 w0 rb srcV tokV TL xs U W s ns (.err s4))
              generalize (⟨(hd (tl s)).name.toArray⟩ : ByteArray) = nmB at *
              clear hne HE HT
              go_enter Tryz.func38, Tryz.ntmps38
              go_wp2_with (first
                | (go_at_call 34; refine Calls.mono (B1.out _ hS) ?_; rintro e W1 (⟨_, rfl, q1, l1, k1⟩ | ⟨h, _⟩); rotate_left 1; exact absurd h1 h; clear B1)
                | (go_at_call 35; refine Calls.mono (B2.out _ q1) ?_; rintro e W2 (⟨_, rfl, q2, l2, k2⟩ | ⟨h, _⟩); rotate_left 1; exact absurd h2 h; clear B2)
                | (go_at_call 34; refine Calls.mono (B3.out _ (q2.ext (below1 _ _))) ?_; rintro e W3 (⟨_, rfl, q3, l3, k3⟩ | ⟨h, _⟩); rotate_left 1; exact absurd h3 h; clear B3)
                | (go_at_call 36; refine Calls.mono (B4.out _ q3 (by simp)) ?_; rintro e W4 ⟨n4, l4, he, q4, k4⟩; obtain ⟨v, hv⟩ : ∃ r : Nat, r = (ns.length + sizes a - 1) := ⟨_, rfl⟩; rw [← hv] at he; subst he; have V : Bx _ := ⟨hv⟩; have q4' := q4.row1 (.cells #[.int .i64 (v : Int)] 3); have Q4 : Bx _ := ⟨q4'⟩; have N4 : Bx _ := ⟨n4⟩; clear hv B4 q4' n4)
                | (go_at_call 49; refine Calls.mono (B5.out _ _ Q4.out) ?_; rintro e W5 (⟨h, _⟩ | ⟨_, rfl, q5, k5⟩); exact absurd h h5; obtain ⟨g2, g3, g4, g5, g6, hrx⟩ := var_at (k := 32) (p := (hd s).place) (nm := nmB) (num := 0) q2 (k1.trans k2) (k3.trans k4) q4 N4.out v V.out k5; have Q5 : Bx _ := ⟨q5⟩; have G2 : Bx _ := ⟨g2⟩; have G3 : Bx _ := ⟨g3⟩; have G4 : Bx _ := ⟨g4⟩; have G5 : Bx _ := ⟨g5⟩; have G6 : Bx _ := ⟨g6⟩; clear g2 g3 g4 g5 g6 B5 Q4 q4 q5)
                | (go_at_call 34; refine Calls.mono (B7.out _ _ Q5.out) ?_; rintro e Wx (⟨h, _⟩ | ⟨_, rfl, b⟩); exact absurd h h7; unfold faultP))
              exact ⟨rfl, rfl, b⟩
      · rw [want_neg h3]
        show Calls _ _ _ _ (Post1 w0 rb srcV tokV TL xs U W s ns (.err (tl (tl s))))
        generalize (⟨(hd (tl s)).name.toArray⟩ : ByteArray) = nmB at *
        clear hne HE HT
        go_enter Tryz.func38, Tryz.ntmps38
        go_wp2_with (first
          | (go_at_call 34; refine Calls.mono (B1.out _ hS) ?_; rintro e W1 (⟨_, rfl, q1, l1, k1⟩ | ⟨h, _⟩); rotate_left 1; exact absurd h1 h; clear B1)
          | (go_at_call 35; refine Calls.mono (B2.out _ q1) ?_; rintro e W2 (⟨_, rfl, q2, l2, k2⟩ | ⟨h, _⟩); rotate_left 1; exact absurd h2 h; clear B2)
          | (go_at_call 34; refine Calls.mono (B3.out _ (q2.ext (below1 _ _))) ?_; rintro e Wx (⟨h, _⟩ | ⟨_, rfl, b⟩); exact absurd h h3; unfold faultP))
        exact ⟨rfl, rfl, b⟩
    · rw [nameK_neg h2]
      show Calls _ _ _ _ (Post1 w0 rb srcV tokV TL xs U W s ns (.err (tl s)))
      clear hne HE HT
      go_enter Tryz.func38, Tryz.ntmps38
      go_wp2_with (first
        | (go_at_call 34; refine Calls.mono (B1.out _ hS) ?_; rintro e W1 (⟨_, rfl, q1, l1, k1⟩ | ⟨h, _⟩); rotate_left 1; exact absurd h1 h; clear B1)
        | (go_at_call 35; refine Calls.mono (B2.out _ q1) ?_; rintro e W2 (⟨h, _⟩ | ⟨_, rfl, b⟩); exact absurd h h2; unfold faultP))
      exact ⟨rfl, rfl, b⟩
  · rw [want_neg h1]
    show Calls _ _ _ _ (Post1 w0 rb srcV tokV TL xs U W s ns (.err s))
    clear hne HE HT
    go_enter Tryz.func38, Tryz.ntmps38
    go_wp2_with (first
      | (go_at_call 34; refine Calls.mono (B1.out _ hS) ?_; rintro e Wx (⟨h, _⟩ | ⟨_, rfl, b⟩); exact absurd h h1; unfold faultP))
    exact ⟨rfl, rfl, b⟩
end Go.Proofs.YtblhklbpcalglaaGreatDoor
