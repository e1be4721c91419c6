import Derived.Test.YtblhklbpcalglaaGreatDoorCRSim
import Derived.Test.YtblhklbpcalglaaGreatDoorCRLst
namespace Go.Proofs.YtblhklbpcalglaaGreatDoor
open Go.RowKit
set_option linter.unusedVariables false
set_option linter.unusedSimpArgs false
variable {w0 : World} {rb : Nat} {srcV tokV : Value} {TL : List Tok} {xs : List UInt8} {U : Nat → Prop}
theorem keep_own {W W' : World} {x : Nat} {o : Obj} (hk : KeepR rb W W') (hb : W.heap[x]? = some o) (hrx : rb < x) (ho : ownN W rb ≠ some x) : W'.heap[x]? = some o ∧ ownN W' rb ≠ some x := by
  have hx := heapLt hb
  refine ⟨(hk.same x hx (by omega) ho).trans hb, fun e => ?_⟩
  have h5 := hk.own
  rw [e] at h5
  rcases h5 with h5 | ⟨g, h5, h6⟩
  · exact ho h5.symm
  · simp at h5
    omega
theorem poke_name {W W3 : World} {s : List PTok} {ns : List Nd} {x : Nat} {k k2 p num : Int} {nm nm2 : ByteArray} (q : RSs w0 rb srcV tokV TL xs U W3 s ns) (hk : KeepR rb W W3) (hb : W3.heap[x]? = some (boxO k p nm num)) (hrx : rb < x) (ho : ownN W3 rb ≠ some x) (hz : W.heap.size ≤ x) :
    RSs w0 rb srcV tokV TL xs U ((W3.setCell ⟨x, 0, none⟩ (.int .i64 k2)).setCell ⟨x, 3, none⟩ (.string nm2)) s ns ∧ KeepR rb W ((W3.setCell ⟨x, 0, none⟩ (.int .i64 k2)).setCell ⟨x, 3, none⟩ (.string nm2)) ∧ ((W3.setCell ⟨x, 0, none⟩ (.int .i64 k2)).setCell ⟨x, 3, none⟩ (.string nm2)).heap[x]? = some (boxO k2 p nm2 num) ∧ W3.frozen? ⟨x, 0, none⟩ = false ∧ W3.frozen? ⟨x, 3, none⟩ = false ∧ W3.cell? ⟨x, 0, none⟩ = some (.int .i64 k) ∧ W3.cell? ⟨x, 3, none⟩ = some (.string nm) ∧ x < W3.heap.size := by
  obtain ⟨p1, p2⟩ := q.poke hrx ho hb 0 (.int .i64 k2)
  have hb1 := poke_box0 (k2 := k2) hb
  have ho1 : ownN (W3.setCell ⟨x, 0, none⟩ (.int .i64 k2)) rb ≠ some x := by
    have hrh : (W3.setCell ⟨x, 0, none⟩ (.int .i64 k2)).heap[rb]? = W3.heap[rb]? := heap_setCell_other W3 ⟨x, 0, none⟩ rb _ (by show rb ≠ x; omega)
    unfold ownN
    rw [hrh]
    exact ho
  obtain ⟨p3, p4⟩ := p1.poke hrx ho1 hb1 3 (.string nm2)
  exact ⟨p3, p4 W (p2 W hk hz) hz, poke_box3 hb1, by simp [World.frozen?, hb, boxO], by simp [World.frozen?, hb, boxO], by simp [World.cell?, hb, boxO], by simp [World.cell?, hb, boxO], heapLt hb⟩
set_option maxRecDepth 100000 in
set_option maxHeartbeats 4000000 in
theorem typ_0 (hT : RT w0 rb srcV tokV TL xs) (hK : Kinds TL) {W : World} {s : List PTok} {ns : List Nd} (hS : RSs w0 rb srcV tokV TL xs U W s ns) (hc : kd s ≠ 19 ∧ kd s ≠ 12 ∧ kd s ≠ 10 ∧ kd s ≠ 14 ∧ kd s ≠ 40 ∧ kd s ≠ 23) :
    Calls Tryz.prog 36 #[.pointer (some ⟨rb, 0, none⟩)] W (Post1 w0 rb srcV tokV TL xs U W s ns (nameK s fun n s1 => mk1 3 s 0 n [] s1)) := by
  have hrW := hS.lt
  have d19 : ((⟨(textK (kd s : Nat)).toArray⟩ : ByteArray).toList == [105, 110, 116]) = false := by rw [text_eq hK hS 19 (by decide) _ (by decide)]; exact decide_eq_false (by omega)
  have d12 : ((⟨(textK (kd s : Nat)).toArray⟩ : ByteArray).toList == [98, 111, 111, 108]) = false := by rw [text_eq hK hS 12 (by decide) _ (by decide)]; exact decide_eq_false (by omega)
  have d10 : ((⟨(textK (kd s : Nat)).toArray⟩ : ByteArray).toList == [97, 114, 114, 97, 121]) = false := by rw [text_eq hK hS 10 (by decide) _ (by decide)]; exact decide_eq_false (by omega)
  have d14 : ((⟨(textK (kd s : Nat)).toArray⟩ : ByteArray).toList == [99, 104, 97, 110]) = false := by rw [text_eq hK hS 14 (by decide) _ (by decide)]; exact decide_eq_false (by omega)
  have d40 : ((⟨(textK (kd s : Nat)).toArray⟩ : ByteArray).toList == [40]) = false := by rw [text_eq hK hS 40 (by decide) _ (by decide)]; exact decide_eq_false (by omega)
  have d23 : ((⟨(textK (kd s : Nat)).toArray⟩ : ByteArray).toList == [112, 114, 111, 103]) = false := by rw [text_eq hK hS 23 (by decide) _ (by decide)]; exact decide_eq_false (by omega)
  have B1 : Bx _ := ⟨nextS hT hS⟩
  have hf1 := tok_f1
  have B2 : Bx (∀ W1, RSs w0 rb srcV tokV TL xs U W1 s ns → _) := ⟨fun W1 h => textS hT h⟩
  have B3 : Bx (∀ W1, RSs w0 rb srcV tokV TL xs U W1 s ns → _) := ⟨fun W1 h => nameS hT hK h⟩
  by_cases h1 : kd s = 1
  · rw [nameK_pos h1]
    have HD : Bx (∀ W1, RSs w0 rb srcV tokV TL xs U W1 (tl s) ns → KeepR rb W W1 → ∀ kv, Calls Tryz.prog 27 #[.pointer (some ⟨rb, 0, none⟩), .agg #[.int .i64 3, .int .i64 (hd s).place, kv, .string ⟨(hd s).name.toArray⟩, .int .i64 0], .slice none 0 0] W1 fun e W' => ∃ r : Int, e = .returned (.int .i64 r) ∧ Post1 w0 rb srcV tokV TL xs U W s ns (.ok [.mk 3 (hd s).place 0 (hd s).name []] (tl s)) (.returned (.int .i64 r)) W') := ⟨fun W1 h hk kv => addS hT [] h.nokids hk (by have := tl_len hS; simp [sizes]; omega) ⟨W, hS⟩ 3 (hd s).place 0 (hd s).name kv none 0 0 rfl (World.ownsRow_nil _ _ _ _) (fun _ h => by cases h)⟩
    generalize (⟨(textK (kd s : Nat)).toArray⟩ : ByteArray) = tx at *
    show Calls _ _ _ _ (Post1 w0 rb srcV tokV TL xs U W s ns (.ok [.mk 3 (hd s).place 0 (hd s).name []] (tl s)))
    generalize (⟨(hd s).name.toArray⟩ : ByteArray) = nmB at *
    go_enter Tryz.func36, Tryz.ntmps36
    go_wp2_with (first
      | (go_at_call 33; refine Calls.mono B1.out ?_; rintro e W1 ⟨t1, rfl, b1⟩; have q1 := hS.ext b1; have k1 := KeepR.ext hrW b1; clear B1)
      | (go_at_call 23; refine Calls.mono (B2.out _ (q1.ext (below1 _ _))) ?_; rintro e W2 ⟨rfl, b2⟩; obtain ⟨hb, hown, hrx⟩ := box_at q1 b2; have q2 := (q1.ext (below1 _ _)).ext b2; have k2 := k1.trans ((KeepR.alloc q1.lt _).trans (KeepR.ext (q1.ext (below1 _ _)).lt b2)); have HB : Bx _ := ⟨hb⟩; have HO : Bx _ := ⟨hown⟩; have Q2 : Bx _ := ⟨q2⟩; have K2 : Bx _ := ⟨k2⟩; have hz1 := k1.size; clear B2 hb hown q2 k2)
      | (go_at_call 35; refine Calls.mono (B3.out _ Q2.out) ?_; rintro e W3 (⟨_, rfl, q3, l3, k3⟩ | ⟨h, _⟩); rotate_left 1; exact absurd h1 h; obtain ⟨hb3, ho3⟩ := keep_own k3 HB.out hrx HO.out; obtain ⟨q4, k4, hb4, f0, f3, c0, c3, x3⟩ := poke_name (k := 0) (k2 := 3) (num := 0) (nm := ⟨#[]⟩) (nm2 := nmB) q3 (K2.out.trans k3) hb3 hrx ho3 hz1; have Q4 : Bx _ := ⟨q4⟩; have K4 : Bx _ := ⟨k4⟩; obtain ⟨y0, y1, y2, y3, y4, ylt⟩ := box5 hb4; clear hb3 ho3 q4 k4 hb4 k3 q3 B3)
      | (go_at_call 27; refine Calls.mono (HD.out _ Q4.out K4.out _) ?_; rintro e W9 ⟨r9, rfl, hp⟩))
    go_ret
    exact hp
  · rw [nameK_neg h1]
    generalize (⟨(textK (kd s : Nat)).toArray⟩ : ByteArray) = tx at *
    go_enter Tryz.func36, Tryz.ntmps36
    go_wp2_with (first
      | (go_at_call 33; refine Calls.mono B1.out ?_; rintro e W1 ⟨t1, rfl, b1⟩; have q1 := hS.ext b1; have k1 := KeepR.ext hrW b1; clear B1)
      | (go_at_call 23; refine Calls.mono (B2.out _ (q1.ext (below1 _ _))) ?_; rintro e W2 ⟨rfl, b2⟩; have q2 := (q1.ext (below1 _ _)).ext b2; clear B2)
      | (go_at_call 35; refine Calls.mono (B3.out _ q2) ?_; rintro e W3 (⟨h, _⟩ | ⟨_, rfl, b3⟩); exact absurd h h1; unfold faultP))
    exact ⟨rfl, rfl, b3⟩
end Go.Proofs.YtblhklbpcalglaaGreatDoor
namespace Go.Proofs.YtblhklbpcalglaaGreatDoor
open Go.RowKit
set_option linter.unusedVariables false
set_option linter.unusedSimpArgs false
variable {w0 : World} {rb : Nat} {srcV tokV : Value} {TL : List Tok} {xs : List UInt8} {U : Nat → Prop}
theorem RSs.isnew {W : World} {s : List PTok} {ns : List Nd} (h : RSs w0 rb srcV tokV TL xs U W s ns) {a : Option Addr} {n c : Nat} (hn : ∀ y, (Value.slice a n c).ownBlock = some y → W.heap.size ≤ y) : ∀ g, a = some ⟨g, 0, none⟩ → ¬ U g := by
  obtain ⟨_, _, _, _, _, hU⟩ := h
  intro g e hg
  subst e
  have := hn g (by simp [Value.ownBlock])
  have := hU _ hg
  omega
set_option maxRecDepth 100000 in
set_option maxHeartbeats 4000000 in
theorem array_any (hT : RT w0 rb srcV tokV TL xs) (hK : Kinds TL) {f : Nat} (HP : LC 0 w0 rb srcV tokV TL xs (pF f (.parted .expr)) 64 #[.func (.func 56) #[.pointer (some ⟨rb, 0, none⟩)] #[]]) {W : World} {s : List PTok} {ns : List Nd} (hS : RSs w0 rb srcV tokV TL xs U W s ns) (hne : (want 42 s fun s1 => andT (pF f (.parted .expr) s1) fun a s2 => want 43 s2 fun s3 => mk1 16 s 0 [] a s3) ≠ .out) :
    Calls Tryz.prog 88 #[.pointer (some ⟨rb, 0, none⟩)] W (Post1 w0 rb srcV tokV TL xs U W s ns (want 42 s fun s1 => andT (pF f (.parted .expr) s1) fun a s2 => want 43 s2 fun s3 => mk1 16 s 0 [] a s3)) := by
  have hrW := hS.lt
  have B1 : Bx (∀ W1, RSs w0 rb srcV tokV TL xs U W1 s ns → _) := ⟨fun W1 h => wantS hT hK h 42 (by decide) ⟨#[91]⟩ (by decide)⟩
  by_cases h1 : kd s = 42
  · rw [want_pos h1] at hne ⊢
    have B3 : Bx (∀ W1, RSs w0 rb srcV tokV TL xs U W1 (tl s) ns → pF f (.parted .expr) (tl s) ≠ .out → Calls Tryz.prog 64 #[.pointer (some ⟨rb, 0, none⟩), .func (.func 56) #[.pointer (some ⟨rb, 0, none⟩)] #[]] W1 (PostL 0 w0 rb srcV tokV TL xs U W1 (tl s) ns (pF f (.parted .expr) (tl s)))) := ⟨fun W1 h hn => HP U W1 (tl s) ns h hn⟩
    match r3 : pF f (.parted .expr) (tl s) with
    | .out => rw [r3] at hne; exact absurd rfl hne
    | .err s' =>
      rw [r3] at B3
      show Calls _ _ _ _ (Post1 w0 rb srcV tokV TL xs U W s ns (.err s'))
      clear hne HP
      go_enter Tryz.func88, Tryz.ntmps88
      go_wp2_with (first
        | (go_at_call 34; refine Calls.mono (B1.out _ hS) ?_; rintro e W1 (⟨_, rfl, q1, l1, k1⟩ | ⟨h, _⟩); rotate_left 1; exact absurd h1 h; clear B1)
        | (go_at_call 64; refine Calls.mono (B3.out _ q1 (by simp)) ?_; rintro e W3 ⟨rfl, b3⟩; unfold faultP))
      exact ⟨rfl, rfl, b3⟩
    | .ok ts s' =>
      rw [r3] at B3
      simp only [andT]
      have hsl : s.length ≤ 65537 := by
        obtain ⟨i, rfl, hi, _⟩ := hS
        have := hT.small
        unfold pts
        simp
        omega
      have B4 : Bx (∀ U' W1 ns', RSs w0 rb srcV tokV TL xs U' W1 s' ns' → _) := ⟨fun U' W1 ns' h => wantS (U := U') hT hK h 43 (by decide) ⟨#[93]⟩ (by decide)⟩
      by_cases h4 : kd s' = 43
      · rw [want_pos h4]
        have HD : Bx (∀ W4 a c, RSs w0 rb srcV tokV TL xs U W4 (tl s') (ns ++ flats ts ns.length) → KeepR rb W W4 → IntsO W4 rb (.slice a ts.length c) (ends ts ns.length) → (∀ y, (Value.slice a ts.length c).ownBlock = some y → W.heap.size ≤ y) → (tl s').length + sizes ts + 1 ≤ s.length → ∀ kv, Calls Tryz.prog 27 #[.pointer (some ⟨rb, 0, none⟩), .agg #[.int .i64 16, .int .i64 (hd s).place, kv, .string ⟨#[]⟩, .int .i64 0], .slice a ts.length c] W4 fun e W' => ∃ r : Int, e = .returned (.int .i64 r) ∧ Post1 w0 rb srcV tokV TL xs U W s ns (.ok [.mk 16 (hd s).place 0 [] ts] (tl s')) (.returned (.int .i64 r)) W') := ⟨fun W4 a c q k r n l kv => addS hT ts q k l ⟨W, hS⟩ 16 (hd s).place 0 [] kv a ts.length c rfl r (hS.isnew n)⟩
        have HQ : Bx (∀ W1 W3 W4 a c, KeepR rb W W1 → KeepR rb W1 W3 → RSs w0 rb srcV tokV TL xs (Uv U (.slice a ts.length c)) W3 s' (ns ++ flats ts ns.length) → IntsO W3 rb (.slice a ts.length c) (ends ts ns.length) → (∀ y, (Value.slice a ts.length c).ownBlock = some y → W1.heap.size ≤ y) → RSs w0 rb srcV tokV TL xs (Uv U (.slice a ts.length c)) W4 (tl s') (ns ++ flats ts ns.length) → KeepR rb W3 W4 → RSs w0 rb srcV tokV TL xs U W4 (tl s') (ns ++ flats ts ns.length) ∧ KeepR rb W W4 ∧ IntsO W4 rb (.slice a ts.length c) (ends ts ns.length) ∧ (∀ y, (Value.slice a ts.length c).ownBlock = some y → W.heap.size ≤ y)) := ⟨fun W1 W3 W4 a c k1 k3 q3 r3 n3 q4 k4 => ⟨q4.anyU (fun y hy => .inl hy), k1.trans (k3.trans k4), q3.ints r3 k4, fun y hy => by have := n3 y hy; have := k1.size; omega⟩⟩
        show Calls _ _ _ _ (Post1 w0 rb srcV tokV TL xs U W s ns (.ok [.mk 16 (hd s).place 0 [] ts] (tl s')))
        clear hne HP
        go_enter Tryz.func88, Tryz.ntmps88
        go_wp2_with (first
          | (go_at_call 34; refine Calls.mono (B1.out _ hS) ?_; rintro e W1 (⟨_, rfl, q1, l1, k1⟩ | ⟨h, _⟩); rotate_left 1; exact absurd h1 h; clear B1)
          | (go_at_call 64; refine Calls.mono (B3.out _ q1 (by simp)) ?_; rintro e W3 ⟨l3, a3, c3, rfl, q3, r3, k3, n3⟩; clear B3)
          | (go_at_call 34; refine Calls.mono (B4.out _ _ _ q3) ?_; rintro e W4 (⟨_, rfl, q4, l4, k4⟩ | ⟨h, _⟩); rotate_left 1; exact absurd h4 h; clear B4; have hq := HQ.out _ _ _ _ _ k1 k3 q3 r3 n3 q4 k4; have Q : Bx _ := ⟨hq⟩; clear hq q3 r3 n3 q4 k3 k4)
          | (go_at_call 27; go_loud (refine Calls.mono (HD.out _ _ _ Q.out.1 Q.out.2.1 Q.out.2.2.1 Q.out.2.2.2 (by omega) _) ?_; rintro e W9 ⟨r9, rfl, hp⟩)))
        go_ret
        exact hp
      · rw [want_neg h4]
        clear hne HP
        go_enter Tryz.func88, Tryz.ntmps88
        go_wp2_with (first
          | (go_at_call 34; refine Calls.mono (B1.out _ hS) ?_; rintro e W1 (⟨_, rfl, q1, l1, k1⟩ | ⟨h, _⟩); rotate_left 1; exact absurd h1 h; clear B1)
          | (go_at_call 64; refine Calls.mono (B3.out _ q1 (by simp)) ?_; rintro e W3 ⟨l3, a3, c3, rfl, q3, r3, k3, n3⟩; clear B3)
          | (go_at_call 34; refine Calls.mono (B4.out _ _ _ q3) ?_; rintro e W4 (⟨h, _⟩ | ⟨_, rfl, b4⟩); exact absurd h h4; unfold faultP))
        exact ⟨rfl, rfl, b4⟩
  · rw [want_neg h1]
    clear hne HP
    go_enter Tryz.func88, Tryz.ntmps88
    go_wp2_with (first
      | (go_at_call 34; refine Calls.mono (B1.out _ hS) ?_; rintro e W1 (⟨h, _⟩ | ⟨_, rfl, b1⟩); exact absurd h h1; unfold faultP))
    exact ⟨rfl, rfl, b1⟩
theorem ints_poke {W : World} {v : Value} {ys : List Int} {x k : Nat} {u : Value} (h : IntsO W rb v ys) (hn : ∀ y, v.ownBlock = some y → x < y) : IntsO (W.setCell ⟨x, k, none⟩ u) rb v ys := by
  obtain ⟨q1, q2⟩ := h
  refine ⟨q1, ?_⟩
  rcases q2 with q2 | ⟨gg, cp, cur, hv2, hg2, hh, hr2⟩
  · exact .inl q2
  · refine .inr ⟨gg, cp, cur, hv2, hg2, ?_, hr2⟩
    have := hn gg (by rw [hv2]; rfl)
    rw [heap_setCell_other W ⟨x, k, none⟩ gg _ (by show gg ≠ x; omega)]
    exact hh
set_option maxRecDepth 100000 in
set_option maxHeartbeats 4000000 in
theorem paren_any (hT : RT w0 rb srcV tokV TL xs) (hK : Kinds TL) {f : Nat} (HP : LC 0 w0 rb srcV tokV TL xs (pF f (.parted .expr)) 64 #[.func (.func 56) #[.pointer (some ⟨rb, 0, none⟩)] #[]]) {W : World} {s : List PTok} {ns : List Nd} (hS : RSs w0 rb srcV tokV TL xs U W s ns) (hne : (want 40 s fun s1 => andT (pF f (.parted .expr) s1) fun a s2 => want 41 s2 fun s3 => mk1 (if a.length = 1 then 14 else 15) s 0 [] a s3) ≠ .out) :
    Calls Tryz.prog 87 #[.pointer (some ⟨rb, 0, none⟩)] W (Post1 w0 rb srcV tokV TL xs U W s ns (want 40 s fun s1 => andT (pF f (.parted .expr) s1) fun a s2 => want 41 s2 fun s3 => mk1 (if a.length = 1 then 14 else 15) s 0 [] a s3)) := by
  have hrW := hS.lt
  have B1 : Bx (∀ W1, RSs w0 rb srcV tokV TL xs U W1 s ns → _) := ⟨fun W1 h => wantS hT hK h 40 (by decide) ⟨#[40]⟩ (by decide)⟩
  by_cases h1 : kd s = 40
  · rw [want_pos h1] at hne ⊢
    have B3 : Bx (∀ W1, RSs w0 rb srcV tokV TL xs U W1 (tl s) ns → pF f (.parted .expr) (tl s) ≠ .out → Calls Tryz.prog 64 #[.pointer (some ⟨rb, 0, none⟩), .func (.func 56) #[.pointer (some ⟨rb, 0, none⟩)] #[]] W1 (PostL 0 w0 rb srcV tokV TL xs U W1 (tl s) ns (pF f (.parted .expr) (tl s)))) := ⟨fun W1 h hn => HP U W1 (tl s) ns h hn⟩
    match r3 : pF f (.parted .expr) (tl s) with
    | .out => rw [r3] at hne; exact absurd rfl hne
    | .err s' =>
      rw [r3] at B3
      show Calls _ _ _ _ (Post1 w0 rb srcV tokV TL xs U W s ns (.err s'))
      clear hne HP
      go_enter Tryz.func87, Tryz.ntmps87
      go_wp2_with (first
        | (go_at_call 34; refine Calls.mono (B1.out _ hS) ?_; rintro e W1 (⟨_, rfl, q1, l1, k1⟩ | ⟨h, _⟩); rotate_left 1; exact absurd h1 h; clear B1)
        | (go_at_call 64; refine Calls.mono (B3.out _ (q1.ext (below1 _ _)) (by simp)) ?_; rintro e W3 ⟨rfl, b3⟩; unfold faultP))
      exact ⟨rfl, rfl, b3⟩
    | .ok ts s' =>
      rw [r3] at B3
      simp only [andT]
      have hsl : s.length ≤ 65537 := by
        obtain ⟨i, rfl, hi, _⟩ := hS
        have := hT.small
        unfold pts
        simp
        omega
      have B4 : Bx (∀ U' W1 ns', RSs w0 rb srcV tokV TL xs U' W1 s' ns' → _) := ⟨fun U' W1 ns' h => wantS (U := U') hT hK h 41 (by decide) ⟨#[41]⟩ (by decide)⟩
      by_cases h4 : kd s' = 41
      · rw [want_pos h4]
        by_cases hl : ts.length = 1
        · rw [if_pos hl]
          have hbl : ((ts.length : Int) == 1) = true := by simp [hl]
          have HD : Bx (∀ W4 a c, RSs w0 rb srcV tokV TL xs U W4 (tl s') (ns ++ flats ts ns.length) → KeepR rb W W4 → IntsO W4 rb (.slice a ts.length c) (ends ts ns.length) → (∀ y, (Value.slice a ts.length c).ownBlock = some y → W.heap.size ≤ y) → (tl s').length + sizes ts + 1 ≤ s.length → ∀ kv, Calls Tryz.prog 27 #[.pointer (some ⟨rb, 0, none⟩), .agg #[.int .i64 14, .int .i64 (hd s).place, kv, .string ⟨#[]⟩, .int .i64 0], .slice a ts.length c] W4 fun e W' => ∃ r : Int, e = .returned (.int .i64 r) ∧ Post1 w0 rb srcV tokV TL xs U W s ns (.ok [.mk 14 (hd s).place 0 [] ts] (tl s')) (.returned (.int .i64 r)) W') := ⟨fun W4 a c q k r n l kv => addS hT ts q k l ⟨W, hS⟩ 14 (hd s).place 0 [] kv a ts.length c rfl r (hS.isnew n)⟩
          have HQ : Bx (∀ W1 W3 W4 a c, RSs w0 rb srcV tokV TL xs U W1 (tl s) ns → KeepR rb W W1 → KeepR rb (W1.alloc (boxO 15 (hd s).place ⟨#[]⟩ 0)) W3 → RSs w0 rb srcV tokV TL xs (Uv U (.slice a ts.length c)) W3 s' (ns ++ flats ts ns.length) → IntsO W3 rb (.slice a ts.length c) (ends ts ns.length) → (∀ y, (Value.slice a ts.length c).ownBlock = some y → (W1.alloc (boxO 15 (hd s).place ⟨#[]⟩ 0)).heap.size ≤ y) → RSs w0 rb srcV tokV TL xs (Uv U (.slice a ts.length c)) W4 (tl s') (ns ++ flats ts ns.length) → KeepR rb W3 W4 → RSs w0 rb srcV tokV TL xs U (W4.setCell ⟨W1.heap.size, 0, none⟩ (.int .i64 14)) (tl s') (ns ++ flats ts ns.length) ∧ KeepR rb W (W4.setCell ⟨W1.heap.size, 0, none⟩ (.int .i64 14)) ∧ IntsO (W4.setCell ⟨W1.heap.size, 0, none⟩ (.int .i64 14)) rb (.slice a ts.length c) (ends ts ns.length) ∧ (∀ y, (Value.slice a ts.length c).ownBlock = some y → W.heap.size ≤ y) ∧ (W4.setCell ⟨W1.heap.size, 0, none⟩ (.int .i64 14)).heap[W1.heap.size]? = some (boxO 14 (hd s).place ⟨#[]⟩ 0) ∧ W1.heap.size < W4.heap.size ∧ W4.cell? ⟨W1.heap.size, 0, none⟩ = some (.int .i64 15) ∧ W4.frozen? ⟨W1.heap.size, 0, none⟩ = false) := ⟨fun W1 W3 W4 a c q1 k1 k3 q3 r3 n3 q4 k4 => by
            have hz := k1.size
            have hr1 := q1.lt
            obtain ⟨hb, hown, hrx⟩ := box_at (o := boxO 15 (hd s).place ⟨#[]⟩ 0) q1 (Below.refl _ _)
            obtain ⟨hb4, ho4⟩ := keep_own (k3.trans k4) hb hrx hown
            have q5 := q4.anyU (V := U) (fun y hy => .inl hy)
            have k5 : KeepR rb W W4 := k1.trans ((KeepR.alloc hr1 _).trans (k3.trans k4))
            have r5 := q3.ints r3 k4
            obtain ⟨p1, p2⟩ := q5.poke hrx ho4 hb4 0 (.int .i64 14)
            refine ⟨p1, p2 W k5 hz, ints_poke r5 (fun y hy => by have := n3 y hy; simp at this; omega), fun y hy => by have := n3 y hy; simp at this; omega, poke_box0 hb4, heapLt hb4, by simp [World.cell?, hb4, boxO], by simp [World.frozen?, hb4, boxO]⟩⟩
          show Calls _ _ _ _ (Post1 w0 rb srcV tokV TL xs U W s ns (.ok [.mk 14 (hd s).place 0 [] ts] (tl s')))
          clear hne HP hl
          go_enter Tryz.func87, Tryz.ntmps87
          go_wp2_with (first
            | (go_at_call 34; refine Calls.mono (B1.out _ hS) ?_; rintro e W1 (⟨_, rfl, q1, l1, k1⟩ | ⟨h, _⟩); rotate_left 1; exact absurd h1 h; clear B1)
            | (go_at_call 64; refine Calls.mono (B3.out _ (q1.ext (below1 _ _)) (by simp)) ?_; rintro e W3 ⟨l3, a3, c3, rfl, q3, r3, k3, n3⟩; clear B3)
            | (go_at_call 34; refine Calls.mono (B4.out _ _ _ q3) ?_; rintro e W4 (⟨_, rfl, q4, l4, k4⟩ | ⟨h, _⟩); rotate_left 1; exact absurd h4 h; clear B4; obtain ⟨g1, g2, g3, g4, g5, g6, g7⟩ := HQ.out _ _ _ _ _ q1 k1 k3 q3 r3 n3 q4 k4; obtain ⟨y0, y1, y2, y3, y4, ylt⟩ := box5 g5; obtain ⟨x0, x1⟩ := g7; have G1 : Bx _ := ⟨g1⟩; have G2 : Bx _ := ⟨g2⟩; have G3 : Bx _ := ⟨g3⟩; have G4 : Bx _ := ⟨g4⟩; clear g1 g2 g3 g4 g5 q3 r3 n3 q4 k3 k4)
            | (go_at_call 27; go_loud (refine Calls.mono (HD.out _ _ _ G1.out G2.out G3.out G4.out (by omega) _) ?_; rintro e W9 ⟨r9, rfl, hp⟩)))
          go_ret
          exact hp
        · rw [if_neg hl]
          have hbl : ((ts.length : Int) == 1) = false := by simp; omega
          have HD : Bx (∀ W4 a c, RSs w0 rb srcV tokV TL xs U W4 (tl s') (ns ++ flats ts ns.length) → KeepR rb W W4 → IntsO W4 rb (.slice a ts.length c) (ends ts ns.length) → (∀ y, (Value.slice a ts.length c).ownBlock = some y → W.heap.size ≤ y) → (tl s').length + sizes ts + 1 ≤ s.length → ∀ kv, Calls Tryz.prog 27 #[.pointer (some ⟨rb, 0, none⟩), .agg #[.int .i64 15, .int .i64 (hd s).place, kv, .string ⟨#[]⟩, .int .i64 0], .slice a ts.length c] W4 fun e W' => ∃ r : Int, e = .returned (.int .i64 r) ∧ Post1 w0 rb srcV tokV TL xs U W s ns (.ok [.mk 15 (hd s).place 0 [] ts] (tl s')) (.returned (.int .i64 r)) W') := ⟨fun W4 a c q k r n l kv => addS hT ts q k l ⟨W, hS⟩ 15 (hd s).place 0 [] kv a ts.length c rfl r (hS.isnew n)⟩
          have HQ : Bx (∀ W1 W3 W4 a c, RSs w0 rb srcV tokV TL xs U W1 (tl s) ns → KeepR rb W W1 → KeepR rb (W1.alloc (boxO 15 (hd s).place ⟨#[]⟩ 0)) W3 → RSs w0 rb srcV tokV TL xs (Uv U (.slice a ts.length c)) W3 s' (ns ++ flats ts ns.length) → IntsO W3 rb (.slice a ts.length c) (ends ts ns.length) → (∀ y, (Value.slice a ts.length c).ownBlock = some y → (W1.alloc (boxO 15 (hd s).place ⟨#[]⟩ 0)).heap.size ≤ y) → RSs w0 rb srcV tokV TL xs (Uv U (.slice a ts.length c)) W4 (tl s') (ns ++ flats ts ns.length) → KeepR rb W3 W4 → RSs w0 rb srcV tokV TL xs U W4 (tl s') (ns ++ flats ts ns.length) ∧ KeepR rb W W4 ∧ IntsO W4 rb (.slice a ts.length c) (ends ts ns.length) ∧ (∀ y, (Value.slice a ts.length c).ownBlock = some y → W.heap.size ≤ y) ∧ W4.heap[W1.heap.size]? = some (boxO 15 (hd s).place ⟨#[]⟩ 0) ∧ W1.heap.size < W4.heap.size ∧ True) := ⟨fun W1 W3 W4 a c q1 k1 k3 q3 r3 n3 q4 k4 => by
            have hz := k1.size
            have hr1 := q1.lt
            obtain ⟨hb, hown, hrx⟩ := box_at (o := boxO 15 (hd s).place ⟨#[]⟩ 0) q1 (Below.refl _ _)
            obtain ⟨hb4, ho4⟩ := keep_own (k3.trans k4) hb hrx hown
            have q5 := q4.anyU (V := U) (fun y hy => .inl hy)
            have k5 : KeepR rb W W4 := k1.trans ((KeepR.alloc hr1 _).trans (k3.trans k4))
            have r5 := q3.ints r3 k4
            exact ⟨q5, k5, r5, fun y hy => by have := n3 y hy; simp at this; omega, hb4, heapLt hb4, trivial⟩⟩
          show Calls _ _ _ _ (Post1 w0 rb srcV tokV TL xs U W s ns (.ok [.mk 15 (hd s).place 0 [] ts] (tl s')))
          clear hne HP hl
          go_enter Tryz.func87, Tryz.ntmps87
          go_wp2_with (first
            | (go_at_call 34; refine Calls.mono (B1.out _ hS) ?_; rintro e W1 (⟨_, rfl, q1, l1, k1⟩ | ⟨h, _⟩); rotate_left 1; exact absurd h1 h; clear B1)
            | (go_at_call 64; refine Calls.mono (B3.out _ (q1.ext (below1 _ _)) (by simp)) ?_; rintro e W3 ⟨l3, a3, c3, rfl, q3, r3, k3, n3⟩; clear B3)
            | (go_at_call 34; refine Calls.mono (B4.out _ _ _ q3) ?_; rintro e W4 (⟨_, rfl, q4, l4, k4⟩ | ⟨h, _⟩); rotate_left 1; exact absurd h4 h; clear B4; obtain ⟨g1, g2, g3, g4, g5, g6, g7⟩ := HQ.out _ _ _ _ _ q1 k1 k3 q3 r3 n3 q4 k4; obtain ⟨y0, y1, y2, y3, y4, ylt⟩ := box5 g5; have G1 : Bx _ := ⟨g1⟩; have G2 : Bx _ := ⟨g2⟩; have G3 : Bx _ := ⟨g3⟩; have G4 : Bx _ := ⟨g4⟩; clear g1 g2 g3 g4 g5 q3 r3 n3 q4 k3 k4)
            | (go_at_call 27; go_loud (refine Calls.mono (HD.out _ _ _ G1.out G2.out G3.out G4.out (by omega) _) ?_; rintro e W9 ⟨r9, rfl, hp⟩)))
          go_ret
          exact hp
      · rw [want_neg h4]
        clear hne HP
        go_enter Tryz.func87, Tryz.ntmps87
        go_wp2_with (first
          | (go_at_call 34; refine Calls.mono (B1.out _ hS) ?_; rintro e W1 (⟨_, rfl, q1, l1, k1⟩ | ⟨h, _⟩); rotate_left 1; exact absurd h1 h; clear B1)
          | (go_at_call 64; refine Calls.mono (B3.out _ (q1.ext (below1 _ _)) (by simp)) ?_; rintro e W3 ⟨l3, a3, c3, rfl, q3, r3, k3, n3⟩; clear B3)
          | (go_at_call 34; refine Calls.mono (B4.out _ _ _ q3) ?_; rintro e W4 (⟨h, _⟩ | ⟨_, rfl, b4⟩); exact absurd h h4; unfold faultP))
        exact ⟨rfl, rfl, b4⟩
  · rw [want_neg h1]
    clear hne HP
    go_enter Tryz.func87, Tryz.ntmps87
    go_wp2_with (first
      | (go_at_call 34; refine Calls.mono (B1.out _ hS) ?_; rintro e W1 (⟨h, _⟩ | ⟨_, rfl, b1⟩); exact absurd h h1; unfold faultP))
    exact ⟨rfl, rfl, b1⟩
end Go.Proofs.YtblhklbpcalglaaGreatDoor
