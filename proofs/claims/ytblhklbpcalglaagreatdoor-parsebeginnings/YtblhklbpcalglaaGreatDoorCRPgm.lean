import Derived.Test.YtblhklbpcalglaaGreatDoorCRRet
import Derived.Test.YtblhklbpcalglaaGreatDoorCTPlain
import Derived.Test.YtblhklbpcalglaaGreatDoorCQL
import Derived.Defers
import Derived.Recover
namespace Go.Proofs.YtblhklbpcalglaaGreatDoor
open Go.RowKit
set_option linter.unusedVariables false
set_option linter.unusedSimpArgs false
variable {w0 : World} {rb : Nat} {srcV tokV : Value} {TL : List Tok} {xs : List UInt8} {U : Nat → Prop}
theorem endedS (hT : RT w0 rb srcV tokV TL xs) {W : World} {s : List PTok} {ns : List Nd} (h : RSs w0 rb srcV tokV TL xs U W s ns) :
    Calls Tryz.prog 25 #[.pointer (some ⟨rb, 0, none⟩)] W fun e W' => e = .returned (.bool (decide (s.length ≤ 1))) ∧ Below W.heap.size W W' := by
  obtain ⟨i, rfl, hi, hS, hni, hU⟩ := h
  have e : decide ((pts xs TL i).length ≤ 1) = decide (i + 1 = TL.length) := by
    unfold pts
    simp
    omega
  rw [e]
  exact ended_any hT hS hi
def PostG (w0 : World) (rb : Nat) (srcV tokV : Value) (U : Nat → Prop) (W : World) (ns : List Nd) (res : Res) (e : Ending) (W' : World) : Prop :=
  match res with
  | .ok ts s' => (∃ r : Int, e = .returned (.int .i64 r)) ∧ (∃ i, RS w0 rb srcV tokV U W' i (ns ++ flats ts ns.length)) ∧ KeepR rb W W'
  | .err s' => e = faultP (hd s').place ∧ Below rb w0 W'
  | .out => False
def r1 (f : Nat) (X : Res) : Res := andT X fun a s1 => andT (pF f .tops s1) fun b s2 => .ok [.mk 46 0 a.length [] (a ++ b)] s2
def r2 (A : List Tr) (X : Res) : Res := andT X fun b s2 => .ok [.mk 46 0 A.length [] (A ++ b)] s2
structure LoopQ (w0 : World) (rb : Nat) (srcV tokV : Value) (TL : List Tok) (xs : List UInt8) (U : Nat → Prop) (W : World) (s : List PTok) (ns : List Nd) (R res : Res) (kv : Value) (wr : World) (acc : List Tr) (cur : List PTok) : Prop where
  eq : R = res
  st : RSs w0 rb srcV tokV TL xs (Uv U kv) wr cur (ns ++ flats acc ns.length)
  row : IntsO wr rb kv (ends acc ns.length)
  keep : KeepR rb W wr
  new : ∀ y, kv.ownBlock = some y → W.heap.size ≤ y
  sz : cur.length + sizes acc ≤ s.length
theorem LoopQ.more {W : World} {s : List PTok} {ns : List Nd} {R res : Res} {a : Option Addr} {c n : Nat} {wr W2 W3 : World} {acc ts : List Tr} {cur s' : List PTok} (h : LoopQ w0 rb srcV tokV TL xs U W s ns R res (.slice a n c) wr acc cur) (hn : n = acc.length) (k2 : KeepR rb wr W2) (k3 : KeepR rb W2 W3) (q3 : RSs w0 rb srcV tokV TL xs (Uv U (.slice a n c)) W3 s' ((ns ++ flats acc ns.length) ++ flats ts (ns ++ flats acc ns.length).length)) (n3 : ts.length = 1) (l3 : s'.length + sizes ts ≤ cur.length) (v : Nat) (hv : v = ((ns ++ flats acc ns.length).length + sizes ts - 1)) :
    W3.ownsRow (rb + 1) 3 1 (.slice a n c) n (intsC (ends acc ns.length)) ∧ rb < W3.heap.size ∧ ∀ g2 cp w4, (W3.alloc (.cells #[.int .i64 (v : Int)] 3)).grownBy w4 (Value.slice a n c).ownBlock → ((Value.slice a n c).ownBlock = some g2 ∨ g2 = W3.heap.size + 1) → g2 < w4.heap.size → w4.ownsRow (rb + 1) 3 1 (.slice (some ⟨g2, 0, none⟩) (n + 1) cp) (n + 1) (intsC (ends acc ns.length) ++ [.int .i64 (v : Int)]) → ∀ res', R = res' → LoopQ w0 rb srcV tokV TL xs U W s ns R res' (.slice (some ⟨g2, 0, none⟩) (n + 1) cp) w4 (acc ++ ts) s' := by
  subst hn
  have hrow := h.st.ints h.row (k2.trans k3)
  refine ⟨by unfold IntsO at hrow; rw [ends_len] at hrow; exact hrow, q3.lt, fun g2 cp w4 hg hat hl4 hown res' hr => ?_⟩
  obtain ⟨p1, p2⟩ := q3.grown hrow hg g2 (acc.length + 1) cp hat hl4
  obtain ⟨p3, p4⟩ := p2 W (h.keep.trans (k2.trans k3)) h.new
  have hends : ends (acc ++ ts) ns.length = ends acc ns.length ++ [(v : Int)] := by rw [ends_append, ends_one n3, hv, two_len]
  have hsz := h.sz
  refine ⟨hr, ?_, ?_, p3, fun y hy => ?_, ?_⟩
  · rw [two_lists] at p1
    exact p1
  · unfold IntsO
    rw [hends, List.length_append, ends_len, intsC, List.map_append]
    exact hown
  · simp [Value.ownBlock] at hy
    subst hy
    exact p4
  · rw [sizes_append]
    omega
theorem prep_more (acc ts : List Tr) (X : Res) : prep acc (andT X fun b s2 => .ok (ts ++ b) s2) = prep (acc ++ ts) X := by
  cases X <;> simp [prep, andT]
set_option maxRecDepth 100000 in
set_option maxHeartbeats 8000000 in
theorem program_any (hT : RT w0 rb srcV tokV TL xs) (hK : Kinds TL) {f : Nat} (HT : ∀ f', f' < f → RC w0 rb srcV tokV TL xs (pF f' .tyn) 24 #[]) (HS : ∀ f', f' < f → RC w0 rb srcV tokV TL xs (pF f' .stmt) 26 #[]) {W : World} {s : List PTok} {ns : List Nd} (hS : RSs w0 rb srcV tokV TL xs U W s ns) (hne : pF (f + 1) .program s ≠ .out) :
    Calls Tryz.prog 13 #[.pointer (some ⟨rb, 0, none⟩)] W (PostG w0 rb srcV tokV U W ns (pF (f + 1) .program s)) := by
  have hrW := hS.lt
  obtain ⟨i0, hi, hz0, hz1, hz2⟩ := info_parts infoInt
  have hslen : s.length ≤ 65537 := by
    obtain ⟨i, rfl, hi, _⟩ := hS
    have := hT.small
    unfold pts
    simp
    omega
  have hR0 : pF (f + 1) .program s = r1 f (prep [] (pF f .types s)) := by rw [prep_nil]; rfl
  obtain ⟨R, hR⟩ : ∃ R, pF (f + 1) .program s = R := ⟨_, rfl⟩
  rw [hR] at hne hR0 ⊢
  have HNE : Bx (R ≠ .out) := ⟨hne⟩
  have LB : Bx (LoopQ w0 rb srcV tokV TL xs U W s ns R (r1 f (prep [] (pF f .types s))) (.slice none 0 0) W [] s) := ⟨hR0, by
      have : ns ++ flats [] ns.length = ns := by simp [flats]
      rw [this]
      exact hS.anyU (fun y hy => by rcases hy with hy | hy; exact hy; simp [Value.ownBlock] at hy), World.ownsRow_nil _ _ _ _, KeepR.ext hrW (Below.refl _ _), fun y hy => by simp [Value.ownBlock] at hy, by simp [sizes]⟩
  have HU : Bx (∀ y, U y → y < W.heap.size) := ⟨by obtain ⟨_, _, _, _, _, hU⟩ := hS; exact hU⟩
  clear hR hne hR0 hS
  go_enter Tryz.func13, Tryz.ntmps13
  go_wp2
  go_loopw [3] (fun kv wr => ∃ f' : Nat, ∃ acc cur, ∃ a n c, kv = .slice a n c ∧ f' ≤ f ∧ Bx (n = acc.length) ∧ Bx (LoopQ w0 rb srcV tokV TL xs U W s ns R (r1 f (prep acc (pF f' .types cur))) kv wr acc cur)) (fun kv _ => s.length - sliceLen kv)
  case atStart => exact ⟨f, [], s, none, 0, 0, rfl, Nat.le_refl _, ⟨rfl⟩, LB⟩
  case round =>
    obtain ⟨f', acc, cur, a, n, c, rfl, hff, HN, HL⟩ := hrel
    clear LB
    have hsz := HL.out.sz
    have hac := sizes_ge acc
    have hcl : 1 ≤ cur.length := by
      obtain ⟨i, e, hi, _⟩ := HL.out.st
      rw [e]
      unfold pts
      simp
      omega
    have hnl : n ≤ 65537 := by have := HN.out; omega
    have BT : Bx (∀ W1, RSs w0 rb srcV tokV TL xs (Uv U (.slice a n c)) W1 cur (ns ++ flats acc ns.length) → _) := ⟨fun W1 h => textS (U := Uv U (.slice a n c)) hT h⟩
    have hte := text_eq hK HL.out.st 27 (by decide) [116, 121, 112, 101] (by decide)
    match f', HL with
    | 0, HL =>
      have h2 := HL.out.eq
      exact absurd h2 HNE.out
    | g + 1, HL =>
      by_cases h2 : kd cur = 27
      · have e1 : pF (g + 1) .types cur = andT (pF g .tyn cur) fun a s1 => andT (pF g .types s1) fun b s2 => .ok (a ++ b) s2 := by
          show body (pF g) .types cur = _
          simp only [body]
          rw [if_pos h2]
        have hteq : ((⟨(textK (kd cur : Nat)).toArray⟩ : ByteArray).toList == [116, 121, 112, 101]) = true := by rw [hte]; exact decide_eq_true h2
        have B3 : Bx (∀ W1, RSs w0 rb srcV tokV TL xs (Uv U (.slice a n c)) W1 cur (ns ++ flats acc ns.length) → pF g .tyn cur ≠ .out → Calls Tryz.prog 24 #[.pointer (some ⟨rb, 0, none⟩)] W1 (Post1 w0 rb srcV tokV TL xs (Uv U (.slice a n c)) W1 cur (ns ++ flats acc ns.length) (pF g .tyn cur))) := ⟨fun W1 h hn => HT g (by omega) _ W1 cur _ h hn⟩
        clear hte h2
        generalize (⟨(textK (kd cur : Nat)).toArray⟩ : ByteArray) = tx at *
        match r3 : pF g .tyn cur with
        | .out =>
          have h3 := HL.out.eq
          rw [e1, r3] at h3
          exact absurd h3 HNE.out
        | .err s' =>
          rw [r3] at B3
          have eR : Bx (R = .err s') := ⟨by
            have h3 := HL.out.eq
            rw [e1, r3] at h3
            exact h3⟩
          clear HS HT
          go_wp2_with (first
            | (go_at_call 23; refine Calls.mono (BT.out _ HL.out.st) ?_; rintro e W2 ⟨rfl, b2⟩; have Q2 : Bx _ := ⟨HL.out.st.ext b2⟩; have K2 : Bx _ := ⟨KeepR.ext HL.out.st.lt b2⟩; clear BT b2)
            | (go_at_call 24; refine Calls.mono (B3.out _ Q2.out (by simp)) ?_; rintro e W3 ⟨rfl, b⟩; unfold faultP))
          exact ⟨rfl, by rw [eR.out]; exact ⟨rfl, b⟩⟩
        | .ok ts s' =>
          rw [r3] at B3
          have eR : Bx (R = r1 f (prep (acc ++ ts) (pF g .types s'))) := ⟨by
            have h3 := HL.out.eq
            rw [e1, r3] at h3
            rw [← prep_more]
            exact h3⟩
          clear HS HT
          go_wp2_with (first
            | (go_at_call 23; refine Calls.mono (BT.out _ HL.out.st) ?_; rintro e W2 ⟨rfl, b2⟩; have Q2 : Bx _ := ⟨HL.out.st.ext b2⟩; have K2 : Bx _ := ⟨KeepR.ext HL.out.st.lt b2⟩; clear BT b2)
            | (go_at_call 24; refine Calls.mono (B3.out _ Q2.out (by simp)) ?_; rintro e W3 ⟨n3, l3, he, q3, k3⟩; obtain ⟨v3, hv⟩ : ∃ r : Nat, r = ((ns ++ flats acc ns.length).length + sizes ts - 1) := ⟨_, rfl⟩; rw [← hv] at he; subst he; obtain ⟨hrow, hrl, hnx⟩ := HL.out.more HN.out K2.out k3 q3 n3 l3 v3 hv; have NX : Bx _ := ⟨hnx⟩; have RW : Bx _ := ⟨hrow⟩; have N3 : Bx _ := ⟨n3⟩; clear hv hnx hrow B3 n3 q3 k3)
            | (at_builtin; refine wpList_append_lies _ rfl (.tmp 8) (.tmp 11) 36 rfl (rb + 1) 3 i0 (.int .i64 0) 1 8 Tryz.underlying36 hi hz0 hz1 hz2 rfl (by decide) (.slice a n c) n (intsC (ends acc ns.length)) rfl (owns_bel RW.out (below1 W3 (.cells #[.int .i64 (v3 : Int)] 3))) ⟨W3.heap.size, 0, none⟩ 1 1 [.int .i64 (v3 : Int)] rfl rfl (int_news _ _ rfl _) (int_one _) (by decide) (by unfold maxLen; omega) (by omega) (by simp; omega) (W3.heap.size + 1) (by simp) ?_; intro g2 cp w4 hown hgrow hat hlt4; have LNB : Bx _ := ⟨NX.out g2 cp w4 hgrow hat hlt4 hown⟩; clear hgrow hat hown))
          go_roundw
          case rel => exact ⟨g, acc ++ ts, s', some ⟨g2, 0, none⟩, n + 1, cp, rfl, by omega, ⟨by have := HN.out; have := N3.out; simp; omega⟩, ⟨LNB.out _ eR.out⟩⟩
          case measure => have := HN.out; simp [sliceLen]; omega
      · have hteq : ((⟨(textK (kd cur : Nat)).toArray⟩ : ByteArray).toList == [116, 121, 112, 101]) = false := by rw [hte]; exact decide_eq_false h2
        have e1 : pF (g + 1) .types cur = .ok [] cur := by
          show body (pF g) .types cur = _
          simp only [body]
          rw [if_neg h2]
        have eR : Bx (R = r2 acc (prep [] (pF f .tops cur))) := ⟨by
          have h3 := HL.out.eq
          rw [e1] at h3
          rw [h3, prep_nil]
          simp only [prep, r1, r2, andT, List.append_nil]⟩
        clear hte h2
        generalize (⟨(textK (kd cur : Nat)).toArray⟩ : ByteArray) = tx at *
        go_wp2_with (first
          | (go_at_call 23; refine Calls.mono (BT.out _ HL.out.st) ?_; rintro e W2 ⟨rfl, b2⟩; have Q2 : Bx _ := ⟨HL.out.st.ext b2⟩; have K2 : Bx _ := ⟨KeepR.ext HL.out.st.lt b2⟩; clear BT b2))
        have LB2 : Bx (LoopQ w0 rb srcV tokV TL xs U W s ns R (r2 acc (prep [] (pF f .tops cur))) (.slice a n c) W2 (acc ++ []) cur) := ⟨by
          rw [List.append_nil]
          exact ⟨eR.out, Q2.out, HL.out.st.ints HL.out.row K2.out, HL.out.keep.trans K2.out, HL.out.new, HL.out.sz⟩⟩
        clear HL Q2 K2 eR HT hteq e1
        go_loopw [3] (fun kv wr => ∃ f' : Nat, ∃ acc2 cur, ∃ a n c, kv = .slice a n c ∧ f' ≤ f ∧ Bx (n = (acc ++ acc2).length) ∧ Bx (LoopQ w0 rb srcV tokV TL xs U W s ns R (r2 acc (prep acc2 (pF f' .tops cur))) kv wr (acc ++ acc2) cur)) (fun kv _ => s.length - sliceLen kv)
        case atStart => exact ⟨f, [], cur, a, n, c, rfl, Nat.le_refl _, ⟨by have := HN.out; simp; omega⟩, LB2⟩
        case round =>
          have HA : Bx (n = acc.length) := ⟨HN.out⟩
          obtain ⟨f', acc2, cur, a, m, c, rfl, hff, HN, HL⟩ := hrel
          clear LB2
          have hsz := HL.out.sz
          have hac := sizes_ge (acc ++ acc2)
          have hcl : 1 ≤ cur.length := by
            obtain ⟨i, e, hi, _⟩ := HL.out.st
            rw [e]
            unfold pts
            simp
            omega
          have hnl : m ≤ 65537 := by have := HN.out; omega
          have BT : Bx (∀ W1, RSs w0 rb srcV tokV TL xs (Uv U (.slice a m c)) W1 cur (ns ++ flats (acc ++ acc2) ns.length) → _) := ⟨fun W1 h => endedS (U := Uv U (.slice a m c)) hT h⟩
          match f', HL with
          | 0, HL =>
            have h2 := HL.out.eq
            exact absurd h2 HNE.out
          | g + 1, HL =>
            by_cases h2 : cur.length ≤ 1
            · have hd0 : decide (cur.length ≤ 1) = true := decide_eq_true h2
              have e1 : pF (g + 1) .tops cur = .ok [] cur := by
                show body (pF g) .tops cur = _
                simp only [body]
                rw [if_pos h2]
              have eR : Bx (R = .ok [.mk 46 0 acc.length [] (acc ++ acc2)] cur) := ⟨by
                have h3 := HL.out.eq
                rw [e1] at h3
                rw [h3]
                simp only [prep, r2, andT, List.append_nil]⟩
              have HD : Bx (∀ W2, RSs w0 rb srcV tokV TL xs (Uv U (.slice a m c)) W2 cur (ns ++ flats (acc ++ acc2) ns.length) → KeepR rb wr W2 → ∀ kv, Calls Tryz.prog 27 #[.pointer (some ⟨rb, 0, none⟩), .agg #[.int .i64 46, .int .i64 0, kv, .string ⟨#[]⟩, .int .i64 (n : Int)], .slice a m c] W2 fun e W' => ∃ r : Int, e = .returned (.int .i64 r) ∧ PostG w0 rb srcV tokV U W ns R (.returned (.int .i64 r)) W') := ⟨fun W2 q k kv => by
                have hI := HL.out.st.ints HL.out.row k
                have hkeep := HL.out.keep.trans k
                have hnew := HL.out.new
                obtain ⟨i, rfl, hi, hS, hni, hU⟩ := q.anyU (V := U) (fun y hy => .inl hy)
                have hm : m = (ends (acc ++ acc2) ns.length).length := by rw [ends_len]; exact HN.out
                have hn2 : (n : Int) = (acc.length : Int) := by rw [HA.out]
                have hI' : IntsO W2 rb (.slice a (ends (acc ++ acc2) ns.length).length c) (ends (acc ++ acc2) ns.length) := by rw [← hm]; exact hI
                rw [hm, hn2, eR.out]
                refine (add_any hS 46 0 (acc.length : Int) ⟨#[]⟩ kv a c (ends (acc ++ acc2) ns.length) hI' (fun y hy hyU => by have h4 := hnew y (by rw [hy]; rfl); have := HU.out y hyU; omega) (by have := hT.small; omega)).mono ?_
                rintro e W' ⟨rfl, q', k'⟩
                refine ⟨_, rfl, ⟨_, rfl⟩, ⟨i, ?_⟩, hkeep.trans k'⟩
                have hf1 : flats [Tr.mk 46 0 (acc.length : Int) [] (acc ++ acc2)] ns.length = flats (acc ++ acc2) ns.length ++ [⟨46, 0, ends (acc ++ acc2) ns.length, ⟨#[]⟩, (acc.length : Int)⟩] := by simp [flats, flat]
                rw [hf1, ← List.append_assoc]
                exact q'⟩
              clear HS
              go_wp2_with (first
                | (go_at_call 25; refine Calls.mono (BT.out _ HL.out.st) ?_; rintro e W2 ⟨he, b2⟩; rw [hd0] at he; subst he; have Q2 : Bx _ := ⟨HL.out.st.ext b2⟩; have K2 : Bx _ := ⟨KeepR.ext HL.out.st.lt b2⟩; clear BT b2)
                | (go_at_call 27; refine Calls.mono (HD.out _ Q2.out K2.out _) ?_; rintro e W9 ⟨r9, rfl, hp⟩))
              go_ret
              exact hp
            · have hd0 : decide (cur.length ≤ 1) = false := decide_eq_false h2
              have e1 : pF (g + 1) .tops cur = andT (pF g .stmt cur) fun a s1 => andT (pF g .tops s1) fun b s2 => .ok (a ++ b) s2 := by
                show body (pF g) .tops cur = _
                simp only [body]
                rw [if_neg h2]
              have B3 : Bx (∀ W1, RSs w0 rb srcV tokV TL xs (Uv U (.slice a m c)) W1 cur (ns ++ flats (acc ++ acc2) ns.length) → pF g .stmt cur ≠ .out → Calls Tryz.prog 26 #[.pointer (some ⟨rb, 0, none⟩)] W1 (Post1 w0 rb srcV tokV TL xs (Uv U (.slice a m c)) W1 cur (ns ++ flats (acc ++ acc2) ns.length) (pF g .stmt cur))) := ⟨fun W1 h hn => HS g (by omega) _ W1 cur _ h hn⟩
              match r3 : pF g .stmt cur with
              | .out =>
                have h3 := HL.out.eq
                rw [e1, r3] at h3
                exact absurd h3 HNE.out
              | .err s' =>
                rw [r3] at B3
                have eR : Bx (R = .err s') := ⟨by
                  have h3 := HL.out.eq
                  rw [e1, r3] at h3
                  exact h3⟩
                clear HS
                go_wp2_with (first
                  | (go_at_call 25; refine Calls.mono (BT.out _ HL.out.st) ?_; rintro e W2 ⟨he, b2⟩; rw [hd0] at he; subst he; have Q2 : Bx _ := ⟨HL.out.st.ext b2⟩; have K2 : Bx _ := ⟨KeepR.ext HL.out.st.lt b2⟩; clear BT b2)
                  | (go_at_call 26; refine Calls.mono (B3.out _ Q2.out (by simp)) ?_; rintro e W3 ⟨rfl, b⟩; unfold faultP))
                exact ⟨rfl, by rw [eR.out]; exact ⟨rfl, b⟩⟩
              | .ok ts s' =>
                rw [r3] at B3
                have eR : Bx (R = r2 acc (prep (acc2 ++ ts) (pF g .tops s'))) := ⟨by
                  have h3 := HL.out.eq
                  rw [e1, r3] at h3
                  rw [← prep_more]
                  exact h3⟩
                clear HS
                go_wp2_with (first
                  | (go_at_call 25; refine Calls.mono (BT.out _ HL.out.st) ?_; rintro e W2 ⟨he, b2⟩; rw [hd0] at he; subst he; have Q2 : Bx _ := ⟨HL.out.st.ext b2⟩; have K2 : Bx _ := ⟨KeepR.ext HL.out.st.lt b2⟩; clear BT b2)
                  | (go_at_call 26; refine Calls.mono (B3.out _ Q2.out (by simp)) ?_; rintro e W3 ⟨n3, l3, he, q3, k3⟩; obtain ⟨v3, hv⟩ : ∃ r : Nat, r = ((ns ++ flats (acc ++ acc2) ns.length).length + sizes ts - 1) := ⟨_, rfl⟩; rw [← hv] at he; subst he; obtain ⟨hrow, hrl, hnx⟩ := HL.out.more HN.out K2.out k3 q3 n3 l3 v3 hv; have NX : Bx _ := ⟨hnx⟩; have RW : Bx _ := ⟨hrow⟩; have N3 : Bx _ := ⟨n3⟩; clear hv hnx hrow B3 n3 q3 k3)
                  | (at_builtin; refine wpList_append_lies _ rfl (.tmp 18) (.tmp 21) 36 rfl (rb + 1) 3 i0 (.int .i64 0) 1 8 Tryz.underlying36 hi hz0 hz1 hz2 rfl (by decide) (.slice a m c) m (intsC (ends (acc ++ acc2) ns.length)) rfl (owns_bel RW.out (below1 W3 (.cells #[.int .i64 (v3 : Int)] 3))) ⟨W3.heap.size, 0, none⟩ 1 1 [.int .i64 (v3 : Int)] rfl rfl (int_news _ _ rfl _) (int_one _) (by decide) (by unfold maxLen; omega) (by omega) (by simp; omega) (W3.heap.size + 1) (by simp) ?_; intro g2 cp w4 hown hgrow hat hlt4; have LNB : Bx _ := ⟨NX.out g2 cp w4 hgrow hat hlt4 hown⟩; clear hgrow hat hown))
                go_roundw
                case rel => exact ⟨g, acc2 ++ ts, s', some ⟨g2, 0, none⟩, m + 1, cp, rfl, by omega, ⟨by have := HN.out; have := N3.out; simp at *; omega⟩, ⟨by rw [← List.append_assoc]; exact LNB.out _ eR.out⟩⟩
                case measure => have := HN.out; simp [sliceLen]; omega
end Go.Proofs.YtblhklbpcalglaaGreatDoor
namespace Go.Proofs.YtblhklbpcalglaaGreatDoor
open Go.RowKit
set_option linter.unusedVariables false
set_option linter.unusedSimpArgs false
theorem six (a b x y : Value) : (#[a, b] ++ ((Array.replicate 6 undef).setIfInBounds 1 x).setIfInBounds 0 y) = #[a, b, y, x, undef, undef, undef, undef] := rfl
set_option maxRecDepth 100000 in
theorem catch_idle (p q : Addr) (w : World) :
    CallsD Tryz.prog 12 #[.pointer (some p), .pointer (some q)] .returning w fun e u' w' => e = .returned (.tuple #[]) ∧ u' = .returning ∧ w' = w := by
  refine callsD_of_wpS Tryz.func12 rfl fun c₀ cs hu => ?_
  apply wpS_seq
  apply wpS_region
  simp [wpOpsS, go_sem, recoverD, hu, Tryz.ntmps12, Exit.thenS]
  rw [six]
  apply wpS_seq
  apply wpS_region
  simp [wpOpsS, go_sem, Exit.thenS]
  refine wpS_cond (t := false) (by simp [Act.eval]) ?_
  simp only [Bool.false_eq_true, if_false]
  refine wpS_of_wp (wp_skip ?_)
  cases c₀
  simp_all [bodyPostS, results, Tryz.results12]
theorem fault_is (xT : TypeId) (v : Value) (W : World) : (Instr.typeAssert (.iface 27 v) xT 27 false).run Tryz.prog W = .ok v W := by
  simp [Instr.typeAssert, run_underlying Tryz.underlying27]
set_option maxRecDepth 100000 in
theorem catch_panicking (a b : Nat) (pl : Int) (older : List PanicEntry) (w : World) (v0 v1 v2 : Value) (h0 : w.cell? ⟨a, 0, none⟩ = some v0) (h1 : w.cell? ⟨b, 0, none⟩ = some v1) (h2 : w.cell? ⟨b, 1, none⟩ = some v2) (f0 : w.frozen? ⟨a, 0, none⟩ = false) (f1 : w.frozen? ⟨b, 0, none⟩ = false) (f2 : w.frozen? ⟨b, 1, none⟩ = false) (hab : a ≠ b) :
    CallsD Tryz.prog 12 #[.pointer (some ⟨a, 0, none⟩), .pointer (some ⟨b, 0, none⟩)] (.panicking ({ v := .iface 27 (.agg #[.int .i64 pl, .int .i64 30]), recovered := false } :: older)) w fun e u' w' =>
      e = .returned (.tuple #[]) ∧ u' = .panicking ({ v := .iface 27 (.agg #[.int .i64 pl, .int .i64 30]), recovered := true } :: older) ∧ w' = (((w.setCell ⟨a, 0, none⟩ (.slice none 0 0)).setCell ⟨b, 0, none⟩ (.int .i64 pl)).setCell ⟨b, 1, none⟩ (.int .i64 30)).drew := by
  refine callsD_of_wpS Tryz.func12 rfl fun c₀ cs hu => ?_
  apply wpS_seq
  apply wpS_region
  simp [wpOpsS, go_sem, recoverD, hu, Tryz.ntmps12, Exit.thenS]
  rw [six]
  apply wpS_seq
  apply wpS_region
  simp [wpOpsS, go_sem, Exit.thenS]
  have hta := fun xT W => fault_is xT (.agg #[.int .i64 pl, .int .i64 30]) W
  refine wpS_cond (t := true) (by simp [Act.eval]) ?_
  simp only [if_true]
  refine wpS_of_wp ?_
  go_region
  all_goals simp [bodyPostS, results, Tryz.results12]
end Go.Proofs.YtblhklbpcalglaaGreatDoor
