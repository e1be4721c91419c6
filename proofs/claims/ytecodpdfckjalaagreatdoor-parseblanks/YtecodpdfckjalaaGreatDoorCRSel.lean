import Derived.Test.YtecodpdfckjalaaGreatDoorCRRow
import Derived.Test.YtecodpdfckjalaaGreatDoorCRAct
import Derived.Test.YtecodpdfckjalaaGreatDoorCRAr3
import Derived.Test.YtecodpdfckjalaaGreatDoorCRSta
import Derived.Test.YtecodpdfckjalaaGreatDoorCRTy0
import Derived.Test.YtecodpdfckjalaaGreatDoorCRPri2
import Derived.Test.YtecodpdfckjalaaGreatDoorCRPar
import Derived.Test.YtecodpdfckjalaaGreatDoorCRBox
import Derived.Test.YtecodpdfckjalaaGreatDoorCROp
import Derived.Test.YtecodpdfckjalaaGreatDoorCRPost
import Derived.Test.YtecodpdfckjalaaGreatDoorCRSim
namespace Go.Proofs.YtecodpdfckjalaaGreatDoor
open Go.RowKit
set_option linter.unusedVariables false
set_option linter.unusedSimpArgs false

variable {w0 : World} {rb : Nat} {srcV tokV : Value} {TL : List Tok} {xs : List UInt8} {U : Nat → Prop}

set_option maxRecDepth 100000 in
set_option maxHeartbeats 4000000 in
theorem choice_any (hT : RT w0 rb srcV tokV TL xs) (hK : Kinds TL) {f : Nat} (HS : ∀ f', f' < f → RC w0 rb srcV tokV TL xs (pF f' .arm) 111 #[]) :
    RC w0 rb srcV tokV TL xs (fun s => want 25 s fun s0 => want 44 s0 fun s1 => andT (pF f .arms s1) fun a s2 => mk1 40 s 0 [] a s2) 94 #[] := by
  intro U W s ns hS hne
  show Calls Tryz.prog 94 #[.pointer (some ⟨rb, 0, none⟩)] W _
  dsimp only at hne ⊢
  have hrW := hS.lt
  have B1 : Bx (∀ W1, RSs w0 rb srcV tokV TL xs U W1 s ns → _) := ⟨fun W1 h => wantS hT hK h 25 (by decide) ⟨#[115, 101, 108, 101, 99, 116]⟩ (by decide)⟩
  have C1 : Bx (∀ W1, RSs w0 rb srcV tokV TL xs U W1 (tl s) ns → _) := ⟨fun W1 h => wantS hT hK h 44 (by decide) ⟨#[123]⟩ (by decide)⟩
  by_cases h1 : kd s = 25
  rotate_left 1
  · rw [want_neg h1]
    go_enter Tryz.func94, Tryz.ntmps94
    go_wp2_with (first
      | (go_at_call 85; refine Calls.mono (B1.out _ hS) ?_; rintro e W1 (⟨h, _⟩ | ⟨_, rfl, b1⟩); exact absurd h h1; unfold faultP))
    exact ⟨rfl, rfl, b1⟩
  rw [want_pos h1] at hne ⊢
  by_cases c1 : kd (tl s) = 44
  · rw [want_pos c1] at hne ⊢
    obtain ⟨i0, hi, hz0, hz1, hz2⟩ := info_parts infoInt
    have hslen : s.length ≤ 65537 := by
      obtain ⟨i, rfl, hi, _⟩ := hS
      have := hT.small
      unfold pts
      simp
      omega
    generalize hR : (andT (pF f .arms (tl (tl s))) fun a s2 => mk1 40 s 0 [] a s2) = R at hne ⊢
    have HR : Bx (andT (pF f .arms (tl (tl s))) (fun a s2 => mk1 40 s 0 [] a s2) = R ∧ R ≠ .out) := ⟨hR, hne⟩
    clear hR hne
    have H0 : Bx (∀ W1, RSs w0 rb srcV tokV TL xs U W1 (tl (tl s)) ns → KeepR rb W W1 → (tl (tl s)).length + 1 = (tl s).length → (tl s).length + 1 = s.length → LoopS w0 rb srcV tokV TL xs U W s ns .arms f (tl (tl s)) (.slice none 0 0) W1 f [] (tl (tl s))) := ⟨fun W1 q k l l0 => ⟨by rw [prep_nil], Nat.le_refl _, by
      have : ns ++ flats [] ns.length = ns := by simp [flats]
      rw [this]
      exact q.anyU (fun y hy => by rcases hy with hy | hy; exact hy; simp [Value.ownBlock] at hy), World.ownsRow_nil _ _ _ _, k, fun y hy => by simp [Value.ownBlock] at hy, by simp [sizes]; omega⟩⟩
    go_enter Tryz.func94, Tryz.ntmps94
    go_wp2_with (first
      | (go_at_call 85; refine Calls.mono (B1.out _ hS) ?_; rintro e W1 (⟨_, rfl, q1, l1, k1⟩ | ⟨h, _⟩); rotate_left 1; exact absurd h1 h; clear B1)
      | (go_at_call 85; refine Calls.mono (C1.out _ q1) ?_; rintro e W2 (⟨_, rfl, q2, l2, k2⟩ | ⟨h, _⟩); rotate_left 1; exact absurd c1 h; clear C1; have L0 := H0.out _ q2 (k1.trans k2) l2 l1; have LB : Bx _ := ⟨L0⟩; clear L0 H0))
    go_loopw [4] (fun kv wr => ∃ f' : Nat, ∃ acc cur, ∃ a c, kv = .slice a acc.length c ∧ Bx (LoopS w0 rb srcV tokV TL xs U W s ns .arms f (tl (tl s)) kv wr f' acc cur)) (fun kv _ => s.length - sliceLen kv)
    case atStart => exact ⟨f, [], tl (tl s), none, 0, rfl, LB⟩
    case round =>
      obtain ⟨f', acc, cur, a, c, rfl, HL⟩ := hrel
      have hsz := HL.out.sz
      have hac := sizes_ge acc
      match f', HL with
      | 0, HL =>
        have := HL.out.eq
        have h2 := HR.out
        rw [this] at h2
        exact absurd h2.1.symm h2.2
      | g + 1, HL =>
        have B2 : Bx (∀ W1, RSs w0 rb srcV tokV TL xs (Uv U (.slice a acc.length c)) W1 cur (ns ++ flats acc ns.length) → _) := ⟨fun W1 h => skipS hT hK h 45 (by decide) ⟨#[125]⟩ (by decide)⟩
        by_cases h2 : kd cur = 45
        · have e1 : pF (g + 1) .arms cur = .ok [] (tl cur) := by
            show body (pF g) .arms cur = _
            simp only [body]
            rw [if_pos h2]
          have eR : Bx (R = .ok [.mk 40 (hd s).place 0 [] acc] (tl cur)) := ⟨by
            have h3 := HR.out.1
            rw [HL.out.eq, e1] at h3
            simp only [prep, andT, List.append_nil] at h3
            exact h3.symm⟩
          have hUW : ∀ y, a = some ⟨y, 0, none⟩ → ¬ U y := fun y hy hyU => by
            have h4 := HL.out.new y (by rw [hy]; rfl)
            obtain ⟨_, _, _, _, _, hU⟩ := hS
            have := hU y hyU
            omega
          have HD : Bx (∀ W2, RSs w0 rb srcV tokV TL xs (Uv U (.slice a acc.length c)) W2 (tl cur) (ns ++ flats acc ns.length) → KeepR rb wr W2 → (tl cur).length + 1 = cur.length → ∀ kv, Calls Tryz.prog 70 #[.pointer (some ⟨rb, 0, none⟩), .agg #[.int .i64 40, .int .i64 (hd s).place, kv, .string ⟨#[]⟩, .int .i64 0], .slice a acc.length c] W2 fun e W' => ∃ r : Int, e = .returned (.int .i64 r) ∧ Post1 w0 rb srcV tokV TL xs U W s ns R (.returned (.int .i64 r)) W') := ⟨fun W2 q k l kv => by
            rw [eR.out]
            exact addS hT acc (q.anyU (fun y hy => .inl hy)) (HL.out.keep.trans k) (by omega) ⟨W, hS⟩ 40 (hd s).place 0 [] kv a acc.length c rfl (HL.out.st.ints HL.out.row k) hUW⟩
          have hst : Bx _ := ⟨HL.out.st⟩
          clear HL HR eR e1 HS
          go_wp2_with (first
            | (go_at_call 102; refine Calls.mono (B2.out _ hst.out) ?_; rintro e W2 (⟨_, rfl, q2, l2, k2⟩ | ⟨h, _⟩); rotate_left 1; exact absurd h2 h; clear B2)
            | (go_at_call 70; refine Calls.mono (HD.out _ q2 k2 l2 _) ?_; rintro e W9 ⟨r9, rfl, hp⟩))
          go_ret
          exact hp
        · have e1 : pF (g + 1) .arms cur = andT (pF g .arm cur) fun a s1 => andT (pF g .arms s1) fun b s2 => .ok (a ++ b) s2 := by
            show body (pF g) .arms cur = _
            simp only [body]
            rw [if_neg h2]
          have hgf : g < f := by have := HL.out.le; omega
          have B3 : Bx (∀ W1, RSs w0 rb srcV tokV TL xs (Uv U (.slice a acc.length c)) W1 cur (ns ++ flats acc ns.length) → pF g .arm cur ≠ .out → Calls Tryz.prog 111 #[.pointer (some ⟨rb, 0, none⟩)] W1 (Post1 w0 rb srcV tokV TL xs (Uv U (.slice a acc.length c)) W1 cur (ns ++ flats acc ns.length) (pF g .arm cur))) := ⟨fun W1 h hn => HS g hgf _ W1 cur _ h hn⟩
          have hst : Bx _ := ⟨HL.out.st⟩
          match r3 : pF g .arm cur with
          | .out =>
            have h3 := HR.out
            rw [HL.out.eq, e1, r3] at h3
            exact absurd h3.1.symm h3.2
          | .err s' =>
            rw [r3] at B3
            have eR : Bx (R = .err s') := ⟨by
              have h3 := HR.out.1
              rw [HL.out.eq, e1, r3] at h3
              exact h3.symm⟩
            clear HL HR HS
            go_wp2_with (first
              | (go_at_call 102; refine Calls.mono (B2.out _ hst.out) ?_; rintro e W2 (⟨h, _⟩ | ⟨_, rfl, q2, k2⟩); exact absurd h h2; clear B2)
              | (go_at_call 111; refine Calls.mono (B3.out _ q2 (by simp)) ?_; rintro e W3 ⟨rfl, b3⟩; unfold faultP))
            exact ⟨rfl, by rw [eR.out]; exact ⟨rfl, b3⟩⟩
          | .ok ts s' =>
            rw [r3] at B3
            have HN : Bx (∀ W2 W3, KeepR rb wr W2 → KeepR rb W2 W3 → RSs w0 rb srcV tokV TL xs (Uv U (.slice a acc.length c)) W3 s' ((ns ++ flats acc ns.length) ++ flats ts (ns ++ flats acc ns.length).length) → ts.length = 1 → s'.length + sizes ts ≤ cur.length → ∀ v : Nat, v = ((ns ++ flats acc ns.length).length + sizes ts - 1) →
                IntsO W3 rb (.slice a acc.length c) (ends acc ns.length) ∧ ∀ g2 cp w4, (W3.alloc (.cells #[.int .i64 (v : Int)] 3)).grownBy w4 (Value.slice a acc.length c).ownBlock → ((Value.slice a acc.length c).ownBlock = some g2 ∨ g2 = W3.heap.size + 1) → g2 < w4.heap.size → w4.ownsRow (rb + 1) 3 1 (.slice (some ⟨g2, 0, none⟩) (acc.length + 1) cp) (acc.length + 1) (intsC (ends acc ns.length) ++ [.int .i64 (v : Int)]) → LoopS w0 rb srcV tokV TL xs U W s ns .arms f (tl (tl s)) (.slice (some ⟨g2, 0, none⟩) (acc.length + 1) cp) w4 g (acc ++ ts) s') := ⟨fun W2 W3 k2 k3 q3 n3 l3 v hv => by
              have hrow := HL.out.st.ints HL.out.row (k2.trans k3)
              refine ⟨hrow, fun g2 cp w4 hg hat hl4 hown => ?_⟩
              obtain ⟨p1, p2⟩ := q3.grown hrow hg g2 (acc.length + 1) cp hat hl4
              obtain ⟨p3, p4⟩ := p2 W (HL.out.keep.trans (k2.trans k3)) HL.out.new
              have hends : ends (acc ++ ts) ns.length = ends acc ns.length ++ [(v : Int)] := by rw [ends_append, ends_one n3, hv, two_len]
              refine ⟨?_, by omega, ?_, ?_, p3, fun y hy => ?_, ?_⟩
              · rw [HL.out.eq, e1, r3]
                simp only [andT]
                cases pF g .arms s' <;> simp [prep]
              · rw [two_lists] at p1
                exact p1
              · unfold IntsO
                rw [hends, List.length_append, ends_len, intsC, List.map_append]
                exact hown
              · simp [Value.ownBlock] at hy
                subst hy
                exact p4
              · rw [sizes_append]
                omega⟩
            have hlen : (acc ++ ts).length = acc.length + 1 → True := fun _ => trivial
            clear HL HR HS
            go_wp2_with (first
              | (go_at_call 102; refine Calls.mono (B2.out _ hst.out) ?_; rintro e W2 (⟨h, _⟩ | ⟨_, rfl, q2, k2⟩); exact absurd h h2; clear B2)
              | (go_at_call 111; refine Calls.mono (B3.out _ q2 (by simp)) ?_; rintro e W3 ⟨n3, l3, he, q3, k3⟩; obtain ⟨v3, hv⟩ : ∃ r : Nat, r = ((ns ++ flats acc ns.length).length + sizes ts - 1) := ⟨_, rfl⟩; rw [← hv] at he; subst he; obtain ⟨hrow, hnx⟩ := HN.out W2 W3 k2 k3 q3 n3 l3 v3 hv; have NX : Bx _ := ⟨hnx⟩; have RW : Bx _ := ⟨hrow⟩; have hrl := q3.lt; clear hv hnx hrow HN B3)
              | (at_builtin; refine wpList_append_lies _ rfl (.tmp 12) (.tmp 15) 39 rfl (rb + 1) 3 i0 (.int .i64 0) 1 8 Tryz.underlying39 hi hz0 hz1 hz2 rfl (by decide) (.slice a acc.length c) acc.length (intsC (ends acc ns.length)) rfl (by have := owns_bel RW.out (below1 W3 (.cells #[.int .i64 (v3 : Int)] 3)); rw [ends_len] at this; exact this) ⟨W3.heap.size, 0, none⟩ 1 1 [.int .i64 (v3 : Int)] rfl rfl (int_news _ _ rfl _) (int_one _) (by decide) (by unfold maxLen; omega) (by omega) (by simp; omega) (W3.heap.size + 1) (by simp) ?_; intro g2 cp w4 hown hgrow hat hlt4; have LN := NX.out g2 cp w4 hgrow hat hlt4 hown; have LNB : Bx _ := ⟨LN⟩; clear hgrow hat hown LN))
            go_roundw
            case rel => exact ⟨g, acc ++ ts, s', some ⟨g2, 0, none⟩, cp, by simp [n3], LNB⟩
            case measure => simp [sliceLen]; omega
  · rw [want_neg c1]
    go_enter Tryz.func94, Tryz.ntmps94
    go_wp2_with (first
      | (go_at_call 85; refine Calls.mono (B1.out _ hS) ?_; rintro e W1 (⟨_, rfl, q1, l1, k1⟩ | ⟨h, _⟩); rotate_left 1; exact absurd h1 h; clear B1)
      | (go_at_call 85; refine Calls.mono (C1.out _ q1) ?_; rintro e W2 (⟨h, _⟩ | ⟨_, rfl, b2⟩); exact absurd h c1; unfold faultP))
    exact ⟨rfl, rfl, b2⟩
end Go.Proofs.YtecodpdfckjalaaGreatDoor
namespace Go.Proofs.YtecodpdfckjalaaGreatDoor
open Go.RowKit
set_option linter.unusedVariables false
set_option linter.unusedSimpArgs false

variable {w0 : World} {rb : Nat} {srcV tokV : Value} {TL : List Tok} {xs : List UInt8} {U : Nat → Prop}

/-- all rules, at a fuel -/
structure AllR (w0 : World) (rb : Nat) (srcV tokV : Value) (TL : List Tok) (xs : List UInt8) (f : Nat) : Prop where
  typ : RC w0 rb srcV tokV TL xs (pF f .typ) 87 #[]
  chanT : RC w0 rb srcV tokV TL xs (pF f .chanT) 106 #[]
  expr : RC w0 rb srcV tokV TL xs (pF f (.operands 1)) 109 #[]
  opnd : ∀ l : Int, 1 ≤ l → RC w0 rb srcV tokV TL xs (pF f (.operands l)) 125 #[.int .i64 l]
  unary : RC w0 rb srcV tokV TL xs (pF f .unary) 126 #[]
  postf : RC w0 rb srcV tokV TL xs (pF f .postf) 137 #[]
  primary : RC w0 rb srcV tokV TL xs (pF f .primary) 142 #[]
  prog : RC w0 rb srcV tokV TL xs (pF f .prog) 150 #[]
  param : RC w0 rb srcV tokV TL xs (pF f .param) 152 #[]
  block : RC w0 rb srcV tokV TL xs (pF f .block) 95 #[]
  stmt : RC w0 rb srcV tokV TL xs (pF f .stmt) 69 #[]
  branch : RC w0 rb srcV tokV TL xs (pF f .branch) 90 #[]
  arm : RC w0 rb srcV tokV TL xs (pF f .arm) 111 #[]
  tyn : RC w0 rb srcV tokV TL xs (pF f .tyn) 67 #[]
  pty : LC 0 w0 rb srcV tokV TL xs (pF f (.parted .typ)) 122 #[.func (.func 87) #[.pointer (some ⟨rb, 0, none⟩)] #[]]
  pex : LC 0 w0 rb srcV tokV TL xs (pF f (.parted .expr)) 122 #[.func (.func 109) #[.pointer (some ⟨rb, 0, none⟩)] #[]]
  ppa : LC 0 w0 rb srcV tokV TL xs (pF f (.parted .param)) 122 #[.func (.func 152) #[.pointer (some ⟨rb, 0, none⟩)] #[]]
  lty : LC 1 w0 rb srcV tokV TL xs (pF f (.listed .typ)) 123 #[.func (.func 87) #[.pointer (some ⟨rb, 0, none⟩)] #[]]
  lex : LC 1 w0 rb srcV tokV TL xs (pF f (.listed .expr)) 123 #[.func (.func 109) #[.pointer (some ⟨rb, 0, none⟩)] #[]]
  lpa : LC 1 w0 rb srcV tokV TL xs (pF f (.listed .param)) 123 #[.func (.func 152) #[.pointer (some ⟨rb, 0, none⟩)] #[]]
theorem all_zero : AllR w0 rb srcV tokV TL xs 0 := ⟨fun U W s ns hS hne => absurd rfl hne, fun U W s ns hS hne => absurd rfl hne, fun U W s ns hS hne => absurd rfl hne, fun l hl U W s ns hS hne => absurd rfl hne, fun U W s ns hS hne => absurd rfl hne, fun U W s ns hS hne => absurd rfl hne, fun U W s ns hS hne => absurd rfl hne, fun U W s ns hS hne => absurd rfl hne, fun U W s ns hS hne => absurd rfl hne, fun U W s ns hS hne => absurd rfl hne, fun U W s ns hS hne => absurd rfl hne, fun U W s ns hS hne => absurd rfl hne, fun U W s ns hS hne => absurd rfl hne, fun U W s ns hS hne => absurd rfl hne, fun U W s ns hS hne => absurd rfl hne, fun U W s ns hS hne => absurd rfl hne, fun U W s ns hS hne => absurd rfl hne, fun U W s ns hS hne => absurd rfl hne, fun U W s ns hS hne => absurd rfl hne, fun U W s ns hS hne => absurd rfl hne⟩
theorem typ_all (hT : RT w0 rb srcV tokV TL xs) (hK : Kinds TL) {f : Nat} (A : ∀ f', f' ≤ f → AllR w0 rb srcV tokV TL xs f') : RC w0 rb srcV tokV TL xs (pF (f + 1) .typ) 87 #[] := by
  intro U W s ns hS hne
  show Calls Tryz.prog 87 #[.pointer (some ⟨rb, 0, none⟩)] W (Post1 w0 rb srcV tokV TL xs U W s ns (body (pF f) .typ s))
  change body (pF f) .typ s ≠ .out at hne
  simp only [body] at hne ⊢
  by_cases h19 : kd s = 19
  · rw [if_pos h19] at hne ⊢
    exact typ_19 hT hK hS h19
  rw [if_neg h19] at hne ⊢
  by_cases h12 : kd s = 12
  · rw [if_pos h12] at hne ⊢
    exact typ_12 hT hK hS h12
  rw [if_neg h12] at hne ⊢
  by_cases h10 : kd s = 10
  · rw [if_pos h10] at hne ⊢
    exact typ_10 hT hK (typeOf_any hT hK (A f (Nat.le_refl _)).typ 4 10 (by decide) ⟨#[97, 114, 114, 97, 121]⟩ (by decide)) hS h10 hne
  rw [if_neg h10] at hne ⊢
  by_cases h14 : kd s = 14
  · rw [if_pos h14] at hne ⊢
    exact typ_14 hT hK (A f (Nat.le_refl _)).chanT hS h14 hne
  rw [if_neg h14] at hne ⊢
  by_cases h40 : kd s = 40
  · rw [if_pos h40] at hne ⊢
    exact typ_40 hT hK (fun U W s ns hS hne => tupleType_any hT hK (A f (Nat.le_refl _)).typ (A f (Nat.le_refl _)).pty hS hne) hS h40 hne
  rw [if_neg h40] at hne ⊢
  by_cases h23 : kd s = 23
  · rw [if_pos h23] at hne ⊢
    exact typ_23 hT hK (fun U W s ns hS hne => progType_any hT hK (fun f' h => (A f' (Nat.le_of_lt h)).typ) (A f (Nat.le_refl _)).lty hS hne) hS h23 hne
  rw [if_neg h23] at hne ⊢
  exact typ_0 hT hK hS ⟨h19, h12, h10, h14, h40, h23⟩
theorem prog_all (hT : RT w0 rb srcV tokV TL xs) (hK : Kinds TL) {f : Nat} (A : ∀ f', f' ≤ f → AllR w0 rb srcV tokV TL xs f') : RC w0 rb srcV tokV TL xs (pF (f + 1) .prog) 150 #[] := by
  intro U W s ns hS hne
  show Calls Tryz.prog 150 #[.pointer (some ⟨rb, 0, none⟩)] W (Post1 w0 rb srcV tokV TL xs U W s ns (body (pF f) .prog s))
  change body (pF f) .prog s ≠ .out at hne
  simp only [body] at hne ⊢
  by_cases h0 : kd s = 23
  · rw [want_pos h0] at hne ⊢
    by_cases h1 : kd (tl s) = 1
    · rw [if_pos h1, nameK_pos h1] at hne ⊢
      exact prog_named hT hK (fun f' h => (A f' (Nat.le_of_lt h)).typ) (A f (Nat.le_refl _)).lpa (A f (Nat.le_refl _)).block hS h0 h1 hne
    · rw [if_neg h1] at hne ⊢
      exact prog_none hT hK (fun f' h => (A f' (Nat.le_of_lt h)).typ) (A f (Nat.le_refl _)).lpa (A f (Nat.le_refl _)).block hS h0 h1 hne
  · rw [want_neg h0]
    exact prog_bad hT hK hS h0
theorem primary_all (hT : RT w0 rb srcV tokV TL xs) (hK : Kinds TL) {f : Nat} (A : ∀ f', f' ≤ f → AllR w0 rb srcV tokV TL xs f') : RC w0 rb srcV tokV TL xs (pF (f + 1) .primary) 142 #[] := by
  intro U W s ns hS hne
  show Calls Tryz.prog 142 #[.pointer (some ⟨rb, 0, none⟩)] W (Post1 w0 rb srcV tokV TL xs U W s ns (body (pF f) .primary s))
  change body (pF f) .primary s ≠ .out at hne
  simp only [body] at hne ⊢
  by_cases h26 : kd s = 26
  · rw [if_pos h26] at hne ⊢
    exact primary_26 hT hK hS h26
  rw [if_neg h26] at hne ⊢
  by_cases h16 : kd s = 16
  · rw [if_pos h16] at hne ⊢
    exact primary_16 hT hK hS h16
  rw [if_neg h16] at hne ⊢
  by_cases h40 : kd s = 40
  · rw [if_pos h40] at hne ⊢
    exact primary_40 hT hK (fun U W s ns hS hne => paren_any hT hK (A f (Nat.le_refl _)).pex hS hne) hS h40 hne
  rw [if_neg h40] at hne ⊢
  by_cases h42 : kd s = 42
  · rw [if_pos h42] at hne ⊢
    exact primary_42 hT hK (fun U W s ns hS hne => array_any hT hK (A f (Nat.le_refl _)).pex hS hne) hS h42 hne
  rw [if_neg h42] at hne ⊢
  by_cases h17 : kd s = 17
  · rw [if_pos h17] at hne ⊢
    exact primary_17 hT hK (fill_any hT hK (A f (Nat.le_refl _)).expr) hS h17 hne
  rw [if_neg h17] at hne ⊢
  by_cases h20 : kd s = 20
  · rw [if_pos h20] at hne ⊢
    exact primary_20 hT hK (length_any hT hK (A f (Nat.le_refl _)).expr) hS h20 hne
  rw [if_neg h20] at hne ⊢
  by_cases h21 : kd s = 21
  · rw [if_pos h21] at hne ⊢
    exact primary_21 hT hK (A f (Nat.le_refl _)).chanT hS h21 hne
  rw [if_neg h21] at hne ⊢
  by_cases h23 : kd s = 23
  · rw [if_pos h23] at hne ⊢
    exact primary_23 hT hK (A f (Nat.le_refl _)).prog hS h23 hne
  rw [if_neg h23] at hne ⊢
  by_cases h2 : kd s = 2
  · rw [if_pos h2] at hne ⊢
    exact primary_2 hT hK hS h2
  rw [if_neg h2] at hne ⊢
  exact primary_0 hT hK hS ⟨h2, h26, h16, h40, h42, h17, h20, h21, h23⟩
theorem stmt_all (hT : RT w0 rb srcV tokV TL xs) (hK : Kinds TL) {f : Nat} (A : ∀ f', f' ≤ f → AllR w0 rb srcV tokV TL xs f') : RC w0 rb srcV tokV TL xs (pF (f + 1) .stmt) 69 #[] := by
  intro U W s ns hS hne
  show Calls Tryz.prog 69 #[.pointer (some ⟨rb, 0, none⟩)] W (Post1 w0 rb srcV tokV TL xs U W s ns (body (pF f) .stmt s))
  change body (pF f) .stmt s ≠ .out at hne
  simp only [body] at hne ⊢
  by_cases h28 : kd s = 28
  · rw [if_pos h28] at hne ⊢
    exact statement_28 hT hK (valNamed_any hT hK (A f (Nat.le_refl _)).expr) hS h28 hne
  rw [if_neg h28] at hne ⊢
  by_cases h29 : kd s = 29
  · rw [if_pos h29] at hne ⊢
    exact statement_29 hT hK (fun U W s ns hS hne => varNamed_any hT hK (A f (Nat.le_refl _)).typ (A f (Nat.le_refl _)).expr hS hne) hS h29 hne
  rw [if_neg h29] at hne ⊢
  by_cases h18 : kd s = 18
  · rw [if_pos h18] at hne ⊢
    exact statement_18 hT hK (A f (Nat.le_refl _)).branch hS h18 hne
  rw [if_neg h18] at hne ⊢
  by_cases h30 : kd s = 30
  · rw [if_pos h30] at hne ⊢
    exact statement_30 hT hK (loop_any hT hK (A f (Nat.le_refl _)).expr (A f (Nat.le_refl _)).block) hS h30 hne
  rw [if_neg h30] at hne ⊢
  by_cases h24 : kd s = 24
  · rw [if_pos h24] at hne ⊢
    exact statement_24 hT hK (fun U W s ns hS hne => returned_any hT hK (A f (Nat.le_refl _)).expr hS hne) hS h24 hne
  rw [if_neg h24] at hne ⊢
  by_cases h11 : kd s = 11
  · rw [if_pos h11] at hne ⊢
    exact statement_11 hT hK (begun_any hT hK (A f (Nat.le_refl _)).expr) hS h11 hne
  rw [if_neg h11] at hne ⊢
  by_cases h25 : kd s = 25
  · rw [if_pos h25] at hne ⊢
    exact statement_25 hT hK (choice_any hT hK (fun f' h => (A f' (Nat.le_of_lt h)).arm)) hS h25 hne
  rw [if_neg h25] at hne ⊢
  by_cases h44 : kd s = 44
  · rw [if_pos h44] at hne ⊢
    exact statement_44 hT hK (A f (Nat.le_refl _)).block hS h44 hne
  rw [if_neg h44] at hne ⊢
  exact statement_0 hT hK (action_any hT hK (A f (Nat.le_refl _)).expr) hS ⟨h28, h29, h18, h30, h24, h11, h25, h44⟩ hne
theorem otherwise_all (hT : RT w0 rb srcV tokV TL xs) (hK : Kinds TL) {f : Nat} (A : ∀ f', f' ≤ f → AllR w0 rb srcV tokV TL xs f') : RC w0 rb srcV tokV TL xs (fun s => if kd s = 18 then pF f .branch s else pF f .block s) 110 #[] := by
  intro U W s ns hS hne
  show Calls Tryz.prog 110 #[.pointer (some ⟨rb, 0, none⟩)] W (Post1 w0 rb srcV tokV TL xs U W s ns (if kd s = 18 then pF f .branch s else pF f .block s))
  by_cases h : kd s = 18
  · simp only [if_pos h] at hne ⊢
    exact otherwise_18 hT hK (A f (Nat.le_refl _)).branch hS h hne
  · simp only [if_neg h] at hne ⊢
    exact otherwise_0 hT hK (A f (Nat.le_refl _)).block hS h hne
theorem branch_eq (f : Nat) (s : List PTok) : body (pF f) .branch s = (want 18 s fun s1 => andT (pF f (.operands 1) s1) fun a s2 => andT (pF f .block s2) fun b s3 => if kd s3 = 15 then want 15 s3 fun s4 => andT ((fun s => if kd s = 18 then pF f .branch s else pF f .block s) s4) fun c s5 => mk1 36 s 0 [] (a ++ (b ++ c)) s5 else mk1 36 s 0 [] (a ++ b) s3) := by
  simp only [body]
  congr 1; funext s1; congr 1; funext a s2; congr 1; funext b s3
  by_cases h : kd s3 = 15
  · rw [if_pos h, if_pos h]
    congr 1; funext s4
    by_cases h4 : kd s4 = 18
    · rw [if_pos h4, if_pos h4]
    · rw [if_neg h4, if_neg h4]
  · rw [if_neg h, if_neg h]
theorem branch_all (hT : RT w0 rb srcV tokV TL xs) (hK : Kinds TL) {f : Nat} (A : ∀ f', f' ≤ f → AllR w0 rb srcV tokV TL xs f') : RC w0 rb srcV tokV TL xs (pF (f + 1) .branch) 90 #[] := by
  intro U W s ns hS hne
  show Calls Tryz.prog 90 #[.pointer (some ⟨rb, 0, none⟩)] W (Post1 w0 rb srcV tokV TL xs U W s ns (body (pF f) .branch s))
  change body (pF f) .branch s ≠ .out at hne
  rw [branch_eq] at hne ⊢
  exact branch_any hT hK (A f (Nat.le_refl _)).expr (A f (Nat.le_refl _)).block (otherwise_all hT hK A) hS hne
theorem all_step (hT : RT w0 rb srcV tokV TL xs) (hK : Kinds TL) {f : Nat} (A : ∀ f', f' ≤ f → AllR w0 rb srcV tokV TL xs f') : AllR w0 rb srcV tokV TL xs (f + 1) := by
  have O : ∀ l : Int, 1 ≤ l → RC w0 rb srcV tokV TL xs (pF (f + 1) (.operands l)) 125 #[.int .i64 l] := fun l hl => operands_any hT hK l hl (A f (Nat.le_refl _)).unary (fun f' h => (A f' (Nat.le_of_lt h)).opnd)
  have PT : LC 0 w0 rb srcV tokV TL xs (pF (f + 1) (.parted .typ)) 122 #[.func (.func 87) #[.pointer (some ⟨rb, 0, none⟩)] #[]] := fun U W s ns hS hne => parted_typ hT hK (fun f' h => (A f' (Nat.le_of_lt_succ h)).typ) U W s ns hS hne
  have PE : LC 0 w0 rb srcV tokV TL xs (pF (f + 1) (.parted .expr)) 122 #[.func (.func 109) #[.pointer (some ⟨rb, 0, none⟩)] #[]] := fun U W s ns hS hne => parted_expr hT hK (fun f' h => (A f' (Nat.le_of_lt_succ h)).expr) U W s ns hS hne
  have PA : LC 0 w0 rb srcV tokV TL xs (pF (f + 1) (.parted .param)) 122 #[.func (.func 152) #[.pointer (some ⟨rb, 0, none⟩)] #[]] := fun U W s ns hS hne => parted_param hT hK (fun f' h => (A f' (Nat.le_of_lt_succ h)).param) U W s ns hS hne
  exact ⟨typ_all hT hK A, chanType_any hT hK (A f (Nat.le_refl _)).typ, expr_any (O 1 (by omega)), O, unary_any hT hK (A f (Nat.le_refl _)).unary (A f (Nat.le_refl _)).postf, postfix_all hT hK (A f (Nat.le_refl _)).primary (fun f' h => (A f' (Nat.le_of_lt h)).expr) (fun f' h => (A f' (Nat.le_of_lt h)).lex), primary_all hT hK A, prog_all hT hK A, param_any hT hK (A f (Nat.le_refl _)).typ, block_any hT hK (fun f' h => (A f' (Nat.le_of_lt h)).stmt), stmt_all hT hK A, branch_all hT hK A, arm_any hT hK (A f (Nat.le_refl _)).unary (A f (Nat.le_refl _)).expr (A f (Nat.le_refl _)).block, typeNamed_any hT hK (A f (Nat.le_refl _)).typ, PT, PE, PA, listed_typ hT hK (fun f' h => (A f' (Nat.le_of_lt_succ h)).pty), listed_expr hT hK (fun f' h => (A f' (Nat.le_of_lt_succ h)).pex), listed_param hT hK (fun f' h => (A f' (Nat.le_of_lt_succ h)).ppa)⟩
/-- EVERY RULE, AT EVERY FUEL -/
theorem all_rules (hT : RT w0 rb srcV tokV TL xs) (hK : Kinds TL) : ∀ f, AllR w0 rb srcV tokV TL xs f := by
  have key : ∀ f, ∀ f', f' ≤ f → AllR w0 rb srcV tokV TL xs f' := by
    intro f
    induction f with
    | zero => intro f' h; obtain rfl : f' = 0 := by omega
              exact all_zero
    | succ f ih =>
      intro f' h
      rcases Nat.lt_or_ge f' (f + 1) with h1 | h1
      · exact ih f' (by omega)
      · obtain rfl : f' = f + 1 := by omega
        exact all_step hT hK ih
  exact fun f => key f f (Nat.le_refl _)
end Go.Proofs.YtecodpdfckjalaaGreatDoor
namespace Go.Proofs.YtecodpdfckjalaaGreatDoor
open Go.RowKit
set_option linter.unusedVariables false
set_option linter.unusedSimpArgs false

variable {w0 : World} {rb : Nat} {srcV tokV : Value} {TL : List Tok} {xs : List UInt8} {U : Nat → Prop}

theorem endedS (hT : RT w0 rb srcV tokV TL xs) {W : World} {s : List PTok} {ns : List Nd} (h : RSs w0 rb srcV tokV TL xs U W s ns) :
    Calls Tryz.prog 68 #[.pointer (some ⟨rb, 0, none⟩)] W fun e W' => e = .returned (.bool (decide (s.length ≤ 1))) ∧ Below W.heap.size W W' := by
  obtain ⟨i, rfl, hi, hS, hni, hU⟩ := h
  have e : decide ((pts xs TL i).length ≤ 1) = decide (i + 1 = TL.length) := by
    unfold pts
    simp
    omega
  rw [e]
  exact ended_any hT hS hi
/-- what program leaves -/
def PostG (w0 : World) (rb : Nat) (srcV tokV : Value) (U : Nat → Prop) (W : World) (ns : List Nd) (res : Res) (e : Ending) (W' : World) : Prop :=
  match res with
  | .ok ts s' => (∃ r : Int, e = .returned (.int .i64 r)) ∧ (∃ i, RS w0 rb srcV tokV U W' i (ns ++ flats ts ns.length)) ∧ KeepR rb W W'
  | .err s' => e = faultP (hd s').place ∧ Below rb w0 W'
  | .out => False
def r1 (f : Nat) (X : Res) : Res := andT X fun a s1 => andT (pF f .tops s1) fun b s2 => .ok [.mk 46 0 a.length [] (a ++ b)] s2
def r2 (A : List Tr) (X : Res) : Res := andT X fun b s2 => .ok [.mk 46 0 A.length [] (A ++ b)] s2
/-- in the midst -/
structure LoopQ (w0 : World) (rb : Nat) (srcV tokV : Value) (TL : List Tok) (xs : List UInt8) (U : Nat → Prop) (W : World) (s : List PTok) (ns : List Nd) (R res : Res) (kv : Value) (wr : World) (acc : List Tr) (cur : List PTok) : Prop where
  eq : R = res
  st : RSs w0 rb srcV tokV TL xs (Uv U kv) wr cur (ns ++ flats acc ns.length)
  row : IntsO wr rb kv (ends acc ns.length)
  keep : KeepR rb W wr
  new : ∀ y, kv.ownBlock = some y → W.heap.size ≤ y
  sz : cur.length + sizes acc ≤ s.length
theorem LoopQ.more {W : World} {s : List PTok} {ns : List Nd} {R res : Res} {a : Option Addr} {c n : Nat} {wr W2 W3 : World} {acc ts : List Tr} {cur s' : List PTok} (h : LoopQ w0 rb srcV tokV TL xs U W s ns R res (.slice a n c) wr acc cur) (hn : n = acc.length) (k2 : KeepR rb wr W2) (k3 : KeepR rb W2 W3) (q3 : RSs w0 rb srcV tokV TL xs (Uv U (.slice a n c)) W3 s' ((ns ++ flats acc ns.length) ++ flats ts (ns ++ flats acc ns.length).length)) (n3 : ts.length = 1) (l3 : s'.length + sizes ts ≤ cur.length) (v : Nat) (hv : v = ((ns ++ flats acc ns.length).length + sizes ts - 1)) :
    W3.ownsRow (rb + 1) 3 1 (.slice a n c) n (intsC (ends acc ns.length)) ∧ rb < W3.heap.size ∧ ∀ g2 cp w4, (W3.alloc (.cells #[.int .i64 (v : Int)] 3)).grownBy w4 (Value.slice a n c).ownBlock → ((Value.slice a n c).ownBlock = some g2 ∨ g2 = W3.heap.size + 1) → g2 < w4.heap.size → w4.ownsRow (rb + 1) 3 1 (.slice (some ⟨g2, 0, none⟩) (n + 1) cp) (n + 1) (intsC (ends acc ns.length) ++ [.int .i64 (v : Int)]) → ∀ res', R = res' → LoopQ w0 rb srcV tokV TL xs U W s ns R res' (.slice (some ⟨g2, 0, none⟩) (n + 1) cp) w4 (acc ++ ts) s' := by
  subst hn
  have hrow := h.st.ints h.row (k2.trans k3)
  refine ⟨by unfold IntsO at hrow; rw [ends_len] at hrow; exact hrow, q3.lt, fun g2 cp w4 hg hat hl4 hown res' hr => ?_⟩
  obtain ⟨p1, p2⟩ := q3.grown hrow hg g2 (acc.length + 1) cp hat hl4
  obtain ⟨p3, p4⟩ := p2 W (h.keep.trans (k2.trans k3)) h.new
  have hends : ends (acc ++ ts) ns.length = ends acc ns.length ++ [(v : Int)] := by rw [ends_append, ends_one n3, hv, two_len]
  have hsz := h.sz
  refine ⟨hr, ?_, ?_, p3, fun y hy => ?_, ?_⟩
  · rw [two_lists] at p1
    exact p1
  · unfold IntsO
    rw [hends, List.length_append, ends_len, intsC, List.map_append]
    exact hown
  · simp [Value.ownBlock] at hy
    subst hy
    exact p4
  · rw [sizes_append]
    omega
theorem prep_more (acc ts : List Tr) (X : Res) : prep acc (andT X fun b s2 => .ok (ts ++ b) s2) = prep (acc ++ ts) X := by
  cases X <;> simp [prep, andT]
set_option maxRecDepth 100000 in
set_option maxHeartbeats 8000000 in
theorem program_any (hT : RT w0 rb srcV tokV TL xs) (hK : Kinds TL) {f : Nat} (HT : ∀ f', f' < f → RC w0 rb srcV tokV TL xs (pF f' .tyn) 67 #[]) (HS : ∀ f', f' < f → RC w0 rb srcV tokV TL xs (pF f' .stmt) 69 #[]) {W : World} {s : List PTok} {ns : List Nd} (hS : RSs w0 rb srcV tokV TL xs U W s ns) (hne : pF (f + 1) .program s ≠ .out) :
    Calls Tryz.prog 38 #[.pointer (some ⟨rb, 0, none⟩)] W (PostG w0 rb srcV tokV U W ns (pF (f + 1) .program s)) := by
  have hrW := hS.lt
  obtain ⟨i0, hi, hz0, hz1, hz2⟩ := info_parts infoInt
  have hslen : s.length ≤ 65537 := by
    obtain ⟨i, rfl, hi, _⟩ := hS
    have := hT.small
    unfold pts
    simp
    omega
  have hR0 : pF (f + 1) .program s = r1 f (prep [] (pF f .types s)) := by rw [prep_nil]; rfl
  obtain ⟨R, hR⟩ : ∃ R, pF (f + 1) .program s = R := ⟨_, rfl⟩
  rw [hR] at hne hR0 ⊢
  have HNE : Bx (R ≠ .out) := ⟨hne⟩
  have LB : Bx (LoopQ w0 rb srcV tokV TL xs U W s ns R (r1 f (prep [] (pF f .types s))) (.slice none 0 0) W [] s) := ⟨hR0, by
      have : ns ++ flats [] ns.length = ns := by simp [flats]
      rw [this]
      exact hS.anyU (fun y hy => by rcases hy with hy | hy; exact hy; simp [Value.ownBlock] at hy), World.ownsRow_nil _ _ _ _, KeepR.ext hrW (Below.refl _ _), fun y hy => by simp [Value.ownBlock] at hy, by simp [sizes]⟩
  have HU : Bx (∀ y, U y → y < W.heap.size) := ⟨by obtain ⟨_, _, _, _, _, hU⟩ := hS; exact hU⟩
  clear hR hne hR0 hS
  go_enter Tryz.func38, Tryz.ntmps38
  go_wp2
  go_loopw [3] (fun kv wr => ∃ f' : Nat, ∃ acc cur, ∃ a n c, kv = .slice a n c ∧ f' ≤ f ∧ Bx (n = acc.length) ∧ Bx (LoopQ w0 rb srcV tokV TL xs U W s ns R (r1 f (prep acc (pF f' .types cur))) kv wr acc cur)) (fun kv _ => s.length - sliceLen kv)
  case atStart => exact ⟨f, [], s, none, 0, 0, rfl, Nat.le_refl _, ⟨rfl⟩, LB⟩
  case round =>
    obtain ⟨f', acc, cur, a, n, c, rfl, hff, HN, HL⟩ := hrel
    clear LB
    have hsz := HL.out.sz
    have hac := sizes_ge acc
    have hcl : 1 ≤ cur.length := by
      obtain ⟨i, e, hi, _⟩ := HL.out.st
      rw [e]
      unfold pts
      simp
      omega
    have hnl : n ≤ 65537 := by have := HN.out; omega
    have BT : Bx (∀ W1, RSs w0 rb srcV tokV TL xs (Uv U (.slice a n c)) W1 cur (ns ++ flats acc ns.length) → _) := ⟨fun W1 h => textS (U := Uv U (.slice a n c)) hT h⟩
    have hte := text_eq hK HL.out.st 27 (by decide) [116, 121, 112, 101] (by decide)
    match f', HL with
    | 0, HL =>
      have h2 := HL.out.eq
      exact absurd h2 HNE.out
    | g + 1, HL =>
      by_cases h2 : kd cur = 27
      · have e1 : pF (g + 1) .types cur = andT (pF g .tyn cur) fun a s1 => andT (pF g .types s1) fun b s2 => .ok (a ++ b) s2 := by
          show body (pF g) .types cur = _
          simp only [body]
          rw [if_pos h2]
        have hteq : ((⟨(textK (kd cur : Nat)).toArray⟩ : ByteArray).toList == [116, 121, 112, 101]) = true := by rw [hte]; exact decide_eq_true h2
        have B3 : Bx (∀ W1, RSs w0 rb srcV tokV TL xs (Uv U (.slice a n c)) W1 cur (ns ++ flats acc ns.length) → pF g .tyn cur ≠ .out → Calls Tryz.prog 67 #[.pointer (some ⟨rb, 0, none⟩)] W1 (Post1 w0 rb srcV tokV TL xs (Uv U (.slice a n c)) W1 cur (ns ++ flats acc ns.length) (pF g .tyn cur))) := ⟨fun W1 h hn => HT g (by omega) _ W1 cur _ h hn⟩
        clear hte h2
        generalize (⟨(textK (kd cur : Nat)).toArray⟩ : ByteArray) = tx at *
        match r3 : pF g .tyn cur with
        | .out =>
          have h3 := HL.out.eq
          rw [e1, r3] at h3
          exact absurd h3 HNE.out
        | .err s' =>
          rw [r3] at B3
          have eR : Bx (R = .err s') := ⟨by
            have h3 := HL.out.eq
            rw [e1, r3] at h3
            exact h3⟩
          clear HS HT
          go_wp2_with (first
            | (go_at_call 66; refine Calls.mono (BT.out _ HL.out.st) ?_; rintro e W2 ⟨rfl, b2⟩; have Q2 : Bx _ := ⟨HL.out.st.ext b2⟩; have K2 : Bx _ := ⟨KeepR.ext HL.out.st.lt b2⟩; clear BT b2)
            | (go_at_call 67; refine Calls.mono (B3.out _ Q2.out (by simp)) ?_; rintro e W3 ⟨rfl, b⟩; unfold faultP))
          exact ⟨rfl, by rw [eR.out]; exact ⟨rfl, b⟩⟩
        | .ok ts s' =>
          rw [r3] at B3
          have eR : Bx (R = r1 f (prep (acc ++ ts) (pF g .types s'))) := ⟨by
            have h3 := HL.out.eq
            rw [e1, r3] at h3
            rw [← prep_more]
            exact h3⟩
          clear HS HT
          go_wp2_with (first
            | (go_at_call 66; refine Calls.mono (BT.out _ HL.out.st) ?_; rintro e W2 ⟨rfl, b2⟩; have Q2 : Bx _ := ⟨HL.out.st.ext b2⟩; have K2 : Bx _ := ⟨KeepR.ext HL.out.st.lt b2⟩; clear BT b2)
            | (go_at_call 67; refine Calls.mono (B3.out _ Q2.out (by simp)) ?_; rintro e W3 ⟨n3, l3, he, q3, k3⟩; obtain ⟨v3, hv⟩ : ∃ r : Nat, r = ((ns ++ flats acc ns.length).length + sizes ts - 1) := ⟨_, rfl⟩; rw [← hv] at he; subst he; obtain ⟨hrow, hrl, hnx⟩ := HL.out.more HN.out K2.out k3 q3 n3 l3 v3 hv; have NX : Bx _ := ⟨hnx⟩; have RW : Bx _ := ⟨hrow⟩; have N3 : Bx _ := ⟨n3⟩; clear hv hnx hrow B3 n3 q3 k3)
            | (at_builtin; refine wpList_append_lies _ rfl (.tmp 8) (.tmp 11) 39 rfl (rb + 1) 3 i0 (.int .i64 0) 1 8 Tryz.underlying39 hi hz0 hz1 hz2 rfl (by decide) (.slice a n c) n (intsC (ends acc ns.length)) rfl (owns_bel RW.out (below1 W3 (.cells #[.int .i64 (v3 : Int)] 3))) ⟨W3.heap.size, 0, none⟩ 1 1 [.int .i64 (v3 : Int)] rfl rfl (int_news _ _ rfl _) (int_one _) (by decide) (by unfold maxLen; omega) (by omega) (by simp; omega) (W3.heap.size + 1) (by simp) ?_; intro g2 cp w4 hown hgrow hat hlt4; have LNB : Bx _ := ⟨NX.out g2 cp w4 hgrow hat hlt4 hown⟩; clear hgrow hat hown))
          go_roundw
          case rel => exact ⟨g, acc ++ ts, s', some ⟨g2, 0, none⟩, n + 1, cp, rfl, by omega, ⟨by have := HN.out; have := N3.out; simp; omega⟩, ⟨LNB.out _ eR.out⟩⟩
          case measure => have := HN.out; simp [sliceLen]; omega
      · have hteq : ((⟨(textK (kd cur : Nat)).toArray⟩ : ByteArray).toList == [116, 121, 112, 101]) = false := by rw [hte]; exact decide_eq_false h2
        have e1 : pF (g + 1) .types cur = .ok [] cur := by
          show body (pF g) .types cur = _
          simp only [body]
          rw [if_neg h2]
        have eR : Bx (R = r2 acc (prep [] (pF f .tops cur))) := ⟨by
          have h3 := HL.out.eq
          rw [e1] at h3
          rw [h3, prep_nil]
          simp only [prep, r1, r2, andT, List.append_nil]⟩
        clear hte h2
        generalize (⟨(textK (kd cur : Nat)).toArray⟩ : ByteArray) = tx at *
        go_wp2_with (first
          | (go_at_call 66; refine Calls.mono (BT.out _ HL.out.st) ?_; rintro e W2 ⟨rfl, b2⟩; have Q2 : Bx _ := ⟨HL.out.st.ext b2⟩; have K2 : Bx _ := ⟨KeepR.ext HL.out.st.lt b2⟩; clear BT b2))
        have LB2 : Bx (LoopQ w0 rb srcV tokV TL xs U W s ns R (r2 acc (prep [] (pF f .tops cur))) (.slice a n c) W2 (acc ++ []) cur) := ⟨by
          rw [List.append_nil]
          exact ⟨eR.out, Q2.out, HL.out.st.ints HL.out.row K2.out, HL.out.keep.trans K2.out, HL.out.new, HL.out.sz⟩⟩
        clear HL Q2 K2 eR HT hteq e1
        go_loopw [3] (fun kv wr => ∃ f' : Nat, ∃ acc2 cur, ∃ a n c, kv = .slice a n c ∧ f' ≤ f ∧ Bx (n = (acc ++ acc2).length) ∧ Bx (LoopQ w0 rb srcV tokV TL xs U W s ns R (r2 acc (prep acc2 (pF f' .tops cur))) kv wr (acc ++ acc2) cur)) (fun kv _ => s.length - sliceLen kv)
        case atStart => exact ⟨f, [], cur, a, n, c, rfl, Nat.le_refl _, ⟨by have := HN.out; simp; omega⟩, LB2⟩
        case round =>
          have HA : Bx (n = acc.length) := ⟨HN.out⟩
          obtain ⟨f', acc2, cur, a, m, c, rfl, hff, HN, HL⟩ := hrel
          clear LB2
          have hsz := HL.out.sz
          have hac := sizes_ge (acc ++ acc2)
          have hcl : 1 ≤ cur.length := by
            obtain ⟨i, e, hi, _⟩ := HL.out.st
            rw [e]
            unfold pts
            simp
            omega
          have hnl : m ≤ 65537 := by have := HN.out; omega
          have BT : Bx (∀ W1, RSs w0 rb srcV tokV TL xs (Uv U (.slice a m c)) W1 cur (ns ++ flats (acc ++ acc2) ns.length) → _) := ⟨fun W1 h => endedS (U := Uv U (.slice a m c)) hT h⟩
          match f', HL with
          | 0, HL =>
            have h2 := HL.out.eq
            exact absurd h2 HNE.out
          | g + 1, HL =>
            by_cases h2 : cur.length ≤ 1
            · have hd0 : decide (cur.length ≤ 1) = true := decide_eq_true h2
              have e1 : pF (g + 1) .tops cur = .ok [] cur := by
                show body (pF g) .tops cur = _
                simp only [body]
                rw [if_pos h2]
              have eR : Bx (R = .ok [.mk 46 0 acc.length [] (acc ++ acc2)] cur) := ⟨by
                have h3 := HL.out.eq
                rw [e1] at h3
                rw [h3]
                simp only [prep, r2, andT, List.append_nil]⟩
              have HD : Bx (∀ W2, RSs w0 rb srcV tokV TL xs (Uv U (.slice a m c)) W2 cur (ns ++ flats (acc ++ acc2) ns.length) → KeepR rb wr W2 → ∀ kv, Calls Tryz.prog 70 #[.pointer (some ⟨rb, 0, none⟩), .agg #[.int .i64 46, .int .i64 0, kv, .string ⟨#[]⟩, .int .i64 (n : Int)], .slice a m c] W2 fun e W' => ∃ r : Int, e = .returned (.int .i64 r) ∧ PostG w0 rb srcV tokV U W ns R (.returned (.int .i64 r)) W') := ⟨fun W2 q k kv => by
                have hI := HL.out.st.ints HL.out.row k
                have hkeep := HL.out.keep.trans k
                have hnew := HL.out.new
                obtain ⟨i, rfl, hi, hS, hni, hU⟩ := q.anyU (V := U) (fun y hy => .inl hy)
                have hm : m = (ends (acc ++ acc2) ns.length).length := by rw [ends_len]; exact HN.out
                have hn2 : (n : Int) = (acc.length : Int) := by rw [HA.out]
                have hI' : IntsO W2 rb (.slice a (ends (acc ++ acc2) ns.length).length c) (ends (acc ++ acc2) ns.length) := by rw [← hm]; exact hI
                rw [hm, hn2, eR.out]
                refine (add_any hS 46 0 (acc.length : Int) ⟨#[]⟩ kv a c (ends (acc ++ acc2) ns.length) hI' (fun y hy hyU => by have h4 := hnew y (by rw [hy]; rfl); have := HU.out y hyU; omega) (by have := hT.small; omega)).mono ?_
                rintro e W' ⟨rfl, q', k'⟩
                refine ⟨_, rfl, ⟨_, rfl⟩, ⟨i, ?_⟩, hkeep.trans k'⟩
                have hf1 : flats [Tr.mk 46 0 (acc.length : Int) [] (acc ++ acc2)] ns.length = flats (acc ++ acc2) ns.length ++ [⟨46, 0, ends (acc ++ acc2) ns.length, ⟨#[]⟩, (acc.length : Int)⟩] := by simp [flats, flat]
                rw [hf1, ← List.append_assoc]
                exact q'⟩
              clear HS
              go_wp2_with (first
                | (go_at_call 68; refine Calls.mono (BT.out _ HL.out.st) ?_; rintro e W2 ⟨he, b2⟩; rw [hd0] at he; subst he; have Q2 : Bx _ := ⟨HL.out.st.ext b2⟩; have K2 : Bx _ := ⟨KeepR.ext HL.out.st.lt b2⟩; clear BT b2)
                | (go_at_call 70; refine Calls.mono (HD.out _ Q2.out K2.out _) ?_; rintro e W9 ⟨r9, rfl, hp⟩))
              go_ret
              exact hp
            · have hd0 : decide (cur.length ≤ 1) = false := decide_eq_false h2
              have e1 : pF (g + 1) .tops cur = andT (pF g .stmt cur) fun a s1 => andT (pF g .tops s1) fun b s2 => .ok (a ++ b) s2 := by
                show body (pF g) .tops cur = _
                simp only [body]
                rw [if_neg h2]
              have B3 : Bx (∀ W1, RSs w0 rb srcV tokV TL xs (Uv U (.slice a m c)) W1 cur (ns ++ flats (acc ++ acc2) ns.length) → pF g .stmt cur ≠ .out → Calls Tryz.prog 69 #[.pointer (some ⟨rb, 0, none⟩)] W1 (Post1 w0 rb srcV tokV TL xs (Uv U (.slice a m c)) W1 cur (ns ++ flats (acc ++ acc2) ns.length) (pF g .stmt cur))) := ⟨fun W1 h hn => HS g (by omega) _ W1 cur _ h hn⟩
              match r3 : pF g .stmt cur with
              | .out =>
                have h3 := HL.out.eq
                rw [e1, r3] at h3
                exact absurd h3 HNE.out
              | .err s' =>
                rw [r3] at B3
                have eR : Bx (R = .err s') := ⟨by
                  have h3 := HL.out.eq
                  rw [e1, r3] at h3
                  exact h3⟩
                clear HS
                go_wp2_with (first
                  | (go_at_call 68; refine Calls.mono (BT.out _ HL.out.st) ?_; rintro e W2 ⟨he, b2⟩; rw [hd0] at he; subst he; have Q2 : Bx _ := ⟨HL.out.st.ext b2⟩; have K2 : Bx _ := ⟨KeepR.ext HL.out.st.lt b2⟩; clear BT b2)
                  | (go_at_call 69; refine Calls.mono (B3.out _ Q2.out (by simp)) ?_; rintro e W3 ⟨rfl, b⟩; unfold faultP))
                exact ⟨rfl, by rw [eR.out]; exact ⟨rfl, b⟩⟩
              | .ok ts s' =>
                rw [r3] at B3
                have eR : Bx (R = r2 acc (prep (acc2 ++ ts) (pF g .tops s'))) := ⟨by
                  have h3 := HL.out.eq
                  rw [e1, r3] at h3
                  rw [← prep_more]
                  exact h3⟩
                clear HS
                go_wp2_with (first
                  | (go_at_call 68; refine Calls.mono (BT.out _ HL.out.st) ?_; rintro e W2 ⟨he, b2⟩; rw [hd0] at he; subst he; have Q2 : Bx _ := ⟨HL.out.st.ext b2⟩; have K2 : Bx _ := ⟨KeepR.ext HL.out.st.lt b2⟩; clear BT b2)
                  | (go_at_call 69; refine Calls.mono (B3.out _ Q2.out (by simp)) ?_; rintro e W3 ⟨n3, l3, he, q3, k3⟩; obtain ⟨v3, hv⟩ : ∃ r : Nat, r = ((ns ++ flats (acc ++ acc2) ns.length).length + sizes ts - 1) := ⟨_, rfl⟩; rw [← hv] at he; subst he; obtain ⟨hrow, hrl, hnx⟩ := HL.out.more HN.out K2.out k3 q3 n3 l3 v3 hv; have NX : Bx _ := ⟨hnx⟩; have RW : Bx _ := ⟨hrow⟩; have N3 : Bx _ := ⟨n3⟩; clear hv hnx hrow B3 n3 q3 k3)
                  | (at_builtin; refine wpList_append_lies _ rfl (.tmp 18) (.tmp 21) 39 rfl (rb + 1) 3 i0 (.int .i64 0) 1 8 Tryz.underlying39 hi hz0 hz1 hz2 rfl (by decide) (.slice a m c) m (intsC (ends (acc ++ acc2) ns.length)) rfl (owns_bel RW.out (below1 W3 (.cells #[.int .i64 (v3 : Int)] 3))) ⟨W3.heap.size, 0, none⟩ 1 1 [.int .i64 (v3 : Int)] rfl rfl (int_news _ _ rfl _) (int_one _) (by decide) (by unfold maxLen; omega) (by omega) (by simp; omega) (W3.heap.size + 1) (by simp) ?_; intro g2 cp w4 hown hgrow hat hlt4; have LNB : Bx _ := ⟨NX.out g2 cp w4 hgrow hat hlt4 hown⟩; clear hgrow hat hown))
                go_roundw
                case rel => exact ⟨g, acc2 ++ ts, s', some ⟨g2, 0, none⟩, m + 1, cp, rfl, by omega, ⟨by have := HN.out; have := N3.out; simp at *; omega⟩, ⟨by rw [← List.append_assoc]; exact LNB.out _ eR.out⟩⟩
                case measure => have := HN.out; simp [sliceLen]; omega
end Go.Proofs.YtecodpdfckjalaaGreatDoor
