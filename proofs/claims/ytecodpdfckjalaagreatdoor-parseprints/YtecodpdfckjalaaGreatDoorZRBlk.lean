import Derived.Test.YtecodpdfckjalaaGreatDoorZRRule
set_option linter.unusedVariables false
set_option linter.unusedSimpArgs false
set_option maxHeartbeats 4000000
set_option maxRecDepth 100000
namespace Go.Proofs.YtecodpdfckjalaaGreatDoor
open Go.RowKit
variable {w0 : World} {rb : Nat} {ae aa : Value} {TL : List Tok} {xs : List UInt8} {U : Nat -> Prop}
structure tQ (w0 : World) (rb : Nat) (ae aa : Value) (TL : List Tok) (xs : List UInt8) (U : Nat -> Prop) (W : World) (s : List ax) (ns : List Nd) (r : Rl) (f : Nat) (s1 : List ax) (kv : Value) (wr : World) (f' : Nat) (acc : List Tr) (cur : List ax) : Prop where
 eq : pF f r s1 = ig acc (pF f' r cur)
 le : f' <= f
 st : RSs w0 rb ae aa TL xs (Uv U kv) wr cur (ns ++ ag acc ns.length)
 row : aN wr rb kv (ends acc ns.length)
 keep : af rb W wr
 new : ∀ y, kv.ownBlock = some y -> W.heap.size <= y
 sz : cur.length + sizes acc + 1 <= s.length
theorem bU : ∀ (a : List Tr) (o : Nat), (ends a o).length = a.length
 | [], o => rfl
 | t :: r, o => by simp [ends, bU r]
theorem dM : ∀ a : List Tr, a.length <= sizes a
 | [] => Nat.zero_le _
 | t :: r => by
  have := dM r
  have := jm t
  simp [sizes]
  omega
theorem RSs.jE {U V : Nat -> Prop} {W : World} {s : List ax} {ns : List Nd} (h : RSs w0 rb ae aa TL xs U W s ns) (hv : ∀ y, V y -> U y) : RSs w0 rb ae aa TL xs V W s ns := by
 obtain ⟨i, rfl, hi, hS, hni, hU⟩ := h
 obtain ⟨nv, h1, h2⟩ := hS.rd
 obtain ⟨ks, k1, k2, k3⟩ := h2.ex
 exact ⟨i, rfl, hi, ⟨⟨nv, h1, ⟨ks, k1, k2, fun j hj hj' => ⟨(k3 j hj hj').1, fun g hg hV => (k3 j hj hj').2 g hg (hv g hV)⟩⟩⟩, hS.bel⟩, hni, fun g hg => hU g (hv g hg)⟩
theorem Da (hT : RT w0 rb ae aa TL xs) (hK : aO TL) {f : Nat} (HS : ∀ f', f' < f -> RC w0 rb ae aa TL xs (pF f' .stmt) 69 #[]) :
  RC w0 rb ae aa TL xs (fun s => want 44 s fun s1 => aB (pF f .stmts s1) fun a s2 => mk1 41 s 0 [] a s2) 95 #[] := by
 intro U W s ns hS hne
 show Calls Tryz.prog 95 #[.pointer (some ⟨rb, 0, none⟩)] W _
 dsimp only at hne ⊢
 have hrW := hS.lt
 have B1 : Bx (∀ W1, RSs w0 rb ae aa TL xs U W1 s ns -> _) := ⟨fun W1 h => bA hT hK h 44 (by decide) ⟨#[123]⟩ (by decide)⟩
 by_cases h1 : kd s = 44
 ·rw [aG h1] at hne ⊢
  obtain ⟨i0, hi, hz0, hz1, hz2⟩ := info_parts fK
  have hslen : s.length <= 65537 := by
   obtain ⟨i, rfl, hi, _⟩ := hS
   have := hT.small
   unfold pts
   simp
   omega
  generalize hR : (aB (pF f .stmts (tl s)) fun a s2 => mk1 41 s 0 [] a s2) = R at hne ⊢
  have HR : Bx (aB (pF f .stmts (tl s)) (fun a s2 => mk1 41 s 0 [] a s2) = R /\ R ≠ .out) := ⟨hR, hne⟩
  clear hR hne
  have H0 : Bx (∀ W1, RSs w0 rb ae aa TL xs U W1 (tl s) ns -> af rb W W1 -> (tl s).length + 1 = s.length -> tQ w0 rb ae aa TL xs U W s ns .stmts f (tl s) (.slice none 0 0) W1 f [] (tl s)) := ⟨fun W1 q k l => ⟨by rw [nH], Nat.le_refl _, by
   have : ns ++ ag [] ns.length = ns := by simp [ag]
   rw [this]
   exact q.jE (fun y hy => by rcases hy with hy | hy; exact hy; simp [Value.ownBlock] at hy), World.ownsRow_nil _ _ _ _, k, fun y hy => by simp [Value.ownBlock] at hy, by simp [sizes]; omega⟩⟩
  go_enter Tryz.func95, Tryz.ntmps95
  go_wp2_with (first
   | (go_at_call 85; refine Calls.mono (B1.out _ hS) ?_; rintro e W1 (⟨_, rfl, q1, l1, k1⟩ | ⟨h, _⟩); rotate_left 1; exact absurd h1 h; clear B1; have L0 := H0.out _ q1 k1 l1; have LB : Bx _ := ⟨L0⟩; clear L0 H0))
  go_loopw [4] (fun kv wr => ∃ f' : Nat, ∃ acc cur, ∃ a c, kv = .slice a acc.length c /\ Bx (tQ w0 rb ae aa TL xs U W s ns .stmts f (tl s) kv wr f' acc cur)) (fun kv _ => s.length - sliceLen kv)
  case atStart => exact ⟨f, [], tl s, none, 0, rfl, LB⟩
  case round =>
   obtain ⟨f', acc, cur, a, c, rfl, HL⟩ := hrel
   have hsz := HL.out.sz
   have hac := dM acc
   match f', HL with
   | 0, HL =>
    have := HL.out.eq
    have h2 := HR.out
    rw [this] at h2
    exact absurd h2.1.symm h2.2
   | g + 1, HL =>
    have B2 : Bx (∀ W1, RSs w0 rb ae aa TL xs (Uv U (.slice a acc.length c)) W1 cur (ns ++ ag acc ns.length) -> _) := ⟨fun W1 h => iJ hT hK h 45 (by decide) ⟨#[125]⟩ (by decide)⟩
    by_cases h2 : kd cur = 45
    ·have e1 : pF (g + 1) .stmts cur = .ok [] (tl cur) := by
      show body (pF g) .stmts cur = _
      simp only [body]
      rw [if_pos h2]
     have eR : Bx (R = .ok [.mk 41 (hd s).place 0 [] acc] (tl cur)) := ⟨by
      have h3 := HR.out.1
      rw [HL.out.eq, e1] at h3
      simp only [ig, aB, List.append_nil] at h3
      exact h3.symm⟩
     have hUW : ∀ y, a = some ⟨y, 0, none⟩ -> ¬ U y := fun y hy hyU => by
      have h4 := HL.out.new y (by rw [hy]; rfl)
      obtain ⟨_, _, _, _, _, hU⟩ := hS
      have := hU y hyU
      omega
     have HD : Bx (∀ W2, RSs w0 rb ae aa TL xs (Uv U (.slice a acc.length c)) W2 (tl cur) (ns ++ ag acc ns.length) -> af rb wr W2 -> (tl cur).length + 1 = cur.length -> ∀ kv, Calls Tryz.prog 70 #[.pointer (some ⟨rb, 0, none⟩), .agg #[.int .i64 41, .int .i64 (hd s).place, kv, .string ⟨#[]⟩, .int .i64 0], .slice a acc.length c] W2 fun e W' => ∃ r : Int, e = .returned (.int .i64 r) /\ ai w0 rb ae aa TL xs U W s ns R (.returned (.int .i64 r)) W') := ⟨fun W2 q k l kv => by
      rw [eR.out]
      exact fw hT acc (q.jE (fun y hy => .inl hy)) (HL.out.keep.trans k) (by omega) ⟨W, hS⟩ 41 (hd s).place 0 [] kv a acc.length c rfl (HL.out.st.ints HL.out.row k) hUW⟩
     have hst : Bx _ := ⟨HL.out.st⟩
     clear HL HR eR e1 HS
     go_wp2_with (first
      | (go_at_call 102; refine Calls.mono (B2.out _ hst.out) ?_; rintro e W2 (⟨_, rfl, q2, l2, k2⟩ | ⟨h, _⟩); rotate_left 1; exact absurd h2 h; clear B2)
      | (go_at_call 70; refine Calls.mono (HD.out _ q2 k2 l2 _) ?_; rintro e W9 ⟨r9, rfl, hp⟩))
     go_ret
     exact hp
    ·have e1 : pF (g + 1) .stmts cur = aB (pF g .stmt cur) fun a s1 => aB (pF g .stmts s1) fun b s2 => .ok (a ++ b) s2 := by
      show body (pF g) .stmts cur = _
      simp only [body]
      rw [if_neg h2]
     have hgf : g < f := by have := HL.out.le; omega
     have B3 : Bx (∀ W1, RSs w0 rb ae aa TL xs (Uv U (.slice a acc.length c)) W1 cur (ns ++ ag acc ns.length) -> pF g .stmt cur ≠ .out -> Calls Tryz.prog 69 #[.pointer (some ⟨rb, 0, none⟩)] W1 (ai w0 rb ae aa TL xs (Uv U (.slice a acc.length c)) W1 cur (ns ++ ag acc ns.length) (pF g .stmt cur))) := ⟨fun W1 h hn => HS g hgf _ W1 cur _ h hn⟩
     have hst : Bx _ := ⟨HL.out.st⟩
     match r3 : pF g .stmt cur with
     | .out =>
      have h3 := HR.out
      rw [HL.out.eq, e1, r3] at h3
      exact absurd h3.1.symm h3.2
     | .err s' =>
      rw [r3] at B3
      have eR : Bx (R = .err s') := ⟨by
       have h3 := HR.out.1
       rw [HL.out.eq, e1, r3] at h3
       exact h3.symm⟩
      clear HL HR HS
      go_wp2_with (first
       | (go_at_call 102; refine Calls.mono (B2.out _ hst.out) ?_; rintro e W2 (⟨h, _⟩ | ⟨_, rfl, q2, k2⟩); exact absurd h h2; clear B2)
       | (go_at_call 69; refine Calls.mono (B3.out _ q2 (by simp)) ?_; rintro e W3 ⟨rfl, b3⟩; unfold aj))
      exact ⟨rfl, by rw [eR.out]; exact ⟨rfl, b3⟩⟩
     | .ok ts s' =>
      rw [r3] at B3
      have HN : Bx (∀ W2 W3, af rb wr W2 -> af rb W2 W3 -> RSs w0 rb ae aa TL xs (Uv U (.slice a acc.length c)) W3 s' ((ns ++ ag acc ns.length) ++ ag ts (ns ++ ag acc ns.length).length) -> ts.length = 1 -> s'.length + sizes ts <= cur.length -> ∀ v : Nat, v = ((ns ++ ag acc ns.length).length + sizes ts - 1) ->
        aN W3 rb (.slice a acc.length c) (ends acc ns.length) /\ ∀ g2 cp w4, (W3.alloc (.cells #[.int .i64 (v : Int)] 3)).grownBy w4 (Value.slice a acc.length c).ownBlock -> ((Value.slice a acc.length c).ownBlock = some g2 ∨ g2 = W3.heap.size + 1) -> g2 < w4.heap.size -> w4.ownsRow (rb + 1) 3 1 (.slice (some ⟨g2, 0, none⟩) (acc.length + 1) cp) (acc.length + 1) (bJ (ends acc ns.length) ++ [.int .i64 (v : Int)]) -> tQ w0 rb ae aa TL xs U W s ns .stmts f (tl s) (.slice (some ⟨g2, 0, none⟩) (acc.length + 1) cp) w4 g (acc ++ ts) s') := ⟨fun W2 W3 k2 k3 q3 n3 l3 v hv => by
       have hrow := HL.out.st.ints HL.out.row (k2.trans k3)
       refine ⟨hrow, fun g2 cp w4 hg hat hl4 hown => ?_⟩
       obtain ⟨p1, p2⟩ := q3.grown hrow hg g2 (acc.length + 1) cp hat hl4
       obtain ⟨p3, p4⟩ := p2 W (HL.out.keep.trans (k2.trans k3)) HL.out.new
       have hends : ends (acc ++ ts) ns.length = ends acc ns.length ++ [(v : Int)] := by rw [bv, aI n3, hv, dR]
       refine ⟨?_, by omega, ?_, ?_, p3, fun y hy => ?_, ?_⟩
       ·rw [HL.out.eq, e1, r3]
        simp only [aB]
        cases pF g .stmts s' <;> simp [ig]
       ·rw [bL] at p1
        exact p1
       ·unfold aN
        rw [hends, List.length_append, bU, bJ, List.map_append]
        exact hown
       ·simp [Value.ownBlock] at hy
        subst hy
        exact p4
       ·rw [aH]
        omega⟩
      have hlen : (acc ++ ts).length = acc.length + 1 -> True := fun _ => trivial
      clear HL HR HS
      go_wp2_with (first
       | (go_at_call 102; refine Calls.mono (B2.out _ hst.out) ?_; rintro e W2 (⟨h, _⟩ | ⟨_, rfl, q2, k2⟩); exact absurd h h2; clear B2)
       | (go_at_call 69; refine Calls.mono (B3.out _ q2 (by simp)) ?_; rintro e W3 ⟨n3, l3, he, q3, k3⟩; obtain ⟨v3, hv⟩ : ∃ r : Nat, r = ((ns ++ ag acc ns.length).length + sizes ts - 1) := ⟨_, rfl⟩; rw [← hv] at he; subst he; obtain ⟨hrow, hnx⟩ := HN.out W2 W3 k2 k3 q3 n3 l3 v3 hv; have NX : Bx _ := ⟨hnx⟩; have RW : Bx _ := ⟨hrow⟩; have hrl := q3.lt; clear hv hnx hrow HN B3)
       | (at_builtin; refine wpList_append_lies _ rfl (.tmp 10) (.tmp 13) 39 rfl (rb + 1) 3 i0 (.int .i64 0) 1 8 Tryz.underlying39 hi hz0 hz1 hz2 rfl (by decide) (.slice a acc.length c) acc.length (bJ (ends acc ns.length)) rfl (by have := bK RW.out (ah W3 (.cells #[.int .i64 (v3 : Int)] 3)); rw [bU] at this; exact this) ⟨W3.heap.size, 0, none⟩ 1 1 [.int .i64 (v3 : Int)] rfl rfl (dC _ _ rfl _) (dY _) (by decide) (by unfold maxLen; omega) (by omega) (by simp; omega) (W3.heap.size + 1) (by simp) ?_; intro g2 cp w4 hown hgrow hat hlt4; have LN := NX.out g2 cp w4 hgrow hat hlt4 hown; have LNB : Bx _ := ⟨LN⟩; clear hgrow hat hown LN))
      go_roundw
      case rel => exact ⟨g, acc ++ ts, s', some ⟨g2, 0, none⟩, cp, by simp [n3], LNB⟩
      case measure => simp [sliceLen]; omega
 ·rw [aJ h1]
  go_enter Tryz.func95, Tryz.ntmps95
  go_wp2_with (first
   | (go_at_call 85; refine Calls.mono (B1.out _ hS) ?_; rintro e W1 (⟨h, _⟩ | ⟨_, rfl, b1⟩); exact absurd h h1; unfold aj))
  exact ⟨rfl, rfl, b1⟩
end Go.Proofs.YtecodpdfckjalaaGreatDoor
