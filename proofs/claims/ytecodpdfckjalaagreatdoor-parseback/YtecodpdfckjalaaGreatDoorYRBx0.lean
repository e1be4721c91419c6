import Derived.Test.YtecodpdfckjalaaGreatDoorYRMem
import Derived.Deep.AppendLies
set_option linter.unusedVariables false
set_option linter.unusedSimpArgs false
set_option maxHeartbeats 4000000
set_option maxRecDepth 100000
namespace Go.Proofs.YtecodpdfckjalaaGreatDoor
open Go.RowKit
variable {w0 : World} {rb : Nat} {ae aa : Value} {TL : List Tok} {xs : List UInt8} {U : Nat -> Prop}
theorem AQ {W : World} {s : List ai} {ns : List Nd} (h : RSs w0 rb ae aa TL xs U W s ns) {x : Nat} (hx : cZ W rb = some x) : x < W.heap.size := by
 obtain ⟨i, _, _, hS, _, _⟩ := h
 obtain ⟨cur, hh⟩ := hS.own hx
 exact aY hh
theorem jI {W W2 : World} {s : List ai} {ns : List Nd} {o : Obj} (h : RSs w0 rb ae aa TL xs U W s ns) (hk : af rb (W.alloc o) W2) : W2.heap[W.heap.size]? = some o := by
 have hr := h.lt
 rw [hk.same W.heap.size (by simp) hr (fun e => ?_)]
 ·exact heap_alloc_new W o
 ·have e2 : cZ (W.alloc o) rb = cZ W rb := by unfold cZ; rw [(ah W o).block rb hr]
  rw [e2] at e
  have := AQ h e
  omega
theorem dw {W : World} {x : Nat} {a b c d e : Value} (h : W.heap[x]? = some (.cells #[a, b, c, d, e] 44 (0, 0))) : W.cell? ⟨x, 0, none⟩ = some a /\ W.cell? ⟨x, 1, none⟩ = some b /\ W.cell? ⟨x, 2, none⟩ = some c /\ W.cell? ⟨x, 3, none⟩ = some d /\ W.cell? ⟨x, 4, none⟩ = some e /\ x < W.heap.size := by
 refine ⟨?_, ?_, ?_, ?_, ?_, aY h⟩ <;> simp [World.cell?, h]
theorem RSs.new {W : World} {s : List ai} {ns : List Nd} (h : RSs w0 rb ae aa TL xs U W s ns) : ∀ g, (some ⟨W.heap.size, 0, none⟩ : Option Addr) = some ⟨g, 0, none⟩ -> ¬ U g := by
 obtain ⟨_, _, _, _, _, hU⟩ := h
 intro g e hg
 simp at e
 subst e
 have := hU _ hg
 omega
end Go.Proofs.YtecodpdfckjalaaGreatDoor
namespace Go.Proofs.YtecodpdfckjalaaGreatDoor
open Go.RowKit
variable {w0 : World} {rb : Nat} {ae aa : Value} {TL : List Tok} {xs : List UInt8}
theorem qg (hT : RT w0 rb ae aa TL xs) (hK : aR TL) {f : Nat} (Htyp : RC w0 rb ae aa TL xs (pF f .typ) 87 #[]) (kind : Int) (c : Nat) (hc : (10 <= c /\ c < 31) ∨ (40 <= c /\ c < 67)) (tx : ByteArray) (ht : ax (c : Int) = tx.data.toList) :
  RC w0 rb ae aa TL xs (fun s => want c s fun s1 => want 22 s1 fun s2 => aC (pF f .typ s2) fun a s3 => mk1 kind s 0 [] a s3) 105 #[.int .i64 kind, .string tx] := by
 intro U W s ns hS hne
 show Calls Tryz.prog 105 #[.pointer (some ⟨rb, 0, none⟩), .int .i64 kind, .string tx] W _
 dsimp only at hne ⊢
 have hrW := hS.lt
 have B1 : Bx (∀ W1, RSs w0 rb ae aa TL xs U W1 (s) (ns) -> _) := ⟨fun W1 h => bF hT hK h c hc tx ht⟩
 by_cases h1 : kd (s) = c
 ·rw [aG h1] at hne ⊢
  have B2 : Bx (∀ W1, RSs w0 rb ae aa TL xs U W1 (tl (s)) (ns) -> _) := ⟨fun W1 h => bF hT hK h 22 (by decide) ⟨#[111, 102]⟩ (by decide)⟩
  by_cases h2 : kd (tl (s)) = 22
  ·rw [aG h2] at hne ⊢
   have B3 : Bx (∀ W1, RSs w0 rb ae aa TL xs U W1 (tl (tl (s))) (ns) -> pF f .typ (tl (tl (s))) ≠ .out -> Calls Tryz.prog 87 #[.pointer (some ⟨rb, 0, none⟩)] W1 (aj w0 rb ae aa TL xs U W1 (tl (tl (s))) (ns) (pF f .typ (tl (tl (s)))))) := ⟨fun W1 h hn => Htyp U W1 (tl (tl (s))) (ns) h hn⟩
   match r3 : pF f .typ (tl (tl (s))) with
   | .out => rw [r3] at hne; exact absurd rfl hne
   | .err s' =>
    rw [r3] at B3
    show Calls _ _ _ _ (aj w0 rb ae aa TL xs U W s ns (.err s'))
    go_enter Tryz.func105, Tryz.ntmps105
    go_wp2_with (first
     | (go_at_call 85; refine Calls.mono (B1.out _ hS) ?_; rintro e W1 (⟨_, rfl, q1, l1, k1⟩ | ⟨h, _⟩); rotate_left 1; exact absurd h1 h; clear B1)
     | (go_at_call 85; refine Calls.mono (B2.out _ q1) ?_; rintro e W2 (⟨_, rfl, q2, l2, k2⟩ | ⟨h, _⟩); rotate_left 1; exact absurd h2 h; clear B2)
     | (go_at_call 87; refine Calls.mono (B3.out _ q2 (by simp)) ?_; rintro e W3 ⟨rfl, b3⟩; unfold ak))
    exact ⟨rfl, rfl, b3⟩
   | .ok ts3 s3 =>
    rw [r3] at B3 hne
    simp only [aC] at hne ⊢
    have HD : Bx (∀ W1, RSs w0 rb ae aa TL xs U W1 (s3) (ns ++ ag ts3 (ns).length) -> af rb W W1 -> ∀ v3 : Nat, v3 = ((ns).length + sizes ts3 - 1 : Nat) -> ts3.length = 1 -> (s3).length + sizes ts3 + 1 <= s.length -> ∀ kv, Calls Tryz.prog 70 #[.pointer (some ⟨rb, 0, none⟩), .agg #[.int .i64 kind, .int .i64 (hd s).place, kv, .string ⟨([]).toArray⟩, .int .i64 0], .slice (some ⟨W1.heap.size, 0, none⟩) 1 1] (W1.alloc (.cells #[.int .i64 ((v3 : Nat) : Int)] 3)) fun e W' => ∃ r : Int, e = .returned (.int .i64 r) /\ aj w0 rb ae aa TL xs U W s ns (.ok [.mk kind (hd s).place 0 ([]) ts3] (s3)) (.returned (.int .i64 r)) W') := ⟨fun W1 h hk v3 g3 e3 hsz kv => by
     have hI := dz (rb := rb) (W := W1) (o := #[.int .i64 ((v3 : Nat) : Int)]) (ys := ends ts3 ns.length) (n := 1) (by rw [aK e3]; rfl) (by decide) (by decide) h.lt (by rw [aK e3, g3]; rfl)
     exact fG hT ts3 (h.ext (ah _ _)) (hk.trans (af.alloc h.lt _)) hsz ⟨W, hS⟩ kind (hd s).place 0 ([]) kv (some ⟨W1.heap.size, 0, none⟩) 1 1 e3.symm hI h.new⟩
    show Calls _ _ _ _ (aj w0 rb ae aa TL xs U W s ns (.ok [.mk kind (hd s).place 0 ([]) ts3] (s3)))
    go_enter Tryz.func105, Tryz.ntmps105
    go_wp2_with (first
     | (go_at_call 85; refine Calls.mono (B1.out _ hS) ?_; rintro e W1 (⟨_, rfl, q1, l1, k1⟩ | ⟨h, _⟩); rotate_left 1; exact absurd h1 h; clear B1)
     | (go_at_call 85; refine Calls.mono (B2.out _ q1) ?_; rintro e W2 (⟨_, rfl, q2, l2, k2⟩ | ⟨h, _⟩); rotate_left 1; exact absurd h2 h; clear B2)
     | (go_at_call 87; refine Calls.mono (B3.out _ q2 (by simp)) ?_; rintro e W3 ⟨n3, l3, he, q3, k3⟩; obtain ⟨v3, hv⟩ : ∃ r : Nat, r = ((ns).length + sizes ts3 - 1) := ⟨_, rfl⟩; rw [← hv] at he; subst he; have V3 : Bx _ := ⟨hv⟩; clear hv B3)
     | (go_at_call 70; refine Calls.mono (HD.out _ q3 (k1.trans (k2.trans k3)) v3 V3.out n3 (by omega) _) ?_; rintro e W9 ⟨r9, rfl, hp⟩))
    go_ret
    exact hp
  ·rw [aL h2]
   go_enter Tryz.func105, Tryz.ntmps105
   go_wp2_with (first
    | (go_at_call 85; refine Calls.mono (B1.out _ hS) ?_; rintro e W1 (⟨_, rfl, q1, l1, k1⟩ | ⟨h, _⟩); rotate_left 1; exact absurd h1 h; clear B1)
    | (go_at_call 85; refine Calls.mono (B2.out _ q1) ?_; rintro e W2 (⟨h, _⟩ | ⟨_, rfl, b2⟩); exact absurd h h2; unfold ak))
   exact ⟨rfl, rfl, b2⟩
 ·rw [aL h1]
  go_enter Tryz.func105, Tryz.ntmps105
  go_wp2_with (first
   | (go_at_call 85; refine Calls.mono (B1.out _ hS) ?_; rintro e W1 (⟨h, _⟩ | ⟨_, rfl, b1⟩); exact absurd h h1; unfold ak))
  exact ⟨rfl, rfl, b1⟩
end Go.Proofs.YtecodpdfckjalaaGreatDoor
namespace Go.Proofs.YtecodpdfckjalaaGreatDoor
open Go.RowKit
variable {w0 : World} {rb : Nat} {ae aa : Value} {TL : List Tok} {xs : List UInt8} {U : Nat -> Prop}
def sliceLen : Value -> Nat
 | .slice _ n _ => n
 | _ => 0
def iy (acc : List Tr) : Res -> Res
 | .ok b s => .ok (acc ++ b) s
 | .err s => .err s
 | .out => .out
theorem ni (r : Res) : iy [] r = r := by cases r <;> rfl
theorem gu : (Tryz.prog.info? 3).map (fun i => (i.zero, i.size, i.bytes)) = some (some (.int .i64 0), 1, 8) := by kernel_rfl
theorem dD (X : World) (H : Nat) (hH : X.heap.size = H) (a : Value) : ∀ (j : Nat) (u : Value), [a][j]? = some u -> (X.alloc (.cells #[a] 3)).cell? ((⟨H, 0, none⟩ : Addr).add j) = some u := by
 subst hH
 exact World.news_of_block (w := X.alloc (.cells #[a] 3)) (cs := #[a]) (heap_alloc_new X (.cells #[a] 3))
theorem eF (x : Int) : ∀ u ∈ [Value.int .i64 x], u.oneCell' = true := by
 intro u hu
 simp at hu
 subst hu
 rfl
def Uv (U : Nat -> Prop) (v : Value) : Nat -> Prop := fun y => U y ∨ v.ownBlock = some y
theorem RSs.grown {W w1 : World} {s : List ai} {ns : List Nd} {v : Value} {ys : List Int} {o : Obj} (h : RSs w0 rb ae aa TL xs (Uv U v) W s ns) (hv : aQ W rb v ys) (hg : (W.alloc o).grownBy w1 v.ownBlock) (g n cap : Nat) (hat : v.ownBlock = some g ∨ g = W.heap.size + 1) (hlt : g < w1.heap.size) :
  RSs w0 rb ae aa TL xs (Uv U (.slice (some ⟨g, 0, none⟩) n cap)) w1 s ns /\ ∀ W0, af rb W0 W -> (∀ y, v.ownBlock = some y -> W0.heap.size <= y) -> af rb W0 w1 /\ W0.heap.size <= g := by
 have hr := h.lt
 have hz := hg.size
 simp at hz
 have hvl : ∀ y, v.ownBlock = some y -> rb + 1 <= y /\ y < W.heap.size := fun y hy => by
  obtain ⟨cur, hh⟩ := kR hv hy
  exact ⟨(hv.lt y hy).1, aY hh⟩
 have same : ∀ x, x < W.heap.size -> v.ownBlock ≠ some x -> w1.heap[x]? = W.heap[x]? := fun x hx hne => by
  rw [hg.block x (by simp; omega) (fun e => hne e.symm), (ah W o).block x hx]
 obtain ⟨i, rfl, hi, hS, hni, hU⟩ := h
 obtain ⟨nv, h1, h2⟩ := hS.rd
 have h1' : w1.heap[rb]? = some (rdO ae aa i nv) := by
  rw [same rb hr (fun e => by have := hvl rb e; omega)]
  exact h1
 obtain ⟨ks, k1, k2, k3⟩ := h2.ex
 refine ⟨⟨i, rfl, hi, ⟨⟨nv, h1', ⟨ks, k1, ?_, fun j hj hj' => ⟨?_, ?_⟩⟩⟩, ?_⟩, hni, ?_⟩, fun W0 hk hfr => ?_⟩
 ·obtain ⟨q1, q2⟩ := k2
  refine ⟨q1, ?_⟩
  rcases q2 with q2 | ⟨gg, cp, cur, hv2, hg2, hh, hr2⟩
  ·exact .inl q2
  ·refine .inr ⟨gg, cp, cur, hv2, hg2, ?_, hr2⟩
   rw [same gg (aY hh) (fun e => ?_)]
   ·exact hh
   ·obtain ⟨c2, hh2⟩ := kR hv e
    rw [hh] at hh2
    simp only [Option.some.injEq, Obj.cells.injEq] at hh2
    exact absurd hh2.2.1 (by decide)
 ·obtain ⟨⟨q1, q2⟩, q3⟩ := k3 j hj hj'
  refine ⟨q1, ?_⟩
  rcases q2 with q2 | ⟨gg, cp, cur, hv2, hg2, hh, hr2⟩
  ·exact .inl q2
  ·refine .inr ⟨gg, cp, cur, hv2, hg2, ?_, hr2⟩
   rw [same gg (aY hh) (fun e => ?_)]
   ·exact hh
   ·simp only [Value.slice.injEq] at hv2
    exact q3 gg hv2.1 (.inr e)
 ·obtain ⟨⟨q1, q2⟩, q3⟩ := k3 j hj hj'
  intro y hy hyU
  rcases hyU with hyU | hyU
  ·exact q3 y hy (.inl hyU)
  ·simp [Value.ownBlock] at hyU
   subst hyU
   rcases hat with e | e
   ·exact q3 g hy (.inr e)
   ·rcases q2 with ⟨q2, _⟩ | ⟨gg, cp, cur, hv2, hg2, hh, hr2⟩
    ·simp only [Value.slice.injEq] at q2
     rw [q2.1] at hy
     cases hy
    ·simp only [Value.slice.injEq] at hv2
     rw [hv2.1] at hy
     simp at hy
     subst hy
     have := aY hh
     omega
 ·exact Below.grown (hS.bel.alloc (by omega) o) hg (by simp; omega) (fun x hx => by have := hvl x hx; omega)
 ·intro y hy
  rcases hy with hy | hy
  ·have := hU y (.inl hy)
   omega
  ·simp [Value.ownBlock] at hy
   subst hy
   exact hlt
 ·have hkz := hk.size
  refine ⟨⟨by omega, fun x hx hxr ho => ?_, ?_⟩, ?_⟩
  ·rw [same x (by omega) (fun e => by have := hfr x e; omega)]
   exact hk.same x hx hxr ho
  ·rw [fO h1', ← fO h1]
   exact hk.own
  ·rcases hat with e | e
   ·exact hfr g e
   ·omega
end Go.Proofs.YtecodpdfckjalaaGreatDoor
namespace Go.Proofs.YtecodpdfckjalaaGreatDoor
open Go.RowKit
variable {w0 : World} {rb : Nat} {ae aa : Value} {TL : List Tok} {xs : List UInt8} {U : Nat -> Prop}
structure tY (w0 : World) (rb : Nat) (ae aa : Value) (TL : List Tok) (xs : List UInt8) (U : Nat -> Prop) (W : World) (s : List ai) (ns : List Nd) (r : Rl) (f : Nat) (s1 : List ai) (kv : Value) (wr : World) (f' : Nat) (acc : List Tr) (cur : List ai) : Prop where
 eq : pF f r s1 = iy acc (pF f' r cur)
 le : f' <= f
 st : RSs w0 rb ae aa TL xs (Uv U kv) wr cur (ns ++ ag acc ns.length)
 row : aQ wr rb kv (ends acc ns.length)
 keep : af rb W wr
 new : ∀ y, kv.ownBlock = some y -> W.heap.size <= y
 sz : cur.length + sizes acc + 1 <= s.length
theorem cz : ∀ (a : List Tr) (o : Nat), (ends a o).length = a.length
 | [], o => rfl
 | t :: r, o => by simp [ends, cz r]
theorem dR : ∀ a : List Tr, a.length <= sizes a
 | [] => Nat.zero_le _
 | t :: r => by
  have := dR r
  have := mY t
  simp [sizes]
  omega
theorem RSs.jD {U V : Nat -> Prop} {W : World} {s : List ai} {ns : List Nd} (h : RSs w0 rb ae aa TL xs U W s ns) (hv : ∀ y, V y -> U y) : RSs w0 rb ae aa TL xs V W s ns := by
 obtain ⟨i, rfl, hi, hS, hni, hU⟩ := h
 obtain ⟨nv, h1, h2⟩ := hS.rd
 obtain ⟨ks, k1, k2, k3⟩ := h2.ex
 exact ⟨i, rfl, hi, ⟨⟨nv, h1, ⟨ks, k1, k2, fun j hj hj' => ⟨(k3 j hj hj').1, fun g hg hV => (k3 j hj hj').2 g hg (hv g hV)⟩⟩⟩, hS.bel⟩, hni, fun g hg => hU g (hv g hg)⟩
theorem BV (hT : RT w0 rb ae aa TL xs) (hK : aR TL) {f : Nat} (HS : ∀ f', f' < f -> RC w0 rb ae aa TL xs (pF f' .stmt) 69 #[]) :
  RC w0 rb ae aa TL xs (fun s => want 44 s fun s1 => aC (pF f .stmts s1) fun a s2 => mk1 41 s 0 [] a s2) 95 #[] := by
 intro U W s ns hS hne
 show Calls Tryz.prog 95 #[.pointer (some ⟨rb, 0, none⟩)] W _
 dsimp only at hne ⊢
 have hrW := hS.lt
 have B1 : Bx (∀ W1, RSs w0 rb ae aa TL xs U W1 s ns -> _) := ⟨fun W1 h => bF hT hK h 44 (by decide) ⟨#[123]⟩ (by decide)⟩
 by_cases h1 : kd s = 44
 ·rw [aG h1] at hne ⊢
  obtain ⟨i0, hi, hz0, hz1, hz2⟩ := info_parts gu
  have hslen : s.length <= 65537 := by
   obtain ⟨i, rfl, hi, _⟩ := hS
   have := hT.small
   unfold pts
   simp
   omega
  generalize hR : (aC (pF f .stmts (tl s)) fun a s2 => mk1 41 s 0 [] a s2) = R at hne ⊢
  have HR : Bx (aC (pF f .stmts (tl s)) (fun a s2 => mk1 41 s 0 [] a s2) = R /\ R ≠ .out) := ⟨hR, hne⟩
  clear hR hne
  have H0 : Bx (∀ W1, RSs w0 rb ae aa TL xs U W1 (tl s) ns -> af rb W W1 -> (tl s).length + 1 = s.length -> tY w0 rb ae aa TL xs U W s ns .stmts f (tl s) (.slice none 0 0) W1 f [] (tl s)) := ⟨fun W1 q k l => ⟨by rw [ni], Nat.le_refl _, by
   have : ns ++ ag [] ns.length = ns := by simp [ag]
   rw [this]
   exact q.jD (fun y hy => by rcases hy with hy | hy; exact hy; simp [Value.ownBlock] at hy), World.ownsRow_nil _ _ _ _, k, fun y hy => by simp [Value.ownBlock] at hy, by simp [sizes]; omega⟩⟩
  go_enter Tryz.func95, Tryz.ntmps95
  go_wp2_with (first
   | (go_at_call 85; refine Calls.mono (B1.out _ hS) ?_; rintro e W1 (⟨_, rfl, q1, l1, k1⟩ | ⟨h, _⟩); rotate_left 1; exact absurd h1 h; clear B1; have L0 := H0.out _ q1 k1 l1; have LB : Bx _ := ⟨L0⟩; clear L0 H0))
  go_loopw [4] (fun kv wr => ∃ f' : Nat, ∃ acc cur, ∃ a c, kv = .slice a acc.length c /\ Bx (tY w0 rb ae aa TL xs U W s ns .stmts f (tl s) kv wr f' acc cur)) (fun kv _ => s.length - sliceLen kv)
  case atStart => exact ⟨f, [], tl s, none, 0, rfl, LB⟩
  case round =>
   obtain ⟨f', acc, cur, a, c, rfl, HL⟩ := hrel
   have hsz := HL.out.sz
   have hac := dR acc
   match f', HL with
   | 0, HL =>
    have := HL.out.eq
    have h2 := HR.out
    rw [this] at h2
    exact absurd h2.1.symm h2.2
   | g + 1, HL =>
    have B2 : Bx (∀ W1, RSs w0 rb ae aa TL xs (Uv U (.slice a acc.length c)) W1 cur (ns ++ ag acc ns.length) -> _) := ⟨fun W1 h => iP hT hK h 45 (by decide) ⟨#[125]⟩ (by decide)⟩
    by_cases h2 : kd cur = 45
    ·have e1 : pF (g + 1) .stmts cur = .ok [] (tl cur) := by
      show body (pF g) .stmts cur = _
      simp only [body]
      rw [if_pos h2]
     have eR : Bx (R = .ok [.mk 41 (hd s).place 0 [] acc] (tl cur)) := ⟨by
      have h3 := HR.out.1
      rw [HL.out.eq, e1] at h3
      simp only [iy, aC, List.append_nil] at h3
      exact h3.symm⟩
     have hUW : ∀ y, a = some ⟨y, 0, none⟩ -> ¬ U y := fun y hy hyU => by
      have h4 := HL.out.new y (by rw [hy]; rfl)
      obtain ⟨_, _, _, _, _, hU⟩ := hS
      have := hU y hyU
      omega
     have HD : Bx (∀ W2, RSs w0 rb ae aa TL xs (Uv U (.slice a acc.length c)) W2 (tl cur) (ns ++ ag acc ns.length) -> af rb wr W2 -> (tl cur).length + 1 = cur.length -> ∀ kv, Calls Tryz.prog 70 #[.pointer (some ⟨rb, 0, none⟩), .agg #[.int .i64 41, .int .i64 (hd s).place, kv, .string ⟨#[]⟩, .int .i64 0], .slice a acc.length c] W2 fun e W' => ∃ r : Int, e = .returned (.int .i64 r) /\ aj w0 rb ae aa TL xs U W s ns R (.returned (.int .i64 r)) W') := ⟨fun W2 q k l kv => by
      rw [eR.out]
      exact fG hT acc (q.jD (fun y hy => .inl hy)) (HL.out.keep.trans k) (by omega) ⟨W, hS⟩ 41 (hd s).place 0 [] kv a acc.length c rfl (HL.out.st.ints HL.out.row k) hUW⟩
     have hst : Bx _ := ⟨HL.out.st⟩
     clear HL HR eR e1 HS
     go_wp2_with (first
      | (go_at_call 102; refine Calls.mono (B2.out _ hst.out) ?_; rintro e W2 (⟨_, rfl, q2, l2, k2⟩ | ⟨h, _⟩); rotate_left 1; exact absurd h2 h; clear B2)
      | (go_at_call 70; refine Calls.mono (HD.out _ q2 k2 l2 _) ?_; rintro e W9 ⟨r9, rfl, hp⟩))
     go_ret
     exact hp
    ·have e1 : pF (g + 1) .stmts cur = aC (pF g .stmt cur) fun a s1 => aC (pF g .stmts s1) fun b s2 => .ok (a ++ b) s2 := by
      show body (pF g) .stmts cur = _
      simp only [body]
      rw [if_neg h2]
     have hgf : g < f := by have := HL.out.le; omega
     have B3 : Bx (∀ W1, RSs w0 rb ae aa TL xs (Uv U (.slice a acc.length c)) W1 cur (ns ++ ag acc ns.length) -> pF g .stmt cur ≠ .out -> Calls Tryz.prog 69 #[.pointer (some ⟨rb, 0, none⟩)] W1 (aj w0 rb ae aa TL xs (Uv U (.slice a acc.length c)) W1 cur (ns ++ ag acc ns.length) (pF g .stmt cur))) := ⟨fun W1 h hn => HS g hgf _ W1 cur _ h hn⟩
     have hst : Bx _ := ⟨HL.out.st⟩
     match r3 : pF g .stmt cur with
     | .out =>
      have h3 := HR.out
      rw [HL.out.eq, e1, r3] at h3
      exact absurd h3.1.symm h3.2
     | .err s' =>
      rw [r3] at B3
      have eR : Bx (R = .err s') := ⟨by
       have h3 := HR.out.1
       rw [HL.out.eq, e1, r3] at h3
       exact h3.symm⟩
      clear HL HR HS
      go_wp2_with (first
       | (go_at_call 102; refine Calls.mono (B2.out _ hst.out) ?_; rintro e W2 (⟨h, _⟩ | ⟨_, rfl, q2, k2⟩); exact absurd h h2; clear B2)
       | (go_at_call 69; refine Calls.mono (B3.out _ q2 (by simp)) ?_; rintro e W3 ⟨rfl, b3⟩; unfold ak))
      exact ⟨rfl, by rw [eR.out]; exact ⟨rfl, b3⟩⟩
     | .ok ts s' =>
      rw [r3] at B3
      have HN : Bx (∀ W2 W3, af rb wr W2 -> af rb W2 W3 -> RSs w0 rb ae aa TL xs (Uv U (.slice a acc.length c)) W3 s' ((ns ++ ag acc ns.length) ++ ag ts (ns ++ ag acc ns.length).length) -> ts.length = 1 -> s'.length + sizes ts <= cur.length -> ∀ v : Nat, v = ((ns ++ ag acc ns.length).length + sizes ts - 1) ->
        aQ W3 rb (.slice a acc.length c) (ends acc ns.length) /\ ∀ g2 cp w4, (W3.alloc (.cells #[.int .i64 (v : Int)] 3)).grownBy w4 (Value.slice a acc.length c).ownBlock -> ((Value.slice a acc.length c).ownBlock = some g2 ∨ g2 = W3.heap.size + 1) -> g2 < w4.heap.size -> w4.ownsRow (rb + 1) 3 1 (.slice (some ⟨g2, 0, none⟩) (acc.length + 1) cp) (acc.length + 1) (bM (ends acc ns.length) ++ [.int .i64 (v : Int)]) -> tY w0 rb ae aa TL xs U W s ns .stmts f (tl s) (.slice (some ⟨g2, 0, none⟩) (acc.length + 1) cp) w4 g (acc ++ ts) s') := ⟨fun W2 W3 k2 k3 q3 n3 l3 v hv => by
       have hrow := HL.out.st.ints HL.out.row (k2.trans k3)
       refine ⟨hrow, fun g2 cp w4 hg hat hl4 hown => ?_⟩
       obtain ⟨p1, p2⟩ := q3.grown hrow hg g2 (acc.length + 1) cp hat hl4
       obtain ⟨p3, p4⟩ := p2 W (HL.out.keep.trans (k2.trans k3)) HL.out.new
       have hends : ends (acc ++ ts) ns.length = ends acc ns.length ++ [(v : Int)] := by rw [bD, aK n3, hv, dV]
       refine ⟨?_, by omega, ?_, ?_, p3, fun y hy => ?_, ?_⟩
       ·rw [HL.out.eq, e1, r3]
        simp only [aC]
        cases pF g .stmts s' <;> simp [iy]
       ·rw [bP] at p1
        exact p1
       ·unfold aQ
        rw [hends, List.length_append, cz, bM, List.map_append]
        exact hown
       ·simp [Value.ownBlock] at hy
        subst hy
        exact p4
       ·rw [aI]
        omega⟩
      have hlen : (acc ++ ts).length = acc.length + 1 -> True := fun _ => trivial
      clear HL HR HS
      go_wp2_with (first
       | (go_at_call 102; refine Calls.mono (B2.out _ hst.out) ?_; rintro e W2 (⟨h, _⟩ | ⟨_, rfl, q2, k2⟩); exact absurd h h2; clear B2)
       | (go_at_call 69; refine Calls.mono (B3.out _ q2 (by simp)) ?_; rintro e W3 ⟨n3, l3, he, q3, k3⟩; obtain ⟨v3, hv⟩ : ∃ r : Nat, r = ((ns ++ ag acc ns.length).length + sizes ts - 1) := ⟨_, rfl⟩; rw [← hv] at he; subst he; obtain ⟨hrow, hnx⟩ := HN.out W2 W3 k2 k3 q3 n3 l3 v3 hv; have NX : Bx _ := ⟨hnx⟩; have RW : Bx _ := ⟨hrow⟩; have hrl := q3.lt; clear hv hnx hrow HN B3)
       | (at_builtin; refine wpList_append_lies _ rfl (.tmp 10) (.tmp 13) 39 rfl (rb + 1) 3 i0 (.int .i64 0) 1 8 Tryz.underlying39 hi hz0 hz1 hz2 rfl (by decide) (.slice a acc.length c) acc.length (bM (ends acc ns.length)) rfl (by have := bO RW.out (ah W3 (.cells #[.int .i64 (v3 : Int)] 3)); rw [cz] at this; exact this) ⟨W3.heap.size, 0, none⟩ 1 1 [.int .i64 (v3 : Int)] rfl rfl (dD _ _ rfl _) (eF _) (by decide) (by unfold maxLen; omega) (by omega) (by simp; omega) (W3.heap.size + 1) (by simp) ?_; intro g2 cp w4 hown hgrow hat hlt4; have LN := NX.out g2 cp w4 hgrow hat hlt4 hown; have LNB : Bx _ := ⟨LN⟩; clear hgrow hat hown LN))
      go_roundw
      case rel => exact ⟨g, acc ++ ts, s', some ⟨g2, 0, none⟩, cp, by simp [n3], LNB⟩
      case measure => simp [sliceLen]; omega
 ·rw [aL h1]
  go_enter Tryz.func95, Tryz.ntmps95
  go_wp2_with (first
   | (go_at_call 85; refine Calls.mono (B1.out _ hS) ?_; rintro e W1 (⟨h, _⟩ | ⟨_, rfl, b1⟩); exact absurd h h1; unfold ak))
  exact ⟨rfl, rfl, b1⟩
end Go.Proofs.YtecodpdfckjalaaGreatDoor
