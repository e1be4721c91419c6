import Derived.Test.YtecodpdfckjalaaGreatDoorYCovQ
import Derived.WalkSmall
import Derived.Deep.RegionHeld
import Derived.Deep.QuietTactic
import Derived.BigQuiet
import Derived.WalkLawsBesides
import Derived.Deep.AppendLies
import Derived.Deep.RegionLaw
set_option linter.unusedVariables false
set_option linter.unusedSimpArgs false
set_option maxHeartbeats 4000000
set_option maxRecDepth 100000
namespace Go.Proofs.YtecodpdfckjalaaGreatDoor
open Go.RowKit
theorem aY {w : World} {x : Nat} {o : Obj} (h : w.heap[x]? = some o) : x < w.heap.size := by
 rcases Nat.lt_or_ge x w.heap.size with hlt | hge
 ·exact hlt
 ·rw [Array.getElem?_eq_none hge] at h; cases h
def rdO (ae aa : Value) (i : Nat) (nv : Value) : Obj := .cells #[ae, aa, .int .i64 i, nv] 74 (0, 0)
def ndC (n : Nd) (k : Option Addr × Nat) : List Value := [.int .i64 n.kind, .int .i64 n.pos, .slice k.1 n.kids.length k.2, .string n.name, .int .i64 n.num]
def oq : List Nd -> List (Option Addr × Nat) -> List Value
 | n :: r, k :: q => ndC n k ++ oq r q
 | _, _ => []
def bM (xs : List Int) : List Value := xs.map fun x => Value.int .i64 x
def aQ (W : World) (rb : Nat) (v : Value) (xs : List Int) : Prop := W.ownsRow (rb + 1) 3 1 v xs.length (bM xs)
structure eO (U : Nat -> Prop) (W : World) (rb : Nat) (nv : Value) (ns : List Nd) : Prop where
 ex : ∃ ks : List (Option Addr × Nat), ks.length = ns.length /\ W.ownsRow (rb + 1) 44 5 nv ns.length (oq ns ks) /\ ∀ j (h : j < ns.length) (h' : j < ks.length), aQ W rb (.slice ks[j].1 ns[j].kids.length ks[j].2) ns[j].kids /\ ∀ g, ks[j].1 = some ⟨g, 0, none⟩ -> ¬ U g
def cZ (W : World) (rb : Nat) : Option Nat :=
 match W.heap[rb]? with
 | some (.cells c _ _) => (c.getD 3 undef).ownBlock
 | _ => none
theorem fO {W : World} {rb : Nat} {ae aa nv : Value} {i : Nat} (h : W.heap[rb]? = some (rdO ae aa i nv)) : cZ W rb = nv.ownBlock := by
 unfold cZ
 rw [h]
 rfl
structure af (rb : Nat) (W W' : World) : Prop where
 size : W.heap.size <= W'.heap.size
 same : ∀ x, x < W.heap.size -> rb < x -> cZ W rb ≠ some x -> W'.heap[x]? = W.heap[x]?
 own : cZ W' rb = cZ W rb ∨ ∃ g, cZ W' rb = some g /\ W.heap.size <= g
theorem af.refl (rb : Nat) (W : World) : af rb W W := ⟨Nat.le_refl _, fun _ _ _ _ => rfl, .inl rfl⟩
theorem af.trans {rb : Nat} {W W1 W2 : World} (h1 : af rb W W1) (h2 : af rb W1 W2) : af rb W W2 := by
 have hz := h1.size
 refine ⟨Nat.le_trans hz h2.size, fun x hx hr ho => ?_, ?_⟩
 ·rw [h2.same x (by omega) hr ?_, h1.same x hx hr ho]
  rcases h1.own with e | ⟨g, e, hg⟩
  ·rw [e]; exact ho
  ·rw [e]
   intro e2
   simp only [Option.some.injEq] at e2
   omega
 ·rcases h2.own with e | ⟨g, e, hg⟩
  ·rw [e]; exact h1.own
  ·exact .inr ⟨g, e, by omega⟩
theorem af.heap {rb : Nat} {W W' : World} (h : W'.heap = W.heap) : af rb W W' := ⟨by rw [h]; exact Nat.le_refl _, fun x _ _ _ => by rw [h], .inl (by unfold cZ; rw [h])⟩
theorem af.ext {rb : Nat} {W W' : World} (hr : rb < W.heap.size) (hb : Below W.heap.size W W') : af rb W W' := ⟨hb.size, fun x hx _ _ => hb.block x hx, .inl (by unfold cZ; rw [hb.block rb hr])⟩
theorem af.alloc {rb : Nat} {W : World} (hr : rb < W.heap.size) (o : Obj) : af rb W (W.alloc o) := af.ext hr (ah W o)
theorem kR {W : World} {B : Nat} {e : TypeId} {s : Nat} {v : Value} {n : Nat} {cs : List Value} (h : W.ownsRow B e s v n cs) {x : Nat} (hx : v.ownBlock = some x) : ∃ cur, W.heap[x]? = some (.cells cur e (0, 0)) := by
 rcases h.2 with ⟨h2, _⟩ | ⟨g, cap, cur, hv, hg, hh, hr⟩
 ·rw [h2] at hx
  simp [Value.ownBlock] at hx
 ·rw [hv] at hx
  simp [Value.ownBlock] at hx
  subst hx
  exact ⟨cur, hh⟩
structure RS (w0 : World) (rb : Nat) (ae aa : Value) (U : Nat -> Prop) (W : World) (i : Nat) (ns : List Nd) : Prop where
 rd : ∃ nv, W.heap[rb]? = some (rdO ae aa i nv) /\ eO U W rb nv ns
 bel : Below rb w0 W
theorem RS.lt {w0 : World} {rb : Nat} {ae aa : Value} {U : Nat -> Prop} {W : World} {i : Nat} {ns : List Nd} (h : RS w0 rb ae aa U W i ns) : rb < W.heap.size := by
 obtain ⟨nv, h1, _⟩ := h.rd
 exact aY h1
theorem RS.own {w0 : World} {rb : Nat} {ae aa : Value} {U : Nat -> Prop} {W : World} {i : Nat} {ns : List Nd} (h : RS w0 rb ae aa U W i ns) {x : Nat} (hx : cZ W rb = some x) : ∃ cur, W.heap[x]? = some (.cells cur 44 (0, 0)) := by
 obtain ⟨nv, h1, h2⟩ := h.rd
 obtain ⟨ks, _, k2, _⟩ := h2.ex
 rw [fO h1] at hx
 exact kR k2 hx
theorem RS.ints {w0 : World} {rb : Nat} {ae aa : Value} {U : Nat -> Prop} {W W' : World} {i : Nat} {ns : List Nd} (hS : RS w0 rb ae aa U W i ns) {v : Value} {xs : List Int} (h : aQ W rb v xs) (hk : af rb W W') : aQ W' rb v xs := by
 obtain ⟨h1, h2⟩ := h
 refine ⟨h1, ?_⟩
 rcases h2 with h2 | ⟨g, cap, cur, hv, hg, hh, hr⟩
 ·exact .inl h2
 ·refine .inr ⟨g, cap, cur, hv, hg, ?_, hr⟩
  rw [hk.same g (aY hh) (by omega) (fun e => ?_)]
  ·exact hh
  ·obtain ⟨cur2, h3⟩ := hS.own e
   rw [hh] at h3
   simp only [Option.some.injEq, Obj.cells.injEq] at h3
   exact absurd h3.2.1 (by decide)
theorem bO {W W' : World} {B : Nat} {e : TypeId} {s : Nat} {v : Value} {n : Nat} {cs : List Value} (h : W.ownsRow B e s v n cs) (hb : Below W.heap.size W W') : W'.ownsRow B e s v n cs := by
 obtain ⟨h1, h2⟩ := h
 refine ⟨h1, ?_⟩
 rcases h2 with h2 | ⟨g, cap, cur, hv, hg, hh, hr⟩
 ·exact .inl h2
 ·exact .inr ⟨g, cap, cur, hv, hg, by rw [hb.block g (aY hh)]; exact hh, hr⟩
theorem RS.ext {w0 : World} {rb : Nat} {ae aa : Value} {U : Nat -> Prop} {W W' : World} {i : Nat} {ns : List Nd} (h : RS w0 rb ae aa U W i ns) (hb : Below W.heap.size W W') : RS w0 rb ae aa U W' i ns := by
 obtain ⟨nv, h1, h2⟩ := h.rd
 have hlt := aY h1
 obtain ⟨ks, k1, k2, k3⟩ := h2.ex
 exact ⟨⟨nv, by rw [hb.block rb hlt]; exact h1, ⟨ks, k1, bO k2 hb, fun j hj hj' => ⟨bO (k3 j hj hj').1 hb, (k3 j hj hj').2⟩⟩⟩, h.bel.trans (hb.mono (by omega))⟩
theorem RS.drewN {w0 : World} {rb : Nat} {ae aa : Value} {U : Nat -> Prop} {W : World} {i : Nat} {ns : List Nd} (h : RS w0 rb ae aa U W i ns) (k : Nat) : RS w0 rb ae aa U (W.drewN k) i ns :=
 h.ext (below_drewN (Below.refl _ _) k)
structure RT (w0 : World) (rb : Nat) (ae aa : Value) (TL : List Tok) (xs : List UInt8) : Prop where
 toks : ∃ tb cap, aa = .slice (some ⟨tb, 0, none⟩) TL.length cap /\ tb < rb /\ TL.length <= cap /\ DN w0 tb TL
 laid : Laid w0
 low : 6 < rb
 small : TL.length <= 65537
 src : 0 < xs.length -> ∃ b o cap, ae = .slice (some ⟨b, o, none⟩) xs.length cap /\ b < rb /\ xs.length <= cap /\ Src w0 b o xs
 len : xs.length <= 65536
 inb : ∀ i (h : i < TL.length), TL[i].kind ≠ 0 -> 1 <= TL[i].len /\ TL[i].place + TL[i].len <= xs.length
theorem gT {W : World} {rb : Nat} {ae aa nv : Value} {i : Nat} (h : W.heap[rb]? = some (rdO ae aa i nv)) : W.cell? ⟨rb, 0, none⟩ = some ae /\ W.cell? ⟨rb, 1, none⟩ = some aa /\ W.cell? ⟨rb, 2, none⟩ = some (.int .i64 i) /\ W.cell? ⟨rb, 3, none⟩ = some nv /\ rb < W.heap.size := by
 refine ⟨?_, ?_, ?_, ?_, aY h⟩ <;> simp [World.cell?, h, rdO]
theorem RT.tok {w0 : World} {rb : Nat} {ae aa : Value} {TL : List Tok} {xs : List UInt8} (h : RT w0 rb ae aa TL xs) {W : World} (hb : Below rb w0 W) {i : Nat} (hi : i < TL.length) :
  ∃ tb cap, aa = .slice (some ⟨tb, 0, none⟩) TL.length cap /\ tb < rb /\ TL.length <= cap /\ W.cell? ⟨tb, i * 4, none⟩ = some (.int .i64 TL[i].kind) /\ W.cell? ⟨tb, i * 4 + 1, none⟩ = some (.int .i64 TL[i].place) /\ W.cell? ⟨tb, i * 4 + 2, none⟩ = some (.int .i64 TL[i].len) /\ W.cell? ⟨tb, i * 4 + 3, none⟩ = some (.int .i64 TL[i].num) := by
 obtain ⟨tb, cap, e, h1, h2, h3⟩ := h.toks
 obtain ⟨q0, q1, q2, q3⟩ := h3.at_ i hi
 have hc : ∀ k, W.cell? ⟨tb, k, none⟩ = w0.cell? ⟨tb, k, none⟩ := fun k => hb.cell (p := ⟨tb, k, none⟩) h1
 exact ⟨tb, cap, e, h1, h2, by rw [hc]; exact q0, by rw [hc]; exact q1, by rw [hc]; exact q2, by rw [hc]; exact q3⟩
theorem wN {w0 W : World} {rb : Nat} (h : Laid w0) (hr : 6 < rb) (hb : Below rb w0 W) : Laid W := by
 have hs := h.size
 have hz := hb.size
 have hc : ∀ g k, g < 7 -> W.cell? ⟨g, k, none⟩ = w0.cell? ⟨g, k, none⟩ := fun g k hg => hb.cell (p := ⟨g, k, none⟩) (by show g < rb; omega)
 refine ⟨fun i hi => ?_, fun i hi => ?_, ?_, by omega⟩
 ·rw [hc _ _ (by decide)]; exact h.words i hi
 ·rw [hc _ _ (by decide)]; exact h.signs i hi
 ·obtain ⟨te, pe, hh⟩ := h.range
  exact ⟨te, pe, by rw [hc _ _ (by decide)]; exact hh⟩
theorem iJ {w0 : World} {rb : Nat} {ae aa : Value} {U : Nat -> Prop} {TL : List Tok} {xs : List UInt8} (hT : RT w0 rb ae aa TL xs) {W : World} {i : Nat} {ns : List Nd} (hS : RS w0 rb ae aa U W i ns) (hi : i < TL.length) :
  Calls Tryz.prog 84 #[.pointer (some ⟨rb, 0, none⟩)] W fun e W' => e = .returned (Go.Proofs.YtecodpdfckjalaaGreatDoor.aa TL[i]) /\ Below W.heap.size W W' := by
 obtain ⟨nv, hr, _⟩ := hS.rd
 obtain ⟨c0, c1, c2, c3, hlt⟩ := gT hr
 obtain ⟨tb, cap, rfl, h1, h2, q0, q1, q2, q3⟩ := hT.tok hS.bel hi
 have hsm := hT.small
 have htb : tb < W.heap.size := by omega
 generalize TL[i] = t at *
 generalize TL.length = n at *
 clear hS hT hr
 go_enter Tryz.func84, Tryz.ntmps84
 go_wp2
 go_region
 all_goals
  go_wp2
  refine bodyPost_ret (v := Go.Proofs.YtecodpdfckjalaaGreatDoor.aa t) (by simp [results, Tryz.results84, go_sem, Go.Proofs.YtecodpdfckjalaaGreatDoor.aa]) rfl ⟨rfl, ?_⟩
  exact ((Below.refl _ _).alloc (Nat.le_refl _) _).drew
end Go.Proofs.YtecodpdfckjalaaGreatDoor
namespace Go.Proofs.YtecodpdfckjalaaGreatDoor
open Go.RowKit
variable {w0 : World} {rb : Nat} {ae aa : Value} {TL : List Tok} {xs : List UInt8} {U : Nat -> Prop}
theorem mg (W : World) (a b c d : Value) : (Instr.field 62 (.agg #[a, b, c, d]) 0).run Tryz.prog W = .ok a W := by
 simp [Instr.field, go_sem, Tryz.underlying62, asAgg]
theorem dC (W : World) (a b c d : Value) : (Instr.field 62 (.agg #[a, b, c, d]) 1).run Tryz.prog W = .ok b W := by
 simp [Instr.field, go_sem, Tryz.underlying62, asAgg]
theorem JC (W : World) (a b c d : Value) : (Instr.field 62 (.agg #[a, b, c, d]) 2).run Tryz.prog W = .ok c W := by
 simp [Instr.field, go_sem, Tryz.underlying62, asAgg]
theorem JD (W : World) (a b c d : Value) : (Instr.field 62 (.agg #[a, b, c, d]) 3).run Tryz.prog W = .ok d W := by
 simp [Instr.field, go_sem, Tryz.underlying62, asAgg]
theorem RS.upd {W W' : World} {i i' : Nat} {ns : List Nd} (h : RS w0 rb ae aa U W i ns) (hz : W.heap.size <= W'.heap.size) (hx : ∀ x, x < W.heap.size -> x ≠ rb -> W'.heap[x]? = W.heap[x]?) (hr : ∀ nv, W.heap[rb]? = some (rdO ae aa i nv) -> W'.heap[rb]? = some (rdO ae aa i' nv)) (hb : Below rb w0 W') :
  RS w0 rb ae aa U W' i' ns /\ af rb W W' := by
 obtain ⟨nv, h1, h2⟩ := h.rd
 have hk : af rb W W' := ⟨hz, fun x hx1 hxr _ => hx x hx1 (by omega), .inl (by rw [fO (hr nv h1), fO h1])⟩
 obtain ⟨ks, k1, k2, k3⟩ := h2.ex
 refine ⟨⟨⟨nv, hr nv h1, ⟨ks, k1, ?_, fun j hj hj' => ⟨h.ints (k3 j hj hj').1 hk, (k3 j hj hj').2⟩⟩⟩, hb⟩, hk⟩
 obtain ⟨q1, q2⟩ := k2
 refine ⟨q1, ?_⟩
 rcases q2 with q2 | ⟨g, cap, cur, hv, hg, hh, hr⟩
 ·exact .inl q2
 ·exact .inr ⟨g, cap, cur, hv, hg, by rw [hx g (aY hh) (by omega)]; exact hh, hr⟩
def stepW (rb : Nat) (W : World) (i : Nat) : World := W.setCell ⟨rb, 2, none⟩ (.int .i64 ((i + 1 : Nat) : Int))
theorem RS.step {W : World} {i : Nat} {ns : List Nd} (h : RS w0 rb ae aa U W i ns) : RS w0 rb ae aa U (stepW rb W i) (i + 1) ns /\ af rb W (stepW rb W i) := by
 refine h.upd (by simp [stepW]) (fun x hx hne => ?_) (fun nv hr => ?_) (Below.setCell (p := ⟨rb, 2, none⟩) h.bel (Nat.le_refl _) _)
 ·unfold stepW
  exact heap_setCell_other W ⟨rb, 2, none⟩ x _ (by show x ≠ rb; omega)
 ·unfold stepW
  rw [heap_setCell_same W rb 2 _ 74 _ hr]
  rfl
theorem ou (hT : RT w0 rb ae aa TL xs) {W : World} {i : Nat} {ns : List Nd} (hS : RS w0 rb ae aa U W i ns) (hi : i < TL.length) :
  Calls Tryz.prog 66 #[.pointer (some ⟨rb, 0, none⟩)] W fun e W' => e = .returned (.string ⟨(ax (TL[i].kind : Nat)).toArray⟩) /\ Below W.heap.size W W' := by
 have HN : Bx _ := ⟨iJ hT hS hi⟩
 have HL : Bx (∀ W', Below W.heap.size W W' -> Calls Tryz.prog 83 #[.int .i64 (TL[i].kind : Nat)] W' fun e w' => e = .returned (.string ⟨(ax (TL[i].kind : Nat)).toArray⟩) /\ W' = w') := ⟨fun W' hb => by
  have hl := wN hT.laid hT.low (hS.ext hb).bel
  exact wK _ W' hl.words hl.signs⟩
 unfold Go.Proofs.YtecodpdfckjalaaGreatDoor.aa at HN
 generalize ax (TL[i].kind : Nat) = tx at *
 generalize TL[i] = t at *
 have hf0 := mg
 clear hS hT
 go_enter Tryz.func66, Tryz.ntmps66
 go_wp2_with (first
  | (go_at_call 84; refine Calls.mono HN.out ?_; rintro e W1 ⟨rfl, b1⟩)
  | (go_at_call 83; refine Calls.mono (HL.out _ b1) ?_; rintro e W2 ⟨rfl, rfl⟩))
 go_ret
 exact ⟨rfl, b1⟩
theorem BR (hT : RT w0 rb ae aa TL xs) {W : World} {i : Nat} {ns : List Nd} (hS : RS w0 rb ae aa U W i ns) (hi : i < TL.length) :
  Calls Tryz.prog 68 #[.pointer (some ⟨rb, 0, none⟩)] W fun e W' => e = .returned (.bool (decide (i + 1 = TL.length))) /\ Below W.heap.size W W' := by
 obtain ⟨nv, hr, _⟩ := hS.rd
 obtain ⟨c0, c1, c2, c3, hlt⟩ := gT hr
 obtain ⟨tb, cap, rfl, h1, h2, hx⟩ := hT.tok hS.bel hi
 have hsm := hT.small
 clear hx
 have he : decide (i + 1 = TL.length) = ((i : Int) == (TL.length : Int) - 1) := by
  by_cases h : i + 1 = TL.length
  ·rw [decide_eq_true h]; symm; rw [beq_iff_eq]; omega
  ·rw [decide_eq_false h]; symm; rw [beq_eq_false_iff_ne]; omega
 rw [he]
 clear hS hT hr he
 generalize TL.length = n at *
 go_enter Tryz.func68, Tryz.ntmps68
 go_wp2
 go_quiet (fail)
 go_wp2
 go_ret
 exact ⟨rfl, below_drewN (Below.refl _ _) _⟩
theorem tV {x : List UInt8} {s : ByteArray} : ((⟨x.toArray⟩ : ByteArray).toList == s.toList) = decide (x = s.data.toList) := by
 rw [ByteArray.toList_eq, ByteArray.toList_eq]
 by_cases h : x = s.data.toList
 ·rw [decide_eq_true h, beq_iff_eq, h]
 ·rw [decide_eq_false h, beq_eq_false_iff_ne]
  exact h
theorem AL (hT : RT w0 rb ae aa TL xs) {W : World} {i : Nat} {ns : List Nd} (hS : RS w0 rb ae aa U W i ns) (hi : i < TL.length) (s : ByteArray) (hs : ¬ ax (TL[i].kind : Nat) = s.data.toList) :
  Calls Tryz.prog 102 #[.pointer (some ⟨rb, 0, none⟩), .string s] W fun e W' => e = .returned (.bool false) /\ Below W.heap.size W W' := by
 have HN : Bx _ := ⟨ou hT hS hi⟩
 have hb : ((⟨(ax (TL[i].kind : Nat)).toArray⟩ : ByteArray).toList == s.toList) = false := by rw [tV]; exact decide_eq_false hs
 generalize (⟨(ax (TL[i].kind : Nat)).toArray⟩ : ByteArray) = tx at *
 clear hS hT hs
 go_enter Tryz.func102, Tryz.ntmps102
 go_wp2_with (first
  | (go_at_call 66; refine Calls.mono HN.out ?_; rintro e W1 ⟨rfl, b1⟩))
 go_ret
 exact ⟨rfl, b1⟩
theorem wO (hT : RT w0 rb ae aa TL xs) {W : World} {i : Nat} {ns : List Nd} (hS : RS w0 rb ae aa U W i ns) (hi : i < TL.length) (s : ByteArray) (hs : ax (TL[i].kind : Nat) = s.data.toList) :
  Calls Tryz.prog 102 #[.pointer (some ⟨rb, 0, none⟩), .string s] W fun e W' => e = .returned (.bool true) /\ RS w0 rb ae aa U W' (i + 1) ns /\ af rb W W' := by
 have HN : Bx _ := ⟨ou hT hS hi⟩
 have hb : ((⟨(ax (TL[i].kind : Nat)).toArray⟩ : ByteArray).toList == s.toList) = true := by rw [tV]; exact decide_eq_true hs
 have HC : Bx (∀ W1, Below W.heap.size W W1 -> ∃ nv, W1.heap[rb]? = some (rdO ae aa i nv)) := ⟨fun W1 b => by
  obtain ⟨nv, h, _⟩ := (hS.ext b).rd
  exact ⟨nv, h⟩⟩
 have HE : Bx (∀ W1, Below W.heap.size W W1 -> RS w0 rb ae aa U (stepW rb W1 i) (i + 1) ns /\ af rb W (stepW rb W1 i)) := ⟨fun W1 b => by
  obtain ⟨h1, h2⟩ := (hS.ext b).step
  exact ⟨h1, (af.ext hS.lt b).trans h2⟩⟩
 have hsm := hT.small
 generalize (⟨(ax (TL[i].kind : Nat)).toArray⟩ : ByteArray) = tx at *
 clear hS hT hs
 generalize TL.length = n at *
 go_enter Tryz.func102, Tryz.ntmps102
 go_wp2_with (first
  | (go_at_call 66; refine Calls.mono HN.out ?_; rintro e W1 ⟨rfl, b1⟩; obtain ⟨nv, hr⟩ := HC.out W1 b1; obtain ⟨c0, c1, c2, c3, hlt⟩ := gT hr; have hfz : W1.frozen? ⟨rb, 2, none⟩ = false := (by simp [World.frozen?, hr, rdO]); clear hr))
 go_ret
 exact ⟨rfl, HE.out _ b1⟩
end Go.Proofs.YtecodpdfckjalaaGreatDoor
namespace Go.Proofs.YtecodpdfckjalaaGreatDoor
open Go.RowKit
variable {w0 : World} {rb : Nat} {ae aa : Value} {TL : List Tok} {xs : List UInt8} {U : Nat -> Prop}
def ak (p : Nat) : Ending := .panicked [{ v := .iface 30 (.agg #[.int .i64 p, .int .i64 30]), recovered := false }]
theorem qf (hT : RT w0 rb ae aa TL xs) {W : World} {i : Nat} {ns : List Nd} (hS : RS w0 rb ae aa U W i ns) (hi : i < TL.length) :
  Calls Tryz.prog 103 #[.pointer (some ⟨rb, 0, none⟩)] W fun e W' => e = ak TL[i].place /\ Below rb w0 W' := by
 have HN : Bx _ := ⟨iJ hT hS hi⟩
 have HE : Bx (∀ W1, Below W.heap.size W W1 -> Below rb w0 W1) := ⟨fun W1 b => (hS.ext b).bel⟩
 unfold Go.Proofs.YtecodpdfckjalaaGreatDoor.aa at HN
 have hf1 := dC
 generalize TL[i] = t at *
 clear hS hT
 go_enter Tryz.func103, Tryz.ntmps103
 go_wp2_with (first
  | (go_at_call 84; refine Calls.mono HN.out ?_; rintro e W1 ⟨rfl, b1⟩))
 exact ⟨rfl, rfl, HE.out _ b1⟩
theorem DR (hT : RT w0 rb ae aa TL xs) {W : World} {i : Nat} {ns : List Nd} (hS : RS w0 rb ae aa U W i ns) (hi : i < TL.length) (s : ByteArray) (hs : ax (TL[i].kind : Nat) = s.data.toList) :
  Calls Tryz.prog 85 #[.pointer (some ⟨rb, 0, none⟩), .string s] W fun e W' => e = .returned (.int .i64 TL[i].place) /\ RS w0 rb ae aa U W' (i + 1) ns /\ af rb W W' := by
 have HN : Bx _ := ⟨iJ hT hS hi⟩
 have HK : Bx (∀ W1, Below W.heap.size W W1 -> _) := ⟨fun W1 b => wO hT (hS.ext b) hi s hs⟩
 have hrW := hS.lt
 unfold Go.Proofs.YtecodpdfckjalaaGreatDoor.aa at HN
 have hf1 := dC
 generalize TL[i] = t at *
 clear hS hT hs
 go_enter Tryz.func85, Tryz.ntmps85
 go_wp2_with (first
  | (go_at_call 84; refine Calls.mono HN.out ?_; rintro e W1 ⟨rfl, b1⟩)
  | (go_at_call 102; refine Calls.mono (HK.out _ b1) ?_; rintro e W2 ⟨rfl, q1, q2⟩))
 go_ret
 exact ⟨rfl, q1, (af.ext hrW b1).trans q2⟩
theorem FX (hT : RT w0 rb ae aa TL xs) {W : World} {i : Nat} {ns : List Nd} (hS : RS w0 rb ae aa U W i ns) (hi : i < TL.length) (s : ByteArray) (hs : ¬ ax (TL[i].kind : Nat) = s.data.toList) :
  Calls Tryz.prog 85 #[.pointer (some ⟨rb, 0, none⟩), .string s] W fun e W' => e = ak TL[i].place /\ Below rb w0 W' := by
 have HN : Bx _ := ⟨iJ hT hS hi⟩
 have HK : Bx (∀ W1, Below W.heap.size W W1 -> _) := ⟨fun W1 b => AL hT (hS.ext b) hi s hs⟩
 have HR : Bx (∀ W1, Below W.heap.size W W1 -> _) := ⟨fun W1 b => qf hT (hS.ext b) hi⟩
 unfold Go.Proofs.YtecodpdfckjalaaGreatDoor.aa at HN
 have hf1 := dC
 generalize TL[i] = t at *
 clear hS hT hs
 go_enter Tryz.func85, Tryz.ntmps85
 go_wp2_with (first
  | (go_at_call 84; refine Calls.mono HN.out ?_; rintro e W1 ⟨rfl, b1⟩)
  | (go_at_call 102; refine Calls.mono (HK.out _ b1) ?_; rintro e W2 ⟨rfl, b2⟩; have b3 := b1.trans (b2.mono b1.size))
  | (go_at_call 103; refine Calls.mono (HR.out _ b3) ?_; rintro e W3 ⟨rfl, b4⟩; unfold ak))
 exact ⟨rfl, rfl, b4⟩
end Go.Proofs.YtecodpdfckjalaaGreatDoor
namespace Go.Proofs.YtecodpdfckjalaaGreatDoor
open Go.RowKit
variable {w0 : World} {rb : Nat} {ae aa : Value} {TL : List Tok} {xs : List UInt8} {U : Nat -> Prop}
def wP (xs : List UInt8) (t : Tok) : ai := ⟨t.kind, t.place, t.num, cut xs t.place (t.place + t.len)⟩
def pts (xs : List UInt8) (TL : List Tok) (i : Nat) : List ai := (TL.drop i).map (wP xs)
theorem fQ {i : Nat} (hi : i < TL.length) : pts xs TL i = wP xs TL[i] :: pts xs TL (i + 1) := by
 unfold pts
 rw [List.drop_eq_getElem_cons hi, List.map_cons]
theorem iK {i : Nat} (hi : i < TL.length) : kd (pts xs TL i) = TL[i].kind := by rw [fQ hi]; rfl
theorem ow {i : Nat} (hi : i < TL.length) : tl (pts xs TL i) = pts xs TL (i + 1) := by rw [fQ hi]; rfl
theorem mh {i : Nat} (hi : i < TL.length) : hd (pts xs TL i) = wP xs TL[i] := by rw [fQ hi]; rfl
structure aR (TL : List Tok) : Prop where
 ok : ∀ i (h : i < TL.length), TL[i].kind = 0 ∨ TL[i].kind = 1 ∨ TL[i].kind = 2 ∨ (10 <= TL[i].kind /\ TL[i].kind < 31) ∨ (40 <= TL[i].kind /\ TL[i].kind < 67)
 last : ∀ i (h : i < TL.length), TL[i].kind = 0 ↔ i + 1 = TL.length
theorem pM {k c : Nat} (hk : k = 0 ∨ k = 1 ∨ k = 2 ∨ (10 <= k /\ k < 31) ∨ (40 <= k /\ k < 67)) (hc : (10 <= c /\ c < 31) ∨ (40 <= c /\ c < 67)) : ax (k : Int) = ax (c : Int) ↔ k = c := by
 constructor
 ·intro h
  have hne : ax (c : Int) ≠ [] := by
   have hw : ∀ i : Fin 21, fK.getD i [] ≠ [] := by decide
   have hs : ∀ i : Fin 27, dL.getD i [] ≠ [] := by decide
   unfold ax
   rcases hc with hc | hc
   ·rw [if_pos (by omega)]
    exact hw ⟨((c : Int) - 10).toNat, by omega⟩
   ·rw [if_neg (by omega), if_pos (by omega)]
    exact hs ⟨((c : Int) - 40).toNat, by omega⟩
  have h1 := tQ (c : Int) hne
  have h2 := tQ (k : Int) (by rw [h]; exact hne)
  rw [h] at h2
  omega
 ·intro h; rw [h]
theorem DT (hT : RT w0 rb ae aa TL xs) (hK : aR TL) {W : World} {i : Nat} {ns : List Nd} (hS : RS w0 rb ae aa U W i ns) (hi : i < TL.length) (c : Nat) (hc : (10 <= c /\ c < 31) ∨ (40 <= c /\ c < 67)) (s : ByteArray) (hs : ax (c : Int) = s.data.toList) :
  Calls Tryz.prog 85 #[.pointer (some ⟨rb, 0, none⟩), .string s] W fun e W' => (kd (pts xs TL i) = c /\ e = .returned (.int .i64 TL[i].place) /\ RS w0 rb ae aa U W' (i + 1) ns /\ af rb W W') ∨ (kd (pts xs TL i) ≠ c /\ e = ak TL[i].place /\ Below rb w0 W') := by
 have hiff := pM (hK.ok i hi) hc
 rw [iK hi]
 by_cases h : TL[i].kind = c
 ·exact (DR hT hS hi s ((hiff.2 h).trans hs)).mono fun e W' h' => .inl ⟨h, h'⟩
 ·exact (FX hT hS hi s (fun h' => h (hiff.1 (h'.trans hs.symm)))).mono fun e W' h' => .inr ⟨h, h'⟩
theorem BS (hT : RT w0 rb ae aa TL xs) (hK : aR TL) {W : World} {i : Nat} {ns : List Nd} (hS : RS w0 rb ae aa U W i ns) (hi : i < TL.length) (c : Nat) (hc : (10 <= c /\ c < 31) ∨ (40 <= c /\ c < 67)) (s : ByteArray) (hs : ax (c : Int) = s.data.toList) :
  Calls Tryz.prog 102 #[.pointer (some ⟨rb, 0, none⟩), .string s] W fun e W' => (kd (pts xs TL i) = c /\ e = .returned (.bool true) /\ RS w0 rb ae aa U W' (i + 1) ns /\ af rb W W') ∨ (kd (pts xs TL i) ≠ c /\ e = .returned (.bool false) /\ RS w0 rb ae aa U W' i ns /\ af rb W W') := by
 have hiff := pM (hK.ok i hi) hc
 rw [iK hi]
 by_cases h : TL[i].kind = c
 ·exact (wO hT hS hi s ((hiff.2 h).trans hs)).mono fun e W' h' => .inl ⟨h, h'⟩
 ·exact (AL hT hS hi s (fun h' => h (hiff.1 (h'.trans hs.symm)))).mono fun e W' h' => .inr ⟨h, h'.1, hS.ext h'.2, af.ext hS.lt h'.2⟩
theorem adv (hK : aR TL) {i : Nat} (hi : i < TL.length) (hc : TL[i].kind ≠ 0) : i + 1 < TL.length := by
 have := hK.last i hi
 rcases Nat.lt_or_ge (i + 1) TL.length with h1 | h1
 ·exact h1
 ·exact absurd (this.2 (by omega)) hc
def RSs (w0 : World) (rb : Nat) (ae aa : Value) (TL : List Tok) (xs : List UInt8) (U : Nat -> Prop) (W : World) (s : List ai) (ns : List Nd) : Prop := ∃ i, s = pts xs TL i /\ i < TL.length /\ RS w0 rb ae aa U W i ns /\ ns.length <= i /\ ∀ g, U g -> g < W.heap.size
theorem RSs.ext {W W' : World} {s : List ai} {ns : List Nd} (h : RSs w0 rb ae aa TL xs U W s ns) (hb : Below W.heap.size W W') : RSs w0 rb ae aa TL xs U W' s ns := by
 obtain ⟨i, h1, h2, h3, h4, h5⟩ := h
 exact ⟨i, h1, h2, h3.ext hb, h4, fun g hg => by have := h5 g hg; have := hb.size; omega⟩
theorem RSs.lt {W : World} {s : List ai} {ns : List Nd} (h : RSs w0 rb ae aa TL xs U W s ns) : rb < W.heap.size := by
 obtain ⟨i, h1, h2, h3, h4⟩ := h
 exact h3.lt
theorem RSs.bel {W : World} {s : List ai} {ns : List Nd} (h : RSs w0 rb ae aa TL xs U W s ns) : Below rb w0 W := by
 obtain ⟨i, h1, h2, h3, h4⟩ := h
 exact h3.bel
theorem RSs.ints {W W' : World} {s : List ai} {ns : List Nd} (h : RSs w0 rb ae aa TL xs U W s ns) {v : Value} {ys : List Int} (hI : aQ W rb v ys) (hk : af rb W W') : aQ W' rb v ys := by
 obtain ⟨i, h1, h2, h3, h4⟩ := h
 exact h3.ints hI hk
theorem bF (hT : RT w0 rb ae aa TL xs) (hK : aR TL) {W : World} {s : List ai} {ns : List Nd} (h : RSs w0 rb ae aa TL xs U W s ns) (c : Nat) (hc : (10 <= c /\ c < 31) ∨ (40 <= c /\ c < 67)) (tx : ByteArray) (ht : ax (c : Int) = tx.data.toList) :
  Calls Tryz.prog 85 #[.pointer (some ⟨rb, 0, none⟩), .string tx] W fun e W' => (kd s = c /\ e = .returned (.int .i64 (hd s).place) /\ RSs w0 rb ae aa TL xs U W' (tl s) ns /\ (tl s).length + 1 = s.length /\ af rb W W') ∨ (kd s ≠ c /\ e = ak (hd s).place /\ Below rb w0 W') := by
 obtain ⟨i, rfl, hi, hS, hni, hU⟩ := h
 refine (DT hT hK hS hi c hc tx ht).mono ?_
 rintro e W' (⟨h1, h2, h3, h4⟩ | ⟨h1, h2, h3⟩)
 ·refine .inl ⟨h1, by rw [h2, mh hi]; rfl, ⟨i + 1, by rw [ow hi], adv hK hi (by rw [iK hi] at h1; omega), h3, by omega, fun g hg => by have := hU g hg; have := h4.size; omega⟩, by rw [fQ hi]; rfl, h4⟩
 ·exact .inr ⟨h1, by rw [h2, mh hi]; rfl, h3⟩
theorem iP (hT : RT w0 rb ae aa TL xs) (hK : aR TL) {W : World} {s : List ai} {ns : List Nd} (h : RSs w0 rb ae aa TL xs U W s ns) (c : Nat) (hc : (10 <= c /\ c < 31) ∨ (40 <= c /\ c < 67)) (tx : ByteArray) (ht : ax (c : Int) = tx.data.toList) :
  Calls Tryz.prog 102 #[.pointer (some ⟨rb, 0, none⟩), .string tx] W fun e W' => (kd s = c /\ e = .returned (.bool true) /\ RSs w0 rb ae aa TL xs U W' (tl s) ns /\ (tl s).length + 1 = s.length /\ af rb W W') ∨ (kd s ≠ c /\ e = .returned (.bool false) /\ RSs w0 rb ae aa TL xs U W' s ns /\ af rb W W') := by
 obtain ⟨i, rfl, hi, hS, hni, hU⟩ := h
 refine (BS hT hK hS hi c hc tx ht).mono ?_
 rintro e W' (⟨h1, h2, h3, h4⟩ | ⟨h1, h2, h3, h4⟩)
 ·exact .inl ⟨h1, h2, ⟨i + 1, by rw [ow hi], adv hK hi (by rw [iK hi] at h1; omega), h3, by omega, fun g hg => by have := hU g hg; have := h4.size; omega⟩, by rw [fQ hi]; rfl, h4⟩
 ·exact .inr ⟨h1, h2, ⟨i, rfl, hi, h3, hni, fun g hg => by have := hU g hg; have := h4.size; omega⟩, h4⟩
theorem dO (hT : RT w0 rb ae aa TL xs) {W : World} {s : List ai} {ns : List Nd} (h : RSs w0 rb ae aa TL xs U W s ns) :
  Calls Tryz.prog 66 #[.pointer (some ⟨rb, 0, none⟩)] W fun e W' => e = .returned (.string ⟨(ax (kd s : Nat)).toArray⟩) /\ Below W.heap.size W W' := by
 obtain ⟨i, rfl, hi, hS, hni, hU⟩ := h
 rw [iK hi]
 exact ou hT hS hi
theorem eP (hT : RT w0 rb ae aa TL xs) {W : World} {s : List ai} {ns : List Nd} (h : RSs w0 rb ae aa TL xs U W s ns) :
  Calls Tryz.prog 84 #[.pointer (some ⟨rb, 0, none⟩)] W fun e W' => ∃ n : Nat, e = .returned (.agg #[.int .i64 (kd s), .int .i64 (hd s).place, .int .i64 n, .int .i64 (hd s).num]) /\ Below W.heap.size W W' := by
 obtain ⟨i, rfl, hi, hS, hni, hU⟩ := h
 refine (iJ hT hS hi).mono ?_
 rintro e W' ⟨h1, h2⟩
 refine ⟨TL[i].len, ?_, h2⟩
 rw [h1, iK hi, mh hi]
 rfl
theorem AO (hK : aR TL) {W : World} {s : List ai} {ns : List Nd} (h : RSs w0 rb ae aa TL xs U W s ns) : kd s = 0 ∨ kd s = 1 ∨ kd s = 2 ∨ (10 <= kd s /\ kd s < 31) ∨ (40 <= kd s /\ kd s < 67) := by
 obtain ⟨i, rfl, hi, hS, hni, hU⟩ := h
 rw [iK hi]
 exact hK.ok i hi
def aj (w0 : World) (rb : Nat) (ae aa : Value) (TL : List Tok) (xs : List UInt8) (U : Nat -> Prop) (W : World) (s : List ai) (ns : List Nd) (res : Res) (e : Ending) (W' : World) : Prop :=
 match res with
 | .ok ts s' => ts.length = 1 /\ s'.length + sizes ts <= s.length /\ e = .returned (.int .i64 ((ns.length + sizes ts - 1 : Nat) : Int)) /\ RSs w0 rb ae aa TL xs U W' s' (ns ++ ag ts ns.length) /\ af rb W W'
 | .err s' => e = ak (hd s').place /\ Below rb w0 W'
 | .out => False
def RC (w0 : World) (rb : Nat) (ae aa : Value) (TL : List Tok) (xs : List UInt8) (S : List ai -> Res) (F : Nat) (vs : Array Value) : Prop :=
 ∀ U W s ns, RSs w0 rb ae aa TL xs U W s ns -> S s ≠ .out -> Calls Tryz.prog F (#[.pointer (some ⟨rb, 0, none⟩)] ++ vs) W (aj w0 rb ae aa TL xs U W s ns (S s))
theorem aK {ts : List Tr} (h : ts.length = 1) (o : Nat) : ends ts o = [((o + sizes ts - 1 : Nat) : Int)] := by
 match ts, h with
 | [t], _ => simp [ends, sizes]
theorem bD : ∀ (a b : List Tr) (o : Nat), ends (a ++ b) o = ends a o ++ ends b (o + sizes a)
 | [], b, o => by simp [ends, sizes]
 | t :: r, b, o => by
  rw [List.cons_append, ends, ends, bD r b, sizes, List.cons_append, Nat.add_assoc]
theorem mZ : ∀ (a b : List Tr) (o : Nat), ag (a ++ b) o = ag a o ++ ag b (o + sizes a)
 | [], b, o => by simp [ag, sizes]
 | t :: r, b, o => by
  rw [List.cons_append, ag, ag, mZ r b, sizes, List.append_assoc, Nat.add_assoc]
theorem bP (ns : List Nd) (a b : List Tr) : (ns ++ ag a ns.length) ++ ag b (ns ++ ag a ns.length).length = ns ++ ag (a ++ b) ns.length := by
 rw [mZ, List.append_assoc, List.length_append, dU]
theorem dV (ns : List Nd) (a : List Tr) : (ns ++ ag a ns.length).length = ns.length + sizes a := by rw [List.length_append, dU]
theorem aG {c : Nat} {s : List ai} {k : List ai -> Res} (h : kd s = c) : want c s k = k (tl s) := by
 unfold want
 rw [if_pos h]
theorem aL {c : Nat} {s : List ai} {k : List ai -> Res} (h : kd s ≠ c) : want c s k = .err s := by
 unfold want
 rw [if_neg h]
theorem gZ {s : List ai} {k : List UInt8 -> List ai -> Res} (h : kd s = 1) : dJ s k = k (hd s).name (tl s) := by
 unfold dJ
 rw [if_pos h]
theorem jh {s : List ai} {k : List UInt8 -> List ai -> Res} (h : kd s ≠ 1) : dJ s k = .err s := by
 unfold dJ
 rw [if_neg h]
theorem wQ {s : List ai} {k : Nat -> List ai -> Res} (h : kd s = 2) : gN s k = k (hd s).num (tl s) := by
 unfold gN
 rw [if_pos h]
theorem DU {s : List ai} {k : Nat -> List ai -> Res} (h : kd s ≠ 2) : gN s k = .err s := by
 unfold gN
 rw [if_neg h]
theorem dz {W : World} {o : Array Value} {ys : List Int} {n : Nat} (hn : ys.length = n) (h0 : 0 < n) (hm : n <= 100) (hr : rb < W.heap.size) (ho : o.toList = bM ys) : aQ (W.alloc (.cells o 3)) rb (.slice (some ⟨W.heap.size, 0, none⟩) n n) ys := by
 unfold aQ
 rw [hn]
 have hl : o.size = n := by
  have := congrArg List.length ho
  simpa [bM, hn] using this
 refine ⟨by simp [bM, hn], .inr ⟨W.heap.size, n, o, rfl, by omega, heap_alloc_new W _, Nat.le_refl _, by unfold maxLen; omega, by omega, ?_⟩⟩
 rw [ho, List.take_of_length_le (by simp [bM, hn])]
end Go.Proofs.YtecodpdfckjalaaGreatDoor
namespace Go.Proofs.YtecodpdfckjalaaGreatDoor
open Go.RowKit
variable {w0 : World} {rb : Nat} {ae aa : Value} {TL : List Tok} {xs : List UInt8} {U : Nat -> Prop}
def DV : Value := .agg #[.int .i64 0, .int .i64 0, .slice none 0 0, .string ⟨#[]⟩, .int .i64 0]
theorem JE : (Tryz.prog.info? 44).map (fun i => (i.zero, i.size, i.bytes)) = some (some DV, 5, 64) := by kernel_rfl
theorem tX (n : Nd) (k : Option Addr × Nat) : ∀ (ns : List Nd) (ks : List (Option Addr × Nat)), ks.length = ns.length -> oq (ns ++ [n]) (ks ++ [k]) = oq ns ks ++ ndC n k
 | [], [], _ => by simp [oq]
 | x :: r, y :: q, h => by
  simp only [List.cons_append, oq]
  rw [tX n k r q (by simpa using h), List.append_assoc]
theorem FY (X : World) (H : Nat) (hH : X.heap.size = H) (a b c d e : Value) : ∀ (j : Nat) (u : Value), [a, b, c, d, e][j]? = some u -> (X.alloc (.cells #[a, b, c, d, e] 44)).drew.cell? ((⟨H, 0, none⟩ : Addr).add j) = some u := by
 subst hH
 have h := heap_alloc_new X (.cells #[a, b, c, d, e] 44)
 exact World.news_of_block (w := (X.alloc (.cells #[a, b, c, d, e] 44)).drew) (cs := #[a, b, c, d, e]) h
theorem JF (a b d e : Value) (k : Option Addr) (m c : Nat) (ha : a.oneCell' = true) (hb : b.oneCell' = true) (hd : d.oneCell' = true) (he : e.oneCell' = true) : ∀ u ∈ [a, b, .slice k m c, d, e], u.oneCell' = true := by
 intro u hu
 simp only [List.mem_cons, List.not_mem_nil, or_false] at hu
 rcases hu with rfl | rfl | rfl | rfl | rfl
 ·exact ha
 ·exact hb
 ·rfl
 ·exact hd
 ·exact he
theorem RS.added {W w1 : World} {i : Nat} {ns : List Nd} {nv : Value} {ks : List (Option Addr × Nat)} (hS : RS w0 rb ae aa U W i ns) (k1 : ks.length = ns.length) (k3 : ∀ j (h : j < ns.length) (h' : j < ks.length), aQ W rb (.slice ks[j].1 ns[j].kids.length ks[j].2) ns[j].kids /\ ∀ g, ks[j].1 = some ⟨g, 0, none⟩ -> ¬ U g) (n : Nd) (ka : Option Addr) (kc : Nat) (hk : aQ W rb (.slice ka n.kids.length kc) n.kids) (hkU : ∀ g, ka = some ⟨g, 0, none⟩ -> ¬ U g)
  (hr0 : W.heap[rb]? = some (rdO ae aa i nv)) (hr1 : w1.heap[rb]? = some (rdO ae aa i nv)) (hkp : af rb W w1) (hb : Below rb w0 w1) (g cap H : Nat) (hat : nv.ownBlock = some g ∨ g = H) (hH : W.heap.size <= H) (hown : w1.ownsRow (rb + 1) 44 5 (.slice (some ⟨g, 0, none⟩) (ns.length + 1) cap) (ns.length + 1) (oq ns ks ++ ndC n (ka, kc))) :
  RS w0 rb ae aa U (w1.setCell ⟨rb, 3, none⟩ (.slice (some ⟨g, 0, none⟩) (ns.length + 1) cap)) i (ns ++ [n]) /\ af rb W (w1.setCell ⟨rb, 3, none⟩ (.slice (some ⟨g, 0, none⟩) (ns.length + 1) cap)) := by
 generalize hv0 : (.slice (some ⟨g, 0, none⟩) (ns.length + 1) cap : Value) = v at *
 have hr2 : (w1.setCell ⟨rb, 3, none⟩ v).heap[rb]? = some (rdO ae aa i v) := by
  rw [heap_setCell_same w1 rb 3 _ 74 _ hr1]
  rfl
 have hkw : af rb W (w1.setCell ⟨rb, 3, none⟩ v) := by
  refine ⟨by have := hkp.size; simp; omega, fun x hx hxr ho => ?_, ?_⟩
  ·rw [heap_setCell_other w1 ⟨rb, 3, none⟩ x _ (by show x ≠ rb; omega)]
   exact hkp.same x hx hxr ho
  ·rw [fO hr2, fO hr0, ← hv0]
   rcases hat with h | h
   ·left
    rw [h]
    rfl
   ·right
    exact ⟨g, rfl, by omega⟩
 refine ⟨⟨⟨v, hr2, ⟨ks ++ [(ka, kc)], by simp [k1], ?_, fun j hj hj' => ?_⟩⟩, ?_⟩, hkw⟩
 ·rw [tX n (ka, kc) ns ks k1, List.length_append]
  obtain ⟨q1, q2⟩ := hown
  refine ⟨q1, ?_⟩
  rcases q2 with q2 | ⟨g, cap, cur, hv, hg, hh, hr⟩
  ·exact .inl q2
  ·refine .inr ⟨g, cap, cur, hv, hg, ?_, hr⟩
   rw [heap_setCell_other w1 ⟨rb, 3, none⟩ g _ (by show g ≠ rb; omega)]
   exact hh
 ·by_cases hj2 : j < ns.length
  ·have h1 := hS.ints (k3 j hj2 (by omega)).1 hkw
   have h2 := (k3 j hj2 (by omega)).2
   have e : (ks ++ [(ka, kc)])[j] = ks[j]'(by omega) := by simp [List.getElem_append, hj2, k1]
   have e2 : (ns ++ [n])[j] = ns[j] := by simp [List.getElem_append, hj2]
   rw [e, e2]
   exact ⟨h1, h2⟩
  ·have hje : j = ns.length := by simp at hj; omega
   subst hje
   have h1 := hS.ints hk hkw
   have e : (ks ++ [(ka, kc)])[ns.length] = (ka, kc) := by simp [List.getElem_append, k1]
   have e2 : (ns ++ [n])[ns.length] = n := by simp
   rw [e, e2]
   exact ⟨h1, hkU⟩
 ·exact Below.setCell (p := ⟨rb, 3, none⟩) hb (Nat.le_refl _) _
theorem uX {W : World} {i : Nat} {ns : List Nd} (hS : RS w0 rb ae aa U W i ns) (kd ps num : Int) (nm : ByteArray) (kv : Value) (ka : Option Addr) (kc : Nat) (kids : List Int) (hk : aQ W rb (.slice ka kids.length kc) kids) (hkU : ∀ g, ka = some ⟨g, 0, none⟩ -> ¬ U g) (hn : ns.length <= 1000000) :
  Calls Tryz.prog 70 #[.pointer (some ⟨rb, 0, none⟩), .agg #[.int .i64 kd, .int .i64 ps, kv, .string nm, .int .i64 num], .slice ka kids.length kc] W fun e W' => e = .returned (.int .i64 ns.length) /\ RS w0 rb ae aa U W' i (ns ++ [⟨kd, ps, kids, nm, num⟩]) /\ af rb W W' := by
 obtain ⟨i0, hi, hz0, hz1, hz2⟩ := info_parts JE
 obtain ⟨nv, hr, hN⟩ := hS.rd
 obtain ⟨c0, c1, c2, c3, hlt⟩ := gT hr
 obtain ⟨ks, k1, k2, k3⟩ := hN.ex
 have HO : Bx (∀ W1, Below W.heap.size W W1 -> W1.ownsRow (rb + 1) 44 5 nv ns.length (oq ns ks)) := ⟨fun W1 b => bO k2 b⟩
 have f3 : W.frozen? ⟨rb, 3, none⟩ = false := by simp [World.frozen?, hr, rdO]
 have HG : Bx (∀ w1, ((W.alloc (.cells #[.int .i64 kd, .int .i64 ps, .slice ka kids.length kc, .string nm, .int .i64 num] 44)).alloc (.cells #[.int .i64 kd, .int .i64 ps, .slice ka kids.length kc, .string nm, .int .i64 num] 44)).drew.grownBy w1 nv.ownBlock -> w1.heap[rb]? = some (rdO ae aa i nv) /\ af rb W w1 /\ Below rb w0 w1) := ⟨fun w1 hg => by
  have hb2 : Below W.heap.size W ((W.alloc (.cells #[.int .i64 kd, .int .i64 ps, .slice ka kids.length kc, .string nm, .int .i64 num] 44)).alloc (.cells #[.int .i64 kd, .int .i64 ps, .slice ka kids.length kc, .string nm, .int .i64 num] 44)).drew := (((Below.refl _ _).alloc (Nat.le_refl _) _).alloc (by simp) _).drew
  have hne : ∀ x, some x = nv.ownBlock -> rb + 1 <= x := fun x hx => (k2.lt x hx.symm).1
  have hr1 : w1.heap[rb]? = some (rdO ae aa i nv) := by
   rw [hg.block rb (by have := hb2.size; omega) (fun e => by have := hne rb e; omega), hb2.block rb hlt]
   exact hr
  refine ⟨hr1, ⟨?_, ?_, .inl (by rw [fO hr1, fO hr])⟩, ?_⟩
  ·have := hb2.size
   have := hg.size
   omega
  ·intro x hx hlx ho
   rw [fO hr] at ho
   rw [hg.block x (by have := hb2.size; omega) (fun e => ho e.symm), hb2.block x hx]
  ·exact Below.grown (hS.bel.trans (hb2.mono (by omega))) hg (by have := hb2.size; omega) (fun x hx => by have := hne x hx.symm; omega)⟩
 have HF : Bx (∀ g cap w1, w1.heap[rb]? = some (rdO ae aa i nv) -> af rb W w1 -> Below rb w0 w1 -> (nv.ownBlock = some g ∨ g = W.heap.size + 2) -> w1.ownsRow (rb + 1) 44 5 (.slice (some ⟨g, 0, none⟩) (ns.length + 1) cap) (ns.length + 1) (oq ns ks ++ [.int .i64 kd, .int .i64 ps, .slice ka kids.length kc, .string nm, .int .i64 num]) -> RS w0 rb ae aa U (w1.setCell ⟨rb, 3, none⟩ (.slice (some ⟨g, 0, none⟩) (ns.length + 1) cap)) i (ns ++ [⟨kd, ps, kids, nm, num⟩]) /\ af rb W (w1.setCell ⟨rb, 3, none⟩ (.slice (some ⟨g, 0, none⟩) (ns.length + 1) cap))) := ⟨fun g cap w1 h1 h2 h3 h4 h5 => RS.added hS k1 k3 ⟨kd, ps, kids, nm, num⟩ ka kc hk hkU hr h1 h2 h3 g cap _ h4 (by omega) h5⟩
 clear hS hr hN k3 hk k2 hkU
 go_enter Tryz.func70, Tryz.ntmps70
 go_wp2
 go_region_law (refine step_append_lies _ rfl (.tmp 13) (.tmp 15) 22 rfl (rb + 1) 44 i0 DV 5 64 Tryz.underlying22 hi hz0 hz1 hz2 rfl (by decide) nv ns.length (oq ns ks) (by simp [Act.eval, Act.put]) (HO.out _ ((((Below.refl _ _).alloc (Nat.le_refl _) _).alloc (by simp) _).drew)) ⟨W.heap.size + 1, 0, none⟩ 1 1 [.int .i64 kd, .int .i64 ps, .slice ka kids.length kc, .string nm, .int .i64 num] (by simp [Act.eval, Act.put]) rfl (FY _ _ (by simp) _ _ _ _ _) (JF _ _ _ _ _ _ _ rfl rfl rfl rfl) (by omega) (by unfold maxLen; omega) (by omega) (by simp; omega) (W.heap.size + 2) (by simp) ?_; intro g cap w1 hown hgrow hat hlt1; obtain ⟨hr1, hkp1, hb1⟩ := HG.out w1 hgrow; obtain ⟨d0, d1, d2, d3, dlt⟩ := gT hr1; have g3 : w1.frozen? ⟨rb, 3, none⟩ = false := (by simp [World.frozen?, hr1, rdO]); have HW := HF.out g cap w1 hr1 hkp1 hb1 hat hown; have HWB : Bx _ := ⟨HW⟩; clear hgrow hat hown HW hr1)
 all_goals
  go_wp2
  go_ret
  exact ⟨by first | rfl | go_num | (congr 2; omega), HWB.out⟩
end Go.Proofs.YtecodpdfckjalaaGreatDoor
namespace Go.Proofs.YtecodpdfckjalaaGreatDoor
open Go.RowKit
variable {w0 : World} {rb : Nat} {ae aa : Value} {TL : List Tok} {xs : List UInt8} {U : Nat -> Prop}
theorem MO {W : World} {x : Nat} {a b c d : Value} (h : W.heap[x]? = some (.cells #[a, b, c, d] 62 (0, 0))) : W.cell? ⟨x, 0, none⟩ = some a /\ W.cell? ⟨x, 1, none⟩ = some b /\ W.cell? ⟨x, 2, none⟩ = some c /\ W.cell? ⟨x, 3, none⟩ = some d /\ W.frozen? ⟨x, 0, none⟩ = false /\ W.frozen? ⟨x, 1, none⟩ = false /\ W.frozen? ⟨x, 2, none⟩ = false /\ W.frozen? ⟨x, 3, none⟩ = false /\ x < W.heap.size := by
 refine ⟨?_, ?_, ?_, ?_, ?_, ?_, ?_, ?_, aY h⟩ <;> simp [World.cell?, World.frozen?, h]
theorem DW {W W1 : World} {i : Nat} {ns : List Nd} (h : RS w0 rb ae aa U W i ns) (b : Below W.heap.size W W1) (hlt : W.heap.size < W1.heap.size) (a1 a2 a3 a4 : Value) (o : Obj) :
  RS w0 rb ae aa U ((((((W1.setCell ⟨rb, 2, none⟩ (.int .i64 ((i : Int) + 1))).setCell ⟨W.heap.size, 0, none⟩ a1).setCell ⟨W.heap.size, 1, none⟩ a2).setCell ⟨W.heap.size, 2, none⟩ a3).setCell ⟨W.heap.size, 3, none⟩ a4).alloc o) (i + 1) ns /\ af rb W ((((((W1.setCell ⟨rb, 2, none⟩ (.int .i64 ((i : Int) + 1))).setCell ⟨W.heap.size, 0, none⟩ a1).setCell ⟨W.heap.size, 1, none⟩ a2).setCell ⟨W.heap.size, 2, none⟩ a3).setCell ⟨W.heap.size, 3, none⟩ a4).alloc o) := by
 have hrW : rb < W.heap.size := by
  obtain ⟨nv, h, _⟩ := h.rd
  exact aY h
 have hs := (h.ext b)
 have b1 : Below rb w0 (W1.setCell ⟨rb, 2, none⟩ (.int .i64 ((i : Int) + 1))) := Below.setCell (p := ⟨rb, 2, none⟩) hs.bel (Nat.le_refl _) _
 have b2 := Below.setCell (p := ⟨W.heap.size, 0, none⟩) b1 (by show rb <= W.heap.size; omega) a1
 have b3 := Below.setCell (p := ⟨W.heap.size, 1, none⟩) b2 (by show rb <= W.heap.size; omega) a2
 have b4 := Below.setCell (p := ⟨W.heap.size, 2, none⟩) b3 (by show rb <= W.heap.size; omega) a3
 have b5 := Below.setCell (p := ⟨W.heap.size, 3, none⟩) b4 (by show rb <= W.heap.size; omega) a4
 have low : ∀ x, x < W.heap.size -> ((((((W1.setCell ⟨rb, 2, none⟩ (.int .i64 ((i : Int) + 1))).setCell ⟨W.heap.size, 0, none⟩ a1).setCell ⟨W.heap.size, 1, none⟩ a2).setCell ⟨W.heap.size, 2, none⟩ a3).setCell ⟨W.heap.size, 3, none⟩ a4).alloc o).heap[x]? = (W1.setCell ⟨rb, 2, none⟩ (.int .i64 ((i : Int) + 1))).heap[x]? := fun x hx => by
  rw [(ah _ o).block x (by simp; omega), heap_setCell_other _ ⟨W.heap.size, 3, none⟩ x _ (by show x ≠ W.heap.size; omega), heap_setCell_other _ ⟨W.heap.size, 2, none⟩ x _ (by show x ≠ W.heap.size; omega), heap_setCell_other _ ⟨W.heap.size, 1, none⟩ x _ (by show x ≠ W.heap.size; omega), heap_setCell_other _ ⟨W.heap.size, 0, none⟩ x _ (by show x ≠ W.heap.size; omega)]
 refine h.upd (by simp; omega) (fun x hx hne => ?_) (fun nv hr => ?_) (b5.alloc (by simp; omega) _)
 ·rw [low x hx, heap_setCell_other W1 ⟨rb, 2, none⟩ x _ (by show x ≠ rb; omega), b.block x hx]
 ·rw [low rb hrW]
  have hr1 : W1.heap[rb]? = some (rdO ae aa i nv) := by rw [b.block rb hrW]; exact hr
  rw [heap_setCell_same W1 rb 2 _ 74 _ hr1]
  rfl
theorem ng (hT : RT w0 rb ae aa TL xs) {W : World} {i : Nat} {ns : List Nd} (hS : RS w0 rb ae aa U W i ns) (hi : i < TL.length) (c : Nat) :
  Calls Tryz.prog 104 #[.pointer (some ⟨rb, 0, none⟩), .int .i64 c] W fun e W' => (TL[i].kind = c /\ e = .returned (Go.Proofs.YtecodpdfckjalaaGreatDoor.aa TL[i]) /\ RS w0 rb ae aa U W' (i + 1) ns /\ af rb W W') ∨ (TL[i].kind ≠ c /\ e = ak TL[i].place /\ Below rb w0 W') := by
 have HN : Bx (∀ W1, Below W.heap.size W W1 -> Calls Tryz.prog 84 #[.pointer (some ⟨rb, 0, none⟩)] W1 fun e W' => e = .returned (Go.Proofs.YtecodpdfckjalaaGreatDoor.aa TL[i]) /\ Below W1.heap.size W1 W') := ⟨fun W1 b => iJ hT (hS.ext b) hi⟩
 have b0 : ∀ o, Below W.heap.size W (W.alloc o) := fun o => ah W o
 have HR : Bx (∀ W1, Below W.heap.size W W1 -> _) := ⟨fun W1 b => qf hT (hS.ext b) hi⟩
 have HC : Bx (∀ W1, Below W.heap.size W W1 -> ∃ nv, W1.heap[rb]? = some (rdO ae aa i nv)) := ⟨fun W1 b => by
  obtain ⟨nv, h, _⟩ := (hS.ext b).rd
  exact ⟨nv, h⟩⟩
 have HE : Bx (∀ W1, Below W.heap.size W W1 -> W.heap.size < W1.heap.size -> ∀ a1 a2 a3 a4 o, _) := ⟨fun W1 b hl a1 a2 a3 a4 o => DW hS b hl a1 a2 a3 a4 o⟩
 have hsm := hT.small
 have hrW : rb < W.heap.size := by
  obtain ⟨nv, h, _⟩ := hS.rd
  exact aY h
 unfold Go.Proofs.YtecodpdfckjalaaGreatDoor.aa at HN ⊢
 have hf0 := mg
 generalize TL[i] = t at *
 clear hS hT
 generalize TL.length = n at *
 by_cases hk : t.kind = c
 ·have d0 : ((t.kind : Int) != (c : Int)) = false := by rw [bne_eq_false_iff_eq]; omega
  go_enter Tryz.func104, Tryz.ntmps104
  go_wp2_with (first
   | (go_at_call 84; refine Calls.mono (HN.out _ (b0 _)) ?_; rintro e W1 ⟨rfl, b1'⟩; have b1 := (b0 _).trans (b1'.mono (b0 _).size); obtain ⟨nv, hr⟩ := HC.out W1 b1; obtain ⟨c0, c1, c2, c3, hlt⟩ := gT hr; have hfz : W1.frozen? ⟨rb, 2, none⟩ = false := (by simp [World.frozen?, hr, rdO]); clear hr; have hR : W1.heap[W.heap.size]? = some (.cells #[.int .i64 0, .int .i64 0, .int .i64 0, .int .i64 0] 62 (0, 0)) := (by rw [b1'.block _ (by simp)]; exact heap_alloc_new W _); obtain ⟨p0, p1, p2, p3, z0, z1, z2, z3, plt⟩ := MO hR; clear hR))
  refine bodyPost_ret (v := .agg #[.int .i64 t.kind, .int .i64 t.place, .int .i64 t.len, .int .i64 t.num]) (by subst hk; simp [results, Tryz.results104, go_sem, p0, p1, p2, p3, plt, Nat.ne_of_lt plt]) rfl (.inl ⟨hk, rfl, HE.out _ b1 plt _ _ _ _ _⟩)
 ·have d0 : ((t.kind : Int) != (c : Int)) = true := by rw [bne_iff_ne]; omega
  go_enter Tryz.func104, Tryz.ntmps104
  go_wp2_with (first
   | (go_at_call 84; refine Calls.mono (HN.out _ (b0 _)) ?_; rintro e W1 ⟨rfl, b1'⟩; have b1 := (b0 _).trans (b1'.mono (b0 _).size))
   | (go_at_call 103; refine Calls.mono (HR.out _ (b1.trans ((ah _ _).mono b1.size))) ?_; rintro e W2 ⟨rfl, b2⟩; unfold ak))
  exact ⟨rfl, .inr ⟨hk, rfl, b2⟩⟩
end Go.Proofs.YtecodpdfckjalaaGreatDoor
namespace Go.Proofs.YtecodpdfckjalaaGreatDoor
open Go.RowKit
variable {w0 : World} {rb : Nat} {ae aa : Value} {TL : List Tok} {xs : List UInt8} {U : Nat -> Prop}
theorem wR (hT : RT w0 rb ae aa TL xs) {W : World} {i : Nat} {ns : List Nd} (hS : RS w0 rb ae aa U W i ns) (hi : i < TL.length) :
  Calls Tryz.prog 151 #[.pointer (some ⟨rb, 0, none⟩)] W fun e W' => (TL[i].kind = 2 /\ e = .returned (.int .i64 TL[i].num) /\ RS w0 rb ae aa U W' (i + 1) ns /\ af rb W W') ∨ (TL[i].kind ≠ 2 /\ e = ak TL[i].place /\ Below rb w0 W') := by
 have HN : Bx _ := ⟨ng hT hS hi 2⟩
 unfold Go.Proofs.YtecodpdfckjalaaGreatDoor.aa at HN
 have hf3 := JD
 generalize TL[i] = t at *
 clear hS hT
 by_cases hk : t.kind = 2
 ·go_enter Tryz.func151, Tryz.ntmps151
  go_wp2_with (first
   | (go_at_call 104; refine Calls.mono HN.out ?_; rintro e W1 (⟨_, rfl, q1, q2⟩ | ⟨h, _⟩); rotate_left 1; exact absurd hk h))
  go_ret
  exact .inl ⟨hk, rfl, q1, q2⟩
 ·go_enter Tryz.func151, Tryz.ntmps151
  go_wp2_with (first
   | (go_at_call 104; refine Calls.mono HN.out ?_; rintro e W1 (⟨h, _⟩ | ⟨h, rfl, q1⟩); exact absurd h hk; unfold ak))
  exact ⟨rfl, .inr ⟨hk, rfl, q1⟩⟩
theorem BU (hT : RT w0 rb ae aa TL xs) {W : World} {i : Nat} {ns : List Nd} (hS : RS w0 rb ae aa U W i ns) (hi : i < TL.length) :
  Calls Tryz.prog 86 #[.pointer (some ⟨rb, 0, none⟩)] W fun e W' => (TL[i].kind = 1 /\ e = .returned (.string ⟨(cut xs TL[i].place (TL[i].place + TL[i].len)).toArray⟩) /\ RS w0 rb ae aa U W' (i + 1) ns /\ af rb W W') ∨ (TL[i].kind ≠ 1 /\ e = ak TL[i].place /\ Below rb w0 W') := by
 have HN : Bx _ := ⟨ng hT hS hi 1⟩
 by_cases hk : TL[i].kind = 1
 ·obtain ⟨hl1, hl2⟩ := hT.inb i hi (by omega)
  obtain ⟨b, o, cap, rfl, hb, hcap, hsrc⟩ := hT.src (by omega)
  have hlen := hT.len
  have HC : Bx (∀ W1, RS w0 rb (.slice (some ⟨b, o, none⟩) xs.length cap) aa U W1 (i + 1) ns -> (∃ nv, W1.heap[rb]? = some (rdO (.slice (some ⟨b, o, none⟩) xs.length cap) aa (i + 1) nv)) /\ Src W1 b o xs) := ⟨fun W1 h => by
   obtain ⟨nv, h1, _⟩ := h.rd
   exact ⟨⟨nv, h1⟩, fun k hk => by rw [h.bel.cell (p := ⟨b, o + k, none⟩) hb]; exact hsrc k hk⟩⟩
  have hsl : ∀ W1 : World, (Instr.slice 33 (.slice (some ⟨b, o, none⟩) xs.length cap) (some (.int .i64 (TL[i].place : Int))) (some (.int .i64 ((TL[i].place : Int) + (TL[i].len : Int)))) none).run Tryz.prog W1 = .ok (.slice (some ⟨b, o + TL[i].place, none⟩) TL[i].len (cap - TL[i].place)) W1 := fun W1 => by
   have h := Lib.run_slice_window (P := Tryz.prog) W1 33 5 Tryz.underlying33 sizeOf5 b o xs.length cap TL[i].place (TL[i].place + TL[i].len) (by omega) (by omega)
   rw [Nat.add_sub_cancel_left] at h
   exact h
  have HCV : Bx (∀ W1 c, Src W1 b o xs -> (convert 33 9 (.slice (some ⟨b, o + TL[i].place, none⟩) TL[i].len c)).run Tryz.prog W1 = .ok (.string ⟨(cut xs TL[i].place (TL[i].place + TL[i].len)).toArray⟩) W1) := ⟨fun W1 c h => by
   have := pW W1 b o c xs TL[i].place (TL[i].place + TL[i].len) h (by omega) hl2
   rw [Nat.add_sub_cancel_left] at this
   exact this⟩
  unfold Go.Proofs.YtecodpdfckjalaaGreatDoor.aa at HN
  have hf1 := dC
  have hf2 := JC
  generalize TL[i] = t at *
  clear hS hT hsrc
  go_enter Tryz.func86, Tryz.ntmps86
  go_wp2_with (first
   | (go_at_call 104; refine Calls.mono HN.out ?_; rintro e W1 (⟨_, rfl, q1, q2⟩ | ⟨h, _⟩); rotate_left 1; exact absurd hk h; obtain ⟨⟨nv, hr⟩, hsr⟩ := HC.out W1 q1; obtain ⟨c0, c1, c2, c3, hlt⟩ := gT hr; have hcv := fun (o1 : Obj) (k1 c1 : Nat) => HCV.out ((W1.alloc o1).drewN k1) c1 (hsr.below (by omega) (below_drewN (ah W1 o1) k1)); have Q1 : Bx _ := ⟨q1⟩; clear hr hsr q1))
  go_quiet (fail)
  go_wp2
  go_ret
  exact .inl ⟨hk, rfl, Q1.out.ext (below_drewN (ah W1 _) _), q2.trans (af.ext hlt (below_drewN (ah W1 _) _))⟩
 ·unfold Go.Proofs.YtecodpdfckjalaaGreatDoor.aa at HN
  generalize TL[i] = t at *
  clear hS hT
  go_enter Tryz.func86, Tryz.ntmps86
  go_wp2_with (first
   | (go_at_call 104; refine Calls.mono HN.out ?_; rintro e W1 (⟨h, _⟩ | ⟨h, rfl, q1⟩); exact absurd h hk; unfold ak))
  exact ⟨rfl, .inr ⟨hk, rfl, q1⟩⟩
theorem lV (hT : RT w0 rb ae aa TL xs) (hK : aR TL) {W : World} {s : List ai} {ns : List Nd} (h : RSs w0 rb ae aa TL xs U W s ns) :
  Calls Tryz.prog 86 #[.pointer (some ⟨rb, 0, none⟩)] W fun e W' => (kd s = 1 /\ e = .returned (.string ⟨(hd s).name.toArray⟩) /\ RSs w0 rb ae aa TL xs U W' (tl s) ns /\ (tl s).length + 1 = s.length /\ af rb W W') ∨ (kd s ≠ 1 /\ e = ak (hd s).place /\ Below rb w0 W') := by
 obtain ⟨i, rfl, hi, hS, hni, hU⟩ := h
 refine (BU hT hS hi).mono ?_
 rw [iK hi]
 rintro e W' (⟨h1, h2, h3, h4⟩ | ⟨h1, h2, h3⟩)
 ·exact .inl ⟨h1, by rw [h2, mh hi]; rfl, ⟨i + 1, by rw [ow hi], adv hK hi (by omega), h3, by omega, fun g hg => by have := hU g hg; have := h4.size; omega⟩, by rw [fQ hi]; rfl, h4⟩
 ·exact .inr ⟨h1, by rw [h2, mh hi]; rfl, h3⟩
theorem AP (hT : RT w0 rb ae aa TL xs) (hK : aR TL) {W : World} {s : List ai} {ns : List Nd} (h : RSs w0 rb ae aa TL xs U W s ns) :
  Calls Tryz.prog 151 #[.pointer (some ⟨rb, 0, none⟩)] W fun e W' => (kd s = 2 /\ e = .returned (.int .i64 (hd s).num) /\ RSs w0 rb ae aa TL xs U W' (tl s) ns /\ (tl s).length + 1 = s.length /\ af rb W W') ∨ (kd s ≠ 2 /\ e = ak (hd s).place /\ Below rb w0 W') := by
 obtain ⟨i, rfl, hi, hS, hni, hU⟩ := h
 refine (wR hT hS hi).mono ?_
 rw [iK hi]
 rintro e W' (⟨h1, h2, h3, h4⟩ | ⟨h1, h2, h3⟩)
 ·exact .inl ⟨h1, by rw [h2, mh hi]; rfl, ⟨i + 1, by rw [ow hi], adv hK hi (by omega), h3, by omega, fun g hg => by have := hU g hg; have := h4.size; omega⟩, by rw [fQ hi]; rfl, h4⟩
 ·exact .inr ⟨h1, by rw [h2, mh hi]; rfl, h3⟩
theorem fG (hT : RT w0 rb ae aa TL xs) {W0 W : World} {s0 s : List ai} {ns : List Nd} (a : List Tr) (h : RSs w0 rb ae aa TL xs U W s (ns ++ ag a ns.length)) (hk0 : af rb W0 W) (hsz : s.length + sizes a + 1 <= s0.length) (h0 : ∃ W1 , RSs w0 rb ae aa TL xs U W1 s0 ns) (kind : Int) (p : Nat) (num : Int) (nm : List UInt8) (kv : Value) (ka : Option Addr) (n kc : Nat) (hn : n = a.length) (hI : aQ W rb (.slice ka n kc) (ends a ns.length)) (hkU : ∀ g, ka = some ⟨g, 0, none⟩ -> ¬ U g) :
  Calls Tryz.prog 70 #[.pointer (some ⟨rb, 0, none⟩), .agg #[.int .i64 kind, .int .i64 p, kv, .string ⟨nm.toArray⟩, .int .i64 num], .slice ka n kc] W fun e W' => ∃ r : Int, e = .returned (.int .i64 r) /\ aj w0 rb ae aa TL xs U W0 s0 ns (.ok [.mk kind p num nm a] s) (.returned (.int .i64 r)) W' := by
 obtain ⟨i, rfl, hi, hS, hni, hU⟩ := h
 obtain ⟨W1, i0, rfl, hi0, _, hni0, _⟩ := h0
 have hsm := hT.small
 have hel : ∀ (a : List Tr) (o : Nat), (ends a o).length = a.length := fun a => by
  induction a with
  | nil => intro o; rfl
  | cons t r ih => intro o; simp [ends, ih]
 have hn2 : n = (ends a ns.length).length := by rw [hel]; exact hn
 subst hn2
 refine (uX hS kind p num ⟨nm.toArray⟩ kv ka kc (ends a ns.length) hI hkU (by omega)).mono ?_
 rintro e W' ⟨rfl, q, k⟩
 have hs1 : sizes [Tr.mk kind p num nm a] = sizes a + 1 := by simp [sizes, Tr.size]
 have hf1 : ag [Tr.mk kind p num nm a] ns.length = ag a ns.length ++ [⟨kind, (p : Int), ends a ns.length, ⟨nm.toArray⟩, num⟩] := by simp [ag, flat]
 refine ⟨_, rfl, rfl, by rw [hs1]; omega, ?_, ⟨i, rfl, hi, ?_, ?_, fun g hg => by have := hU g hg; have := k.size; omega⟩, hk0.trans k⟩
 ·rw [List.length_append, dU, hs1]
  congr 2
 ·rw [hf1, ← List.append_assoc]
  exact q
 ·rw [hf1, List.length_append, List.length_append, dU]
  simp only [List.length_append, dU] at hni
  unfold pts at hsz
  simp only [List.length_map, List.length_drop] at hsz
  simp
  omega
end Go.Proofs.YtecodpdfckjalaaGreatDoor
