import Derived.Test.YtecodpdfckjalaaGreatDoorZPSg
import Derived.Deep.AppendLies
import Derived.Deep.RegionLaw
set_option linter.unusedVariables false
set_option linter.unusedSimpArgs false
set_option maxHeartbeats 4000000
set_option maxRecDepth 100000
namespace Go.Proofs.YtecodpdfckjalaaGreatDoor
open Go.RowKit
variable {w0 : World} {rb : Nat} {ae aa : Value} {TL : List Tok} {xs : List UInt8} {U : Nat -> Prop}
def oo (xs : List UInt8) (t : Tok) : ax := ⟨t.kind, t.place, t.num, cut xs t.place (t.place + t.len)⟩
def pts (xs : List UInt8) (TL : List Tok) (i : Nat) : List ax := (TL.drop i).map (oo xs)
theorem fH {i : Nat} (hi : i < TL.length) : pts xs TL i = oo xs TL[i] :: pts xs TL (i + 1) := by
 unfold pts
 rw [List.drop_eq_getElem_cons hi, List.map_cons]
theorem iC {i : Nat} (hi : i < TL.length) : kd (pts xs TL i) = TL[i].kind := by rw [fH hi]; rfl
theorem oq {i : Nat} (hi : i < TL.length) : tl (pts xs TL i) = pts xs TL (i + 1) := by rw [fH hi]; rfl
theorem mF {i : Nat} (hi : i < TL.length) : hd (pts xs TL i) = oo xs TL[i] := by rw [fH hi]; rfl
structure aO (TL : List Tok) : Prop where
 ok : ∀ i (h : i < TL.length), TL[i].kind = 0 ∨ TL[i].kind = 1 ∨ TL[i].kind = 2 ∨ (10 <= TL[i].kind /\ TL[i].kind < 31) ∨ (40 <= TL[i].kind /\ TL[i].kind < 67)
 last : ∀ i (h : i < TL.length), TL[i].kind = 0 ↔ i + 1 = TL.length
theorem pE {k c : Nat} (hk : k = 0 ∨ k = 1 ∨ k = 2 ∨ (10 <= k /\ k < 31) ∨ (40 <= k /\ k < 67)) (hc : (10 <= c /\ c < 31) ∨ (40 <= c /\ c < 67)) : au (k : Int) = au (c : Int) ↔ k = c := by
 constructor
 ·intro h
  have hne : au (c : Int) ≠ [] := by
   have hw : ∀ i : Fin 21, eF.getD i [] ≠ [] := by decide
   have hs : ∀ i : Fin 27, bW.getD i [] ≠ [] := by decide
   unfold au
   rcases hc with hc | hc
   ·rw [if_pos (by omega)]
    exact hw ⟨((c : Int) - 10).toNat, by omega⟩
   ·rw [if_neg (by omega), if_pos (by omega)]
    exact hs ⟨((c : Int) - 40).toNat, by omega⟩
  have h1 := tL (c : Int) hne
  have h2 := tL (k : Int) (by rw [h]; exact hne)
  rw [h] at h2
  omega
 ·intro h; rw [h]
theorem E5 (hT : RT w0 rb ae aa TL xs) (hK : aO TL) {W : World} {i : Nat} {ns : List Nd} (hS : RS w0 rb ae aa U W i ns) (hi : i < TL.length) (c : Nat) (hc : (10 <= c /\ c < 31) ∨ (40 <= c /\ c < 67)) (s : ByteArray) (hs : au (c : Int) = s.data.toList) :
  Calls Tryz.prog 85 #[.pointer (some ⟨rb, 0, none⟩), .string s] W fun e W' => (kd (pts xs TL i) = c /\ e = .returned (.int .i64 TL[i].place) /\ RS w0 rb ae aa U W' (i + 1) ns /\ af rb W W') ∨ (kd (pts xs TL i) ≠ c /\ e = aj TL[i].place /\ Below rb w0 W') := by
 have hiff := pE (hK.ok i hi) hc
 rw [iC hi]
 by_cases h : TL[i].kind = c
 ·exact (EZ hT hS hi s ((hiff.2 h).trans hs)).mono fun e W' h' => .inl ⟨h, h'⟩
 ·exact (GI hT hS hi s (fun h' => h (hiff.1 (h'.trans hs.symm)))).mono fun e W' h' => .inr ⟨h, h'⟩
theorem C8 (hT : RT w0 rb ae aa TL xs) (hK : aO TL) {W : World} {i : Nat} {ns : List Nd} (hS : RS w0 rb ae aa U W i ns) (hi : i < TL.length) (c : Nat) (hc : (10 <= c /\ c < 31) ∨ (40 <= c /\ c < 67)) (s : ByteArray) (hs : au (c : Int) = s.data.toList) :
  Calls Tryz.prog 102 #[.pointer (some ⟨rb, 0, none⟩), .string s] W fun e W' => (kd (pts xs TL i) = c /\ e = .returned (.bool true) /\ RS w0 rb ae aa U W' (i + 1) ns /\ af rb W W') ∨ (kd (pts xs TL i) ≠ c /\ e = .returned (.bool false) /\ RS w0 rb ae aa U W' i ns /\ af rb W W') := by
 have hiff := pE (hK.ok i hi) hc
 rw [iC hi]
 by_cases h : TL[i].kind = c
 ·exact (xM hT hS hi s ((hiff.2 h).trans hs)).mono fun e W' h' => .inl ⟨h, h'⟩
 ·exact (Bu hT hS hi s (fun h' => h (hiff.1 (h'.trans hs.symm)))).mono fun e W' h' => .inr ⟨h, h'.1, hS.ext h'.2, af.ext hS.lt h'.2⟩
theorem adv (hK : aO TL) {i : Nat} (hi : i < TL.length) (hc : TL[i].kind ≠ 0) : i + 1 < TL.length := by
 have := hK.last i hi
 rcases Nat.lt_or_ge (i + 1) TL.length with h1 | h1
 ·exact h1
 ·exact absurd (this.2 (by omega)) hc
def RSs (w0 : World) (rb : Nat) (ae aa : Value) (TL : List Tok) (xs : List UInt8) (U : Nat -> Prop) (W : World) (s : List ax) (ns : List Nd) : Prop := ∃ i, s = pts xs TL i /\ i < TL.length /\ RS w0 rb ae aa U W i ns /\ ns.length <= i /\ ∀ g, U g -> g < W.heap.size
theorem RSs.ext {W W' : World} {s : List ax} {ns : List Nd} (h : RSs w0 rb ae aa TL xs U W s ns) (hb : Below W.heap.size W W') : RSs w0 rb ae aa TL xs U W' s ns := by
 obtain ⟨i, h1, h2, h3, h4, h5⟩ := h
 exact ⟨i, h1, h2, h3.ext hb, h4, fun g hg => by have := h5 g hg; have := hb.size; omega⟩
theorem RSs.lt {W : World} {s : List ax} {ns : List Nd} (h : RSs w0 rb ae aa TL xs U W s ns) : rb < W.heap.size := by
 obtain ⟨i, h1, h2, h3, h4⟩ := h
 exact h3.lt
theorem RSs.bel {W : World} {s : List ax} {ns : List Nd} (h : RSs w0 rb ae aa TL xs U W s ns) : Below rb w0 W := by
 obtain ⟨i, h1, h2, h3, h4⟩ := h
 exact h3.bel
theorem RSs.ints {W W' : World} {s : List ax} {ns : List Nd} (h : RSs w0 rb ae aa TL xs U W s ns) {v : Value} {ys : List Int} (hI : aN W rb v ys) (hk : af rb W W') : aN W' rb v ys := by
 obtain ⟨i, h1, h2, h3, h4⟩ := h
 exact h3.ints hI hk
theorem bA (hT : RT w0 rb ae aa TL xs) (hK : aO TL) {W : World} {s : List ax} {ns : List Nd} (h : RSs w0 rb ae aa TL xs U W s ns) (c : Nat) (hc : (10 <= c /\ c < 31) ∨ (40 <= c /\ c < 67)) (tx : ByteArray) (ht : au (c : Int) = tx.data.toList) :
  Calls Tryz.prog 85 #[.pointer (some ⟨rb, 0, none⟩), .string tx] W fun e W' => (kd s = c /\ e = .returned (.int .i64 (hd s).place) /\ RSs w0 rb ae aa TL xs U W' (tl s) ns /\ (tl s).length + 1 = s.length /\ af rb W W') ∨ (kd s ≠ c /\ e = aj (hd s).place /\ Below rb w0 W') := by
 obtain ⟨i, rfl, hi, hS, hni, hU⟩ := h
 refine (E5 hT hK hS hi c hc tx ht).mono ?_
 rintro e W' (⟨h1, h2, h3, h4⟩ | ⟨h1, h2, h3⟩)
 ·refine .inl ⟨h1, by rw [h2, mF hi]; rfl, ⟨i + 1, by rw [oq hi], adv hK hi (by rw [iC hi] at h1; omega), h3, by omega, fun g hg => by have := hU g hg; have := h4.size; omega⟩, by rw [fH hi]; rfl, h4⟩
 ·exact .inr ⟨h1, by rw [h2, mF hi]; rfl, h3⟩
theorem iJ (hT : RT w0 rb ae aa TL xs) (hK : aO TL) {W : World} {s : List ax} {ns : List Nd} (h : RSs w0 rb ae aa TL xs U W s ns) (c : Nat) (hc : (10 <= c /\ c < 31) ∨ (40 <= c /\ c < 67)) (tx : ByteArray) (ht : au (c : Int) = tx.data.toList) :
  Calls Tryz.prog 102 #[.pointer (some ⟨rb, 0, none⟩), .string tx] W fun e W' => (kd s = c /\ e = .returned (.bool true) /\ RSs w0 rb ae aa TL xs U W' (tl s) ns /\ (tl s).length + 1 = s.length /\ af rb W W') ∨ (kd s ≠ c /\ e = .returned (.bool false) /\ RSs w0 rb ae aa TL xs U W' s ns /\ af rb W W') := by
 obtain ⟨i, rfl, hi, hS, hni, hU⟩ := h
 refine (C8 hT hK hS hi c hc tx ht).mono ?_
 rintro e W' (⟨h1, h2, h3, h4⟩ | ⟨h1, h2, h3, h4⟩)
 ·exact .inl ⟨h1, h2, ⟨i + 1, by rw [oq hi], adv hK hi (by rw [iC hi] at h1; omega), h3, by omega, fun g hg => by have := hU g hg; have := h4.size; omega⟩, by rw [fH hi]; rfl, h4⟩
 ·exact .inr ⟨h1, h2, ⟨i, rfl, hi, h3, hni, fun g hg => by have := hU g hg; have := h4.size; omega⟩, h4⟩
theorem dJ (hT : RT w0 rb ae aa TL xs) {W : World} {s : List ax} {ns : List Nd} (h : RSs w0 rb ae aa TL xs U W s ns) :
  Calls Tryz.prog 66 #[.pointer (some ⟨rb, 0, none⟩)] W fun e W' => e = .returned (.string ⟨(au (kd s : Nat)).toArray⟩) /\ Below W.heap.size W W' := by
 obtain ⟨i, rfl, hi, hS, hni, hU⟩ := h
 rw [iC hi]
 exact om hT hS hi
theorem eP (hT : RT w0 rb ae aa TL xs) {W : World} {s : List ax} {ns : List Nd} (h : RSs w0 rb ae aa TL xs U W s ns) :
  Calls Tryz.prog 84 #[.pointer (some ⟨rb, 0, none⟩)] W fun e W' => ∃ n : Nat, e = .returned (.agg #[.int .i64 (kd s), .int .i64 (hd s).place, .int .i64 n, .int .i64 (hd s).num]) /\ Below W.heap.size W W' := by
 obtain ⟨i, rfl, hi, hS, hni, hU⟩ := h
 refine (iB hT hS hi).mono ?_
 rintro e W' ⟨h1, h2⟩
 refine ⟨TL[i].len, ?_, h2⟩
 rw [h1, iC hi, mF hi]
 rfl
theorem Bv (hK : aO TL) {W : World} {s : List ax} {ns : List Nd} (h : RSs w0 rb ae aa TL xs U W s ns) : kd s = 0 ∨ kd s = 1 ∨ kd s = 2 ∨ (10 <= kd s /\ kd s < 31) ∨ (40 <= kd s /\ kd s < 67) := by
 obtain ⟨i, rfl, hi, hS, hni, hU⟩ := h
 rw [iC hi]
 exact hK.ok i hi
def ai (w0 : World) (rb : Nat) (ae aa : Value) (TL : List Tok) (xs : List UInt8) (U : Nat -> Prop) (W : World) (s : List ax) (ns : List Nd) (res : Res) (e : Ending) (W' : World) : Prop :=
 match res with
 | .ok ts s' => ts.length = 1 /\ s'.length + sizes ts <= s.length /\ e = .returned (.int .i64 ((ns.length + sizes ts - 1 : Nat) : Int)) /\ RSs w0 rb ae aa TL xs U W' s' (ns ++ ag ts ns.length) /\ af rb W W'
 | .err s' => e = aj (hd s').place /\ Below rb w0 W'
 | .out => False
def RC (w0 : World) (rb : Nat) (ae aa : Value) (TL : List Tok) (xs : List UInt8) (S : List ax -> Res) (F : Nat) (vs : Array Value) : Prop :=
 ∀ U W s ns, RSs w0 rb ae aa TL xs U W s ns -> S s ≠ .out -> Calls Tryz.prog F (#[.pointer (some ⟨rb, 0, none⟩)] ++ vs) W (ai w0 rb ae aa TL xs U W s ns (S s))
theorem aI {ts : List Tr} (h : ts.length = 1) (o : Nat) : ends ts o = [((o + sizes ts - 1 : Nat) : Int)] := by
 match ts, h with
 | [t], _ => simp [ends, sizes]
theorem bv : ∀ (a b : List Tr) (o : Nat), ends (a ++ b) o = ends a o ++ ends b (o + sizes a)
 | [], b, o => by simp [ends, sizes]
 | t :: r, b, o => by
  rw [List.cons_append, ends, ends, bv r b, sizes, List.cons_append, Nat.add_assoc]
theorem nE : ∀ (a b : List Tr) (o : Nat), ag (a ++ b) o = ag a o ++ ag b (o + sizes a)
 | [], b, o => by simp [ag, sizes]
 | t :: r, b, o => by
  rw [List.cons_append, ag, ag, nE r b, sizes, List.append_assoc, Nat.add_assoc]
theorem bL (ns : List Nd) (a b : List Tr) : (ns ++ ag a ns.length) ++ ag b (ns ++ ag a ns.length).length = ns ++ ag (a ++ b) ns.length := by
 rw [nE, List.append_assoc, List.length_append, ek]
theorem dR (ns : List Nd) (a : List Tr) : (ns ++ ag a ns.length).length = ns.length + sizes a := by rw [List.length_append, ek]
theorem aG {c : Nat} {s : List ax} {k : List ax -> Res} (h : kd s = c) : want c s k = k (tl s) := by
 unfold want
 rw [if_pos h]
theorem aJ {c : Nat} {s : List ax} {k : List ax -> Res} (h : kd s ≠ c) : want c s k = .err s := by
 unfold want
 rw [if_neg h]
theorem gV {s : List ax} {k : List UInt8 -> List ax -> Res} (h : kd s = 1) : eT s k = k (hd s).name (tl s) := by
 unfold eT
 rw [if_pos h]
theorem je {s : List ax} {k : List UInt8 -> List ax -> Res} (h : kd s ≠ 1) : eT s k = .err s := by
 unfold eT
 rw [if_neg h]
theorem xN {s : List ax} {k : Nat -> List ax -> Res} (h : kd s = 2) : iM s k = k (hd s).num (tl s) := by
 unfold iM
 rw [if_pos h]
theorem E8 {s : List ax} {k : Nat -> List ax -> Res} (h : kd s ≠ 2) : iM s k = .err s := by
 unfold iM
 rw [if_neg h]
theorem df {W : World} {o : Array Value} {ys : List Int} {n : Nat} (hn : ys.length = n) (h0 : 0 < n) (hm : n <= 100) (hr : rb < W.heap.size) (ho : o.toList = bJ ys) : aN (W.alloc (.cells o 3)) rb (.slice (some ⟨W.heap.size, 0, none⟩) n n) ys := by
 unfold aN
 rw [hn]
 have hl : o.size = n := by
  have := congrArg List.length ho
  simpa [bJ, hn] using this
 refine ⟨by simp [bJ, hn], .inr ⟨W.heap.size, n, o, rfl, by omega, heap_alloc_new W _, Nat.le_refl _, by unfold maxLen; omega, by omega, ?_⟩⟩
 rw [ho, List.take_of_length_le (by simp [bJ, hn])]
end Go.Proofs.YtecodpdfckjalaaGreatDoor
namespace Go.Proofs.YtecodpdfckjalaaGreatDoor
open Go.RowKit
variable {w0 : World} {rb : Nat} {ae aa : Value} {TL : List Tok} {xs : List UInt8} {U : Nat -> Prop}
def E9 : Value := .agg #[.int .i64 0, .int .i64 0, .slice none 0 0, .string ⟨#[]⟩, .int .i64 0]
theorem Jc : (Tryz.prog.info? 44).map (fun i => (i.zero, i.size, i.bytes)) = some (some E9, 5, 64) := by kernel_rfl
theorem tO (n : Nd) (k : Option Addr × Nat) : ∀ (ns : List Nd) (ks : List (Option Addr × Nat)), ks.length = ns.length -> ol (ns ++ [n]) (ks ++ [k]) = ol ns ks ++ ndC n k
 | [], [], _ => by simp [ol]
 | x :: r, y :: q, h => by
  simp only [List.cons_append, ol]
  rw [tO n k r q (by simpa using h), List.append_assoc]
theorem GJ (X : World) (H : Nat) (hH : X.heap.size = H) (a b c d e : Value) : ∀ (j : Nat) (u : Value), [a, b, c, d, e][j]? = some u -> (X.alloc (.cells #[a, b, c, d, e] 44)).drew.cell? ((⟨H, 0, none⟩ : Addr).add j) = some u := by
 subst hH
 have h := heap_alloc_new X (.cells #[a, b, c, d, e] 44)
 exact World.news_of_block (w := (X.alloc (.cells #[a, b, c, d, e] 44)).drew) (cs := #[a, b, c, d, e]) h
theorem Jd (a b d e : Value) (k : Option Addr) (m c : Nat) (ha : a.oneCell' = true) (hb : b.oneCell' = true) (hd : d.oneCell' = true) (he : e.oneCell' = true) : ∀ u ∈ [a, b, .slice k m c, d, e], u.oneCell' = true := by
 intro u hu
 simp only [List.mem_cons, List.not_mem_nil, or_false] at hu
 rcases hu with rfl | rfl | rfl | rfl | rfl
 ·exact ha
 ·exact hb
 ·rfl
 ·exact hd
 ·exact he
theorem RS.added {W w1 : World} {i : Nat} {ns : List Nd} {nv : Value} {ks : List (Option Addr × Nat)} (hS : RS w0 rb ae aa U W i ns) (k1 : ks.length = ns.length) (k3 : ∀ j (h : j < ns.length) (h' : j < ks.length), aN W rb (.slice ks[j].1 ns[j].kids.length ks[j].2) ns[j].kids /\ ∀ g, ks[j].1 = some ⟨g, 0, none⟩ -> ¬ U g) (n : Nd) (ka : Option Addr) (kc : Nat) (hk : aN W rb (.slice ka n.kids.length kc) n.kids) (hkU : ∀ g, ka = some ⟨g, 0, none⟩ -> ¬ U g)
  (hr0 : W.heap[rb]? = some (rdO ae aa i nv)) (hr1 : w1.heap[rb]? = some (rdO ae aa i nv)) (hkp : af rb W w1) (hb : Below rb w0 w1) (g cap H : Nat) (hat : nv.ownBlock = some g ∨ g = H) (hH : W.heap.size <= H) (hown : w1.ownsRow (rb + 1) 44 5 (.slice (some ⟨g, 0, none⟩) (ns.length + 1) cap) (ns.length + 1) (ol ns ks ++ ndC n (ka, kc))) :
  RS w0 rb ae aa U (w1.setCell ⟨rb, 3, none⟩ (.slice (some ⟨g, 0, none⟩) (ns.length + 1) cap)) i (ns ++ [n]) /\ af rb W (w1.setCell ⟨rb, 3, none⟩ (.slice (some ⟨g, 0, none⟩) (ns.length + 1) cap)) := by
 generalize hv0 : (.slice (some ⟨g, 0, none⟩) (ns.length + 1) cap : Value) = v at *
 have hr2 : (w1.setCell ⟨rb, 3, none⟩ v).heap[rb]? = some (rdO ae aa i v) := by
  rw [heap_setCell_same w1 rb 3 _ 74 _ hr1]
  rfl
 have hkw : af rb W (w1.setCell ⟨rb, 3, none⟩ v) := by
  refine ⟨by have := hkp.size; simp; omega, fun x hx hxr ho => ?_, ?_⟩
  ·rw [heap_setCell_other w1 ⟨rb, 3, none⟩ x _ (by show x ≠ rb; omega)]
   exact hkp.same x hx hxr ho
  ·rw [fD hr2, fD hr0, ← hv0]
   rcases hat with h | h
   ·left
    rw [h]
    rfl
   ·right
    exact ⟨g, rfl, by omega⟩
 refine ⟨⟨⟨v, hr2, ⟨ks ++ [(ka, kc)], by simp [k1], ?_, fun j hj hj' => ?_⟩⟩, ?_⟩, hkw⟩
 ·rw [tO n (ka, kc) ns ks k1, List.length_append]
  obtain ⟨q1, q2⟩ := hown
  refine ⟨q1, ?_⟩
  rcases q2 with q2 | ⟨g, cap, cur, hv, hg, hh, hr⟩
  ·exact .inl q2
  ·refine .inr ⟨g, cap, cur, hv, hg, ?_, hr⟩
   rw [heap_setCell_other w1 ⟨rb, 3, none⟩ g _ (by show g ≠ rb; omega)]
   exact hh
 ·by_cases hj2 : j < ns.length
  ·have h1 := hS.ints (k3 j hj2 (by omega)).1 hkw
   have h2 := (k3 j hj2 (by omega)).2
   have e : (ks ++ [(ka, kc)])[j] = ks[j]'(by omega) := by simp [List.getElem_append, hj2, k1]
   have e2 : (ns ++ [n])[j] = ns[j] := by simp [List.getElem_append, hj2]
   rw [e, e2]
   exact ⟨h1, h2⟩
  ·have hje : j = ns.length := by simp at hj; omega
   subst hje
   have h1 := hS.ints hk hkw
   have e : (ks ++ [(ka, kc)])[ns.length] = (ka, kc) := by simp [List.getElem_append, k1]
   have e2 : (ns ++ [n])[ns.length] = n := by simp
   rw [e, e2]
   exact ⟨h1, hkU⟩
 ·exact Below.setCell (p := ⟨rb, 3, none⟩) hb (Nat.le_refl _) _
theorem uQ {W : World} {i : Nat} {ns : List Nd} (hS : RS w0 rb ae aa U W i ns) (kd ps num : Int) (nm : ByteArray) (kv : Value) (ka : Option Addr) (kc : Nat) (kids : List Int) (hk : aN W rb (.slice ka kids.length kc) kids) (hkU : ∀ g, ka = some ⟨g, 0, none⟩ -> ¬ U g) (hn : ns.length <= 1000000) :
  Calls Tryz.prog 70 #[.pointer (some ⟨rb, 0, none⟩), .agg #[.int .i64 kd, .int .i64 ps, kv, .string nm, .int .i64 num], .slice ka kids.length kc] W fun e W' => e = .returned (.int .i64 ns.length) /\ RS w0 rb ae aa U W' i (ns ++ [⟨kd, ps, kids, nm, num⟩]) /\ af rb W W' := by
 obtain ⟨i0, hi, hz0, hz1, hz2⟩ := info_parts Jc
 obtain ⟨nv, hr, hN⟩ := hS.rd
 obtain ⟨c0, c1, c2, c3, hlt⟩ := gI hr
 obtain ⟨ks, k1, k2, k3⟩ := hN.ex
 have HO : Bx (∀ W1, Below W.heap.size W W1 -> W1.ownsRow (rb + 1) 44 5 nv ns.length (ol ns ks)) := ⟨fun W1 b => bK k2 b⟩
 have f3 : W.frozen? ⟨rb, 3, none⟩ = false := by simp [World.frozen?, hr, rdO]
 have HG : Bx (∀ w1, ((W.alloc (.cells #[.int .i64 kd, .int .i64 ps, .slice ka kids.length kc, .string nm, .int .i64 num] 44)).alloc (.cells #[.int .i64 kd, .int .i64 ps, .slice ka kids.length kc, .string nm, .int .i64 num] 44)).drew.grownBy w1 nv.ownBlock -> w1.heap[rb]? = some (rdO ae aa i nv) /\ af rb W w1 /\ Below rb w0 w1) := ⟨fun w1 hg => by
  have hb2 : Below W.heap.size W ((W.alloc (.cells #[.int .i64 kd, .int .i64 ps, .slice ka kids.length kc, .string nm, .int .i64 num] 44)).alloc (.cells #[.int .i64 kd, .int .i64 ps, .slice ka kids.length kc, .string nm, .int .i64 num] 44)).drew := (((Below.refl _ _).alloc (Nat.le_refl _) _).alloc (by simp) _).drew
  have hne : ∀ x, some x = nv.ownBlock -> rb + 1 <= x := fun x hx => (k2.lt x hx.symm).1
  have hr1 : w1.heap[rb]? = some (rdO ae aa i nv) := by
   rw [hg.block rb (by have := hb2.size; omega) (fun e => by have := hne rb e; omega), hb2.block rb hlt]
   exact hr
  refine ⟨hr1, ⟨?_, ?_, .inl (by rw [fD hr1, fD hr])⟩, ?_⟩
  ·have := hb2.size
   have := hg.size
   omega
  ·intro x hx hlx ho
   rw [fD hr] at ho
   rw [hg.block x (by have := hb2.size; omega) (fun e => ho e.symm), hb2.block x hx]
  ·exact Below.grown (hS.bel.trans (hb2.mono (by omega))) hg (by have := hb2.size; omega) (fun x hx => by have := hne x hx.symm; omega)⟩
 have HF : Bx (∀ g cap w1, w1.heap[rb]? = some (rdO ae aa i nv) -> af rb W w1 -> Below rb w0 w1 -> (nv.ownBlock = some g ∨ g = W.heap.size + 2) -> w1.ownsRow (rb + 1) 44 5 (.slice (some ⟨g, 0, none⟩) (ns.length + 1) cap) (ns.length + 1) (ol ns ks ++ [.int .i64 kd, .int .i64 ps, .slice ka kids.length kc, .string nm, .int .i64 num]) -> RS w0 rb ae aa U (w1.setCell ⟨rb, 3, none⟩ (.slice (some ⟨g, 0, none⟩) (ns.length + 1) cap)) i (ns ++ [⟨kd, ps, kids, nm, num⟩]) /\ af rb W (w1.setCell ⟨rb, 3, none⟩ (.slice (some ⟨g, 0, none⟩) (ns.length + 1) cap))) := ⟨fun g cap w1 h1 h2 h3 h4 h5 => RS.added hS k1 k3 ⟨kd, ps, kids, nm, num⟩ ka kc hk hkU hr h1 h2 h3 g cap _ h4 (by omega) h5⟩
 clear hS hr hN k3 hk k2 hkU
 go_enter Tryz.func70, Tryz.ntmps70
 go_wp2
 go_region_law (refine step_append_lies _ rfl (.tmp 13) (.tmp 15) 22 rfl (rb + 1) 44 i0 E9 5 64 Tryz.underlying22 hi hz0 hz1 hz2 rfl (by decide) nv ns.length (ol ns ks) (by simp [Act.eval, Act.put]) (HO.out _ ((((Below.refl _ _).alloc (Nat.le_refl _) _).alloc (by simp) _).drew)) ⟨W.heap.size + 1, 0, none⟩ 1 1 [.int .i64 kd, .int .i64 ps, .slice ka kids.length kc, .string nm, .int .i64 num] (by simp [Act.eval, Act.put]) rfl (GJ _ _ (by simp) _ _ _ _ _) (Jd _ _ _ _ _ _ _ rfl rfl rfl rfl) (by omega) (by unfold maxLen; omega) (by omega) (by simp; omega) (W.heap.size + 2) (by simp) ?_; intro g cap w1 hown hgrow hat hlt1; obtain ⟨hr1, hkp1, hb1⟩ := HG.out w1 hgrow; obtain ⟨d0, d1, d2, d3, dlt⟩ := gI hr1; have g3 : w1.frozen? ⟨rb, 3, none⟩ = false := (by simp [World.frozen?, hr1, rdO]); have HW := HF.out g cap w1 hr1 hkp1 hb1 hat hown; have HWB : Bx _ := ⟨HW⟩; clear hgrow hat hown HW hr1)
 all_goals
  go_wp2
  go_ret
  exact ⟨by first | rfl | go_num | (congr 2; omega), HWB.out⟩
end Go.Proofs.YtecodpdfckjalaaGreatDoor
namespace Go.Proofs.YtecodpdfckjalaaGreatDoor
open Go.RowKit
variable {w0 : World} {rb : Nat} {ae aa : Value} {TL : List Tok} {xs : List UInt8} {U : Nat -> Prop}
theorem KQ {W : World} {x : Nat} {a b c d : Value} (h : W.heap[x]? = some (.cells #[a, b, c, d] 62 (0, 0))) : W.cell? ⟨x, 0, none⟩ = some a /\ W.cell? ⟨x, 1, none⟩ = some b /\ W.cell? ⟨x, 2, none⟩ = some c /\ W.cell? ⟨x, 3, none⟩ = some d /\ W.frozen? ⟨x, 0, none⟩ = false /\ W.frozen? ⟨x, 1, none⟩ = false /\ W.frozen? ⟨x, 2, none⟩ = false /\ W.frozen? ⟨x, 3, none⟩ = false /\ x < W.heap.size := by
 refine ⟨?_, ?_, ?_, ?_, ?_, ?_, ?_, ?_, aU h⟩ <;> simp [World.cell?, World.frozen?, h]
theorem Fa {W W1 : World} {i : Nat} {ns : List Nd} (h : RS w0 rb ae aa U W i ns) (b : Below W.heap.size W W1) (hlt : W.heap.size < W1.heap.size) (a1 a2 a3 a4 : Value) (o : Obj) :
  RS w0 rb ae aa U ((((((W1.setCell ⟨rb, 2, none⟩ (.int .i64 ((i : Int) + 1))).setCell ⟨W.heap.size, 0, none⟩ a1).setCell ⟨W.heap.size, 1, none⟩ a2).setCell ⟨W.heap.size, 2, none⟩ a3).setCell ⟨W.heap.size, 3, none⟩ a4).alloc o) (i + 1) ns /\ af rb W ((((((W1.setCell ⟨rb, 2, none⟩ (.int .i64 ((i : Int) + 1))).setCell ⟨W.heap.size, 0, none⟩ a1).setCell ⟨W.heap.size, 1, none⟩ a2).setCell ⟨W.heap.size, 2, none⟩ a3).setCell ⟨W.heap.size, 3, none⟩ a4).alloc o) := by
 have hrW : rb < W.heap.size := by
  obtain ⟨nv, h, _⟩ := h.rd
  exact aU h
 have hs := (h.ext b)
 have b1 : Below rb w0 (W1.setCell ⟨rb, 2, none⟩ (.int .i64 ((i : Int) + 1))) := Below.setCell (p := ⟨rb, 2, none⟩) hs.bel (Nat.le_refl _) _
 have b2 := Below.setCell (p := ⟨W.heap.size, 0, none⟩) b1 (by show rb <= W.heap.size; omega) a1
 have b3 := Below.setCell (p := ⟨W.heap.size, 1, none⟩) b2 (by show rb <= W.heap.size; omega) a2
 have b4 := Below.setCell (p := ⟨W.heap.size, 2, none⟩) b3 (by show rb <= W.heap.size; omega) a3
 have b5 := Below.setCell (p := ⟨W.heap.size, 3, none⟩) b4 (by show rb <= W.heap.size; omega) a4
 have low : ∀ x, x < W.heap.size -> ((((((W1.setCell ⟨rb, 2, none⟩ (.int .i64 ((i : Int) + 1))).setCell ⟨W.heap.size, 0, none⟩ a1).setCell ⟨W.heap.size, 1, none⟩ a2).setCell ⟨W.heap.size, 2, none⟩ a3).setCell ⟨W.heap.size, 3, none⟩ a4).alloc o).heap[x]? = (W1.setCell ⟨rb, 2, none⟩ (.int .i64 ((i : Int) + 1))).heap[x]? := fun x hx => by
  rw [(ah _ o).block x (by simp; omega), heap_setCell_other _ ⟨W.heap.size, 3, none⟩ x _ (by show x ≠ W.heap.size; omega), heap_setCell_other _ ⟨W.heap.size, 2, none⟩ x _ (by show x ≠ W.heap.size; omega), heap_setCell_other _ ⟨W.heap.size, 1, none⟩ x _ (by show x ≠ W.heap.size; omega), heap_setCell_other _ ⟨W.heap.size, 0, none⟩ x _ (by show x ≠ W.heap.size; omega)]
 refine h.upd (by simp; omega) (fun x hx hne => ?_) (fun nv hr => ?_) (b5.alloc (by simp; omega) _)
 ·rw [low x hx, heap_setCell_other W1 ⟨rb, 2, none⟩ x _ (by show x ≠ rb; omega), b.block x hx]
 ·rw [low rb hrW]
  have hr1 : W1.heap[rb]? = some (rdO ae aa i nv) := by rw [b.block rb hrW]; exact hr
  rw [heap_setCell_same W1 rb 2 _ 74 _ hr1]
  rfl
theorem nG (hT : RT w0 rb ae aa TL xs) {W : World} {i : Nat} {ns : List Nd} (hS : RS w0 rb ae aa U W i ns) (hi : i < TL.length) (c : Nat) :
  Calls Tryz.prog 104 #[.pointer (some ⟨rb, 0, none⟩), .int .i64 c] W fun e W' => (TL[i].kind = c /\ e = .returned (Go.Proofs.YtecodpdfckjalaaGreatDoor.aa TL[i]) /\ RS w0 rb ae aa U W' (i + 1) ns /\ af rb W W') ∨ (TL[i].kind ≠ c /\ e = aj TL[i].place /\ Below rb w0 W') := by
 have HN : Bx (∀ W1, Below W.heap.size W W1 -> Calls Tryz.prog 84 #[.pointer (some ⟨rb, 0, none⟩)] W1 fun e W' => e = .returned (Go.Proofs.YtecodpdfckjalaaGreatDoor.aa TL[i]) /\ Below W1.heap.size W1 W') := ⟨fun W1 b => iB hT (hS.ext b) hi⟩
 have b0 : ∀ o, Below W.heap.size W (W.alloc o) := fun o => ah W o
 have HR : Bx (∀ W1, Below W.heap.size W W1 -> _) := ⟨fun W1 b => rE hT (hS.ext b) hi⟩
 have HC : Bx (∀ W1, Below W.heap.size W W1 -> ∃ nv, W1.heap[rb]? = some (rdO ae aa i nv)) := ⟨fun W1 b => by
  obtain ⟨nv, h, _⟩ := (hS.ext b).rd
  exact ⟨nv, h⟩⟩
 have HE : Bx (∀ W1, Below W.heap.size W W1 -> W.heap.size < W1.heap.size -> ∀ a1 a2 a3 a4 o, _) := ⟨fun W1 b hl a1 a2 a3 a4 o => Fa hS b hl a1 a2 a3 a4 o⟩
 have hsm := hT.small
 have hrW : rb < W.heap.size := by
  obtain ⟨nv, h, _⟩ := hS.rd
  exact aU h
 unfold Go.Proofs.YtecodpdfckjalaaGreatDoor.aa at HN ⊢
 have hf0 := mE
 generalize TL[i] = t at *
 clear hS hT
 generalize TL.length = n at *
 by_cases hk : t.kind = c
 ·have d0 : ((t.kind : Int) != (c : Int)) = false := by rw [bne_eq_false_iff_eq]; omega
  go_enter Tryz.func104, Tryz.ntmps104
  go_wp2_with (first
   | (go_at_call 84; refine Calls.mono (HN.out _ (b0 _)) ?_; rintro e W1 ⟨rfl, b1'⟩; have b1 := (b0 _).trans (b1'.mono (b0 _).size); obtain ⟨nv, hr⟩ := HC.out W1 b1; obtain ⟨c0, c1, c2, c3, hlt⟩ := gI hr; have hfz : W1.frozen? ⟨rb, 2, none⟩ = false := (by simp [World.frozen?, hr, rdO]); clear hr; have hR : W1.heap[W.heap.size]? = some (.cells #[.int .i64 0, .int .i64 0, .int .i64 0, .int .i64 0] 62 (0, 0)) := (by rw [b1'.block _ (by simp)]; exact heap_alloc_new W _); obtain ⟨p0, p1, p2, p3, z0, z1, z2, z3, plt⟩ := KQ hR; clear hR))
  refine bodyPost_ret (v := .agg #[.int .i64 t.kind, .int .i64 t.place, .int .i64 t.len, .int .i64 t.num]) (by subst hk; simp [results, Tryz.results104, go_sem, p0, p1, p2, p3, plt, Nat.ne_of_lt plt]) rfl (.inl ⟨hk, rfl, HE.out _ b1 plt _ _ _ _ _⟩)
 ·have d0 : ((t.kind : Int) != (c : Int)) = true := by rw [bne_iff_ne]; omega
  go_enter Tryz.func104, Tryz.ntmps104
  go_wp2_with (first
   | (go_at_call 84; refine Calls.mono (HN.out _ (b0 _)) ?_; rintro e W1 ⟨rfl, b1'⟩; have b1 := (b0 _).trans (b1'.mono (b0 _).size))
   | (go_at_call 103; refine Calls.mono (HR.out _ (b1.trans ((ah _ _).mono b1.size))) ?_; rintro e W2 ⟨rfl, b2⟩; unfold aj))
  exact ⟨rfl, .inr ⟨hk, rfl, b2⟩⟩
end Go.Proofs.YtecodpdfckjalaaGreatDoor
namespace Go.Proofs.YtecodpdfckjalaaGreatDoor
open Go.RowKit
variable {w0 : World} {rb : Nat} {ae aa : Value} {TL : List Tok} {xs : List UInt8} {U : Nat -> Prop}
theorem xO (hT : RT w0 rb ae aa TL xs) {W : World} {i : Nat} {ns : List Nd} (hS : RS w0 rb ae aa U W i ns) (hi : i < TL.length) :
  Calls Tryz.prog 151 #[.pointer (some ⟨rb, 0, none⟩)] W fun e W' => (TL[i].kind = 2 /\ e = .returned (.int .i64 TL[i].num) /\ RS w0 rb ae aa U W' (i + 1) ns /\ af rb W W') ∨ (TL[i].kind ≠ 2 /\ e = aj TL[i].place /\ Below rb w0 W') := by
 have HN : Bx _ := ⟨nG hT hS hi 2⟩
 unfold Go.Proofs.YtecodpdfckjalaaGreatDoor.aa at HN
 have hf3 := Jb
 generalize TL[i] = t at *
 clear hS hT
 by_cases hk : t.kind = 2
 ·go_enter Tryz.func151, Tryz.ntmps151
  go_wp2_with (first
   | (go_at_call 104; refine Calls.mono HN.out ?_; rintro e W1 (⟨_, rfl, q1, q2⟩ | ⟨h, _⟩); rotate_left 1; exact absurd hk h))
  go_ret
  exact .inl ⟨hk, rfl, q1, q2⟩
 ·go_enter Tryz.func151, Tryz.ntmps151
  go_wp2_with (first
   | (go_at_call 104; refine Calls.mono HN.out ?_; rintro e W1 (⟨h, _⟩ | ⟨h, rfl, q1⟩); exact absurd h hk; unfold aj))
  exact ⟨rfl, .inr ⟨hk, rfl, q1⟩⟩
theorem C9 (hT : RT w0 rb ae aa TL xs) {W : World} {i : Nat} {ns : List Nd} (hS : RS w0 rb ae aa U W i ns) (hi : i < TL.length) :
  Calls Tryz.prog 86 #[.pointer (some ⟨rb, 0, none⟩)] W fun e W' => (TL[i].kind = 1 /\ e = .returned (.string ⟨(cut xs TL[i].place (TL[i].place + TL[i].len)).toArray⟩) /\ RS w0 rb ae aa U W' (i + 1) ns /\ af rb W W') ∨ (TL[i].kind ≠ 1 /\ e = aj TL[i].place /\ Below rb w0 W') := by
 have HN : Bx _ := ⟨nG hT hS hi 1⟩
 by_cases hk : TL[i].kind = 1
 ·obtain ⟨hl1, hl2⟩ := hT.inb i hi (by omega)
  obtain ⟨b, o, cap, rfl, hb, hcap, hsrc⟩ := hT.src (by omega)
  have hlen := hT.len
  have HC : Bx (∀ W1, RS w0 rb (.slice (some ⟨b, o, none⟩) xs.length cap) aa U W1 (i + 1) ns -> (∃ nv, W1.heap[rb]? = some (rdO (.slice (some ⟨b, o, none⟩) xs.length cap) aa (i + 1) nv)) /\ Src W1 b o xs) := ⟨fun W1 h => by
   obtain ⟨nv, h1, _⟩ := h.rd
   exact ⟨⟨nv, h1⟩, fun k hk => by rw [h.bel.cell (p := ⟨b, o + k, none⟩) hb]; exact hsrc k hk⟩⟩
  have hsl : ∀ W1 : World, (Instr.slice 33 (.slice (some ⟨b, o, none⟩) xs.length cap) (some (.int .i64 (TL[i].place : Int))) (some (.int .i64 ((TL[i].place : Int) + (TL[i].len : Int)))) none).run Tryz.prog W1 = .ok (.slice (some ⟨b, o + TL[i].place, none⟩) TL[i].len (cap - TL[i].place)) W1 := fun W1 => by
   have h := Lib.run_slice_window (P := Tryz.prog) W1 33 5 Tryz.underlying33 sizeOf5 b o xs.length cap TL[i].place (TL[i].place + TL[i].len) (by omega) (by omega)
   rw [Nat.add_sub_cancel_left] at h
   exact h
  have HCV : Bx (∀ W1 c, Src W1 b o xs -> (convert 33 9 (.slice (some ⟨b, o + TL[i].place, none⟩) TL[i].len c)).run Tryz.prog W1 = .ok (.string ⟨(cut xs TL[i].place (TL[i].place + TL[i].len)).toArray⟩) W1) := ⟨fun W1 c h => by
   have := mP W1 b o c xs TL[i].place (TL[i].place + TL[i].len) h (by omega) hl2
   rw [Nat.add_sub_cancel_left] at this
   exact this⟩
  unfold Go.Proofs.YtecodpdfckjalaaGreatDoor.aa at HN
  have hf1 := dB
  have hf2 := Ja
  generalize TL[i] = t at *
  clear hS hT hsrc
  go_enter Tryz.func86, Tryz.ntmps86
  go_wp2_with (first
   | (go_at_call 104; refine Calls.mono HN.out ?_; rintro e W1 (⟨_, rfl, q1, q2⟩ | ⟨h, _⟩); rotate_left 1; exact absurd hk h; obtain ⟨⟨nv, hr⟩, hsr⟩ := HC.out W1 q1; obtain ⟨c0, c1, c2, c3, hlt⟩ := gI hr; have hcv := fun (o1 : Obj) (k1 c1 : Nat) => HCV.out ((W1.alloc o1).drewN k1) c1 (hsr.below (by omega) (below_drewN (ah W1 o1) k1)); have Q1 : Bx _ := ⟨q1⟩; clear hr hsr q1))
  go_quiet (fail)
  go_wp2
  go_ret
  exact .inl ⟨hk, rfl, Q1.out.ext (below_drewN (ah W1 _) _), q2.trans (af.ext hlt (below_drewN (ah W1 _) _))⟩
 ·unfold Go.Proofs.YtecodpdfckjalaaGreatDoor.aa at HN
  generalize TL[i] = t at *
  clear hS hT
  go_enter Tryz.func86, Tryz.ntmps86
  go_wp2_with (first
   | (go_at_call 104; refine Calls.mono HN.out ?_; rintro e W1 (⟨h, _⟩ | ⟨h, rfl, q1⟩); exact absurd h hk; unfold aj))
  exact ⟨rfl, .inr ⟨hk, rfl, q1⟩⟩
theorem lU (hT : RT w0 rb ae aa TL xs) (hK : aO TL) {W : World} {s : List ax} {ns : List Nd} (h : RSs w0 rb ae aa TL xs U W s ns) :
  Calls Tryz.prog 86 #[.pointer (some ⟨rb, 0, none⟩)] W fun e W' => (kd s = 1 /\ e = .returned (.string ⟨(hd s).name.toArray⟩) /\ RSs w0 rb ae aa TL xs U W' (tl s) ns /\ (tl s).length + 1 = s.length /\ af rb W W') ∨ (kd s ≠ 1 /\ e = aj (hd s).place /\ Below rb w0 W') := by
 obtain ⟨i, rfl, hi, hS, hni, hU⟩ := h
 refine (C9 hT hS hi).mono ?_
 rw [iC hi]
 rintro e W' (⟨h1, h2, h3, h4⟩ | ⟨h1, h2, h3⟩)
 ·exact .inl ⟨h1, by rw [h2, mF hi]; rfl, ⟨i + 1, by rw [oq hi], adv hK hi (by omega), h3, by omega, fun g hg => by have := hU g hg; have := h4.size; omega⟩, by rw [fH hi]; rfl, h4⟩
 ·exact .inr ⟨h1, by rw [h2, mF hi]; rfl, h3⟩
theorem Bw (hT : RT w0 rb ae aa TL xs) (hK : aO TL) {W : World} {s : List ax} {ns : List Nd} (h : RSs w0 rb ae aa TL xs U W s ns) :
  Calls Tryz.prog 151 #[.pointer (some ⟨rb, 0, none⟩)] W fun e W' => (kd s = 2 /\ e = .returned (.int .i64 (hd s).num) /\ RSs w0 rb ae aa TL xs U W' (tl s) ns /\ (tl s).length + 1 = s.length /\ af rb W W') ∨ (kd s ≠ 2 /\ e = aj (hd s).place /\ Below rb w0 W') := by
 obtain ⟨i, rfl, hi, hS, hni, hU⟩ := h
 refine (xO hT hS hi).mono ?_
 rw [iC hi]
 rintro e W' (⟨h1, h2, h3, h4⟩ | ⟨h1, h2, h3⟩)
 ·exact .inl ⟨h1, by rw [h2, mF hi]; rfl, ⟨i + 1, by rw [oq hi], adv hK hi (by omega), h3, by omega, fun g hg => by have := hU g hg; have := h4.size; omega⟩, by rw [fH hi]; rfl, h4⟩
 ·exact .inr ⟨h1, by rw [h2, mF hi]; rfl, h3⟩
theorem fw (hT : RT w0 rb ae aa TL xs) {W0 W : World} {s0 s : List ax} {ns : List Nd} (a : List Tr) (h : RSs w0 rb ae aa TL xs U W s (ns ++ ag a ns.length)) (hk0 : af rb W0 W) (hsz : s.length + sizes a + 1 <= s0.length) (h0 : ∃ W1 , RSs w0 rb ae aa TL xs U W1 s0 ns) (kind : Int) (p : Nat) (num : Int) (nm : List UInt8) (kv : Value) (ka : Option Addr) (n kc : Nat) (hn : n = a.length) (hI : aN W rb (.slice ka n kc) (ends a ns.length)) (hkU : ∀ g, ka = some ⟨g, 0, none⟩ -> ¬ U g) :
  Calls Tryz.prog 70 #[.pointer (some ⟨rb, 0, none⟩), .agg #[.int .i64 kind, .int .i64 p, kv, .string ⟨nm.toArray⟩, .int .i64 num], .slice ka n kc] W fun e W' => ∃ r : Int, e = .returned (.int .i64 r) /\ ai w0 rb ae aa TL xs U W0 s0 ns (.ok [.mk kind p num nm a] s) (.returned (.int .i64 r)) W' := by
 obtain ⟨i, rfl, hi, hS, hni, hU⟩ := h
 obtain ⟨W1, i0, rfl, hi0, _, hni0, _⟩ := h0
 have hsm := hT.small
 have hel : ∀ (a : List Tr) (o : Nat), (ends a o).length = a.length := fun a => by
  induction a with
  | nil => intro o; rfl
  | cons t r ih => intro o; simp [ends, ih]
 have hn2 : n = (ends a ns.length).length := by rw [hel]; exact hn
 subst hn2
 refine (uQ hS kind p num ⟨nm.toArray⟩ kv ka kc (ends a ns.length) hI hkU (by omega)).mono ?_
 rintro e W' ⟨rfl, q, k⟩
 have hs1 : sizes [Tr.mk kind p num nm a] = sizes a + 1 := by simp [sizes, Tr.size]
 have hf1 : ag [Tr.mk kind p num nm a] ns.length = ag a ns.length ++ [⟨kind, (p : Int), ends a ns.length, ⟨nm.toArray⟩, num⟩] := by simp [ag, flat]
 refine ⟨_, rfl, rfl, by rw [hs1]; omega, ?_, ⟨i, rfl, hi, ?_, ?_, fun g hg => by have := hU g hg; have := k.size; omega⟩, hk0.trans k⟩
 ·rw [List.length_append, ek, hs1]
  congr 2
 ·rw [hf1, ← List.append_assoc]
  exact q
 ·rw [hf1, List.length_append, List.length_append, ek]
  simp only [List.length_append, ek] at hni
  unfold pts at hsz
  simp only [List.length_map, List.length_drop] at hsz
  simp
  omega
end Go.Proofs.YtecodpdfckjalaaGreatDoor
namespace Go.Proofs.YtecodpdfckjalaaGreatDoor
open Go.RowKit
variable {w0 : World} {rb : Nat} {ae aa : Value} {TL : List Tok} {xs : List UInt8} {U : Nat -> Prop}
theorem Bz {W : World} {s : List ax} {ns : List Nd} (h : RSs w0 rb ae aa TL xs U W s ns) {x : Nat} (hx : bZ W rb = some x) : x < W.heap.size := by
 obtain ⟨i, _, _, hS, _, _⟩ := h
 obtain ⟨cur, hh⟩ := hS.own hx
 exact aU hh
theorem jL {W W2 : World} {s : List ax} {ns : List Nd} {o : Obj} (h : RSs w0 rb ae aa TL xs U W s ns) (hk : af rb (W.alloc o) W2) : W2.heap[W.heap.size]? = some o := by
 have hr := h.lt
 rw [hk.same W.heap.size (by simp) hr (fun e => ?_)]
 ·exact heap_alloc_new W o
 ·have e2 : bZ (W.alloc o) rb = bZ W rb := by unfold bZ; rw [(ah W o).block rb hr]
  rw [e2] at e
  have := Bz h e
  omega
theorem cZ {W : World} {x : Nat} {a b c d e : Value} (h : W.heap[x]? = some (.cells #[a, b, c, d, e] 44 (0, 0))) : W.cell? ⟨x, 0, none⟩ = some a /\ W.cell? ⟨x, 1, none⟩ = some b /\ W.cell? ⟨x, 2, none⟩ = some c /\ W.cell? ⟨x, 3, none⟩ = some d /\ W.cell? ⟨x, 4, none⟩ = some e /\ x < W.heap.size := by
 refine ⟨?_, ?_, ?_, ?_, ?_, aU h⟩ <;> simp [World.cell?, h]
theorem RSs.new {W : World} {s : List ax} {ns : List Nd} (h : RSs w0 rb ae aa TL xs U W s ns) : ∀ g, (some ⟨W.heap.size, 0, none⟩ : Option Addr) = some ⟨g, 0, none⟩ -> ¬ U g := by
 obtain ⟨_, _, _, _, _, hU⟩ := h
 intro g e hg
 simp at e
 subst e
 have := hU _ hg
 omega
end Go.Proofs.YtecodpdfckjalaaGreatDoor
namespace Go.Proofs.YtecodpdfckjalaaGreatDoor
open Go.RowKit
variable {w0 : World} {rb : Nat} {ae aa : Value} {TL : List Tok} {xs : List UInt8}
theorem rF (hT : RT w0 rb ae aa TL xs) (hK : aO TL) {f : Nat} (Htyp : RC w0 rb ae aa TL xs (pF f .typ) 87 #[]) (kind : Int) (c : Nat) (hc : (10 <= c /\ c < 31) ∨ (40 <= c /\ c < 67)) (tx : ByteArray) (ht : au (c : Int) = tx.data.toList) :
  RC w0 rb ae aa TL xs (fun s => want c s fun s1 => want 22 s1 fun s2 => aB (pF f .typ s2) fun a s3 => mk1 kind s 0 [] a s3) 105 #[.int .i64 kind, .string tx] := by
 intro U W s ns hS hne
 show Calls Tryz.prog 105 #[.pointer (some ⟨rb, 0, none⟩), .int .i64 kind, .string tx] W _
 dsimp only at hne ⊢
 have hrW := hS.lt
 have B1 : Bx (∀ W1, RSs w0 rb ae aa TL xs U W1 (s) (ns) -> _) := ⟨fun W1 h => bA hT hK h c hc tx ht⟩
 by_cases h1 : kd (s) = c
 ·rw [aG h1] at hne ⊢
  have B2 : Bx (∀ W1, RSs w0 rb ae aa TL xs U W1 (tl (s)) (ns) -> _) := ⟨fun W1 h => bA hT hK h 22 (by decide) ⟨#[111, 102]⟩ (by decide)⟩
  by_cases h2 : kd (tl (s)) = 22
  ·rw [aG h2] at hne ⊢
   have B3 : Bx (∀ W1, RSs w0 rb ae aa TL xs U W1 (tl (tl (s))) (ns) -> pF f .typ (tl (tl (s))) ≠ .out -> Calls Tryz.prog 87 #[.pointer (some ⟨rb, 0, none⟩)] W1 (ai w0 rb ae aa TL xs U W1 (tl (tl (s))) (ns) (pF f .typ (tl (tl (s)))))) := ⟨fun W1 h hn => Htyp U W1 (tl (tl (s))) (ns) h hn⟩
   match r3 : pF f .typ (tl (tl (s))) with
   | .out => rw [r3] at hne; exact absurd rfl hne
   | .err s' =>
    rw [r3] at B3
    show Calls _ _ _ _ (ai w0 rb ae aa TL xs U W s ns (.err s'))
    go_enter Tryz.func105, Tryz.ntmps105
    go_wp2_with (first
     | (go_at_call 85; refine Calls.mono (B1.out _ hS) ?_; rintro e W1 (⟨_, rfl, q1, l1, k1⟩ | ⟨h, _⟩); rotate_left 1; exact absurd h1 h; clear B1)
     | (go_at_call 85; refine Calls.mono (B2.out _ q1) ?_; rintro e W2 (⟨_, rfl, q2, l2, k2⟩ | ⟨h, _⟩); rotate_left 1; exact absurd h2 h; clear B2)
     | (go_at_call 87; refine Calls.mono (B3.out _ q2 (by simp)) ?_; rintro e W3 ⟨rfl, b3⟩; unfold aj))
    exact ⟨rfl, rfl, b3⟩
   | .ok ts3 s3 =>
    rw [r3] at B3 hne
    simp only [aB] at hne ⊢
    have HD : Bx (∀ W1, RSs w0 rb ae aa TL xs U W1 (s3) (ns ++ ag ts3 (ns).length) -> af rb W W1 -> ∀ v3 : Nat, v3 = ((ns).length + sizes ts3 - 1 : Nat) -> ts3.length = 1 -> (s3).length + sizes ts3 + 1 <= s.length -> ∀ kv, Calls Tryz.prog 70 #[.pointer (some ⟨rb, 0, none⟩), .agg #[.int .i64 kind, .int .i64 (hd s).place, kv, .string ⟨([]).toArray⟩, .int .i64 0], .slice (some ⟨W1.heap.size, 0, none⟩) 1 1] (W1.alloc (.cells #[.int .i64 ((v3 : Nat) : Int)] 3)) fun e W' => ∃ r : Int, e = .returned (.int .i64 r) /\ ai w0 rb ae aa TL xs U W s ns (.ok [.mk kind (hd s).place 0 ([]) ts3] (s3)) (.returned (.int .i64 r)) W') := ⟨fun W1 h hk v3 g3 e3 hsz kv => by
     have hI := df (rb := rb) (W := W1) (o := #[.int .i64 ((v3 : Nat) : Int)]) (ys := ends ts3 ns.length) (n := 1) (by rw [aI e3]; rfl) (by decide) (by decide) h.lt (by rw [aI e3, g3]; rfl)
     exact fw hT ts3 (h.ext (ah _ _)) (hk.trans (af.alloc h.lt _)) hsz ⟨W, hS⟩ kind (hd s).place 0 ([]) kv (some ⟨W1.heap.size, 0, none⟩) 1 1 e3.symm hI h.new⟩
    show Calls _ _ _ _ (ai w0 rb ae aa TL xs U W s ns (.ok [.mk kind (hd s).place 0 ([]) ts3] (s3)))
    go_enter Tryz.func105, Tryz.ntmps105
    go_wp2_with (first
     | (go_at_call 85; refine Calls.mono (B1.out _ hS) ?_; rintro e W1 (⟨_, rfl, q1, l1, k1⟩ | ⟨h, _⟩); rotate_left 1; exact absurd h1 h; clear B1)
     | (go_at_call 85; refine Calls.mono (B2.out _ q1) ?_; rintro e W2 (⟨_, rfl, q2, l2, k2⟩ | ⟨h, _⟩); rotate_left 1; exact absurd h2 h; clear B2)
     | (go_at_call 87; refine Calls.mono (B3.out _ q2 (by simp)) ?_; rintro e W3 ⟨n3, l3, he, q3, k3⟩; obtain ⟨v3, hv⟩ : ∃ r : Nat, r = ((ns).length + sizes ts3 - 1) := ⟨_, rfl⟩; rw [← hv] at he; subst he; have V3 : Bx _ := ⟨hv⟩; clear hv B3)
     | (go_at_call 70; refine Calls.mono (HD.out _ q3 (k1.trans (k2.trans k3)) v3 V3.out n3 (by omega) _) ?_; rintro e W9 ⟨r9, rfl, hp⟩))
    go_ret
    exact hp
  ·rw [aJ h2]
   go_enter Tryz.func105, Tryz.ntmps105
   go_wp2_with (first
    | (go_at_call 85; refine Calls.mono (B1.out _ hS) ?_; rintro e W1 (⟨_, rfl, q1, l1, k1⟩ | ⟨h, _⟩); rotate_left 1; exact absurd h1 h; clear B1)
    | (go_at_call 85; refine Calls.mono (B2.out _ q1) ?_; rintro e W2 (⟨h, _⟩ | ⟨_, rfl, b2⟩); exact absurd h h2; unfold aj))
   exact ⟨rfl, rfl, b2⟩
 ·rw [aJ h1]
  go_enter Tryz.func105, Tryz.ntmps105
  go_wp2_with (first
   | (go_at_call 85; refine Calls.mono (B1.out _ hS) ?_; rintro e W1 (⟨h, _⟩ | ⟨_, rfl, b1⟩); exact absurd h h1; unfold aj))
  exact ⟨rfl, rfl, b1⟩
end Go.Proofs.YtecodpdfckjalaaGreatDoor
namespace Go.Proofs.YtecodpdfckjalaaGreatDoor
open Go.RowKit
variable {w0 : World} {rb : Nat} {ae aa : Value} {TL : List Tok} {xs : List UInt8} {U : Nat -> Prop}
def sliceLen : Value -> Nat
 | .slice _ n _ => n
 | _ => 0
def ig (acc : List Tr) : Res -> Res
 | .ok b s => .ok (acc ++ b) s
 | .err s => .err s
 | .out => .out
theorem nH (r : Res) : ig [] r = r := by cases r <;> rfl
theorem fK : (Tryz.prog.info? 3).map (fun i => (i.zero, i.size, i.bytes)) = some (some (.int .i64 0), 1, 8) := by kernel_rfl
theorem dC (X : World) (H : Nat) (hH : X.heap.size = H) (a : Value) : ∀ (j : Nat) (u : Value), [a][j]? = some u -> (X.alloc (.cells #[a] 3)).cell? ((⟨H, 0, none⟩ : Addr).add j) = some u := by
 subst hH
 exact World.news_of_block (w := X.alloc (.cells #[a] 3)) (cs := #[a]) (heap_alloc_new X (.cells #[a] 3))
theorem dY (x : Int) : ∀ u ∈ [Value.int .i64 x], u.oneCell' = true := by
 intro u hu
 simp at hu
 subst hu
 rfl
def Uv (U : Nat -> Prop) (v : Value) : Nat -> Prop := fun y => U y ∨ v.ownBlock = some y
theorem RSs.grown {W w1 : World} {s : List ax} {ns : List Nd} {v : Value} {ys : List Int} {o : Obj} (h : RSs w0 rb ae aa TL xs (Uv U v) W s ns) (hv : aN W rb v ys) (hg : (W.alloc o).grownBy w1 v.ownBlock) (g n cap : Nat) (hat : v.ownBlock = some g ∨ g = W.heap.size + 1) (hlt : g < w1.heap.size) :
  RSs w0 rb ae aa TL xs (Uv U (.slice (some ⟨g, 0, none⟩) n cap)) w1 s ns /\ ∀ W0, af rb W0 W -> (∀ y, v.ownBlock = some y -> W0.heap.size <= y) -> af rb W0 w1 /\ W0.heap.size <= g := by
 have hr := h.lt
 have hz := hg.size
 simp at hz
 have hvl : ∀ y, v.ownBlock = some y -> rb + 1 <= y /\ y < W.heap.size := fun y hy => by
  obtain ⟨cur, hh⟩ := kX hv hy
  exact ⟨(hv.lt y hy).1, aU hh⟩
 have same : ∀ x, x < W.heap.size -> v.ownBlock ≠ some x -> w1.heap[x]? = W.heap[x]? := fun x hx hne => by
  rw [hg.block x (by simp; omega) (fun e => hne e.symm), (ah W o).block x hx]
 obtain ⟨i, rfl, hi, hS, hni, hU⟩ := h
 obtain ⟨nv, h1, h2⟩ := hS.rd
 have h1' : w1.heap[rb]? = some (rdO ae aa i nv) := by
  rw [same rb hr (fun e => by have := hvl rb e; omega)]
  exact h1
 obtain ⟨ks, k1, k2, k3⟩ := h2.ex
 refine ⟨⟨i, rfl, hi, ⟨⟨nv, h1', ⟨ks, k1, ?_, fun j hj hj' => ⟨?_, ?_⟩⟩⟩, ?_⟩, hni, ?_⟩, fun W0 hk hfr => ?_⟩
 ·obtain ⟨q1, q2⟩ := k2
  refine ⟨q1, ?_⟩
  rcases q2 with q2 | ⟨gg, cp, cur, hv2, hg2, hh, hr2⟩
  ·exact .inl q2
  ·refine .inr ⟨gg, cp, cur, hv2, hg2, ?_, hr2⟩
   rw [same gg (aU hh) (fun e => ?_)]
   ·exact hh
   ·obtain ⟨c2, hh2⟩ := kX hv e
    rw [hh] at hh2
    simp only [Option.some.injEq, Obj.cells.injEq] at hh2
    exact absurd hh2.2.1 (by decide)
 ·obtain ⟨⟨q1, q2⟩, q3⟩ := k3 j hj hj'
  refine ⟨q1, ?_⟩
  rcases q2 with q2 | ⟨gg, cp, cur, hv2, hg2, hh, hr2⟩
  ·exact .inl q2
  ·refine .inr ⟨gg, cp, cur, hv2, hg2, ?_, hr2⟩
   rw [same gg (aU hh) (fun e => ?_)]
   ·exact hh
   ·simp only [Value.slice.injEq] at hv2
    exact q3 gg hv2.1 (.inr e)
 ·obtain ⟨⟨q1, q2⟩, q3⟩ := k3 j hj hj'
  intro y hy hyU
  rcases hyU with hyU | hyU
  ·exact q3 y hy (.inl hyU)
  ·simp [Value.ownBlock] at hyU
   subst hyU
   rcases hat with e | e
   ·exact q3 g hy (.inr e)
   ·rcases q2 with ⟨q2, _⟩ | ⟨gg, cp, cur, hv2, hg2, hh, hr2⟩
    ·simp only [Value.slice.injEq] at q2
     rw [q2.1] at hy
     cases hy
    ·simp only [Value.slice.injEq] at hv2
     rw [hv2.1] at hy
     simp at hy
     subst hy
     have := aU hh
     omega
 ·exact Below.grown (hS.bel.alloc (by omega) o) hg (by simp; omega) (fun x hx => by have := hvl x hx; omega)
 ·intro y hy
  rcases hy with hy | hy
  ·have := hU y (.inl hy)
   omega
  ·simp [Value.ownBlock] at hy
   subst hy
   exact hlt
 ·have hkz := hk.size
  refine ⟨⟨by omega, fun x hx hxr ho => ?_, ?_⟩, ?_⟩
  ·rw [same x (by omega) (fun e => by have := hfr x e; omega)]
   exact hk.same x hx hxr ho
  ·rw [fD h1', ← fD h1]
   exact hk.own
  ·rcases hat with e | e
   ·exact hfr g e
   ·omega
end Go.Proofs.YtecodpdfckjalaaGreatDoor
