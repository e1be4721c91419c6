import Derived.Test.YtecodpdfckjalaaGreatDoorYTChkW
import Derived.Test.YtecodpdfckjalaaGreatDoorYCovQ
import Derived.Lib.Builder
import Derived.Lib.AppendStr
import Derived.Lib.UnsafeStr
import Derived.Laws.Externs
import Derived.Test.YtecodpdfckjalaaGreatDoorYTCurA
import Derived.Test.YtecodpdfckjalaaGreatDoorYTName
set_option linter.unusedVariables false
set_option linter.unusedSimpArgs false
set_option maxHeartbeats 4000000
set_option maxRecDepth 100000
namespace Go.Proofs.YtecodpdfckjalaaGreatDoor
inductive jb (fs : List Nat) : Nat -> List Nat -> Prop
 | nil : jb fs 0 []
 | cons (m : Nat) (r : List Nat) : m < fs.length -> jb fs (fs.getD m 0) r -> jb fs (m + 1) (m :: r)
theorem jb.lt {fs : List Nat} (hle : ∀ j, j < fs.length -> fs.getD j 0 <= j) {n : Nat} {R : List Nat} (h : jb fs n R) : ∀ m ∈ R, m < n := by
 induction h with
 | nil => intro m hm; cases hm
 | cons m r hm _ ih =>
  intro k hk
  rcases List.mem_cons.1 hk with rfl | hk
  ·omega
  ·have := ih k hk
   have := hle m hm
   omega
theorem jb.nodup {fs : List Nat} (hle : ∀ j, j < fs.length -> fs.getD j 0 <= j) {n : Nat} {R : List Nat} (h : jb fs n R) : R.Nodup := by
 induction h with
 | nil => exact List.nodup_nil
 | cons m r hm hr ih =>
  refine List.nodup_cons.2 ⟨fun hk => ?_, ih⟩
  have := hr.lt hle m hk
  have := hle m hm
  omega
theorem jb.more {fs : List Nat} {n : Nat} {R : List Nat} (h : jb fs n R) (x : Nat) : jb (fs ++ [x]) n R := by
 induction h with
 | nil => exact .nil
 | cons m r hm hr ih =>
  refine .cons m r (by simp; omega) ?_
  have e : (fs ++ [x]).getD m 0 = fs.getD m 0 := by
   simp only [List.getD_eq_getElem?_getD]
   rw [List.getElem?_append_left hm]
  rw [e]
  exact ih
def iF (fs : List Nat) : Nat -> List Int -> Nat
 | n, [] => n
 | n, k :: r => iF fs (fs.getD k.toNat 0) r
theorem rq (fs : List Nat) (k : Int) : ∀ (ks : List Int) (n : Nat), iF fs n (ks ++ [k]) = fs.getD k.toNat 0
 | [], n => rfl
 | x :: r, n => by
  rw [List.cons_append, iF]
  exact rq fs k r _
theorem jA (fs : List Nat) (n : Nd) (i : Nat) : dQ fs n i = iF fs i n.kids.reverse := by
 unfold dQ
 match n.kids with
 | [] => rfl
 | k :: r => simp only [List.reverse_cons, rq]
theorem jb.split {fs : List Nat} : ∀ (ks : List Int) (n : Nat) (R : List Nat), jb fs n R -> fM fs n ks = true ->
  ∃ R', R = ks.map Int.toNat ++ R' /\ (∀ k ∈ ks, 0 <= k) /\ jb fs (iF fs n ks) R'
 | [], n, R, h, _ => ⟨R, rfl, (fun k hk => by cases hk), h⟩
 | k :: r, n, R, h, ho => by
  rw [fM] at ho
  split at ho
  ·rename_i hk
   cases h with
   | nil => omega
   | cons m R0 hm hr =>
    have e : k.toNat = m := by omega
    rw [e] at ho
    obtain ⟨R', h1, h2, h3⟩ := jb.split r _ _ hr ho
    refine ⟨R', by rw [h1, List.map_cons, e]; rfl, ?_, ?_⟩
    ·intro x hx
     rcases List.mem_cons.1 hx with rfl | hx
     ·exact hk.2
     ·exact h2 x hx
    ·rw [iF, e]
     exact h3
  ·cases ho
def mM (l : List Nd) (i : Nat) : List Int := (List.range i).flatMap fun j => (ndN l j).kids
theorem lc (l : List Nd) (i : Nat) : mM l (i + 1) = mM l i ++ (ndN l i).kids := by
 unfold mM
 rw [List.range_succ, List.flatMap_append]
 simp
def LY (l : List Nd) (i : Nat) : Prop :=
 ∀ p (hp : p < (ndN l i).kids.length), ∃ m : Nat, (ndN l i).kids[p] = (m : Int) /\ m < i /\ (m : Int) ∉ mM l i ++ (ndN l i).kids.take p
structure Ki (l : List Nd) (fs : List Nat) (R : List Nat) : Prop where
 roots : jb fs fs.length R
 le : ∀ j, j < fs.length -> fs.getD j 0 <= j
 new : ∀ r ∈ R, (r : Int) ∉ mM l fs.length
 many : (mM l fs.length).length + R.length = fs.length
 low : ∀ k ∈ mM l fs.length, k < fs.length
 ok : ∀ i, i < fs.length -> LY l i
theorem Ki.next {l : List Nd} {fs R : List Nat} (h : Ki l fs R) (hz : dE l fs fs.length = 0) :
  ∃ R', Ki l (fs ++ [dQ fs (ndN l fs.length) fs.length]) (fs.length :: R') := by
 obtain ⟨_, _, _, _, ho, _, _⟩ := ic hz
 have hfl := nI h.le ho
 obtain ⟨R', hR, hnn, hr⟩ := jb.split _ _ _ h.roots ho
 rw [← jA] at hr
 have hlt := h.roots.lt h.le
 have hnd := h.roots.nodup h.le
 generalize hks : (ndN l fs.length).kids = ks at *
 generalize hf : dQ fs (ndN l fs.length) fs.length = f at *
 have hin : ∀ k ∈ ks, k.toNat ∈ R := fun k hk => by
  rw [hR]
  exact List.mem_append_left _ (List.mem_map.2 ⟨k, by simpa using hk, rfl⟩)
 have hnn' : ∀ k ∈ ks, 0 <= k := fun k hk => hnn k (by simpa using hk)
 rw [hR] at hnd
 obtain ⟨hnd1, hnd2, hnd3⟩ := List.nodup_append.1 hnd
 have hrev : (ks.map Int.toNat).Nodup := by
  rw [List.map_reverse] at hnd1
  exact (List.pairwise_reverse.1 hnd1).imp fun h => Ne.symm h
 have hlen : (fs ++ [f]).length = fs.length + 1 := by simp
 refine ⟨R', ?_, ?_, ?_, ?_, ?_, ?_⟩
 ·rw [hlen]
  refine .cons _ _ (by rw [hlen]; omega) ?_
  have e : (fs ++ [f]).getD fs.length 0 = f := by simp [List.getD_eq_getElem?_getD]
  rw [e]
  exact hr.more f
 ·intro j hj
  rw [hlen] at hj
  by_cases hj2 : j < fs.length
  ·have := h.le j hj2
   simp only [List.getD_eq_getElem?_getD] at this ⊢
   rw [List.getElem?_append_left hj2]
   exact this
  ·have : j = fs.length := by omega
   subst this
   simp [List.getD_eq_getElem?_getD]
   exact hfl
 ·intro r hr2
  rw [hlen, lc, hks]
  intro hm
  rcases List.mem_cons.1 hr2 with rfl | hr2
  ·rcases List.mem_append.1 hm with hm | hm
   ·have := h.low _ hm
    omega
   ·have := hlt _ (hin _ hm)
    simp at this
  ·rcases List.mem_append.1 hm with hm | hm
   ·exact h.new r (by rw [hR]; exact List.mem_append_right _ hr2) hm
   ·exact hnd3 r (List.mem_map.2 ⟨(r : Int), by simpa using hm, by simp⟩) r hr2 rfl
 ·rw [hlen, lc, hks]
  have h1 := h.many
  rw [hR] at h1
  simp at h1 ⊢
  omega
 ·intro k hk
  rw [hlen]
  rw [hlen, lc, hks] at hk
  rcases List.mem_append.1 hk with hm | hm
  ·have := h.low _ hm
   omega
  ·have := hlt _ (hin _ hm)
   have := hnn' _ hm
   omega
 ·intro i hi
  rw [hlen] at hi
  by_cases hi2 : i < fs.length
  ·exact h.ok i hi2
  ·have : i = fs.length := by omega
   subst this
   intro p hp
   simp only [hks] at hp ⊢
   have hmem : ks[p] ∈ ks := List.getElem_mem hp
   refine ⟨ks[p].toNat, ?_, hlt _ (hin _ hmem), ?_⟩
   ·have := hnn' _ hmem
    omega
   ·intro hm
    rcases List.mem_append.1 hm with hm | hm
    ·exact h.new _ (hin _ hmem) hm
    ·obtain ⟨q, hq, hqe⟩ := List.getElem_of_mem hm
     simp at hq hqe
     have e : (ks.map Int.toNat)[q]'(by simp; omega) = (ks.map Int.toNat)[p]'(by simpa using hp) := by
      simp [hqe]
      omega
     exact List.pairwise_iff_getElem.1 hrev q p (by simp; omega) (by simpa using hp) (by omega) e
structure EM (l : List Nd) (j : Nat) : Prop where
 kind : gP (ndN l j).kind = true
 pos : ¬ (ndN l j).pos < 0
 num : cu (ndN l j).kind (ndN l j).num (ndN l j).kids.length = true
 name : bN (ndN l j).kind (ndN l j).name = true
 fit : aA (kdN l) (ndN l j).kind (ndN l j).num ((ndN l j).kids.map Int.toNat) = true
 lev : dY l (ndN l j) = true
 nat : ((ndN l j).kids.map Int.toNat).map (fun k : Nat => (k : Int)) = (ndN l j).kids
 low : ∀ k ∈ (ndN l j).kids.map Int.toNat, k < j
theorem ru {l : List Nd} {fs : List Nat} (hle : ∀ i, i < fs.length -> fs.getD i 0 <= i) (hz : dE l fs fs.length = 0) :
  ∀ i, i < (fs ++ [dQ fs (ndN l fs.length) fs.length]).length -> (fs ++ [dQ fs (ndN l fs.length) fs.length]).getD i 0 <= i := by
 obtain ⟨_, _, _, _, ho, _, _⟩ := ic hz
 have hfl := nI hle ho
 intro j hj
 simp at hj
 by_cases hj2 : j < fs.length
 ·have := hle j hj2
  simp only [List.getD_eq_getElem?_getD] at this ⊢
  rw [List.getElem?_append_left hj2]
  exact this
 ·have : j = fs.length := by omega
  subst this
  simp [List.getD_eq_getElem?_getD]
  exact hfl
theorem Jm {l : List Nd} : ∀ (m : Nat) (fs : List Nat), fs.length + m = l.length -> (∀ i, i < fs.length -> fs.getD i 0 <= i) -> (gK l m fs).2 = 0 ->
  (∀ j, fs.length <= j -> j < l.length -> EM l j) /\ 0 < l.length /\ kdN l (l.length - 1) = 46
 | 0, fs, hm, hle, hc => by
  rw [gK] at hc
  unfold xx at hc
  split at hc
  ·cases hc
  ·rename_i hr
   refine ⟨fun j h1 h2 => by omega, ?_, ?_⟩
   ·exact Nat.pos_of_ne_zero fun e => hr (.inl e)
   ·exact Classical.byContradiction fun e => hr (.inr (.inl e))
 | m + 1, fs, hm, hle, hc => by
  rw [gK] at hc
  split at hc
  ·rename_i hz
   obtain ⟨h1, h2, h3⟩ := Jm m _ (by simp; omega) (ru hle hz) hc
   refine ⟨fun j hj hl => ?_, h2, h3⟩
   by_cases e : j = fs.length
   ·subst e
    obtain ⟨q1, q2, q3, q4, q5, q6, q7⟩ := ic hz
    obtain ⟨k1, k2⟩ := xu hle q5
    exact ⟨q1, q2, q3, q4, q6, q7, k1, k2⟩
   ·exact h1 j (by simp; omega) hl
  ·rename_i hz
   exact absurd hc hz
theorem iY {l : List Nd} (h : (bG l).2 = 0) : (∀ j, j < l.length -> EM l j) /\ 0 < l.length /\ kdN l (l.length - 1) = 46 := by
 obtain ⟨h1, h2⟩ := Jm l.length [] (by simp) (fun i hi => by cases hi) h
 exact ⟨fun j hj => h1 j (Nat.zero_le _) hj, h2⟩
end Go.Proofs.YtecodpdfckjalaaGreatDoor
namespace Go.Proofs.YtecodpdfckjalaaGreatDoor
open Go.RowKit
def prO (lv p v : Value) : Obj := .cells #[lv, p, v] 53 (0, 0)
theorem oZ : (Tryz.prog.info? 51).map (·.size) = some 2 := by kernel_rfl
theorem liesBuilder : liesAt Tryz.prog Tryz.prog.depth 53 (3 / Tryz.prog.cellsOf 53) 1 51 1 = true := by kernel_rfl
theorem info5 : (Tryz.prog.info? 5).map (fun i => (i.zero, i.size, i.bytes)) = some (some (.int .u8 0), 1, 1) := by kernel_rfl
theorem fU {w : World} {b : Nat} {lv p v : Value} (h : w.heap[b]? = some (prO lv p v)) : w.cell? ⟨b, 0, none⟩ = some lv /\ w.cell? ⟨b, 1, none⟩ = some p /\ w.cell? ⟨b, 2, none⟩ = some v /\ (∀ i, w.frozen? ⟨b, i, none⟩ = false) /\ w.shape? b = some (53, 3) /\ b < w.heap.size := by
 have h0 : w.cell? ⟨b, 0, none⟩ = some lv := by simp [World.cell?, h, prO]
 exact ⟨h0, by simp [World.cell?, h, prO], by simp [World.cell?, h, prO], fun i => by simp [World.frozen?, h, prO], by simp [World.shape?, h, prO], World.block_lt_of_cell? w _ h0⟩
theorem ry (b : Nat) (w : World) (h0 : w.cell? ⟨b, 1, none⟩ = some (.pointer (some ⟨b, 1, none⟩))) :
  Calls Tryz.prog 97 #[.pointer (some ⟨b, 1, none⟩)] w fun e w' => e = .returned (.tuple #[]) /\ w = w' := by
 obtain ⟨j, hj, _⟩ := Option.map_eq_some_iff.1 oZ
 go_enter Tryz.func97, Tryz.ntmps97
 go_wp2
 rw [Lib.run_neq_ptr_same w _ Tryz.underlying49 hj]
 go_wp2
 go_end0
 exact ⟨rfl, rfl⟩
theorem pI (b : Nat) (w : World) (h0 : w.cell? ⟨b, 1, none⟩ = some (.pointer none)) (hsh : w.shape? b = some (53, 3)) (hfz : w.frozen? ⟨b, 1, none⟩ = false) :
  Calls Tryz.prog 97 #[.pointer (some ⟨b, 1, none⟩)] w fun e w' => e = .returned (.tuple #[]) /\ w.setCell ⟨b, 1, none⟩ (.pointer (some ⟨b, 1, none⟩)) = w' := by
 obtain ⟨j, hj, hjs⟩ := Option.map_eq_some_iff.1 oZ
 go_enter Tryz.func97, Tryz.ntmps97
 go_wp2
 rw [Lib.run_to_unsafe w ⟨b, 1, none⟩ Tryz.underlying49 Tryz.underlying112 hj (by rw [hjs]; decide) hsh (by simp)]
 simp only [Result.andThen]
 rw [Oper.upon_value]
 go_wp2
 rw [run_callFunc_extern Tryz.func112 (by kernel_rfl) (by kernel_rfl) (by kernel_rfl) (e := Extern.AbiNoEscape.same) (by kernel_rfl)]
 rw [Lib.run_noEscape]
 simp only [Result.andThen]
 rw [Oper.upon_value]
 go_wp2
 rw [Lib.run_from_unsafe w ⟨b, 1, none⟩ Tryz.underlying112 Tryz.underlying49 hj hsh liesBuilder]
 simp only [Result.andThen]
 rw [Oper.upon_value]
 go_wp2
 go_end0
 exact ⟨rfl, rfl⟩
def fu (w w' : World) (b : Nat) : Prop := ∀ k C T fz, w.heap[k]? = some (.cells C T fz) -> T ≠ 5 -> k ≠ b -> w'.heap[k]? = some (.cells C T fz)
theorem fu.refl (w : World) (b : Nat) : fu w w b := fun _ _ _ _ h _ _ => h
theorem fu.trans {w w' w'' : World} {b : Nat} (h : fu w w' b) (h' : fu w' w'' b) : fu w w'' b := fun k C T fz h1 h2 h3 => h' k C T fz (h k C T fz h1 h2 h3) h2 h3
theorem own_ne {w : World} {B n k : Nat} {v : Value} {cs : List Value} {C : Array Value} {T : TypeId} {fz : Nat × Nat} (h : w.ownsRow B 5 1 v n cs) (hk : w.heap[k]? = some (.cells C T fz)) (hT : T ≠ 5) : v.ownBlock ≠ some k := by
 intro e
 rcases h.2 with ⟨hv, _⟩ | ⟨g, cap, cur, hv, hg, hh, _⟩
 ·rw [hv] at e; simp [Value.ownBlock] at e
 ·rw [hv] at e
  simp [Value.ownBlock] at e
  subst e
  rw [hh] at hk
  simp at hk
  exact hT hk.2.1.symm
theorem fu.set (w : World) (b i : Nat) (x : Value) : fu w (w.setCell ⟨b, i, none⟩ x) b := fun k C T fz h1 h2 h3 => by
 rw [heap_setCell_other w ⟨b, i, none⟩ k x h3]; exact h1
theorem je {w : World} {k : Nat} {o : Obj} (h : w.heap[k]? = some o) : k < w.heap.size := by
 rcases Nat.lt_or_ge k w.heap.size with h' | h'
 ·exact h'
 ·simp [Array.getElem?_eq_none h'] at h
theorem fu.grown {w w' : World} {B n b : Nat} {v : Value} {cs : List Value} (h : w.ownsRow B 5 1 v n cs) (hg : w.grownBy w' v.ownBlock) : fu w w' b := fun k C T fz h1 h2 h3 => by
 rw [hg.block k (je h1) (fun e => own_ne h h1 h2 e.symm)]; exact h1
theorem fu.alloc (w : World) (o : Obj) (b : Nat) : fu w (w.alloc o) b := fun k C T fz h1 h2 h3 => by
 rw [(ah w o).block k (je h1)]; exact h1
structure PB (w : World) (B b : Nat) (lv : Value) (bs : List UInt8) : Prop where
 ex : ∃ p v, (p = .pointer none ∨ p = .pointer (some ⟨b, 1, none⟩)) /\ w.heap[b]? = some (prO lv p v) /\ w.ownsRow B 5 1 v bs.length (Lib.byteCells bs) /\ (bs = [] -> v = .slice none 0 0)
 lo : B <= b
 hi : B <= w.heap.size
theorem Hr (B b : Nat) (lv : Value) (bs : List UInt8) (w : World) (h : PB w B b lv bs) :
  Calls Tryz.prog 74 #[.pointer (some ⟨b, 1, none⟩)] w fun e w' => e = .returned (.int .i64 bs.length) /\ w = w' := by
 obtain ⟨p, v, hp, hbk, hown, hnil⟩ := h.ex
 obtain ⟨ao, cap, rfl⟩ : ∃ ao cap, v = .slice ao bs.length cap := by
  rcases hown.2 with ⟨hv, h0⟩ | ⟨g, cap, cur, hv, _⟩
  ·exact ⟨none, 0, by rw [hv, h0]⟩
  ·exact ⟨_, _, hv⟩
 obtain ⟨_, _, c2, _⟩ := fU hbk
 clear hnil hbk hown
 go_enter Tryz.func74, Tryz.ntmps74
 go_wp2
 go_ret
 exact ⟨rfl, rfl⟩
theorem o5 {w : World} {B b i n : Nat} {x v : Value} {cs : List Value} (h : w.ownsRow B 5 1 v n cs) (hne : v.ownBlock ≠ some b) : (w.setCell ⟨b, i, none⟩ x).ownsRow B 5 1 v n cs := by
 obtain ⟨h1, h2⟩ := h
 refine ⟨h1, ?_⟩
 rcases h2 with h2 | ⟨g, cap, cur, hv, hg, hh, r⟩
 ·exact .inl h2
 ·refine .inr ⟨g, cap, cur, hv, hg, ?_, r⟩
  rw [heap_setCell_other w ⟨b, i, none⟩ g x ?_]
  ·exact hh
  ·intro e
   apply hne
   rw [hv]
   simp [Value.ownBlock, e]
structure PU (w : World) (B b : Nat) (lv v : Value) (bs : List UInt8) : Prop where
 blk : w.heap[b]? = some (prO lv (.pointer (some ⟨b, 1, none⟩)) v)
 own : w.ownsRow B 5 1 v bs.length (Lib.byteCells bs)
 lo : B <= b
theorem tne : (53 : TypeId) ≠ 5 := by decide
theorem nK (B b : Nat) (lv : Value) (bs : List UInt8) (w : World) (h : PB w B b lv bs) :
  Calls Tryz.prog 97 #[.pointer (some ⟨b, 1, none⟩)] w fun e w' => e = .returned (.tuple #[]) /\ ∃ v, PU w' B b lv v bs /\ fu w w' b /\ Below B w w' := by
 obtain ⟨p, v, hp, hbk, hown, hnil⟩ := h.ex
 have hlo := h.lo
 obtain ⟨c0, c1, c2, f, sh, hlt⟩ := fU hbk
 rcases hp with rfl | rfl
 ·refine (pI b w c1 sh (f 1)).mono ?_
  rintro e w' ⟨rfl, rfl⟩
  refine ⟨rfl, v, ⟨?_, o5 hown (own_ne hown hbk tne), hlo⟩, fu.set w b 1 _, Below.setCell (p := ⟨b, 1, none⟩) (Below.refl B w) hlo _⟩
  exact heap_setCell_same w b 1 #[lv, .pointer none, v] 53 _ hbk
 ·refine (ry b w c1).mono ?_
  rintro e w' ⟨rfl, rfl⟩
  exact ⟨rfl, v, ⟨hbk, hown, hlo⟩, fu.refl _ _, Below.refl _ _⟩
theorem EN {w2 : World} {B b : Nat} {lv v v' : Value} {bs' : List UInt8} (hlo : B <= b) (hhi : B <= w2.heap.size) (hown : w2.ownsRow B 5 1 v' bs'.length (Lib.byteCells bs')) (hne : bs' ≠ [])
  (hblk : w2.heap[b]? = some (prO lv (.pointer (some ⟨b, 1, none⟩)) v)) : PB (w2.setCell ⟨b, 2, none⟩ v') B b lv bs' := by
 refine ⟨⟨.pointer (some ⟨b, 1, none⟩), v', .inr rfl, ?_, o5 hown (own_ne hown hblk tne), fun e => absurd e hne⟩, hlo, by simpa using hhi⟩
 exact heap_setCell_same w2 b 2 #[lv, .pointer (some ⟨b, 1, none⟩), v] 53 v' hblk
theorem tJ (B b : Nat) (lv : Value) (bs : List UInt8) (c : UInt8) (w : World) (h : PB w B b lv bs) (hlen : bs.length + 1 <= 140737488355328) :
  Calls Tryz.prog 75 #[.pointer (some ⟨b, 1, none⟩), .int .u8 (c.toNat : Int)] w fun e w' => e = .returned .nilIface /\ PB w' B b lv (bs ++ [c]) /\ fu w w' b /\ Below B w w' := by
 obtain ⟨i0, hi, hz0, hz1, hz2⟩ := info_parts info5
 have HC : Bx _ := ⟨nK B b lv bs w h⟩
 have hBw := h.hi
 clear h
 go_enter Tryz.func75, Tryz.ntmps75
 go_wp2_with (first | (go_at_call 97; refine Calls.mono HC.out ?_))
 rintro e w1 ⟨rfl, v, hu, hk1, hb1⟩
 obtain ⟨_, c1, c2, f, _, hlt⟩ := fU hu.blk
 have f2 := f 2
 have hown := hu.own
 go_wp2_with (at_builtin; refine wpList_append_own _ rfl _ _ 33 rfl B 5 i0 (.int .u8 0) 1 1 Tryz.underlying33 hi hz0 hz1 hz2 rfl (by decide) _ _ _ rfl (hown.alloc _) ⟨w1.heap.size, 0, none⟩ 1 1 [.int .u8 (c.toNat : Int)] rfl rfl ?c1 ?c2 ?c3 ?c4 ?c5 ?_)
 case c1 =>
  intro j u hj
  match j, hj with
  | 0, hj => simp at hj; subst hj; simp [Addr.add]
 case c2 => intro u hu; simp at hu; subst hu; rfl
 case c3 => unfold maxLen; omega
 case c4 => omega
 case c5 => have := hb1.size; simp; omega
 intro v' w2 hown' hgrow _
 have hbl2 : w2.heap[b]? = some (prO lv (.pointer (some ⟨b, 1, none⟩)) v) := by
  rw [hgrow.block b (by simp; omega) (fun e => own_ne hown hu.blk tne e.symm), (ah w1 _).block b hlt]; exact hu.blk
 obtain ⟨_, _, d2, fd, _, hlt2⟩ := fU hbl2
 have fd2 := fd 2
 obtain ⟨g, cap, rfl⟩ : ∃ g cap, v' = .slice (some ⟨g, 0, none⟩) (bs.length + 1) cap := by
  rcases hown'.2 with ⟨_, h0⟩ | ⟨g, cap, cur, hv, _⟩
  ·omega
  ·exact ⟨g, cap, hv⟩
 have hlo := hu.lo
 have HO : Bx (w2.ownsRow B 5 1 (.slice (some ⟨g, 0, none⟩) (bs.length + 1) cap) (bs ++ [c]).length (Lib.byteCells (bs ++ [c]))) := ⟨by simpa [Lib.byteCells] using hown'⟩
 have HK : Bx (fu w w2 b /\ Below B w w2) := ⟨hk1.trans ((fu.alloc w1 _ b).trans (fu.grown (hown.alloc _) hgrow)), (hb1.alloc (by have := hb1.size; omega) _).grown hgrow (by have := hb1.size; simp; omega) (fun k hk => (hown.lt k hk).1)⟩
 have HB : Bx _ := ⟨hbl2⟩
 have hz2 := HK.out.2.size
 clear hown' hgrow hown hu hk1 hb1 hbl2 fd f HC
 go_wp2
 go_ret
 exact ⟨rfl, EN hlo (by omega) HO.out (by simp) HB.out, HK.out.1.trans (fu.set _ _ _ _), Below.setCell (p := ⟨b, 2, none⟩) HK.out.2 hlo _⟩
theorem kE (B b : Nat) (lv : Value) (bs s : List UInt8) (w : World) (h : PB w B b lv bs) (hlen : bs.length + s.length <= 140737488355328) (hs : s ≠ []) :
  Calls Tryz.prog 76 #[.pointer (some ⟨b, 1, none⟩), .string ⟨s.toArray⟩] w fun e w' => ∃ r, e = .returned r /\ PB w' B b lv (bs ++ s) /\ fu w w' b /\ Below B w w' := by
 obtain ⟨i0, hi, hz0, hz1, hz2⟩ := info_parts info5
 have HC : Bx _ := ⟨nK B b lv bs w h⟩
 have hBw := h.hi
 have hsz : (⟨s.toArray⟩ : ByteArray).size = s.length := by simp [ByteArray.size]
 have hs0 : 0 < s.length := List.length_pos_iff.2 hs
 clear h
 go_enter Tryz.func76, Tryz.ntmps76
 go_wp2_with (first | (go_at_call 97; refine Calls.mono HC.out ?_))
 rintro e w1 ⟨rfl, v, hu, hk1, hb1⟩
 obtain ⟨_, c1, c2, f, _, hlt⟩ := fU hu.blk
 have f2 := f 2
 have hown := hu.own
 go_wp2_with (at_builtin; refine Lib.wpList_append_own_string _ rfl _ _ 33 9 rfl B 5 i0 Tryz.underlying33 Tryz.underlying9 hi hz0 hz1 hz2 _ _ _ rfl hown ⟨s.toArray⟩ rfl ?c3 ?c4 ?c5 ?_)
 case c3 => unfold maxLen; omega
 case c4 => omega
 case c5 => have := hb1.size; omega
 intro v' w2 hown' hgrow _
 have hbl2 : w2.heap[b]? = some (prO lv (.pointer (some ⟨b, 1, none⟩)) v) := by
  rw [hgrow.block b hlt (fun e => own_ne hown hu.blk tne e.symm)]; exact hu.blk
 obtain ⟨_, _, d2, fd, _, hlt2⟩ := fU hbl2
 have fd2 := fd 2
 obtain ⟨g, cap, rfl⟩ : ∃ g cap, v' = .slice (some ⟨g, 0, none⟩) (bs.length + s.length) cap := by
  rcases hown'.2 with ⟨_, h0⟩ | ⟨g, cap, cur, hv, _⟩
  ·omega
  ·exact ⟨g, cap, hv⟩
 have hlo := hu.lo
 have HO : Bx (w2.ownsRow B 5 1 (.slice (some ⟨g, 0, none⟩) (bs.length + s.length) cap) (bs ++ s).length (Lib.byteCells (bs ++ s))) := ⟨by simpa [Lib.byteCells, Lib.strCells] using hown'⟩
 have HK : Bx (fu w w2 b /\ Below B w w2) := ⟨hk1.trans (fu.grown hown hgrow), hb1.grown hgrow (by have := hb1.size; omega) (fun k hk => (hown.lt k hk).1)⟩
 have HB : Bx _ := ⟨hbl2⟩
 have hz2 := HK.out.2.size
 clear hown' hgrow hown hu hk1 hb1 hbl2 fd f HC
 go_wp2
 go_ret2
 exact ⟨_, rfl, EN hlo (by omega) HO.out (by simp [hs]) HB.out, HK.out.1.trans (fu.set _ _ _ _), Below.setCell (p := ⟨b, 2, none⟩) HK.out.2 hlo _⟩
theorem xG (B b : Nat) (lv : Value) (l : List UInt8) (w : World) (h : PB w B b lv l) (h0 : l ≠ []) :
  Calls Tryz.prog 18 #[.pointer (some ⟨b, 1, none⟩)] w fun e w' => e = .returned (.string ⟨l.toArray⟩) /\ Below B w w' := by
 obtain ⟨p, v, hp, hbk, hown, hnil⟩ := h.ex
 have hl0 : l.length ≠ 0 := by simpa using h0
 obtain ⟨g, cap, cur, rfl, hbg, hg, hnc, hcm, hcs, htake⟩ : ∃ g cap cur, v = .slice (some ⟨g, 0, none⟩) l.length cap /\ B <= g /\ w.heap[g]? = some (.cells cur 5 (0, 0)) /\ l.length <= cap /\ cap <= maxLen /\ cur.size = cap * 1 /\ cur.toList.take (l.length * 1) = Lib.byteCells l := by
  rcases hown.2 with ⟨_, hz⟩ | ⟨g, cap, cur, hv, r⟩
  ·exact absurd hz hl0
  ·exact ⟨g, cap, cur, hv, r⟩
 have c1 : w.drew.cell? ⟨b, 2, none⟩ = some (.slice (some ⟨g, 0, none⟩) l.length cap) := (fU hbk).2.2.1
 have hSD : (Builtin.unsafeSliceData_ #[33] 69 #[.slice (some ⟨g, 0, none⟩) l.length cap]).run Tryz.prog w.drew = .ok (.pointer (some ⟨g, 0, none⟩)) w.drew :=
  Lib.run_unsafeSliceData_row _ _ _ _ _ _ (by omega)
 have hUS : (Builtin.unsafeString_ #[69, 3] 9 #[.pointer (some ⟨g, 0, none⟩), .int .i64 l.length]).run Tryz.prog w.drew = .ok (.string ⟨l.toArray⟩) (w.drew.freeze ⟨g, 0, none⟩ l.length) := by
  refine Lib.run_unsafeString_row w.drew 69 3 9 5 Tryz.underlying69 (by kernel_rfl) g cur.size (by have hg' : w.drew.heap[g]? = some (.cells cur 5 (0, 0)) := hg; simp [World.shape?, hg']) l h0 (by omega) (by unfold maxLen at hcm; omega) ?_
  intro j x hx
  have := hown.cells (g := g) rfl j (.int .u8 x.toNat) (by simp [Lib.byteCells, hx])
  exact this
 clear hown hnil htake hg hbk h hp
 go_enter Tryz.func18, Tryz.ntmps18
 go_wp2
 go_region
 all_goals (go_wp2; go_ret; exact ⟨rfl, Lib.below_freeze (Below.drew (Below.refl B w)) (p := ⟨g, 0, none⟩) hbg _⟩)
theorem xH (B b : Nat) (lv : Value) (w : World) (h : PB w B b lv []) :
  Calls Tryz.prog 18 #[.pointer (some ⟨b, 1, none⟩)] w fun e w' => e = .returned (.string ⟨#[]⟩) /\ Below B w w' := by
 obtain ⟨p, v, hp, hbk, hown, hnil⟩ := h.ex
 obtain rfl := hnil rfl
 have hUS : ∀ W q, (Builtin.unsafeString_ #[69, 3] 9 #[.pointer q, .int .i64 0]).run Tryz.prog W = .ok (.string .empty) W := fun W q => Lib.run_unsafeString_none W _ _ _ q
 have c1 : w.drew.cell? ⟨b, 2, none⟩ = some (.slice none 0 0) := (fU hbk).2.2.1
 have hSD : (Builtin.unsafeSliceData_ #[33] 69 #[.slice none 0 0]).run Tryz.prog w.drew = .ok (.pointer none) w.drew := rfl
 clear hown hnil hbk h hp
 go_enter Tryz.func18, Tryz.ntmps18
 go_wp2
 go_region
 all_goals (go_wp2; go_ret; exact ⟨rfl, Below.drew (Below.refl B w)⟩)
def lL (bs t : List UInt8) : List UInt8 := if bs.length = 0 then t else bs ++ (32 :: t)
def fI (bs : List UInt8) (ts : List (List UInt8)) : List UInt8 := ts.foldl lL bs
theorem xI (bs : List UInt8) : fI bs [] = bs := rfl
theorem jM (bs t : List UInt8) (ts : List (List UInt8)) : fI bs (t :: ts) = fI (lL bs t) ts := rfl
theorem o6 (bs : List UInt8) (a b : List (List UInt8)) : fI bs (a ++ b) = fI (fI bs a) b := by
 unfold fI; rw [List.foldl_append]
theorem xJ (bs t : List UInt8) : bs.length <= (lL bs t).length /\ t.length <= (lL bs t).length := by
 unfold lL
 split <;> simp <;> omega
theorem nL : ∀ (ts : List (List UInt8)) (bs : List UInt8), bs.length <= (fI bs ts).length
 | [], bs => Nat.le_refl _
 | t :: r, bs => by
  rw [jM]
  exact Nat.le_trans (xJ bs t).1 (nL r _)
def xK (ts : List (List UInt8)) : Obj := .cells (ts.map fun t => Value.string ⟨t.toArray⟩).toArray 9 (0, 0)
theorem Ht (B b tb cap : Nat) (lv : Value) (ts : List (List UInt8)) (bs : List UInt8) (w : World) (h : PB w B b lv bs) (ht : w.heap[tb]? = some (xK ts)) (hne : ∀ t ∈ ts, t ≠ []) (hlen : (fI bs ts).length <= 140737488355328) (hl : ts.length <= 100) (htb : tb ≠ b) :
  Calls Tryz.prog 49 #[.pointer (some ⟨b, 0, none⟩), .slice (some ⟨tb, 0, none⟩) ts.length cap] w fun e w' => e = .returned (.tuple #[]) /\ PB w' B b lv (fI bs ts) /\ Below B w w' /\ fu w w' b := by
 have HP : Bx _ := ⟨h⟩
 have HT : Bx _ := ⟨ht⟩
 clear h ht
 go_enter Tryz.func49, Tryz.ntmps49
 go_wp2
 go_loopw [8] (fun x wr => ∃ p : Nat, ∃ cs : List UInt8, p <= ts.length /\ x = .int .i64 p /\ Bx (PB wr B b lv cs /\ wr.heap[tb]? = some (xK ts) /\ (Below B w wr /\ fu w wr b) /\ fI bs ts = fI cs (ts.drop p))) (fun x _ => ts.length - (intOf x).toNat)
 case atStart => exact ⟨0, bs, Nat.zero_le _, rfl, ⟨HP.out, HT.out, ⟨Below.refl _ _, fu.refl _ _⟩, rfl⟩⟩
 case round =>
  obtain ⟨p, cs, hp, rfl, HR⟩ := hrel
  by_cases hlt : p < ts.length
  ·have hd : ts.drop p = ts[p] :: ts.drop (p + 1) := List.drop_eq_getElem_cons hlt
   have hc : wr.cell? ⟨tb, p, none⟩ = some (.string ⟨ts[p].toArray⟩) := by
    simp [World.cell?, HR.out.2.1, xK, hlt]
   have htn := hne ts[p] (List.getElem_mem hlt)
   have hle := HR.out.2.2.2
   rw [hd, jM] at hle
   generalize ts[p] = t at *
   have hl2 := nL (ts.drop (p + 1)) (lL cs t)
   rw [← hle] at hl2
   obtain ⟨hl3, hl4⟩ := xJ cs t
   have hblt : b < wr.heap.size := by
    obtain ⟨q, v, _, hbk, _⟩ := HR.out.1.ex
    exact je hbk
   have HL : Bx _ := ⟨Hr B b lv cs wr HR.out.1⟩
   have HE : Bx _ := ⟨hle⟩
   clear hd hle
   by_cases h0 : cs.length = 0
   ·have hput : lL cs t = cs ++ t := by unfold lL; rw [if_pos h0, List.eq_nil_of_length_eq_zero h0]; rfl
    rw [hput] at HE hl2
    simp only [List.length_append] at hl2
    have hgt : ¬ (0 : Int) < (cs.length : Int) := by omega
    have HS : Bx _ := ⟨kE B b lv cs t wr HR.out.1 (by have := nL (ts.drop (p + 1)) (cs ++ t); rw [← HE.out] at this; simp at this; omega) htn⟩
    clear hput hl3 hl4 hl2
    go_wp2_with (first | (go_at_call 74; refine Calls.mono HL.out ?_; rintro e w' ⟨rfl, rfl⟩) | (go_at_call 76; refine Calls.mono HS.out ?_; rintro e w2 ⟨r, rfl, hp2, hk2, hb2⟩))
    go_roundw
    case rel => exact ⟨p + 1, cs ++ t, by omega, by go_num, ⟨hp2, hk2 tb _ _ _ HR.out.2.1 (by decide) htb, ⟨HR.out.2.2.1.1.trans hb2, HR.out.2.2.1.2.trans hk2⟩, HE.out⟩⟩
    case measure => simp [intOf]; omega
   ·have hput : lL cs t = cs ++ [32] ++ t := by unfold lL; rw [if_neg h0]; simp
    rw [hput] at HE hl2
    simp only [List.length_append, List.length_cons, List.length_nil] at hl2
    have hgt : (0 : Int) < (cs.length : Int) := by omega
    have hb1 : cs.length + 1 + t.length <= 140737488355328 := by
     have := nL (ts.drop (p + 1)) (cs ++ [32] ++ t); rw [← HE.out] at this; simp at this; omega
    have HW : Bx _ := ⟨tJ B b lv cs 32 wr HR.out.1 (by omega)⟩
    have HS : Bx (∀ w', PB w' B b lv (cs ++ [32]) -> Calls Tryz.prog 76 #[.pointer (some ⟨b, 1, none⟩), .string ⟨t.toArray⟩] w' fun e w'' => ∃ r, e = .returned r /\ PB w'' B b lv (cs ++ [32] ++ t) /\ fu w' w'' b /\ Below B w' w'') := ⟨fun w' hp' => kE B b lv (cs ++ [32]) t w' hp' (by simp; omega) htn⟩
    have HR2 : Bx _ := ⟨HR.out.2.1⟩
    clear hput hl3 hl4 hl2
    go_wp2_with (first | (go_at_call 74; refine Calls.mono HL.out ?_; rintro e w' ⟨rfl, rfl⟩) | (go_at_call 75; refine Calls.mono HW.out ?_; rintro e w1 ⟨rfl, hp1, hk1, hb1⟩; have hz1 := hb1.size) | (go_at_call 76; refine Calls.mono (HS.out _ hp1) ?_; rintro e w2 ⟨r, rfl, hp2, hk2, hb2⟩))
    go_roundw
    case rel => exact ⟨p + 1, cs ++ [32] ++ t, by omega, by go_num, ⟨hp2, hk2 tb _ _ _ (hk1 tb _ _ _ HR2.out (by decide) htb) (by decide) htb, ⟨HR.out.2.2.1.1.trans (hb1.trans hb2), HR.out.2.2.1.2.trans (hk1.trans hk2)⟩, HE.out⟩⟩
    case measure => simp [intOf]; omega
  ·have HE : Bx (fI bs ts = cs) := ⟨by rw [HR.out.2.2.2, List.drop_eq_nil_of_le (by omega)]; rfl⟩
   go_wp2
   go_end0
   exact ⟨rfl, by rw [HE.out]; exact HR.out.1, HR.out.2.2.1.1, HR.out.2.2.1.2⟩
def cost (ts : List (List UInt8)) : Nat := (ts.map fun t => t.length + 1).sum
@[simp] theorem cost_nil : cost [] = 0 := rfl
@[simp] theorem cost_cons (t : List UInt8) (r : List (List UInt8)) : cost (t :: r) = t.length + 1 + cost r := by simp [cost]
@[simp] theorem cost_append (a b : List (List UInt8)) : cost (a ++ b) = cost a + cost b := by simp [cost]
theorem nM : ∀ (ts : List (List UInt8)) (bs : List UInt8), (fI bs ts).length <= bs.length + cost ts
 | [], bs => by simp [xI]
 | t :: r, bs => by
  have h1 : (lL bs t).length <= bs.length + t.length + 1 := by unfold lL; split <;> (try simp) <;> omega
  have := nM r (lL bs t)
  rw [jM, cost_cons]
  omega
def aN : Value -> List UInt8
 | .string s => s.data.toList
 | _ => []
def ay (C : Array Value) : List (List UInt8) := C.toList.map aN
def bC : List Value -> Prop
 | [] => True
 | .string s :: r => s.data.toList ≠ [] /\ bC r
 | _ :: _ => False
theorem vS : ∀ (l : List Value), bC l -> (l.map aN).map (fun t => Value.string ⟨t.toArray⟩) = l /\ ∀ t ∈ l.map aN, t ≠ []
 | [], _ => ⟨rfl, fun _ h => by cases h⟩
 | v :: r, h => by
  cases v with
  | string s =>
   obtain ⟨h1, h2⟩ := h
   obtain ⟨q1, q2⟩ := vS r h2
   refine ⟨?_, ?_⟩
   ·rw [List.map_cons, List.map_cons, q1]; rfl
   ·intro t ht
    rw [List.map_cons] at ht
    rcases List.mem_cons.1 ht with rfl | ht
    ·exact h1
    ·exact q2 t ht
  | _ => exact absurd h (by simp [bC])
theorem Hu {C : Array Value} (h : bC C.toList) : (.cells C 9 (0, 0) : Obj) = xK (ay C) := by
 unfold xK ay
 rw [(vS C.toList h).1]
structure PSt (w0 : World) (B b : Nat) (lv : Value) (W : World) (bs : List UInt8) : Prop where
 pb : PB W B b lv bs
 bel : Below B w0 W
theorem PB.alloc {w : World} {B b : Nat} {lv : Value} {bs : List UInt8} (h : PB w B b lv bs) (o : Obj) : PB (w.alloc o) B b lv bs := by
 obtain ⟨p, v, hp, hbk, hown, hnil⟩ := h.ex
 exact ⟨⟨p, v, hp, by rw [(ah w o).block b (je hbk)]; exact hbk, hown.alloc o, hnil⟩, h.lo, by have := h.hi; simp; omega⟩
theorem PSt.alloc {w0 W : World} {B b : Nat} {lv : Value} {bs : List UInt8} (h : PSt w0 B b lv W bs) (o : Obj) : PSt w0 B b lv (W.alloc o) bs := ⟨h.pb.alloc o, h.bel.alloc h.pb.hi o⟩
theorem PB.lt {w : World} {B b : Nat} {lv : Value} {bs : List UInt8} (h : PB w B b lv bs) : b < w.heap.size := by
 obtain ⟨p, v, hp, hbk, _⟩ := h.ex
 exact je hbk
def EO (w0 : World) (B b : Nat) (lv : Value) (bs : List UInt8) (T : List (List UInt8)) (W : World) (e : Ending) (W' : World) : Prop :=
 e = .returned (.tuple #[]) /\ PSt w0 B b lv W' (fI bs T) /\ fu W W' b /\ b < W'.heap.size
def PrC (w0 : World) (B b : Nat) (lv : Value) (N F : Nat) (args : Array Value) (T : List (List UInt8)) : Prop :=
 ∀ W bs, PSt w0 B b lv W bs -> bs.length + cost T <= N -> Calls Tryz.prog F args W (EO w0 B b lv bs T W)
def PrS (w0 : World) (B b : Nat) (lv : Value) (bs : List UInt8) (T : List (List UInt8)) (W : World) : Prop := PSt w0 B b lv W (fI bs T)
theorem nN {w0 : World} {B b : Nat} {lv : Value} {N F : Nat} {args : Array Value} {T T2 : List (List UInt8)} {bs : List UInt8} {W : World} (h : PrC w0 B b lv N F args T2) (hs : PrS w0 B b lv bs T W) (hb : bs.length + cost (T ++ T2) <= N) :
  Calls Tryz.prog F args W fun e W' => e = .returned (.tuple #[]) /\ PrS w0 B b lv bs (T ++ T2) W' /\ fu W W' b /\ b < W'.heap.size := by
 have := nM T bs
 refine (h W _ hs (by rw [cost_append] at hb; omega)).mono ?_
 rintro e W' ⟨rfl, h1, h2, h3⟩
 exact ⟨rfl, by unfold PrS; rw [o6]; exact h1, h2, h3⟩
theorem lg {w0 : World} {B b : Nat} {lv : Value} {N : Nat} (hN : N <= 140737488355328) {T : List (List UInt8)} {bs : List UInt8} {W : World} {C : Array Value} {n cap : Nat} (hn : C.size = n) (hs : PrS w0 B b lv bs T W) (hok : bC C.toList) (h100 : n <= 100) (hb : bs.length + cost (T ++ ay C) <= N) :
  Calls Tryz.prog 49 #[.pointer (some ⟨b, 0, none⟩), .slice (some ⟨W.heap.size, 0, none⟩) n cap] (W.alloc (.cells C 9)) fun e W' => e = .returned (.tuple #[]) /\ PrS w0 B b lv bs (T ++ ay C) W' /\ fu W W' b /\ b < W'.heap.size := by
 have h1 := nM T bs
 have h2 := nM (ay C) (fI bs T)
 rw [cost_append] at hb
 have hlen : (ay C).length = n := by rw [← hn]; simp [ay]
 have hlt := hs.pb.lt
 have := Ht B b W.heap.size cap lv (ay C) (fI bs T) (W.alloc (.cells C 9)) (hs.pb.alloc _) (by rw [← Hu hok]; exact heap_alloc_new W _) (vS C.toList hok).2 (by omega) (by omega) (by omega)
 rw [hlen] at this
 refine this.mono ?_
 rintro e W' ⟨rfl, q1, q2, q3⟩
 refine ⟨rfl, ⟨by rw [o6]; exact q1, (hs.bel.alloc hs.pb.hi _).trans q2⟩, (fu.alloc W _ b).trans q3, q1.lt⟩
def aX (G : Nat -> List (List UInt8)) (ks : List Nat) : List (List UInt8) := ks.flatMap G
def aU (G : Nat -> List (List UInt8)) : List Nat -> List (List UInt8)
 | [] => []
 | k :: r => G k ++ r.flatMap fun j => [44] :: G j
theorem uz (G : Nat -> List (List UInt8)) (ks : List Nat) (k : Nat) : aX G (ks ++ [k]) = aX G ks ++ G k := by simp [aX]
theorem xL (G : Nat -> List (List UInt8)) (k : Nat) : ∀ ks : List Nat, ks ≠ [] -> aU G (ks ++ [k]) = aU G ks ++ ([[44]] ++ G k)
 | [], h => absurd rfl h
 | a :: r, _ => by simp [aU]
theorem Dc (G : Nat -> List (List UInt8)) (ks : List Nat) (p : Nat) : cost (aX G (ks.take p)) <= cost (aX G ks) := by
 have h : aX G ks = aX G (ks.take p) ++ aX G (ks.drop p) := by
  unfold aX
  rw [← List.flatMap_append, List.take_append_drop]
 rw [h, cost_append]
 omega
theorem xM (G : Nat -> List (List UInt8)) (ks : List Nat) (p : Nat) : cost (aU G (ks.take p)) <= cost (aU G ks) := by
 match ks, p with
 | [], p => simp [aU]
 | k :: r, 0 => simp [aU]
 | k :: r, p + 1 =>
  have h : r.flatMap (fun j => [44] :: G j) = (r.take p).flatMap (fun j => [44] :: G j) ++ (r.drop p).flatMap (fun j => [44] :: G j) := by
   rw [← List.flatMap_append, List.take_append_drop]
  simp only [aU, List.take_succ_cons]
  rw [h]
  simp only [cost_append]
  omega
theorem dW {w : World} {x : Nat} {k p num : Int} {v nm : Value} (h : w.heap[x]? = some (.cells #[.int .i64 k, .int .i64 p, v, nm, .int .i64 num] 44 (0, 0))) :
  w.cell? ⟨x, 0, none⟩ = some (.int .i64 k) /\ w.cell? ⟨x, 2, none⟩ = some v /\ w.cell? ⟨x, 3, none⟩ = some nm /\ w.cell? ⟨x, 4, none⟩ = some (.int .i64 num) /\ w.cell? ⟨x, 1, none⟩ = some (.int .i64 p) /\ x < w.heap.size := by
 have h0 : w.cell? ⟨x, 0, none⟩ = some (.int .i64 k) := by simp [World.cell?, h]
 exact ⟨h0, by simp [World.cell?, h], by simp [World.cell?, h], by simp [World.cell?, h], by simp [World.cell?, h], World.block_lt_of_cell? w _ h0⟩
def NdC (w0 : World) (B b : Nat) (lv : Value) (N : Nat) (G : Nat -> List (List UInt8)) (k : Nat) : Prop := PrC w0 B b lv N 17 #[.pointer (some ⟨b, 0, none⟩), .int .i64 k] (G k)
theorem eG (w0 : World) (B b : Nat) (lv : Value) (N : Nat) (G : Nat -> List (List UInt8)) (ks : List Nat) (a : Option Addr) (cap : Nat) (hk : aO w0 B (.slice a ks.length cap) (ks.map fun k : Nat => (k : Int))) (HC : ∀ k ∈ ks, NdC w0 B b lv N G k) :
  PrC w0 B b lv N 50 #[.pointer (some ⟨b, 0, none⟩), .slice a ks.length cap] (aX G ks) := by
 intro W bs hst hb
 have HX : Bx (aO w0 B (.slice a ks.length cap) (ks.map fun k : Nat => (k : Int)) /\ ∀ k ∈ ks, NdC w0 B b lv N G k) := ⟨hk, HC⟩
 have HS : Bx _ := ⟨hst⟩
 have hkl : ks.length <= maxLen := by
  obtain ⟨_, _, _, _, h2, _⟩ := hk.ex
  simpa using h2
 unfold maxLen at hkl
 clear hk HC hst
 go_enter Tryz.func50, Tryz.ntmps50
 go_wp2
 go_loopw [8] (fun x wr => ∃ p : Nat, p <= ks.length /\ x = .int .i64 p /\ Bx (PrS w0 B b lv bs (aX G (ks.take p)) wr /\ fu W wr b /\ b < wr.heap.size)) (fun x _ => ks.length - (intOf x).toNat)
 case atStart => exact ⟨0, Nat.zero_le _, rfl, ⟨HS.out, fu.refl _ _, HS.out.pb.lt⟩⟩
 case round =>
  obtain ⟨p, hp, rfl, HR⟩ := hrel
  by_cases hlt : p < ks.length
  ·obtain ⟨a', cap', he, h1, h2, h3⟩ := (HX.out.1.below HR.out.1.bel).ex
   simp only [Value.slice.injEq] at he
   obtain ⟨rfl, -, rfl⟩ := he
   obtain ⟨kb, ko, rfl, hbB, hcell⟩ := h3 (by simp; omega)
   have hc := hcell p (by simpa using hlt)
   simp only [List.getElem_map] at hc
   have htk : ks.take (p + 1) = ks.take p ++ [ks[p]] := List.take_succ_eq_append_getElem hlt
   have hcst := Dc G ks (p + 1)
   rw [htk, uz] at hcst
   have HN : Bx _ := ⟨nN (HX.out.2 ks[p] (List.getElem_mem hlt)) HR.out.1 (by omega)⟩
   have HT : Bx (aX G (ks.take p) ++ G ks[p] = aX G (ks.take (p + 1))) := ⟨by rw [htk, uz]⟩
   generalize ks[p] = k at *
   have hbl := HR.out.2.2
   have hcap : ks.length <= cap := by simpa using h1
   clear hcell h3 htk hcst h1 h2 hb
   go_wp2_with (first | (go_at_call 17; refine Calls.mono HN.out ?_; rintro e w1 ⟨rfl, q1, q2, q3⟩))
   go_roundw
   case rel => exact ⟨p + 1, by omega, by go_num, ⟨by rw [← HT.out]; exact q1, HR.out.2.1.trans q2, q3⟩⟩
   case measure => simp [intOf]; omega
  ·have HE : Bx (ks.take p = ks) := ⟨List.take_of_length_le (by omega)⟩
   go_wp2
   go_end0
   refine ⟨rfl, ?_, HR.out.2⟩
   have := HR.out.1
   rw [HE.out] at this
   exact this
theorem fo (w0 : World) (B b : Nat) (lv : Value) (N : Nat) (hN : N <= 140737488355328) (G : Nat -> List (List UInt8)) (ks : List Nat) (a : Option Addr) (cap : Nat) (op sh : ByteArray) (hop : op.data.toList ≠ []) (hsh : sh.data.toList ≠ [])
  (hk : aO w0 B (.slice a ks.length cap) (ks.map fun k : Nat => (k : Int))) (HC : ∀ k ∈ ks, NdC w0 B b lv N G k) :
  PrC w0 B b lv N 51 #[.pointer (some ⟨b, 0, none⟩), .string op, .slice a ks.length cap, .string sh] ([op.data.toList] ++ aU G ks ++ [sh.data.toList]) := by
 intro W bs hst hb
 have HX : Bx (aO w0 B (.slice a ks.length cap) (ks.map fun k : Nat => (k : Int)) /\ ∀ k ∈ ks, NdC w0 B b lv N G k) := ⟨hk, HC⟩
 have HS : Bx (PrS w0 B b lv bs [] W) := ⟨hst⟩
 have hkl : ks.length <= maxLen := by
  obtain ⟨_, _, _, _, h2, _⟩ := hk.ex
  simpa using h2
 unfold maxLen at hkl
 have hbW := hst.pb.lt
 have HB : Bx _ := ⟨hb⟩
 have HO : Bx _ := ⟨lg hN (C := #[.string op]) (n := 1) (cap := 1) rfl HS.out ⟨hop, trivial⟩ (by omega) (by simp [ay, aN] at hb ⊢; omega)⟩
 clear hk HC hst hb
 go_enter Tryz.func51, Tryz.ntmps51
 go_wp2_with (first | (go_at_call 49; refine Calls.mono HO.out ?_; rintro e w1 ⟨rfl, q1, q2, q3⟩))
 have HQ : Bx (PrS w0 B b lv bs [op.data.toList] w1 /\ fu W w1 b /\ b < w1.heap.size) := ⟨q1, q2, q3⟩
 clear q1 q2 q3
 go_loopw [16] (fun x wr => ∃ p : Nat, p <= ks.length /\ x = .int .i64 p /\ Bx (PrS w0 B b lv bs ([op.data.toList] ++ aU G (ks.take p)) wr /\ fu W wr b /\ b < wr.heap.size)) (fun x _ => ks.length - (intOf x).toNat)
 case atStart => exact ⟨0, Nat.zero_le _, rfl, ⟨by simpa [aU] using HQ.out.1, HQ.out.2⟩⟩
 case round =>
  obtain ⟨p, hp, rfl, HR⟩ := hrel
  by_cases hlt : p < ks.length
  ·obtain ⟨a', cap', he, h1, h2, h3⟩ := (HX.out.1.below HR.out.1.bel).ex
   simp only [Value.slice.injEq] at he
   obtain ⟨rfl, -, rfl⟩ := he
   obtain ⟨kb, ko, rfl, hbB, hcell⟩ := h3 (by simp; omega)
   have hc := hcell p (by simpa using hlt)
   simp only [List.getElem_map] at hc
   have hcap : ks.length <= cap := by simpa using h1
   have htk : ks.take (p + 1) = ks.take p ++ [ks[p]] := List.take_succ_eq_append_getElem hlt
   have hcst := xM G ks (p + 1)
   have hbb := HB.out
   simp at hbb
   have hbl := HR.out.2.2
   have HG : Bx _ := ⟨HX.out.2 ks[p] (List.getElem_mem hlt)⟩
   by_cases h0 : p = 0
   ·subst h0
    rw [Nat.add_zero] at hc
    have HT : Bx (aU G (ks.take (0 + 1)) = aU G (ks.take 0) ++ G ks[0]) := ⟨by rw [htk]; simp [aU]⟩
    rw [HT.out] at hcst
    have HN : Bx _ := ⟨nN HG.out HR.out.1 (by simp at hcst ⊢; omega)⟩
    generalize ks[0] = k at *
    clear hcell h3 htk hcst h1 h2 hbb
    go_wp2_with (first | (go_at_call 17; refine Calls.mono HN.out ?_; rintro e w2 ⟨rfl, q1, q2, q3⟩))
    go_roundw
    case rel => exact ⟨0 + 1, by omega, by go_num, ⟨by rw [HT.out]; simpa using q1, HR.out.2.1.trans q2, q3⟩⟩
    case measure => simp [intOf]; omega
   ·have hne : ks.take p ≠ [] := by
     intro e
     have := congrArg List.length e
     rw [List.length_take, List.length_nil] at this
     omega
    have HT : Bx (aU G (ks.take (p + 1)) = aU G (ks.take p) ++ ([[44]] ++ G ks[p])) := ⟨by rw [htk, xL _ _ _ hne]⟩
    rw [HT.out] at hcst
    have HM : Bx _ := ⟨lg hN (C := #[.string ⟨#[44]⟩]) (n := 1) (cap := 1) rfl HR.out.1 ⟨by simp, trivial⟩ (by omega) (by simp [ay, aN] at hcst ⊢; omega)⟩
    have HN : Bx (∀ W2, PrS w0 B b lv bs (([op.data.toList] ++ aU G (ks.take p)) ++ ay #[.string ⟨#[44]⟩]) W2 -> _) := ⟨fun W2 h2 => nN (T2 := G ks[p]) HG.out h2 (by simp [ay, aN] at hcst ⊢; omega)⟩
    have hp0 : (0 : Int) < (p : Int) := by omega
    generalize ks[p] = k at *
    clear hcell h3 htk hcst h1 h2 hbb
    go_wp2_with (first | (go_at_call 49; refine Calls.mono HM.out ?_; rintro e w2 ⟨rfl, q1, q2, q3⟩) | (go_at_call 17; refine Calls.mono (HN.out _ q1) ?_; rintro e w3 ⟨rfl, r1, r2, r3⟩))
    go_roundw
    case rel => exact ⟨p + 1, by omega, by go_num, ⟨by rw [HT.out]; simpa [ay, aN] using r1, HR.out.2.1.trans (q2.trans r2), r3⟩⟩
    case measure => simp [intOf]; omega
  ·have HE : Bx (ks.take p = ks) := ⟨List.take_of_length_le (by omega)⟩
   have HR1 := HR.out.1
   rw [HE.out] at HR1
   have HM : Bx _ := ⟨lg hN (C := #[.string sh]) (n := 1) (cap := 1) rfl HR1 ⟨hsh, trivial⟩ (by omega) (by have := HB.out; simp [ay, aN] at this ⊢; omega)⟩
   have hbl := HR.out.2.2
   clear HR1
   go_wp2_with (first | (go_at_call 49; refine Calls.mono HM.out ?_; rintro e w2 ⟨rfl, q1, q2, q3⟩))
   go_end0
   exact ⟨rfl, q1, HR.out.2.1.trans q2, q3⟩
def fZ (G : Nat -> List (List UInt8)) (ks : List Nat) : List (List UInt8) := if ks.length = 0 then [] else [[58]] ++ aX G ks
theorem ig (w0 : World) (B b : Nat) (lv : Value) (N : Nat) (hN : N <= 140737488355328) (G : Nat -> List (List UInt8)) (ks : List Nat) (a : Option Addr) (cap : Nat)
  (hk : aO w0 B (.slice a ks.length cap) (ks.map fun k : Nat => (k : Int))) (HC : ∀ k ∈ ks, NdC w0 B b lv N G k) :
  PrC w0 B b lv N 52 #[.pointer (some ⟨b, 0, none⟩), .slice a ks.length cap] (fZ G ks) := by
 intro W bs hst hb
 have HR : Bx _ := ⟨eG w0 B b lv N G ks a cap hk HC⟩
 have hbW := hst.pb.lt
 have HS : Bx (PrS w0 B b lv bs [] W) := ⟨hst⟩
 by_cases h0 : ks.length = 0
 ·have HT : Bx (fZ G ks = []) := ⟨by unfold fZ; rw [if_pos h0]⟩
  rw [HT.out]
  rw [h0] at HR ⊢
  clear hb hst hk HC
  go_enter Tryz.func52, Tryz.ntmps52
  go_wp2
  go_end0
  exact ⟨rfl, HS.out, fu.refl _ _, hbW⟩
 ·have HT : Bx (fZ G ks = [[58]] ++ aX G ks) := ⟨by unfold fZ; rw [if_neg h0]⟩
  rw [HT.out] at hb ⊢
  have hp0 : (0 : Int) < (ks.length : Int) := by omega
  have HM : Bx _ := ⟨lg hN (C := #[.string ⟨#[58]⟩]) (n := 1) (cap := 1) rfl HS.out ⟨by simp, trivial⟩ (by omega) (by simp [ay, aN] at hb ⊢; omega)⟩
  have HN : Bx (∀ W2, PrS w0 B b lv bs ([] ++ ay #[.string ⟨#[58]⟩]) W2 -> _) := ⟨fun W2 h2 => nN HR.out h2 (by simp [ay, aN] at hb ⊢; omega)⟩
  clear hb hst hk HC
  go_enter Tryz.func52, Tryz.ntmps52
  go_wp2_with (first | (go_at_call 49; refine Calls.mono HM.out ?_; rintro e w2 ⟨rfl, q1, q2, q3⟩) | (go_at_call 50; refine Calls.mono (HN.out _ q1) ?_; rintro e w3 ⟨rfl, r1, r2, r3⟩))
  go_end0
  exact ⟨rfl, by simpa [ay, aN, PrS] using r1, q2.trans r2, r3⟩
end Go.Proofs.YtecodpdfckjalaaGreatDoor
